/- The document's IsName, for seats that have no directories. -/
import Derived.Test.YtgmpfkhcohlijaaNameMath
namespace Go.Proofs.Ytgmpfkhcohlijaa.Nam.R
open Go.RowKit
attribute [local go_sem] Oper.semAt_some
set_option linter.unusedVariables false
set_option linter.unusedSimpArgs false
theorem lit_no {s : ByteArray} {l : List UInt8} (h : ¬ s = ⟨l.toArray⟩) : (s.toList == l) = false := by
  rw [beq_eq_false_iff_ne]
  intro he
  apply h
  apply ba_ext
  rw [← Lib.toList_data, he]
section
set_option maxRecDepth 100000
set_option maxHeartbeats 4000000
theorem isName_any (s : ByteArray) (w : World) : Calls Try.prog 23 #[.string s] w fun e w' => e = .returned (.bool (nameB s)) ∧ w = w' := by
  by_cases h1 : s.size < 1
  · have HN := Lib.hid (nameB_no (s := s) (fun h => by have := h.1; omega))
    have g1 : (s.size : Int) < 1 := by omega
    clear h1
    go_enter Try.func23, Try.ntmps23
    go_wp2
    go_ret
    exact ⟨by rw [HN.out]; rfl, rfl⟩
  have g1 : ¬ (s.size : Int) < 1 := by omega
  by_cases h2 : 59 < s.size
  · have HN := Lib.hid (nameB_no (s := s) (fun h => by have := h.2.1; omega))
    have g2 : (59 : Int) < (s.size : Int) := by omega
    clear h1 h2
    go_enter Try.func23, Try.ntmps23
    go_wp2
    go_ret
    exact ⟨by rw [HN.out]; rfl, rfl⟩
  have g2 : ¬ (59 : Int) < (s.size : Int) := by omega
  by_cases h3 : s = ⟨#[46]⟩
  · subst h3
    have HN := Lib.hid (nameB_no (s := ⟨#[46]⟩) (fun h => h.2.2.1 rfl))
    clear h1 h2 g1 g2
    go_enter Try.func23, Try.ntmps23
    go_wp2
    go_ret
    exact ⟨by rw [HN.out]; rfl, rfl⟩
  have g3 : (s.toList == [46]) = false := lit_no h3
  by_cases h4 : s = ⟨#[46, 46]⟩
  · subst h4
    have HN := Lib.hid (nameB_no (s := ⟨#[46, 46]⟩) (fun h => h.2.2.2.1 rfl))
    clear h1 h2 g1 g2 g3 h3
    go_enter Try.func23, Try.ntmps23
    go_wp2
    go_ret
    exact ⟨by rw [HN.out]; rfl, rfl⟩
  have g4 : (s.toList == [46, 46]) = false := lit_no h4
  have HT : Hid ((∀ i, i < s.size → ¬ sb s i = 0 ∧ ¬ sb s i = 47) → nameB s = true) := fun h => nameB_yes ⟨by omega, by omega, h3, h4, h⟩
  have HF : Hid ((∃ i, i < s.size ∧ (sb s i = 0 ∨ sb s i = 47)) → nameB s = false) := fun ⟨i, hi, hx⟩ => nameB_no fun h => by
    have := h.2.2.2.2 i hi
    rcases hx with hx | hx
    · exact this.1 hx
    · exact this.2 hx
  clear h3 h4
  go_enter Try.func23, Try.ntmps23
  go_wp2
  go_loop [3] (fun i => ∃ j : Nat, i = .int .i64 (j : Int) ∧ j ≤ s.size ∧ Hid (∀ q, q < j → ¬ sb s q = 0 ∧ ¬ sb s q = 47)) (fun i => (s.size : Nat) - (intOf i).toNat)
  case atStart => exact ⟨0, rfl, by omega, fun q h => by omega⟩
  case round =>
    obtain ⟨j, rfl, hj, HQ⟩ := hrel
    by_cases hlt : j < s.size
    · have e3 : ∀ h : j < s.size, (((s[j]'h).toNat : Nat) : Int) = sbyte s j := fun h => by
        have : s.data.toList[j]? = some (s[j]'h) := Go.Proofs.byte_at s j h
        simp [sbyte, this]
      by_cases hz : sb s j = 0
      · have hb : (sbyte s j == 0) = true := by rw [sbyte_eq, hz]; rfl
        have HN := Lib.hid (HF.out ⟨j, hlt, .inl hz⟩)
        clear hz
        go_wp2
        go_ret
        exact ⟨by rw [HN.out]; rfl, rfl⟩
      · have hb : (sbyte s j == 0) = false := by rw [sbyte_eq]; exact beq_eq_false_iff_ne.2 (by omega)
        by_cases hy : sb s j = 47
        · have hb2 : (sbyte s j == 47) = true := by rw [sbyte_eq, hy]; rfl
          have HN := Lib.hid (HF.out ⟨j, hlt, .inr hy⟩)
          clear hz hy
          go_wp2
          go_ret
          exact ⟨by rw [HN.out]; rfl, rfl⟩
        · have hb2 : (sbyte s j == 47) = false := by rw [sbyte_eq]; exact beq_eq_false_iff_ne.2 (by omega)
          have HN : Hid (∀ q, q < j + 1 → ¬ sb s q = 0 ∧ ¬ sb s q = 47) := fun q h => by
            rcases Nat.lt_succ_iff_lt_or_eq.1 h with h | h
            · exact HQ.out q h
            · rw [h]; exact ⟨hz, hy⟩
          clear hz hy
          go_wp2
          go_round
          case rel => exact ⟨j + 1, by go_num, by omega, HN⟩
          case measure => simp [intOf]; omega
    · obtain rfl : j = s.size := by omega
      have HN := Lib.hid (HT.out HQ.out)
      go_wp2
      go_ret
      exact ⟨by rw [HN.out]; rfl, rfl⟩
end
end Go.Proofs.Ytgmpfkhcohlijaa.Nam.R
