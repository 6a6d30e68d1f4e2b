/- The document's less, Same. -/
import Derived.Test.YtafbkagoajcmeaaDirOrd
import Derived.Test.YtafbkagoajcmeaaDirRefD
namespace Go.Proofs.Ytafbkagoajcmeaa.Dir.R
open Go.RowKit
attribute [local go_sem] Oper.semAt_some
set_option linter.unusedVariables false
set_option linter.unusedSimpArgs false
theorem drop_cons (s : ByteArray) {j : Nat} (h : j < s.size) : s.data.toList.drop j = UInt8.ofNat (sb s j) :: s.data.toList.drop (j + 1) := by
  have hl : j < s.data.toList.length := by simpa using h
  rw [← List.getElem_cons_drop (h := hl), list_sb s j hl]
theorem ofNat_sb (s : ByteArray) (j : Nat) : (UInt8.ofNat (sb s j)).toNat = sb s j := by
  have := sb_lt s j
  simp
  omega
section
set_option maxRecDepth 100000
set_option maxHeartbeats 8000000
theorem less_any (a b : ByteArray) (w : World) (ha : a.size ≤ 281474976710656) (hb : b.size ≤ 281474976710656) : Calls Try.prog 48 #[.string a, .string b] w fun e w' => e = .returned (.bool (ltB a b)) ∧ Below w.heap.size w w' := by
  have HL : Hid (ltB a b = Op.bytesLess (a.data.toList.drop 0) (b.data.toList.drop 0)) := by
    unfold Hid ltB
    rw [List.drop_zero, List.drop_zero, Lib.toList_data, Lib.toList_data]
  obtain ⟨R, hR⟩ : ∃ R, ltB a b = R := ⟨_, rfl⟩
  rw [hR] at HL ⊢
  clear hR
  obtain ⟨W0, rfl⟩ : ∃ W0 : World, W0 = w := ⟨_, rfl⟩
  go_enter Try.func48, Try.ntmps48
  go_wp2
  go_loopw [5] (fun i wr => ∃ j : Nat, i = .int .i64 (j : Int) ∧ j ≤ a.size ∧ j ≤ b.size ∧ Hid (R = Op.bytesLess (a.data.toList.drop j) (b.data.toList.drop j)) ∧ Hid (Below W0.heap.size W0 wr)) (fun i _ => (a.size : Nat) - (intOf i).toNat)
  case atStart => exact ⟨0, rfl, by omega, by omega, HL, Below.refl _ _⟩
  case round =>
    obtain ⟨j, rfl, hj1, hj2, HQ, HB⟩ := hrel
    clear HL
    by_cases h1 : j < a.size
    · have g1 : (j : Int) < (a.size : Int) := by omega
      by_cases h2 : j < b.size
      · have g2 : (j : Int) < (b.size : Int) := by omega
        have e1 : ∀ h : j < a.size, (((a[j]'h).toNat : Nat) : Int) = ((sb a j : Nat) : Int) := fun h => by
          have : a.data.toList[j]? = some (a[j]'h) := Go.Proofs.byte_at a j h
          simp [sb, this]
        have e2 : ∀ h : j < b.size, (((b[j]'h).toNat : Nat) : Int) = ((sb b j : Nat) : Int) := fun h => by
          have : b.data.toList[j]? = some (b[j]'h) := Go.Proofs.byte_at b j h
          simp [sb, this]
        have hc : R = Op.bytesLess (UInt8.ofNat (sb a j) :: a.data.toList.drop (j + 1)) (UInt8.ofNat (sb b j) :: b.data.toList.drop (j + 1)) := by rw [HQ.out, drop_cons a h1, drop_cons b h2]
        have o1 := ofNat_sb a j
        have o2 := ofNat_sb b j
        by_cases hne : sb a j = sb b j
        · have HN : Hid (R = Op.bytesLess (a.data.toList.drop (j + 1)) (b.data.toList.drop (j + 1))) := by
            unfold Hid
            rw [hc, hne, Bool.eq_iff_iff, bl_cons]
            constructor
            · rintro (h | ⟨_, h⟩)
              · omega
              · exact h
            · intro h
              exact .inr ⟨rfl, h⟩
          have hq : (((sb a j : Nat) : Int) != ((sb b j : Nat) : Int)) = false := by rw [hne]; simp
          obtain ⟨x, hx⟩ : ∃ x, sb a j = x := ⟨_, rfl⟩
          obtain ⟨y, hy⟩ : ∃ y, sb b j = y := ⟨_, rfl⟩
          rw [hx] at e1 hq
          rw [hy] at e2 hq
          clear hc hne o1 o2 hx hy
          go_wp2
          go_region
          go_wp2
          all_goals
            go_roundw
          case rel => exact ⟨j + 1, by go_num, by omega, by omega, HN, HB.out.drew⟩
          case measure => simp [intOf]; omega
        · have hq : (((sb a j : Nat) : Int) != ((sb b j : Nat) : Int)) = true := bne_iff_ne.2 (by omega)
          have hd : decide ((sb a j : Nat) < (sb b j : Nat)) = R := by
            rw [hc, Bool.eq_iff_iff, bl_cons, decide_eq_true_eq, o1, o2]
            constructor
            · intro h; exact .inl h
            · rintro (h | ⟨h, _⟩)
              · exact h
              · have := congrArg UInt8.toNat h
                rw [o1, o2] at this
                exact absurd this hne
          have hd2 : decide (((sb a j : Nat) : Int) < ((sb b j : Nat) : Int)) = R := by
            rw [← hd, decide_eq_decide]
            omega
          obtain ⟨x, hx⟩ : ∃ x, sb a j = x := ⟨_, rfl⟩
          obtain ⟨y, hy⟩ : ∃ y, sb b j = y := ⟨_, rfl⟩
          rw [hx] at e1 hq hd hd2
          rw [hy] at e2 hq hd hd2
          clear hc hne o1 o2 hx hy
          go_wp2
          go_quiet (fail)
          go_wp2
          go_quiet (fail)
          go_wp2
          go_ret
          exact ⟨rfl, below_drewN (below_drewN HB.out _) _⟩
      · have g2 : ¬ (j : Int) < (b.size : Int) := by omega
        have HR : Hid (R = false) := by
          unfold Hid
          rw [HQ.out, List.drop_of_length_le (l := b.data.toList) (by simp; omega)]
          unfold Op.bytesLess
          rfl
        have g3 : ¬ (a.size : Int) < (b.size : Int) := by omega
        have g4 : decide ((a.size : Int) < (b.size : Int)) = false := decide_eq_false g3
        have g5 : decide (a.size < b.size) = false := decide_eq_false (by omega)
        go_wp2
        go_ret
        exact ⟨by rw [HR.out]; rfl, HB.out⟩
    · obtain rfl : j = a.size := by omega
      have HR : Hid (R = decide (a.size < b.size)) := by
        unfold Hid
        rw [HQ.out, List.drop_of_length_le (l := a.data.toList) (by simp)]
        by_cases h2 : a.size < b.size
        · rw [drop_cons b h2, decide_eq_true h2]
          rfl
        · rw [List.drop_of_length_le (l := b.data.toList) (by simp; omega), decide_eq_false h2]
          rfl
      go_wp2
      go_ret
      exact ⟨by rw [HR.out]; rfl, HB.out⟩
end
end Go.Proofs.Ytafbkagoajcmeaa.Dir.R
