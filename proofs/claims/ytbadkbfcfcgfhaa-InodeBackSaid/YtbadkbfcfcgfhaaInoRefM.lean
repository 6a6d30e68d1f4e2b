/- Right of the document. -/
import Derived.Test.YtbadkbfcfcgfhaaInoRight
namespace Go.Proofs.Ytbadkbfcfcgfhaa.Ino.R
open Go.RowKit
attribute [local go_sem] Oper.semAt_some
set_option linter.unusedVariables false
set_option linter.unusedSimpArgs false

theorem cut_iff (m : M) (k : Nat) : m = cutM m k ↔ ∀ i, k ≤ i → i < 6 → m.at' i = 0 := by
  constructor
  · intro h i h1 h2
    rw [h, cutM_at m k i h2, if_neg (by omega)]
  · intro h
    apply M.ext'
    intro i hi
    rw [cutM_at m k i hi]
    by_cases hk : i < k
    · rw [if_pos hk]
    · rw [if_neg hk, h i (by omega) hi]
section
set_option maxRecDepth 100000
set_option maxHeartbeats 4000000
theorem mapped_any (m : M) (s : Nat) (hs : s < 4294967296) (w : World) : Calls Try.prog 32 #[m.val, .int .u32 s] w (Ans w (.bool (decide (mapP m s)))) := by
  have hd := fun W => R.depth_any s W hs
  have hb := fun W => R.blocks_any s W hs
  have hm : mapP m s = if dpN s = 0 then m = cutM m (blN s) else ¬ m.a = 0 ∧ m = cutM m 1 := rfl
  have hb6 : dpN s = 0 → blN s ≤ 6 := fun h => by
    unfold dpN at h
    by_cases h6 : blN s ≤ 6
    · exact h6
    · rw [if_neg h6] at h
      split at h <;> omega
  generalize dpN s = d at hd hm hb6
  generalize blN s = b at hb hm hb6
  generalize hX : decide (mapP m s) = x
  have hA := AtM.new w m
  have HB := Lib.hid (below_new w (boxM m))
  unfold boxM at hA HB
  have HCC := Lib.hid (fun j (hj : j < 6) => hA.cell hj)
  have hc0 := hA.cell (i := 0) (by omega)
  unfold M.val
  clear hA hs
  by_cases h0 : d = 0
  · have hb7 := hb6 h0
    have hq : ¬ 0 < d := by omega
    have hq2 : ¬ (0 : Int) < (d : Int) := by omega
    rw [if_pos h0, cut_iff] at hm
    have HT : Hid ((∀ q, b ≤ q → q < 6 → m.at' q = 0) → x = true) := fun h => by rw [← hX]; exact decide_eq_true (by rw [hm]; exact h)
    have HF : Hid ((∃ q, b ≤ q ∧ q < 6 ∧ ¬ m.at' q = 0) → x = false) := fun ⟨q, q1, q2, q3⟩ => by rw [← hX]; exact decide_eq_false (by rw [hm]; exact fun h => q3 (h q q1 q2))
    clear hm hX hc0 hb6 h0
    go_enter Try.func32, Try.ntmps32
    go_wp2_with (first
      | (go_at_call 16; refine (hb _).mono ?_; rintro e w1 ⟨rfl, rfl⟩)
      | (go_at_call 18; refine (hd _).mono ?_; rintro e w1 ⟨rfl, rfl⟩))
    go_loop [6] (fun i => ∃ j : Nat, i = .int .i64 (j : Int) ∧ b ≤ j ∧ j ≤ 6 ∧ Hid (∀ q, b ≤ q → q < j → m.at' q = 0)) (fun i => 6 - (intOf i).toNat)
    case atStart => exact ⟨b, rfl, by omega, by omega, fun q h1 h2 => by omega⟩
    case round =>
      obtain ⟨j, rfl, hfj, hj6, HQ⟩ := hrel
      by_cases hlt : j < 6
      · have hcj := HCC.out j hlt
        have hli : (j : Int) < 6 := by omega
        by_cases hz : m.at' j = 0
        · have hb : ((m.at' j : Int) != 0) = false := by rw [hz]; rfl
          have HN : Hid (∀ q, b ≤ q → q < j + 1 → m.at' q = 0) := fun q h1 h2 => by
            by_cases h : q < j
            · exact HQ.out q h1 h
            · have e : q = j := by omega
              rw [e]; exact hz
          clear hz
          go_wp2
          go_round
          case rel => exact ⟨j + 1, by go_num, by omega, by omega, HN⟩
          case measure => simp [intOf]; omega
        · have hb : ((m.at' j : Int) != 0) = true := by rw [bne_iff_ne]; omega
          have HN := Lib.hid (HF.out ⟨j, hfj, hlt, hz⟩)
          clear hz
          go_wp2
          go_ret
          exact ⟨by rw [HN.out]; rfl, HB.out⟩
      · obtain rfl : j = 6 := by omega
        have HN := Lib.hid (HT.out HQ.out)
        go_wp2
        go_ret
        exact ⟨by rw [HN.out]; rfl, HB.out⟩
  · have hq : 0 < d := by omega
    have hq2 : (0 : Int) < (d : Int) := by omega
    rw [if_neg h0, cut_iff] at hm
    replace hc0 : (w.alloc (.cells #[.int .u32 m.a, .int .u32 m.b, .int .u32 m.c, .int .u32 m.d, .int .u32 m.e, .int .u32 m.f] 25)).cell? ⟨w.heap.size, 0, none⟩ = some (.int .u32 m.a) := hc0
    by_cases ha : m.a = 0
    · have hz : ((m.a : Int) == 0) = true := by simp [ha]
      have HN : Hid (x = false) := by unfold Hid; rw [← hX]; exact decide_eq_false (by rw [hm]; exact fun h => h.1 ha)
      clear hm hX hb6 h0 ha
      go_enter Try.func32, Try.ntmps32
      go_wp2_with (first
        | (go_at_call 16; refine (hb _).mono ?_; rintro e w1 ⟨rfl, rfl⟩)
        | (go_at_call 18; refine (hd _).mono ?_; rintro e w1 ⟨rfl, rfl⟩))
      go_ret
      exact ⟨by rw [HN.out]; rfl, HB.out⟩
    · have hz : ((m.a : Int) == 0) = false := beq_eq_false_iff_ne.2 (by omega)
      have HT : Hid ((∀ q, 1 ≤ q → q < 6 → m.at' q = 0) → x = true) := fun h => by rw [← hX]; exact decide_eq_true (by rw [hm]; exact ⟨ha, h⟩)
      have HF : Hid ((∃ q, 1 ≤ q ∧ q < 6 ∧ ¬ m.at' q = 0) → x = false) := fun ⟨q, q1, q2, q3⟩ => by rw [← hX]; exact decide_eq_false (by rw [hm]; exact fun h => q3 (h.2 q q1 q2))
      clear hm hX hb6 h0 ha
      go_enter Try.func32, Try.ntmps32
      go_wp2_with (first
        | (go_at_call 16; refine (hb _).mono ?_; rintro e w1 ⟨rfl, rfl⟩)
        | (go_at_call 18; refine (hd _).mono ?_; rintro e w1 ⟨rfl, rfl⟩))
      go_loop [6] (fun i => ∃ j : Nat, i = .int .i64 (j : Int) ∧ 1 ≤ j ∧ j ≤ 6 ∧ Hid (∀ q, 1 ≤ q → q < j → m.at' q = 0)) (fun i => 6 - (intOf i).toNat)
      case atStart => exact ⟨1, rfl, by omega, by omega, fun q h1 h2 => by omega⟩
      case round =>
        obtain ⟨j, rfl, hfj, hj6, HQ⟩ := hrel
        by_cases hlt : j < 6
        · have hcj := HCC.out j hlt
          have hli : (j : Int) < 6 := by omega
          by_cases hz : m.at' j = 0
          · have hb : ((m.at' j : Int) != 0) = false := by rw [hz]; rfl
            have HN : Hid (∀ q, 1 ≤ q → q < j + 1 → m.at' q = 0) := fun q h1 h2 => by
              by_cases h : q < j
              · exact HQ.out q h1 h
              · have e : q = j := by omega
                rw [e]; exact hz
            clear hz
            go_wp2
            go_round
            case rel => exact ⟨j + 1, by go_num, by omega, by omega, HN⟩
            case measure => simp [intOf]; omega
          · have hb : ((m.at' j : Int) != 0) = true := by rw [bne_iff_ne]; omega
            have HN := Lib.hid (HF.out ⟨j, hfj, hlt, hz⟩)
            clear hz
            go_wp2
            go_ret
            exact ⟨by rw [HN.out]; rfl, HB.out⟩
        · obtain rfl : j = 6 := by omega
          have HN := Lib.hid (HT.out HQ.out)
          go_wp2
          go_ret
          exact ⟨by rw [HN.out]; rfl, HB.out⟩
end
end Go.Proofs.Ytbadkbfcfcgfhaa.Ino.R
