/- The document's own answers on numbers as bytes: Bytes and Put of the reference package. -/
import Derived.Maps.AppendAt
import Derived.WalkSpells
import Derived.Test.YtdniakoedgohkaaNumPut
namespace Go.Proofs.Ytdniakoedgohkaa
open Go.RowKit Go.Shelf
set_option linter.unusedVariables false

theorem numL_succ (n j : Nat) : numL n (j + 1) = numL n j ++ [nbyte n j] := by simp [numL, List.range_succ]
theorem shift_eight (n j : Nat) : (n : Int) / 2 ^ (8 * j) / 2 ^ 8 = (n : Int) / 2 ^ (8 * (j + 1)) := by
  rw [Int.ediv_ediv_of_nonneg (Int.pow_nonneg (by decide)), ← Int.pow_add, Nat.mul_succ]
theorem shift_range (n j : Nat) (hn : n < 256 ^ 8) : 0 ≤ (n : Int) / 2 ^ (8 * j) ∧ (n : Int) / 2 ^ (8 * j) ≤ 18446744073709551615 := by
  have e : (2 : Int) ^ (8 * j) = ((256 ^ j : Nat) : Int) := by
    rw [show (256 : Nat) = 2 ^ 8 from rfl, ← Nat.pow_mul]
    simp
  rw [e, ← Int.natCast_ediv]
  have h := Nat.div_le_self n (256 ^ j)
  generalize n / 256 ^ j = q at *
  have e8 : 256 ^ 8 = 18446744073709551616 := by decide
  omega

set_option maxRecDepth 100000 in
set_option maxHeartbeats 400000 in
theorem bytes_ref (n k : Nat) (w : World) (hn : n < 256 ^ 8) (h1 : 1 ≤ k) (h2 : k ≤ 8) :
    Calls Try.prog 32 #[.int .u64 n, .int .i64 k] w fun e w' => e = .returned (.string (numB n k)) ∧ Below w.heap.size w w' := by
  obtain ⟨i0, hi, hz0, hz1, hz2⟩ := info_parts infoByte
  go_enter Try.func32, Try.ntmps32
  go_wp2
  go_loopw [0, 5, 6] (fun nv v i wr => ∃ (j : Nat) (m : Int), j ≤ k ∧ i = .int .i64 j ∧ nv = .int .u64 m ∧ Hid (m = (n : Int) / 2 ^ (8 * j)) ∧ wr.ownsRow w.heap.size 5 1 v j ((numL n j).map (Value.int .u8)) ∧ Below w.heap.size w wr)
    (fun _ _ i _ => k - (intOf i).toNat)
  case atStart => exact ⟨0, (n : Int), Nat.zero_le _, rfl, rfl, by simp [Hid], World.ownsRow_nil _ _ _ _, Below.refl _ _⟩
  case round =>
    obtain ⟨j, m, hj, rfl, rfl, HM, hown, hB⟩ := hrel
    have hsz := hB.size
    have hm : 0 ≤ m ∧ m ≤ 18446744073709551615 := by rw [HM.out]; exact shift_range n j hn
    by_cases hlt : j < k
    · go_wp2_with (at_builtin; go_must (refine wpList_append_own _ rfl _ _ 57 rfl w.heap.size 5 i0 (.int .u8 0) 1 1 Try.underlying57 hi hz0 hz1 hz2 rfl (by decide) _ _ _ rfl (hown.alloc _) ⟨wr.heap.size, 0, none⟩ 1 1 [.int .u8 (m % 256)] rfl rfl (cell_one_new _ _ _) (by simp [Value.oneCell']) (by unfold maxLen; omega) (by omega) (by simp; omega) ?_; intro v' w1 hown' hgrow _))
      have HO : Hid (w1.ownsRow w.heap.size 5 1 v' (j + 1) ((numL n (j + 1)).map (Value.int .u8))) := by
        rw [numL_succ, List.map_append]
        have e : m % 256 = nbyte n j := by rw [HM.out]; rfl
        rw [e] at hown'
        exact hown'
      obtain ⟨g', cap', rfl⟩ := ownsRow_succ hown'
      have HB : Below w.heap.size w w1 := (hB.alloc hB.size _).grown hgrow (by simp; omega) (fun r e => (hown.lt r e).1)
      have HM2 : Hid (m / 256 = (n : Int) / 2 ^ (8 * (j + 1))) := by rw [HM.out]; exact shift_eight n j
      clear hown hown' hgrow
      go_wp2
      go_roundw
      case rel => exact ⟨j + 1, m / 256, by omega, by go_num, rfl, HM2, HO, HB⟩
      case measure => simp [intOf]; omega
    · obtain rfl : j = k := by omega
      obtain ⟨k', rfl⟩ : ∃ k', j = k' + 1 := ⟨j - 1, by omega⟩
      obtain ⟨g, cap, rfl⟩ := ownsRow_succ hown
      have hcv := run_convert_bytes_arg (P := Try.prog) wr 57 5 Try.underlying57 Try.underlying5 g 0 (k' + 1) cap (numL n (k' + 1)) (numL_length n (k' + 1)) (fun i hi => by
        rw [Nat.zero_add, hown.cellAt i (by omega)]
        simp [numL, hi]) 9 Try.underlying9
      go_wp2
      go_ret
      exact ⟨rfl, hB⟩

theorem eight : (256 : Nat) ^ 8 = 18446744073709551616 := by decide
theorem pow_int (k : Nat) : (2 : Int) ^ (8 * k) = ((256 ^ k : Nat) : Int) := by
  rw [show (256 : Nat) = 2 ^ 8 from rfl, ← Nat.pow_mul]
  simp
theorem fits_iff (n k : Nat) : ((n : Int) / 2 ^ (8 * k) = 0) ↔ n < 256 ^ k := by
  rw [pow_int, ← Int.natCast_ediv]
  have h := Nat.div_eq_zero_iff (a := n) (b := 256 ^ k)
  have hp : 256 ^ k ≠ 0 := Nat.pos_iff_ne_zero.1 (Nat.pow_pos (by decide))
  generalize 256 ^ k = q at *
  omega

end Go.Proofs.Ytdniakoedgohkaa
