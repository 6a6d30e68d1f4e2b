/- The bag's law: Same, pick, and a call that only asks. -/
import Derived.Deep.RegionWith
import Derived.Test.YtkhbfjncamobdaaBagDoP
import Derived.Test.YtkhbfjncamobdaaBagShown
import Derived.Test.YtkhbfjncamobdaaBagPkGS
import Derived.Test.YtkhbfjncamobdaaBagPkHS
namespace Go.Proofs.Ytkhbfjncamobdaa.S
open Go.RowKit Go.Shelf
set_option linter.unusedVariables false

set_option maxRecDepth 100000 in
set_option maxHeartbeats 2000000 in
theorem same_t (L : List Int) (a b : Option Addr) (n c d : Nat) (w : World) (hL : L.length = n) (hn : n ≤ 1000000) (h1 : Lies w (.slice a n c) n 1 (L.map (.int .i64))) (h2 : Lies w (.slice b n d) n 1 (L.map (.int .i64))) :
    Calls Try.prog 23 #[.slice a n c, .slice b n d] w fun e w' => e = .returned (.bool true) ∧ Below w.heap.size w w' := by
  have H1 := Lib.hid h1
  have H2 := Lib.hid h2
  have HL := Lib.hid hL
  clear h1 h2 hL
  go_enter Try.func23, Try.ntmps23
  go_wp2
  go_loopw [5] (fun i wr => ∃ k : Nat, k ≤ n ∧ i = .int .i64 (k : Int) ∧ Below w.heap.size w wr) (fun i _ => n - (intOf i).toNat)
  case atStart => exact ⟨0, Nat.zero_le _, rfl, Below.refl _ _⟩
  case round =>
    obtain ⟨k, hk, rfl, hB⟩ := hrel
    by_cases hlt : k < n
    · obtain ⟨x, hx⟩ : ∃ x, L[k]? = some x := ⟨L[k]'(by rw [HL.out]; exact hlt), by simp⟩
      obtain ⟨b1, o1, rfl, hc1⟩ := (H1.out.below hB).read (j := k) (u := .int .i64 x) (by rw [List.getElem?_map, hx]; rfl)
      obtain ⟨b2, o2, rfl, hc2⟩ := (H2.out.below hB).read (j := k) (u := .int .i64 x) (by rw [List.getElem?_map, hx]; rfl)
      clear hx
      go_wp2
      go_region
      all_goals
        go_wp2
        first
          | exact ⟨⟨k + 1, by omega, by go_num, below_drew hB⟩, by simp [intOf]; omega⟩
          | (go_roundw
             case rel => exact ⟨k + 1, by omega, by go_num, below_drew hB⟩
             case measure => simp [intOf]; omega)
    · obtain rfl : k = n := by omega
      go_wp2
      go_ret
      exact ⟨rfl, hB⟩
def pickN (c : Int) (n : Nat) : Nat := ((if c < 0 then -(c + 1) else c) % (n : Int)).toNat
theorem pickN_lt (c : Int) (n : Nat) (h : 0 < n) : pickN c n < n := by
  unfold pickN
  have h1 := Int.emod_nonneg (if c < 0 then -(c + 1) else c) (show (n : Int) ≠ 0 by omega)
  have h2 := Int.emod_lt_of_pos (if c < 0 then -(c + 1) else c) (show (0 : Int) < n by omega)
  omega
set_option maxRecDepth 100000 in
theorem pick_fn (c : Int) (n : Nat) (h0 : 0 < n) (hn : n ≤ 1000) (hc : -9223372036854775808 ≤ c ∧ c ≤ 9223372036854775807) (w : World) :
    Calls Try.prog 13 #[.int .i64 c, .int .i64 n] w fun e w' => e = .returned (.int .i64 (pickN c n : Nat)) ∧ w = w' := by
  obtain ⟨h1, h2⟩ := hc
  have hz : ((n : Int) == 0) = false := by simp; omega
  have hm0 := Int.emod_nonneg (if c < 0 then -(c + 1) else c) (show (n : Int) ≠ 0 by omega)
  have hpk : ((pickN c n : Nat) : Int) = (if c < 0 then -(c + 1) else c) % (n : Int) := by unfold pickN; omega
  by_cases h : c < 0
  · rw [if_pos h] at hpk
    have ht : -((c + 1).tmod (n : Int)) = ((pickN c n : Nat) : Int) := by rw [hpk, ← Int.neg_tmod]; exact Int.tmod_eq_emod_of_nonneg (by omega)
    have HT := Lib.hid ht
    clear ht hpk hm0
    go_enter Try.func13, Try.ntmps13
    go_wp2
    go_ret
    exact ⟨by rw [← HT.out]; rfl, rfl⟩
  · rw [if_neg h] at hpk
    have HT := Lib.hid hpk
    clear hpk hm0
    go_enter Try.func13, Try.ntmps13
    go_wp2
    go_ret
    exact ⟨by rw [HT.out]; rfl, rfl⟩


structure Op where
  k : Int
  a : Int
  t : Int
  v : ByteArray
def opCells (o : Op) : List Value := [.int .i64 o.k, .int .i64 o.a, .int .i64 o.t, .string o.v]
def opArg (o : Op) : Value := .agg #[.int .i64 o.k, .int .i64 o.a, .int .i64 o.t, .string o.v]
def opObj (o : Op) : Obj := .cells #[.int .i64 o.k, .int .i64 o.a, .int .i64 o.t, .string o.v] 30 (0, 0)
theorem op_cells {W : World} {b : Nat} {o : Op} (h : W.heap[b]? = some (opObj o)) : W.cell? ⟨b, 0, none⟩ = some (.int .i64 o.k) ∧ W.cell? ⟨b, 1, none⟩ = some (.int .i64 o.a) ∧ W.cell? ⟨b, 2, none⟩ = some (.int .i64 o.t) ∧ W.cell? ⟨b, 3, none⟩ = some (.string o.v) := by
  refine ⟨?_, ?_, ?_, ?_⟩ <;> (simp only [World.cell?, h]; rfl)
theorem BagIs.below {W W' : World} {a : Nat} {F : Nat → Prop} {xs : List It} (h : BagIs W a F xs) (hB : Below W.heap.size W W') : BagIs W' a F xs :=
  h.kept (S := fun _ => False) (Only.of_below hB) (fun _ _ h => h)
theorem valOf_str (o : Option ByteArray) : valOf o = .string (o.getD ⟨#[]⟩) := by cases o <;> rfl
end Go.Proofs.Ytkhbfjncamobdaa.S
