/- What stands ahead of every law on queues: one of size one takes one. -/
import Derived.Test.YtkpkpofeffegfaaRingQI
namespace Go.Proofs.Ytkpkpofeffegfaa
open Go.RowKit Go.Shelf
open I
set_option linter.unusedVariables false

theorem ge_below {w w1 w2 : World} {o : Option Nat} (h : Below w.heap.size w w1) (h2 : w1.grownBy w2 o) (hr : ∀ k, o = some k → w.heap.size ≤ k) : Below w.heap.size w w2 := h.grown h2 h.size hr

set_option maxRecDepth 100000 in
set_option maxHeartbeats 1000000 in
theorem shown_any (w : World) : Calls Try.prog 8 #[] w fun e w' => e = .returned (.bool true) ∧ Below w.heap.size w w' := by
  have hN : ∀ W, Calls Try.prog 9 #[.int .i64 1] W fun e w' => e = .returned (.pointer (some ⟨W.heap.size + 1, 0, none⟩)) ∧ IsQ w' (W.heap.size + 1) W.heap.size 1 [] ∧ Below W.heap.size W w' ∧ w'.heap.size = W.heap.size + 2 := fun W => new_q 1 W (by omega) (by omega)
  have hN0 := fun W => new_not 0 W (by omega)
  go_enter Try.func8, Try.ntmps8
  go_wp2_with (first
    | (go_at_call 9; ((with_reducible refine Calls.mono (hN _) ?_); rintro e w1 ⟨rfl, hq0, hB0, _⟩))
    | (go_at_call 9; ((with_reducible refine Calls.mono (hN0 _) ?_); rintro e w1 ⟨rfl, rfl⟩))
    | (go_at_call 18; ((with_reducible refine Calls.mono (put_no _ _ _ [7] _ _ hq1 (by decide)) ?_); rintro e w3 ⟨rfl, hq2, hg2⟩))
    | (go_at_call 18; ((with_reducible refine Calls.mono (put_yes _ _ _ [] _ _ hq0 (by decide)) ?_); rintro e w2 ⟨rfl, hq1, hg1⟩))
    | (go_at_call 17; ((with_reducible refine Calls.mono (take_empty _ _ _ _ hq3) ?_); rintro e w5 ⟨rfl, hq4, hg4⟩))
    | (go_at_call 17; ((with_reducible refine Calls.mono (take_cons _ _ _ 7 [] _ hq2) ?_); rintro e w4 ⟨rfl, hq3, hg3⟩)))
  go_ret
  exact ⟨rfl, ge_below (ge_below (ge_below (ge_below hB0 hg1 (by simp)) hg2 (by simp)) hg3 (by simp)) hg4 (by simp)⟩
end Go.Proofs.Ytkpkpofeffegfaa
