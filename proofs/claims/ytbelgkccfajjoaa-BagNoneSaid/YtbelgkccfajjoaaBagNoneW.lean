/- The walk of BagNone: it answers true. -/
import Derived.Test.YtbelgkccfajjoaaBagShown
import Derived.Test.YtbelgkccfajjoaaBagShape0S
import Derived.Test.YtbelgkccfajjoaaRow
namespace Go.Proofs.Ytbelgkccfajjoaa
open Go.RowKit Go.Shelf
open S
set_option linter.unusedVariables false

set_option maxRecDepth 100000 in
set_option maxHeartbeats 1000000 in
theorem BagNone_walk (a0 : Int) (a1 : Int) (w0 : (Lit.int .i64 a0).wf = true) (w1 : (Lit.int .i64 a1).wf = true) (w : World) :
    Calls Try.prog 6 #[.int .i64 a0, .int .i64 a1] w fun e w' => e = .returned (.bool true) ∧ Below w.heap.size w w' := by
  have hK : ∀ W, Calls Try.prog 29 #[.pointer none, .int .i64 a0, .int .i64 a1] W fun e w' => ∃ a cap, e = .returned (.slice a 0 cap) ∧ Below W.heap.size W w' := fun W => (keys_nil a0 a1 W).mono fun e w' ⟨v, he, ho, hB⟩ => by
    obtain ⟨a, cap, rfl, _⟩ := lies_own ho
    exact ⟨a, cap, he, hB⟩
  have hN : ∀ W, Calls Try.prog 26 #[.pointer none, .int .i64 a0] W fun e w' => e = .returned (.tuple #[.int .i64 0, .bool false]) ∧ Below W.heap.size W w' := fun W => next_nil a0 W
  go_enter Try.func6, Try.ntmps6
  go_wp2_with (first
    | (go_at_call 9; refine (shown_any _).mono ?_; rintro e w1 ⟨rfl, hB1⟩)
    | (go_at_call 25; refine (get_nil _ _).mono ?_; rintro e w2 ⟨rfl, rfl⟩)
    | (go_at_call 26; refine (hN _).mono ?_; rintro e w3 ⟨rfl, hB3⟩)
    | (go_at_call 27; refine (put_nil _ _ _).mono ?_; rintro e w4 ⟨rfl, rfl⟩)
    | (go_at_call 28; refine (drop_nil _ _).mono ?_; rintro e w5 ⟨rfl, rfl⟩)
    | (go_at_call 12; refine (len_nil _).mono ?_; rintro e w6 ⟨rfl, rfl⟩)
    | (go_at_call 29; refine (hK _).mono ?_; rintro e w7 ⟨ak, ck, rfl, hB7⟩)
    | (go_at_call 14; refine (shape_nil _).mono ?_; rintro e w8 ⟨rfl, hB8⟩))
  go_ret
  exact ⟨rfl, below_th (below_th (below_th hB1 hB3) hB7) hB8⟩
end Go.Proofs.Ytbelgkccfajjoaa
