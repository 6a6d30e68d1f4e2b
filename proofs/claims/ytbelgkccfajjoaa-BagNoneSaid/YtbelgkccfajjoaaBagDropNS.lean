/- Drop, where nothing stands. -/
import Derived.Test.YtbelgkccfajjoaaBagRemS
namespace Go.Proofs.Ytbelgkccfajjoaa.S
open Go.RowKit Go.Shelf
set_option linter.unusedVariables false

theorem drop_nil (at0 : Int) (w : World) : Calls Try.prog 28 #[.pointer none, .int .i64 at0] w fun e w' => e = .returned (.bool false) ∧ w = w' := by
  have cH := highest_nil w
  have cW := way_nil at0 w
  go_enter Try.func28, Try.ntmps28
  go_wp2_with (first | (go_at_call 34; refine cH.mono ?_; rintro e w' ⟨rfl, rfl⟩) | (go_at_call 43; refine cW.mono ?_; rintro e w' ⟨rfl, rfl⟩))
  go_ret
  exact ⟨rfl, rfl⟩

set_option maxRecDepth 100000 in
set_option maxHeartbeats 1000000 in
theorem drop_none (at0 : Int) (a : Nat) (top : Option Nat) (n : Int) (w : World) (hb : BagAt w a top n)
    (cW : Calls Try.prog 43 #[.pointer (top.map fun b => ⟨b, 0, none⟩), .int .i64 at0] w fun e w' => ∃ v, e = .returned (.tuple #[v, .bool false]) ∧ Below w.heap.size w w') :
    Calls Try.prog 28 #[ptrV a, .int .i64 at0] w fun e W => e = .returned (.bool false) ∧ Below w.heap.size w W := by
  have cH := highest_some a top n w hb
  unfold ptrV at cH ⊢
  obtain ⟨q, hq⟩ : ∃ q, (top.map fun b => (⟨b, 0, none⟩ : Addr)) = q := ⟨_, rfl⟩
  rw [hq] at cH cW
  clear hq hb
  go_enter Try.func28, Try.ntmps28
  go_wp2_with (first | (go_at_call 34; refine cH.mono ?_; rintro e w' ⟨rfl, rfl⟩) | (go_at_call 43; refine cW.mono ?_; rintro e w2 ⟨v2, rfl, hB2⟩; have HB2 := Lib.hid hB2; clear hB2))
  go_ret
  exact ⟨rfl, HB2.out⟩

end Go.Proofs.Ytbelgkccfajjoaa.S
