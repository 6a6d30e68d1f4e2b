/- The walk of NumTexts: it answers true. -/
import Derived.Test.YtekfkgceemcmpaaNumPutsW
namespace Go.Proofs.Ytekfkgceemcmpaa
open Go.RowKit Go.Shelf
set_option linter.unusedVariables false

set_option maxRecDepth 100000 in
set_option maxHeartbeats 400000 in
theorem NumTexts_walk (a0 : ByteArray) (a1 : ByteArray) (a2 : Int) (z0 : a0.size ≤ 140737488351232) (z1 : a1.size ≤ 140737488351232) (w2 : (Lit.int .i64 a2).wf = true) (w : World) :
    Calls Try.prog 4 #[.string a0, .string a1, .int .i64 a2] w fun e w' => e = .returned (.bool true) ∧ Below w.heap.size w w' := by
  have b2 := bounds_i64 w2
  have hs0 : a0.size ≤ 281474976710656 := by omega
  have hs1 : a1.size ≤ 281474976710656 := by omega
  go_enter Try.func4, Try.ntmps4
  go_wp2_with (first | (go_at_call 10; refine (shown_any _).mono ?_; rintro e u1 ⟨rfl, hB1⟩) | (go_at_call 15; refine (text_any _ _ hs0).mono ?_; rintro e u2 ⟨rfl, hB2⟩) | (go_at_call 16; refine (text_ref _ _ hs0).mono ?_; rintro e u3 ⟨rfl, hB3⟩) | (go_at_call 17; refine (tok_any _ _ _ hs1 b2.2).mono ?_; rintro e u4 ⟨rfl, hB4⟩) | (go_at_call 18; refine (tok_ref _ _ _ hs1 b2.2 b2.1).mono ?_; rintro e u5 ⟨rfl, rfl⟩))
  go_ret
  have h2 := hB1.trans (hB2.mono hB1.size)
  have h3 := h2.trans (hB3.mono h2.size)
  exact ⟨rfl, h3.trans (hB4.mono h3.size)⟩

set_option maxRecDepth 100000 in
set_option maxHeartbeats 400000 in
theorem NumFits_walk (a0 : ByteArray) (a1 : Int) (a2 : Int) (z0 : a0.size ≤ 140737488351232) (w1 : (Lit.int .i64 a1).wf = true) (w2 : (Lit.int .i64 a2).wf = true) (w : World) :
    Calls Try.prog 5 #[.string a0, .int .i64 a1, .int .i64 a2] w fun e w' => e = .returned (.bool true) ∧ Below w.heap.size w w' := by
  have hs0 : a0.size ≤ 281474976710656 := by omega
  go_enter Try.func5, Try.ntmps5
  go_wp2_with (first | (go_at_call 10; refine (shown_any _).mono ?_; rintro e u1 ⟨rfl, hB1⟩) | (go_at_call 19; refine (fit_any _ _ _ hs0).mono ?_; rintro e u2 ⟨rfl, hB2⟩) | (go_at_call 20; refine (fit_ref _ _ _ hs0).mono ?_; rintro e u3 ⟨rfl, hB3⟩) | (go_at_call 21; refine (bare_any _ _ _ hs0).mono ?_; rintro e u4 ⟨rfl, rfl⟩) | (go_at_call 22; refine (bare_ref _ _ _ hs0).mono ?_; rintro e u5 ⟨rfl, rfl⟩))
  go_ret
  have h2 := hB1.trans (hB2.mono hB1.size)
  exact ⟨by simp, h2.trans (hB3.mono h2.size)⟩

end Go.Proofs.Ytekfkgceemcmpaa
