/- BmapWays, walked. -/
import Derived.Test.YtdakfdecfpebcaaBmpArgs
namespace Go.Proofs.Ytdakfdecfpebcaa.Bmp
open Go.RowKit Ino
attribute [local go_sem] Oper.semAt_some
set_option linter.unusedVariables false
set_option linter.unusedSimpArgs false
section
set_option maxRecDepth 100000
set_option maxHeartbeats 8000000
theorem ways_nat (s : Nat) (i : Int) (w : World) (ws : s < 4294967296) (wi : -9223372036854775808 ≤ i ∧ i ≤ 9223372036854775807) : Calls Try.prog 3 #[.int .u32 s, .int .i64 i] w (Ans w (.bool true)) := by
  have h1 := fun W => way_any s i W ws wi
  have h2 := fun W => R.way_any s i W ws wi
  have h3 := fun W => count_any s W ws
  have h4 := fun W => R.count_any s W ws
  unfold WayPost at h1 h2
  generalize wayV s i = A at h1 h2
  generalize wayE s i = E at h1 h2
  generalize cntN s = c at h3 h4
  have hc : ((c : Int) == (c : Int)) = true := beq_self_eq_true _
  have hE : (E == E) = true := beq_self_eq_true _
  have H1 := Lib.hid h1
  have H2 := Lib.hid h2
  have H3 := Lib.hid h3
  have H4 := Lib.hid h4
  clear h1 h2 h3 h4 ws wi
  go_enter Try.func3, Try.ntmps3
  go_wp2_with (first
    | (go_at_call 9; (with_reducible refine Calls.mono (shown_any _) ?_); rintro e w1 ⟨rfl, hB1⟩)
    | (go_at_call 10; (with_reducible refine Calls.mono (H1.out _) ?_); rintro e w2 ⟨v2, rfl, hv2, hB2⟩; have HV2 := Lib.hid hv2; clear hv2)
    | (go_at_call 11; (with_reducible refine Calls.mono (H2.out _) ?_); rintro e w3 ⟨v3, rfl, hv3, hB3⟩; have HV3 := Lib.hid hv3; clear hv3)
    | (go_at_call 12; (with_reducible refine Calls.mono (H3.out _) ?_); rintro e w4 ⟨rfl, hB4⟩)
    | (go_at_call 13; (with_reducible refine Calls.mono (H4.out _) ?_); rintro e w5 ⟨rfl, hw5⟩; rw [← hw5]; clear hw5 w5)
    | (go_at_call 14; (with_reducible refine Calls.mono (R.sameInts_any _ _ A A _ ((HV2.out.below hB3).below hB4) (HV3.out.below hB4)) ?_); rintro e w6 ⟨rfl, hB6⟩; rw [show decide (A = A) = true from decide_eq_true rfl]))
  go_ret
  exact ⟨rfl, below_th (below_th (below_th (below_th hB1 hB2) hB3) hB4) hB6⟩
theorem BmapWays_walk (s : Int) (i : Int) (w : World) (ws : (Lit.int .u32 s).wf = true) (wi : (Lit.int .i64 i).wf = true) : Calls Try.prog 3 #[.int .u32 s, .int .i64 i] w fun e w' => e = .returned (.bool true) ∧ Below w.heap.size w w' := by
  have h1 := bounds32 ws
  obtain ⟨n, rfl⟩ : ∃ n : Nat, s = (n : Int) := ⟨s.toNat, by omega⟩
  exact ways_nat n i w (by omega) (bounds64 wi)
end
end Go.Proofs.Ytdakfdecfpebcaa.Bmp
