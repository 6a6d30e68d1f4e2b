/- DirsNames, walked. -/
import Derived.Test.YtafbkagoajcmeaaDirShown
namespace Go.Proofs.Ytafbkagoajcmeaa.Dir
open Go.RowKit
attribute [local go_sem] Oper.semAt_some
set_option linter.unusedVariables false
set_option linter.unusedSimpArgs false
section
set_option maxRecDepth 100000
set_option maxHeartbeats 8000000
theorem DirsNames_walk (name s : ByteArray) (w : World) (z0 : name.size ≤ 140737488351232) (z1 : s.size ≤ 140737488351232) : Calls Try.prog 3 #[.string name, .string s] w fun e w' => e = .returned (.bool true) ∧ Below w.heap.size w w' := by
  have hcut := Lib.hid (fun W => cut_any s W (by omega))
  have hcz := cutB_size s
  obtain ⟨c, hc⟩ : ∃ c, cutB s = c := ⟨_, rfl⟩
  rw [hc] at hcz
  rw [hc] at hcut
  obtain ⟨D, hD⟩ := DirO.ex c
  have hL := Lib.hid (fun W => list_any c D W (by omega) hD)
  have hLR := Lib.hid (fun W => R.list_any c D W (by omega) hD)
  have hN := Lib.hid (fun W => isName_any name W (by omega))
  have hNR := Lib.hid (fun W => R.isName_any name W (by omega))
  have hR := Lib.hid (fun W => right_any c D W (by omega) hD)
  have hRR := Lib.hid (fun W => R.right_any c D W (by omega) hD)
  generalize nameB name = nb at hN hNR
  generalize rightO D = rb at hR hRR
  cases D with
  | none =>
    unfold ListPost at hL hLR
    clear hc hcz hD z0 z1
    go_enter Try.func3, Try.ntmps3
    go_wp2_with (first
      | (go_at_call 9; refine (shown_any _).mono ?_; rintro e w1 ⟨rfl, hB1⟩)
      | (go_at_call 10; (with_reducible refine Calls.mono (hcut.out _) ?_); rintro e w2 ⟨rfl, rfl⟩)
      | (go_at_call 11; (with_reducible refine Calls.mono (hL.out _) ?_); rintro e w3 ⟨rfl, hB3⟩)
      | (go_at_call 12; (with_reducible refine Calls.mono (hLR.out _) ?_); rintro e w4 ⟨rfl, hB4⟩)
      | (go_at_call 13; (with_reducible refine Calls.mono (hN.out _) ?_); rintro e w5 ⟨rfl, hB5⟩)
      | (go_at_call 14; (with_reducible refine Calls.mono (hNR.out _) ?_); rintro e w6 ⟨rfl, rfl⟩)
      | (go_at_call 15; (with_reducible refine Calls.mono (hR.out _) ?_); rintro e w7 ⟨rfl, hB7⟩)
      | (go_at_call 16; (with_reducible refine Calls.mono (hRR.out _) ?_); rintro e w8 ⟨rfl, hB8⟩)
      | (go_at_call 17; refine (R.same_any _ _ [] [] _ (Nms.nil _) (Nms.nil _)).mono ?_; rintro e w9 ⟨rfl, hB9⟩))
    go_ret
    exact ⟨rfl, below_th (below_th (below_th (below_th (below_th (below_th hB1 hB3) hB4) hB5) hB7) hB8) hB9⟩
  | some L =>
    unfold ListPost at hL hLR
    clear hc hcz hD z0 z1
    go_enter Try.func3, Try.ntmps3
    go_wp2_with (first
      | (go_at_call 9; refine (shown_any _).mono ?_; rintro e w1 ⟨rfl, hB1⟩)
      | (go_at_call 10; (with_reducible refine Calls.mono (hcut.out _) ?_); rintro e w2 ⟨rfl, rfl⟩)
      | (go_at_call 11; (with_reducible refine Calls.mono (hL.out _) ?_); rintro e w3 ⟨v, M, rfl, hM, hNv, hB3⟩; have HM := Lib.hid hM; have HNv := Lib.hid hNv; clear hM hNv)
      | (go_at_call 12; (with_reducible refine Calls.mono (hLR.out _) ?_); rintro e w4 ⟨v2, M2, rfl, hM2, hNv2, hB4⟩; have HM2 := Lib.hid hM2; have HNv2 := Lib.hid hNv2; clear hM2 hNv2)
      | (go_at_call 13; (with_reducible refine Calls.mono (hN.out _) ?_); rintro e w5 ⟨rfl, hB5⟩)
      | (go_at_call 14; (with_reducible refine Calls.mono (hNR.out _) ?_); rintro e w6 ⟨rfl, rfl⟩)
      | (go_at_call 15; (with_reducible refine Calls.mono (hR.out _) ?_); rintro e w7 ⟨rfl, hB7⟩)
      | (go_at_call 16; (with_reducible refine Calls.mono (hRR.out _) ?_); rintro e w8 ⟨rfl, hB8⟩)
      | (go_at_call 17; refine (R.same_any _ _ M M2 _ ((((HNv.out.below hB4).below hB5).below hB7).below hB8) (((HNv2.out.below hB5).below hB7).below hB8)).mono ?_; rintro e w9 ⟨rfl, hB9⟩; have hd : decide (M = M2) = true := decide_eq_true (HM.out.unique HM2.out)))
    go_ret
    exact ⟨rfl, below_th (below_th (below_th (below_th (below_th (below_th hB1 hB3) hB4) hB5) hB7) hB8) hB9⟩
end
end Go.Proofs.Ytafbkagoajcmeaa.Dir
