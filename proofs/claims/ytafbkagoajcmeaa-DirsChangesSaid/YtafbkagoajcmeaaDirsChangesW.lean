/- DirsChanges, walked. -/
import Derived.Test.YtafbkagoajcmeaaDirShown
namespace Go.Proofs.Ytafbkagoajcmeaa.Dir
open Go.RowKit
attribute [local go_sem] Oper.semAt_some
set_option linter.unusedVariables false
set_option linter.unusedSimpArgs false
section
set_option maxRecDepth 100000
set_option maxHeartbeats 8000000
theorem DirsChanges_walk (s name : ByteArray) (i0 : Int) (w : World) (z0 : s.size ≤ 140737488351232) (z1 : name.size ≤ 140737488351232) (w2 : (Lit.int .u32 i0).wf = true) : Calls Try.prog 4 #[.string s, .string name, .int .u32 i0] w fun e w' => e = .returned (.bool true) ∧ Below w.heap.size w w' := by
  obtain ⟨ino, rfl, z2⟩ := u32_nat w2
  clear w2
  have hcut := Lib.hid (fun W => cut_any s W (by omega))
  have hcz := cutB_size s
  obtain ⟨c, hc⟩ : ∃ c, cutB s = c := ⟨_, rfl⟩
  rw [hc] at hcz
  rw [hc] at hcut
  obtain ⟨D, hD⟩ := DirO.ex c
  have hF := Lib.hid (fun W => find_any c name D W (by omega) (by omega) hD)
  have hFR := Lib.hid (fun W => R.find_any c name D W (by omega) (by omega) hD)
  have hA := Lib.hid (fun W => add_any c name ino D W (by omega) (by omega) z2 hD)
  have hAR := Lib.hid (fun W => R.add_any c name ino D W (by omega) (by omega) z2 hD)
  have hX := Lib.hid (fun W => drop_any c name D W (by omega) (by omega) hD)
  have hXR := Lib.hid (fun W => R.drop_any c name D W (by omega) (by omega) hD)
  have hS := Lib.hid (fun W => set_any c name ino D W (by omega) (by omega) z2 hD)
  have hSR := Lib.hid (fun W => R.set_any c name ino D W (by omega) (by omega) z2 hD)
  generalize findVo D name = fv at *
  generalize findEo D name = fe at *
  generalize addVo D name ino = av at *
  generalize addEo D name ino = ae at *
  generalize dropVo D name = dv at *
  generalize setVo D name ino = sv at *
  generalize setEo D name ino = se at *
  have ha : (av.toList == av.toList) = true := beq_yes rfl
  have hd : (dv.toList == dv.toList) = true := beq_yes rfl
  have hq : (sv.toList == sv.toList) = true := beq_yes rfl
  clear hc hcz hD z0 z1
  go_enter Try.func4, Try.ntmps4
  go_wp2_with (first
      | (go_at_call 9; refine (shown_any _).mono ?_; rintro e w1 ⟨rfl, hB1⟩)
      | (go_at_call 10; (with_reducible refine Calls.mono (hcut.out _) ?_); rintro e w2 ⟨rfl, rfl⟩)
      | (go_at_call 18; (with_reducible refine Calls.mono (hF.out _) ?_); rintro e w3 ⟨rfl, hB3⟩)
      | (go_at_call 19; (with_reducible refine Calls.mono (hFR.out _) ?_); rintro e w4 ⟨rfl, hB4⟩)
      | (go_at_call 20; (with_reducible refine Calls.mono (hA.out _) ?_); rintro e w5 ⟨rfl, hB5⟩)
      | (go_at_call 21; (with_reducible refine Calls.mono (hAR.out _) ?_); rintro e w6 ⟨rfl, hB6⟩)
      | (go_at_call 22; (with_reducible refine Calls.mono (hX.out _) ?_); rintro e w7 ⟨rfl, hB7⟩)
      | (go_at_call 23; (with_reducible refine Calls.mono (hXR.out _) ?_); rintro e w8 ⟨rfl, hB8⟩)
      | (go_at_call 24; (with_reducible refine Calls.mono (hS.out _) ?_); rintro e w9 ⟨rfl, hB9⟩)
      | (go_at_call 25; (with_reducible refine Calls.mono (hSR.out _) ?_); rintro e w10 ⟨rfl, hB10⟩))
  go_ret
  exact ⟨rfl, below_th (below_th (below_th (below_th (below_th (below_th (below_th (below_th hB1 hB3) hB4) hB5) hB6) hB7) hB8) hB9) hB10⟩
end
end Go.Proofs.Ytafbkagoajcmeaa.Dir
