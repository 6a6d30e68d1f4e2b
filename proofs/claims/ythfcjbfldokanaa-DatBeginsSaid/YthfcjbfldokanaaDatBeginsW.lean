/- DatBegins, walked. -/
import Derived.Test.YthfcjbfldokanaaDatRefB
import Derived.Test.YthfcjbfldokanaaDatArgs
namespace Go.Proofs.Ythfcjbfldokanaa.Dat
open Go.RowKit
attribute [local go_sem] Oper.semAt_some
set_option linter.unusedVariables false

theorem same_yes (v1 v2 : Value) (X : List T) (W : World) (h1 : Trs W v1 X) (h2 : Trs W v2 X) : Calls Try.prog 17 #[v1, v2] W fun e w' => e = .returned (.bool true) ∧ Below W.heap.size W w' := by
  have h := R.same_any v1 v2 X X W h1 h2
  rw [decide_eq_true rfl] at h
  exact h
section
set_option maxRecDepth 100000
set_option maxHeartbeats 4000000
theorem DatBegins_walk (v : Value) (L : List T) (ph cp i : Int) (w : World) (hL : Trs w v L) (wL : ∀ o ∈ L, TOk o) (k1 : (Lit.int .u32 ph).wf = true) (k2 : (Lit.int .u64 cp).wf = true) (k3 : (Lit.int .u32 i).wf = true) :
    Calls Try.prog 3 #[v, .int .u32 ph, .int .u64 cp, .int .u32 i] w fun e w' => e = .returned (.bool true) ∧ Below w.heap.size w w' := by
  have hi9 := (bounds32 k3).2
  obtain ⟨ph, rfl⟩ := Int.eq_ofNat_of_zero_le (bounds32 k1).1
  obtain ⟨cp, rfl⟩ := Int.eq_ofNat_of_zero_le (boundsU k2).1
  obtain ⟨i, rfl⟩ := Int.eq_ofNat_of_zero_le (bounds32 k3).1
  have hi : i < 4294967296 := by omega
  clear k1 k2 k3 wL hi9
  obtain ⟨M, hM⟩ : ∃ M, L.take 2000 = M := ⟨_, rfl⟩
  obtain ⟨N, hN⟩ : ∃ N, M.length = N := ⟨_, rfl⟩
  have HCut := Lib.hid (fun W h => cut_at v L M N hM hN W h)
  have HL := Lib.hid hL
  have h1 := fun v W (h : Trs W v M) => begin_any v M ph cp W h
  have h2 := fun v W (h : Trs W v M) => R.begin_any v M ph cp W h
  have h3 := fun v W (h : Trs W v M) => move_any v M i ph W h hi
  have h4 := fun v W (h : Trs W v M) => R.move_any v M i ph W h hi
  have h5 := fun v W (h : Trs W v M) => right_any v M W h
  have h6 := fun v W (h : Trs W v M) => R.right_any v M W h
  unfold BegPost at h1 h2
  unfold TabPost at h3 h4
  obtain ⟨b1, e1⟩ : ∃ x, begI M ph cp = x := ⟨_, rfl⟩
  obtain ⟨b2, e2⟩ : ∃ x, begE M ph cp = x := ⟨_, rfl⟩
  obtain ⟨b3, e3⟩ : ∃ x, movE M i ph = x := ⟨_, rfl⟩
  obtain ⟨b4, e4⟩ : ∃ x, rightB M = x := ⟨_, rfl⟩
  obtain ⟨X, e5⟩ : ∃ x, begV M ph cp = x := ⟨_, rfl⟩
  obtain ⟨Y, e6⟩ : ∃ x, movV M i ph = x := ⟨_, rfl⟩
  simp only [e1, e2, e5] at h1 h2
  simp only [e3, e6] at h3 h4
  simp only [e4] at h5 h6
  have H1 := Lib.hid h1
  have H2 := Lib.hid h2
  have H3 := Lib.hid h3
  have H4 := Lib.hid h4
  have H5 := Lib.hid h5
  have H6 := Lib.hid h6
  have HSX := Lib.hid (fun v1 v2 W h1 h2 => same_yes v1 v2 X W h1 h2)
  have HSY := Lib.hid (fun v1 v2 W h1 h2 => same_yes v1 v2 Y W h1 h2)
  clear h1 h2 h3 h4 h5 h6 e1 e2 e3 e4 e5 e6 hM hN hL
  obtain ⟨W0, rfl⟩ : ∃ W0 : World, W0 = w := ⟨_, rfl⟩
  go_enter Try.func3, Try.ntmps3
  go_wp2_with (first
    | (go_at_call 9; (with_reducible refine Calls.mono (shown_any _) ?_); rintro e w1 ⟨rfl, hB1⟩; have HL1 := Lib.hid (HL.out.below hB1))
    | (go_at_call 10; (with_reducible refine Calls.mono (HCut.out _ HL1.out) ?_); rintro e w2 ⟨a, cap, rfl, HT, hc1, hc2, rfl⟩)
    | (go_at_call 11; (with_reducible refine Calls.mono (H1.out _ _ HT.out) ?_); rintro e w3 ⟨v3, rfl, hX3, hB3⟩; have HT := Lib.hid (HT.out.below hB3); have HX3 := Lib.hid hX3; have HB3 := Lib.hid (below_th hB1 hB3); clear hX3 hB3)
    | (go_at_call 12; (with_reducible refine Calls.mono (H2.out _ _ HT.out) ?_); rintro e w4 ⟨v4, rfl, hX4, hB4⟩; have HT := Lib.hid (HT.out.below hB4); have HX3 := Lib.hid (HX3.out.below hB4); have HX4 := Lib.hid hX4; have HB4 := Lib.hid (below_th HB3.out hB4); clear hX4 hB4)
    | (go_at_call 13; (with_reducible refine Calls.mono (H3.out _ _ HT.out) ?_); rintro e w5 ⟨v5, rfl, hY5, hB5⟩; have HT := Lib.hid (HT.out.below hB5); have HX3 := Lib.hid (HX3.out.below hB5); have HX4 := Lib.hid (HX4.out.below hB5); have HY5 := Lib.hid hY5; have HB5 := Lib.hid (below_th HB4.out hB5); clear hY5 hB5)
    | (go_at_call 14; (with_reducible refine Calls.mono (H4.out _ _ HT.out) ?_); rintro e w6 ⟨v6, rfl, hY6, hB6⟩; have HT := Lib.hid (HT.out.below hB6); have HX3 := Lib.hid (HX3.out.below hB6); have HX4 := Lib.hid (HX4.out.below hB6); have HY5 := Lib.hid (HY5.out.below hB6); have HY6 := Lib.hid hY6; have HB6 := Lib.hid (below_th HB5.out hB6); clear hY6 hB6)
    | (go_at_call 15; (with_reducible refine Calls.mono (H5.out _ _ HT.out) ?_); rintro e w7 ⟨rfl, hB7⟩; have HT := Lib.hid (HT.out.below hB7); have HX3 := Lib.hid (HX3.out.below hB7); have HX4 := Lib.hid (HX4.out.below hB7); have HY5 := Lib.hid (HY5.out.below hB7); have HY6 := Lib.hid (HY6.out.below hB7); have HB7 := Lib.hid (below_th HB6.out hB7); clear hB7)
    | (go_at_call 16; (with_reducible refine Calls.mono (H6.out _ _ HT.out) ?_); rintro e w8 ⟨rfl, hB8⟩; have HX3 := Lib.hid (HX3.out.below hB8); have HX4 := Lib.hid (HX4.out.below hB8); have HY5 := Lib.hid (HY5.out.below hB8); have HY6 := Lib.hid (HY6.out.below hB8); have HB8 := Lib.hid (below_th HB7.out hB8); clear hB8)
    | (go_at_call 17; (with_reducible refine Calls.mono (HSY.out _ _ _ HY5.out HY6.out) ?_); rintro e wb ⟨rfl, hBb⟩)
    | (go_at_call 17; (with_reducible refine Calls.mono (HSX.out _ _ _ HX3.out HX4.out) ?_); rintro e w9 ⟨rfl, hB9⟩; have HY5 := Lib.hid (HY5.out.below hB9); have HY6 := Lib.hid (HY6.out.below hB9); have HB9 := Lib.hid (below_th HB8.out hB9); clear hB9))
  go_ret
  exact ⟨by simp, below_th HB9.out hBb⟩
end
end Go.Proofs.Ythfcjbfldokanaa.Dat
