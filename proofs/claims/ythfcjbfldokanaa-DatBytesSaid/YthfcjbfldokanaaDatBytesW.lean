/- DatBytes, walked. -/
import Derived.Test.YthfcjbfldokanaaDatRefE
import Derived.Test.YthfcjbfldokanaaDatRefD
import Derived.Test.YthfcjbfldokanaaDatArgs
namespace Go.Proofs.Ythfcjbfldokanaa.Dat
open Go.RowKit
attribute [local go_sem] Oper.semAt_some
set_option linter.unusedVariables false
section
set_option maxRecDepth 100000
set_option maxHeartbeats 4000000
theorem DatBytes_walk (v : Value) (L : List T) (n : Int) (w : World) (hL : Trs w v L) (wL : ∀ o ∈ L, TOk o) (k1 : (Lit.int .i64 n).wf = true) :
    Calls Try.prog 5 #[v, .int .i64 n] w fun e w' => e = .returned (.bool true) ∧ Below w.heap.size w w' := by
  clear k1 wL
  obtain ⟨M, hM⟩ : ∃ M, L.take 2000 = M := ⟨_, rfl⟩
  obtain ⟨N, hN⟩ : ∃ N, M.length = N := ⟨_, rfl⟩
  have HCut := Lib.hid (fun W h => cut_at v L M N hM hN W h)
  have HL := Lib.hid hL
  have h1 := fun v W (h : Trs W v M) => encode_any v M W h
  have h2 := fun v W (h : Trs W v M) => R.encode_any v M W h
  have h3 := fun v W (h : Trs W v M) => counts_any v M n W h
  have h4 := fun v W (h : Trs W v M) => R.counts_any v M n W h
  unfold EncPost at h1 h2
  unfold CntPost at h3 h4
  obtain ⟨b1, e1⟩ : ∃ x, encE M = x := ⟨_, rfl⟩
  obtain ⟨b2, e2⟩ : ∃ x, cntE M n = x := ⟨_, rfl⟩
  obtain ⟨X, e3⟩ : ∃ x, encV M = x := ⟨_, rfl⟩
  obtain ⟨Y, e4⟩ : ∃ x, cntV M n = x := ⟨_, rfl⟩
  simp only [e1, e3] at h1 h2
  simp only [e2, e4] at h3 h4
  have H1 := Lib.hid h1
  have H2 := Lib.hid h2
  have H3 := Lib.hid h3
  have H4 := Lib.hid h4
  have HSX := Lib.hid (fun v1 v2 W h1 h2 => R.texts_yes v1 v2 X W h1 h2)
  have HSY := Lib.hid (fun v1 v2 W h1 h2 => R.ints_yes v1 v2 Y W h1 h2)
  clear h1 h2 h3 h4 e1 e2 e3 e4 hM hN hL
  obtain ⟨W0, rfl⟩ : ∃ W0 : World, W0 = w := ⟨_, rfl⟩
  go_enter Try.func5, Try.ntmps5
  go_wp2_with (first
    | (go_at_call 9; (with_reducible refine Calls.mono (shown_any _) ?_); rintro e w1 ⟨rfl, hB1⟩; have HL1 := Lib.hid (HL.out.below hB1))
    | (go_at_call 10; (with_reducible refine Calls.mono (HCut.out _ HL1.out) ?_); rintro e w2 ⟨a, cap, rfl, HT, hc1, hc2, rfl⟩)
    | (go_at_call 24; (with_reducible refine Calls.mono (H1.out _ _ HT.out) ?_); rintro e w3 ⟨v3, rfl, hX3, hB3⟩; have HT := Lib.hid (HT.out.below hB3); have HX3 := Lib.hid hX3; have HB3 := Lib.hid (below_th hB1 hB3); clear hX3 hB3)
    | (go_at_call 25; (with_reducible refine Calls.mono (H2.out _ _ HT.out) ?_); rintro e w4 ⟨v4, rfl, hX4, hB4⟩; have HT := Lib.hid (HT.out.below hB4); have HX3 := Lib.hid (HX3.out.below hB4); have HX4 := Lib.hid hX4; have HB4 := Lib.hid (below_th HB3.out hB4); clear hX4 hB4)
    | (go_at_call 26; (with_reducible refine Calls.mono (H3.out _ _ HT.out) ?_); rintro e w5 ⟨v5, rfl, hY5, hB5⟩; have HT := Lib.hid (HT.out.below hB5); have HX3 := Lib.hid (HX3.out.below hB5); have HX4 := Lib.hid (HX4.out.below hB5); have HY5 := Lib.hid hY5; have HB5 := Lib.hid (below_th HB4.out hB5); clear hY5 hB5)
    | (go_at_call 27; (with_reducible refine Calls.mono (H4.out _ _ HT.out) ?_); rintro e w6 ⟨v6, rfl, hY6, hB6⟩; have HX3 := Lib.hid (HX3.out.below hB6); have HX4 := Lib.hid (HX4.out.below hB6); have HY5 := Lib.hid (HY5.out.below hB6); have HY6 := Lib.hid hY6; have HB6 := Lib.hid (below_th HB5.out hB6); clear hY6 hB6)
    | (go_at_call 28; (with_reducible refine Calls.mono (HSX.out _ _ _ HX3.out HX4.out) ?_); rintro e w9 ⟨rfl, hB9⟩; have HY5 := Lib.hid (HY5.out.below hB9); have HY6 := Lib.hid (HY6.out.below hB9); have HB9 := Lib.hid (below_th HB6.out hB9); clear hB9)
    | (go_at_call 29; (with_reducible refine Calls.mono (HSY.out _ _ _ HY5.out HY6.out) ?_); rintro e wb ⟨rfl, hBb⟩))
  go_ret
  exact ⟨by simp, below_th HB9.out hBb⟩
end
end Go.Proofs.Ythfcjbfldokanaa.Dat
