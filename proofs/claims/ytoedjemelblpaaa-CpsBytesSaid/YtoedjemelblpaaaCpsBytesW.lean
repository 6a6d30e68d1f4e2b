/- CpsBytes, walked. -/
import Derived.Test.YtoedjemelblpaaaCpsRefD
import Derived.Test.YtoedjemelblpaaaCpsBackW
namespace Go.Proofs.Ytoedjemelblpaaa.Cps
open Go.RowKit
attribute [local go_sem] Oper.semAt_some
set_option linter.unusedVariables false
set_option linter.unusedSimpArgs false
section
set_option maxRecDepth 100000
set_option maxHeartbeats 8000000
theorem CpsBytes_walk (v1 : Value) (L : List C) (v2 : Value) (T0 : List ByteArray) (w : World) (hL : Chs w v1 L) (wL : ∀ o ∈ L, COk o) (hT0 : Lies w v2 T0.length 1 (T0.map .string)) (wT : ∀ s ∈ T0, s.size ≤ maxLen) :
    Calls Try.prog 5 #[v1, v2] w fun e w' => e = .returned (.bool true) ∧ Below w.heap.size w w' := by
  clear wL wT
  obtain ⟨M, hM⟩ : ∃ M, L.take 200 = M := ⟨_, rfl⟩
  obtain ⟨N, hN⟩ : ∃ N, M.length = N := ⟨_, rfl⟩
  have HCut := Lib.hid (fun W h => cut_at v1 L M N hM hN W h)
  have HL := Lib.hid hL
  have hT1 : Strs w v2 T0 := hT0
  obtain ⟨at_, ct, rfl, hct1, hct2⟩ := hT1.parts
  obtain ⟨n0, hn0⟩ : ∃ n, T0.length = n := ⟨_, rfl⟩
  rw [hn0] at hT1 hct1 ⊢
  obtain ⟨K, hK⟩ : ∃ K, min n0 20 = K := ⟨_, rfl⟩
  have hT2 := strs_cut hT1 hn0 hK
  obtain ⟨T, hT⟩ : ∃ T, T0.take 20 = T := ⟨_, rfl⟩
  rw [hT] at hT2
  have HT := Lib.hid hT2
  have hK2 : (min (n0 : Int) 20).toNat = K := by omega
  have hK3 : min (n0 : Int) 20 ≤ (ct : Int) := by omega
  have hK4 : 0 ≤ min (n0 : Int) 20 := by omega
  have H1 := Lib.hid (fun v W (h : Chs W v M) => encode_any v M W h)
  have H2 := Lib.hid (fun v W (h : Chs W v M) => R.encode_any v M W h)
  have H3 := Lib.hid (fun v W (h : Strs W v T) => decode_any v T W h)
  have H4 := Lib.hid (fun v W (h : Strs W v T) => R.decode_any v T W h)
  have HPC := Lib.hid (fun W v X (h : Chs W v X) => h.parts)
  have HPS := Lib.hid (fun W v X (h : Strs W v X) => h.parts)
  unfold EncPost at H1 H2
  unfold DecPost at H3 H4
  obtain ⟨X, hX⟩ : ∃ X, encV M = X := ⟨_, rfl⟩
  obtain ⟨e1, he1⟩ : ∃ X, encE M = X := ⟨_, rfl⟩
  obtain ⟨Y, hY⟩ : ∃ X, decV T = X := ⟨_, rfl⟩
  obtain ⟨e2, he2⟩ : ∃ X, decE T = X := ⟨_, rfl⟩
  rw [hX, he1] at H1 H2
  rw [hY, he2] at H3 H4
  have HST := Lib.hid (fun v1 v2 W h1 h2 => sameTexts_any v1 v2 X X W h1 h2)
  have HSM := Lib.hid (fun v1 v2 W h1 h2 => same_any v1 v2 Y Y W h1 h2)
  simp only [decide_true] at HST HSM
  clear hM hN hL hT0 hT1 hT2 hT hn0 hK hct1 hX hY he1 he2
  obtain ⟨W0, rfl⟩ : ∃ W0 : World, W0 = w := ⟨_, rfl⟩
  go_enter Try.func5, Try.ntmps5
  go_wp2_with (first
    | (go_at_call 11; (with_reducible refine Calls.mono (shown_any _) ?_); rintro e w1 ⟨rfl, hB1⟩; have HL1 := Lib.hid (HL.out.below hB1); have HT1 := Lib.hid (HT.out.below hB1))
    | (go_at_call 12; (with_reducible refine Calls.mono (HCut.out _ HL1.out) ?_); rintro e w2 ⟨a, cap, rfl, HM, hc1, hc2, rfl⟩)
    | (go_at_call 29; (with_reducible refine Calls.mono (H1.out _ _ HM.out) ?_); rintro e w3 ⟨v3, rfl, hX3, hB3⟩; obtain ⟨a3, c3, rfl, _⟩ := HPS.out _ _ _ hX3; have HM := Lib.hid (HM.out.below hB3); have HT1 := Lib.hid (HT1.out.below hB3); have HX3 := Lib.hid hX3; have HB3 := Lib.hid (below_th hB1 hB3); clear hX3 hB3)
    | (go_at_call 30; (with_reducible refine Calls.mono (H2.out _ _ HM.out) ?_); rintro e w4 ⟨v4, rfl, hX4, hB4⟩; obtain ⟨a4, c4, rfl, _⟩ := HPS.out _ _ _ hX4; have HX3 := Lib.hid (HX3.out.below hB4); have HT1 := Lib.hid (HT1.out.below hB4); have HX4 := Lib.hid hX4; have HB4 := Lib.hid (below_th HB3.out hB4); clear hX4 hB4)
    | (go_at_call 31; (with_reducible refine Calls.mono (H3.out _ _ HT1.out) ?_); rintro e w5 ⟨v5, rfl, hD5, hB5⟩; obtain ⟨a5, c5, rfl, _⟩ := HPC.out _ _ _ hD5; have HX3 := Lib.hid (HX3.out.below hB5); have HX4 := Lib.hid (HX4.out.below hB5); have HT1 := Lib.hid (HT1.out.below hB5); have HD5 := Lib.hid hD5; have HB5 := Lib.hid (below_th HB4.out hB5); clear hD5 hB5)
    | (go_at_call 32; (with_reducible refine Calls.mono (H4.out _ _ HT1.out) ?_); rintro e w6 ⟨v6, rfl, hD6, hB6⟩; obtain ⟨a6, c6, rfl, _⟩ := HPC.out _ _ _ hD6; have HX3 := Lib.hid (HX3.out.below hB6); have HX4 := Lib.hid (HX4.out.below hB6); have HD5 := Lib.hid (HD5.out.below hB6); have HD6 := Lib.hid hD6; have HB6 := Lib.hid (below_th HB5.out hB6); clear hD6 hB6)
    | (go_at_call 33; (with_reducible refine Calls.mono (HST.out _ _ _ HX3.out HX4.out) ?_); rintro e w7 ⟨rfl, hB7⟩; have HD5 := Lib.hid (HD5.out.below hB7); have HD6 := Lib.hid (HD6.out.below hB7); have HB7 := Lib.hid (below_th HB6.out hB7); clear hB7)
    | (go_at_call 19; (with_reducible refine Calls.mono (HSM.out _ _ _ HD5.out HD6.out) ?_); rintro e w8 ⟨rfl, hB8⟩; have HB8 := Lib.hid (below_th HB7.out hB8); clear hB8))
  go_ret
  exact ⟨by simp, HB8.out⟩
end
end Go.Proofs.Ytoedjemelblpaaa.Cps
