/- CpsBack, walked. -/
import Derived.Test.YtoedjemelblpaaaCpsDec
import Derived.Test.YtoedjemelblpaaaCpsArgs
namespace Go.Proofs.Ytoedjemelblpaaa.Cps
open Go.RowKit
attribute [local go_sem] Oper.semAt_some
set_option linter.unusedVariables false
set_option linter.unusedSimpArgs false
/-- the first texts -/
theorem Strs.cut {w : World} {a : Option Addr} {n cap : Nat} {X : List ByteArray} (h : Strs w (.slice a n cap) X) (m : Nat) (hm : m ≤ X.length) : Strs w (.slice a m cap) (X.take m) := by
  obtain ⟨a1, cap1, e, h2, h3, h4, h5⟩ := h
  cases e
  have hl : (X.take m).length = m := by rw [List.length_take]; omega
  refine ⟨a, cap, by rw [hl], by omega, h3, by simp, fun hn => ?_⟩
  obtain ⟨b, off, e2, hc⟩ := h5 (by omega)
  refine ⟨b, off, e2, fun j u hj => hc j u ?_⟩
  rw [List.map_take, List.getElem?_take] at hj
  split at hj
  · exact hj
  · cases hj
theorem strs_cut {w : World} {a : Option Addr} {n cap K : Nat} {X : List ByteArray} (h : Strs w (.slice a n cap) X) (hn : X.length = n) (hK : min n 20 = K) : Strs w (.slice a K cap) (X.take 20) := by
  have h1 := h.cut K (by omega)
  have e : X.take K = X.take 20 := by
    rcases Nat.lt_or_ge 20 X.length with h | h
    · rw [show K = 20 by omega]
    · rw [show K = X.length by omega, List.take_length, List.take_of_length_le h]
  rwa [e] at h1
theorem DecP.of_right {L : List C} (h : RightP L) : DecP (encV L) L := ⟨h, rfl⟩
section
set_option maxRecDepth 100000
set_option maxHeartbeats 4000000
theorem CpsBack_walk (v1 : Value) (L : List C) (v2 : Value) (T0 : List ByteArray) (w : World) (hL : Chs w v1 L) (wL : ∀ o ∈ L, COk o) (hT0 : Lies w v2 T0.length 1 (T0.map .string)) (wT : ∀ s ∈ T0, s.size ≤ maxLen) :
    Calls Try.prog 6 #[v1, v2] w fun e w' => e = .returned (.bool true) ∧ Below w.heap.size w w' := by
  clear wL wT
  obtain ⟨M, hM⟩ : ∃ M, L.take 200 = M := ⟨_, rfl⟩
  obtain ⟨N, hN⟩ : ∃ N, M.length = N := ⟨_, rfl⟩
  have HCut := Lib.hid (fun W h => cut_at v1 L M N hM hN W h)
  have HL := Lib.hid hL
  have hT1 : Strs w v2 T0 := hT0
  obtain ⟨at_, ct, rfl, hct1, hct2⟩ := hT1.parts
  obtain ⟨n0, hn0⟩ : ∃ n, T0.length = n := ⟨_, rfl⟩
  rw [hn0] at hT1 hct1 ⊢
  obtain ⟨K, hK⟩ : ∃ K, min n0 20 = K := ⟨_, rfl⟩
  have hT2 := strs_cut hT1 hn0 hK
  obtain ⟨T, hT⟩ : ∃ T, T0.take 20 = T := ⟨_, rfl⟩
  rw [hT] at hT2
  have HT := Lib.hid hT2
  have hK2 : (min (n0 : Int) 20).toNat = K := by omega
  have hK3 : min (n0 : Int) 20 ≤ (ct : Int) := by omega
  have hK4 : 0 ≤ min (n0 : Int) 20 := by omega
  have H1 := Lib.hid (fun v W (h : Chs W v M) => encode_any v M W h)
  have H2 := Lib.hid (fun v W (h : Strs W v (encV M)) => decode_any v (encV M) W h)
  have H3 := Lib.hid (fun v W (h : Strs W v T) => decode_any v T W h)
  have H4 := Lib.hid (fun v W (h : Chs W v (decV T)) => encode_any v (decV T) W h)
  have H5 := Lib.hid (fun v W (h : Chs W v M) => right_any v M W h)
  have HPC := Lib.hid (fun W v X (h : Chs W v X) => h.parts)
  have HPS := Lib.hid (fun W v X (h : Strs W v X) => h.parts)
  unfold EncPost at H1 H4
  unfold DecPost at H2 H3
  clear hM hN hL hT0 hT1 hT2 hT hn0 hK hct1
  obtain ⟨W0, rfl⟩ : ∃ W0 : World, W0 = w := ⟨_, rfl⟩
  by_cases hr : RightP M
  · obtain ⟨q1, q2⟩ := dec_yes (DecP.of_right hr)
    rw [show encE M = 0 from if_pos hr] at H1
    rw [q1, q2] at H2
    rw [rightB_yes hr] at H5
    have HSM := Lib.hid (fun v1 v2 W h1 h2 => same_any v1 v2 M M W h1 h2)
    simp only [decide_true] at HSM
    obtain ⟨X, hX⟩ : ∃ X, encV M = X := ⟨_, rfl⟩
    rw [hX] at H1 H2
    clear q1 q2 hr hX
    by_cases hd : decE T = 0
    · have hdp := decE_zero hd
      rw [hd] at H3
      obtain ⟨D, hD⟩ : ∃ D, decV T = D := ⟨_, rfl⟩
      rw [hD] at H3 H4 hdp
      rw [show encE D = 0 from if_pos hdp.1, hdp.2] at H4
      have HST := Lib.hid (fun v1 v2 W h1 h2 => sameTexts_any v1 v2 T T W h1 h2)
      simp only [decide_true] at HST
      clear hdp hD hd
      go_enter Try.func6, Try.ntmps6
      go_wp2_with (first
        | (go_at_call 11; (with_reducible refine Calls.mono (shown_any _) ?_); rintro e w1 ⟨rfl, hB1⟩; have HL1 := Lib.hid (HL.out.below hB1); have HT1 := Lib.hid (HT.out.below hB1))
        | (go_at_call 12; (with_reducible refine Calls.mono (HCut.out _ HL1.out) ?_); rintro e w2 ⟨a, cap, rfl, HM, hc1, hc2, rfl⟩)
        | (go_at_call 29; (with_reducible refine Calls.mono (H1.out _ _ HM.out) ?_); rintro e w3 ⟨v3, rfl, hX3, hB3⟩; obtain ⟨a3, c3, rfl, _⟩ := HPS.out _ _ _ hX3; have HM := Lib.hid (HM.out.below hB3); have HT1 := Lib.hid (HT1.out.below hB3); have HX3 := Lib.hid hX3; have HB3 := Lib.hid (below_th hB1 hB3); clear hX3 hB3)
        | (go_at_call 31; (with_reducible refine Calls.mono (H2.out _ _ HX3.out) ?_); rintro e w4 ⟨v4, rfl, hM4, hB4⟩; obtain ⟨a4, c4, rfl, _⟩ := HPC.out _ _ _ hM4; have HM := Lib.hid (HM.out.below hB4); have HT1 := Lib.hid (HT1.out.below hB4); have HM4 := Lib.hid hM4; have HB4 := Lib.hid (below_th HB3.out hB4); clear hM4 hB4)
        | (go_at_call 31; (with_reducible refine Calls.mono (H3.out _ _ HT1.out) ?_); rintro e w5 ⟨v5, rfl, hD5, hB5⟩; obtain ⟨a5, c5, rfl, _⟩ := HPC.out _ _ _ hD5; have HM := Lib.hid (HM.out.below hB5); have HT1 := Lib.hid (HT1.out.below hB5); have HM4 := Lib.hid (HM4.out.below hB5); have HD5 := Lib.hid hD5; have HB5 := Lib.hid (below_th HB4.out hB5); clear hD5 hB5)
        | (go_at_call 29; (with_reducible refine Calls.mono (H4.out _ _ HD5.out) ?_); rintro e w6 ⟨v6, rfl, hX6, hB6⟩; obtain ⟨a6, c6, rfl, _⟩ := HPS.out _ _ _ hX6; have HM := Lib.hid (HM.out.below hB6); have HT1 := Lib.hid (HT1.out.below hB6); have HM4 := Lib.hid (HM4.out.below hB6); have HX6 := Lib.hid hX6; have HB6 := Lib.hid (below_th HB5.out hB6); clear hX6 hB6)
        | (go_at_call 19; (with_reducible refine Calls.mono (HSM.out _ _ _ HM4.out HM.out) ?_); rintro e w7 ⟨rfl, hB7⟩; have HM := Lib.hid (HM.out.below hB7); have HT1 := Lib.hid (HT1.out.below hB7); have HX6 := Lib.hid (HX6.out.below hB7); have HB7 := Lib.hid (below_th HB6.out hB7); clear hB7)
        | (go_at_call 17; (with_reducible refine Calls.mono (H5.out _ _ HM.out) ?_); rintro e w8 ⟨rfl, hB8⟩; have HT1 := Lib.hid (HT1.out.below hB8); have HX6 := Lib.hid (HX6.out.below hB8); have HB8 := Lib.hid (below_th HB7.out hB8); clear hB8)
        | (go_at_call 33; (with_reducible refine Calls.mono (HST.out _ _ _ HX6.out HT1.out) ?_); rintro e w9 ⟨rfl, hB9⟩))
      go_ret
      exact ⟨by simp, below_th HB8.out hB9⟩
    · obtain ⟨n, hn⟩ : ∃ n, decE T = n := ⟨_, rfl⟩
      rw [hn] at H3 hd
      have g1 : (n == 0) = false := by simp [hd]
      have g2 : (n != 0) = true := by simp [hd]
      generalize decV T = D at H3 H4
      generalize encV D = Y at H4
      generalize encE D = m at H4
      clear hn hd
      go_enter Try.func6, Try.ntmps6
      go_wp2_with (first
        | (go_at_call 11; (with_reducible refine Calls.mono (shown_any _) ?_); rintro e w1 ⟨rfl, hB1⟩; have HL1 := Lib.hid (HL.out.below hB1); have HT1 := Lib.hid (HT.out.below hB1))
        | (go_at_call 12; (with_reducible refine Calls.mono (HCut.out _ HL1.out) ?_); rintro e w2 ⟨a, cap, rfl, HM, hc1, hc2, rfl⟩)
        | (go_at_call 29; (with_reducible refine Calls.mono (H1.out _ _ HM.out) ?_); rintro e w3 ⟨v3, rfl, hX3, hB3⟩; obtain ⟨a3, c3, rfl, _⟩ := HPS.out _ _ _ hX3; have HM := Lib.hid (HM.out.below hB3); have HT1 := Lib.hid (HT1.out.below hB3); have HX3 := Lib.hid hX3; have HB3 := Lib.hid (below_th hB1 hB3); clear hX3 hB3)
        | (go_at_call 31; (with_reducible refine Calls.mono (H2.out _ _ HX3.out) ?_); rintro e w4 ⟨v4, rfl, hM4, hB4⟩; obtain ⟨a4, c4, rfl, _⟩ := HPC.out _ _ _ hM4; have HM := Lib.hid (HM.out.below hB4); have HT1 := Lib.hid (HT1.out.below hB4); have HM4 := Lib.hid hM4; have HB4 := Lib.hid (below_th HB3.out hB4); clear hM4 hB4)
        | (go_at_call 31; (with_reducible refine Calls.mono (H3.out _ _ HT1.out) ?_); rintro e w5 ⟨v5, rfl, hD5, hB5⟩; obtain ⟨a5, c5, rfl, _⟩ := HPC.out _ _ _ hD5; have HM := Lib.hid (HM.out.below hB5); have HM4 := Lib.hid (HM4.out.below hB5); have HD5 := Lib.hid hD5; have HB5 := Lib.hid (below_th HB4.out hB5); clear hD5 hB5)
        | (go_at_call 29; (with_reducible refine Calls.mono (H4.out _ _ HD5.out) ?_); rintro e w6 ⟨v6, rfl, hX6, hB6⟩; obtain ⟨a6, c6, rfl, _⟩ := HPS.out _ _ _ hX6; have HM := Lib.hid (HM.out.below hB6); have HM4 := Lib.hid (HM4.out.below hB6); have HB6 := Lib.hid (below_th HB5.out hB6); clear hX6 hB6)
        | (go_at_call 19; (with_reducible refine Calls.mono (HSM.out _ _ _ HM4.out HM.out) ?_); rintro e w7 ⟨rfl, hB7⟩; have HM := Lib.hid (HM.out.below hB7); have HB7 := Lib.hid (below_th HB6.out hB7); clear hB7)
        | (go_at_call 17; (with_reducible refine Calls.mono (H5.out _ _ HM.out) ?_); rintro e w8 ⟨rfl, hB8⟩; have HB8 := Lib.hid (below_th HB7.out hB8); clear hB8))
      go_ret
      exact ⟨by simp, HB8.out⟩
  · rw [show encE M = 90 from if_neg hr] at H1
    rw [rightB_no hr] at H5
    generalize encV M = X at H1 H2
    generalize decV X = D2 at H2
    generalize decE X = m2 at H2
    clear hr
    by_cases hd : decE T = 0
    · have hdp := decE_zero hd
      rw [hd] at H3
      obtain ⟨D, hD⟩ : ∃ D, decV T = D := ⟨_, rfl⟩
      rw [hD] at H3 H4 hdp
      rw [show encE D = 0 from if_pos hdp.1, hdp.2] at H4
      have HST := Lib.hid (fun v1 v2 W h1 h2 => sameTexts_any v1 v2 T T W h1 h2)
      simp only [decide_true] at HST
      clear hdp hD hd
      go_enter Try.func6, Try.ntmps6
      go_wp2_with (first
        | (go_at_call 11; (with_reducible refine Calls.mono (shown_any _) ?_); rintro e w1 ⟨rfl, hB1⟩; have HL1 := Lib.hid (HL.out.below hB1); have HT1 := Lib.hid (HT.out.below hB1))
        | (go_at_call 12; (with_reducible refine Calls.mono (HCut.out _ HL1.out) ?_); rintro e w2 ⟨a, cap, rfl, HM, hc1, hc2, rfl⟩)
        | (go_at_call 29; (with_reducible refine Calls.mono (H1.out _ _ HM.out) ?_); rintro e w3 ⟨v3, rfl, hX3, hB3⟩; obtain ⟨a3, c3, rfl, _⟩ := HPS.out _ _ _ hX3; have HM := Lib.hid (HM.out.below hB3); have HT1 := Lib.hid (HT1.out.below hB3); have HX3 := Lib.hid hX3; have HB3 := Lib.hid (below_th hB1 hB3); clear hX3 hB3)
        | (go_at_call 31; (with_reducible refine Calls.mono (H2.out _ _ HX3.out) ?_); rintro e w4 ⟨v4, rfl, hM4, hB4⟩; obtain ⟨a4, c4, rfl, _⟩ := HPC.out _ _ _ hM4; have HM := Lib.hid (HM.out.below hB4); have HT1 := Lib.hid (HT1.out.below hB4); have HB4 := Lib.hid (below_th HB3.out hB4); clear hM4 hB4)
        | (go_at_call 31; (with_reducible refine Calls.mono (H3.out _ _ HT1.out) ?_); rintro e w5 ⟨v5, rfl, hD5, hB5⟩; obtain ⟨a5, c5, rfl, _⟩ := HPC.out _ _ _ hD5; have HM := Lib.hid (HM.out.below hB5); have HT1 := Lib.hid (HT1.out.below hB5); have HD5 := Lib.hid hD5; have HB5 := Lib.hid (below_th HB4.out hB5); clear hD5 hB5)
        | (go_at_call 29; (with_reducible refine Calls.mono (H4.out _ _ HD5.out) ?_); rintro e w6 ⟨v6, rfl, hX6, hB6⟩; obtain ⟨a6, c6, rfl, _⟩ := HPS.out _ _ _ hX6; have HM := Lib.hid (HM.out.below hB6); have HT1 := Lib.hid (HT1.out.below hB6); have HX6 := Lib.hid hX6; have HB6 := Lib.hid (below_th HB5.out hB6); clear hX6 hB6)
        | (go_at_call 17; (with_reducible refine Calls.mono (H5.out _ _ HM.out) ?_); rintro e w8 ⟨rfl, hB8⟩; have HT1 := Lib.hid (HT1.out.below hB8); have HX6 := Lib.hid (HX6.out.below hB8); have HB8 := Lib.hid (below_th HB6.out hB8); clear hB8)
        | (go_at_call 33; (with_reducible refine Calls.mono (HST.out _ _ _ HX6.out HT1.out) ?_); rintro e w9 ⟨rfl, hB9⟩))
      go_ret
      exact ⟨by simp, below_th HB8.out hB9⟩
    · obtain ⟨n, hn⟩ : ∃ n, decE T = n := ⟨_, rfl⟩
      rw [hn] at H3 hd
      have g1 : (n == 0) = false := by simp [hd]
      have g2 : (n != 0) = true := by simp [hd]
      generalize decV T = D at H3 H4
      generalize encV D = Y at H4
      generalize encE D = m at H4
      clear hn hd
      go_enter Try.func6, Try.ntmps6
      go_wp2_with (first
        | (go_at_call 11; (with_reducible refine Calls.mono (shown_any _) ?_); rintro e w1 ⟨rfl, hB1⟩; have HL1 := Lib.hid (HL.out.below hB1); have HT1 := Lib.hid (HT.out.below hB1))
        | (go_at_call 12; (with_reducible refine Calls.mono (HCut.out _ HL1.out) ?_); rintro e w2 ⟨a, cap, rfl, HM, hc1, hc2, rfl⟩)
        | (go_at_call 29; (with_reducible refine Calls.mono (H1.out _ _ HM.out) ?_); rintro e w3 ⟨v3, rfl, hX3, hB3⟩; obtain ⟨a3, c3, rfl, _⟩ := HPS.out _ _ _ hX3; have HM := Lib.hid (HM.out.below hB3); have HT1 := Lib.hid (HT1.out.below hB3); have HX3 := Lib.hid hX3; have HB3 := Lib.hid (below_th hB1 hB3); clear hX3 hB3)
        | (go_at_call 31; (with_reducible refine Calls.mono (H2.out _ _ HX3.out) ?_); rintro e w4 ⟨v4, rfl, hM4, hB4⟩; obtain ⟨a4, c4, rfl, _⟩ := HPC.out _ _ _ hM4; have HM := Lib.hid (HM.out.below hB4); have HT1 := Lib.hid (HT1.out.below hB4); have HB4 := Lib.hid (below_th HB3.out hB4); clear hM4 hB4)
        | (go_at_call 31; (with_reducible refine Calls.mono (H3.out _ _ HT1.out) ?_); rintro e w5 ⟨v5, rfl, hD5, hB5⟩; obtain ⟨a5, c5, rfl, _⟩ := HPC.out _ _ _ hD5; have HM := Lib.hid (HM.out.below hB5); have HD5 := Lib.hid hD5; have HB5 := Lib.hid (below_th HB4.out hB5); clear hD5 hB5)
        | (go_at_call 29; (with_reducible refine Calls.mono (H4.out _ _ HD5.out) ?_); rintro e w6 ⟨v6, rfl, hX6, hB6⟩; obtain ⟨a6, c6, rfl, _⟩ := HPS.out _ _ _ hX6; have HM := Lib.hid (HM.out.below hB6); have HB6 := Lib.hid (below_th HB5.out hB6); clear hX6 hB6)
        | (go_at_call 17; (with_reducible refine Calls.mono (H5.out _ _ HM.out) ?_); rintro e w8 ⟨rfl, hB8⟩; have HB8 := Lib.hid (below_th HB6.out hB8); clear hB8))
      go_ret
      exact ⟨by simp, HB8.out⟩
end
end Go.Proofs.Ytoedjemelblpaaa.Cps
