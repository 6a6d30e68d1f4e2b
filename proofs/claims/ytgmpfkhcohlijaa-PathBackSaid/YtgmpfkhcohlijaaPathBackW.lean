/- PathBack, walked. -/
import Derived.Test.YtgmpfkhcohlijaaPathChainW
namespace Go.Proofs.Ytgmpfkhcohlijaa.Pth
open Go.RowKit Nam
attribute [local go_sem] Oper.semAt_some
set_option linter.unusedVariables false
set_option linter.unusedSimpArgs false
theorem split_fit (s : ByteArray) : fitJ (splitV s) ∧ (splitE s = 0 → (outJ (splitV s)).size ≤ max 1 s.size) ∧ (splitE s = 0 ∨ splitE s = 120) := by
  cases h : splitD s with
  | none =>
    obtain ⟨h1, h2⟩ := split_not h
    rw [h1, h2]
    exact ⟨by decide, fun e => absurd e (by decide), Or.inr rfl⟩
  | some l =>
    obtain ⟨h1, h2⟩ := split_of h
    obtain ⟨h3, h4⟩ := join_split h
    rw [h1, h2]
    exact ⟨h3, fun _ => h4, Or.inl rfl⟩
section
set_option maxRecDepth 100000
set_option maxHeartbeats 2000000
theorem PathBack_walk (v1 : Value) (L1 : List ByteArray) (s : ByteArray) (w : World) (h1 : Strs w v1 L1) (z1 : ∀ p ∈ L1, p.size ≤ maxLen) (z0 : s.size ≤ 140737488351232) : Calls Try.prog 5 #[v1, .string s] w fun e w' => e = .returned (.bool true) ∧ Below w.heap.size w w' := by
  clear z1
  obtain ⟨a1, cap1, rfl, hc1, hd1⟩ := h1.parts
  obtain ⟨n1, hn1⟩ : ∃ n, L1.length = n := ⟨_, rfl⟩
  obtain ⟨m1, hm1⟩ : ∃ m, min n1 50 = m := ⟨_, rfl⟩
  have hp1 : (min (n1 : Int) 50) = (m1 : Int) := by omega
  have k0 := h1.cut m1 (by omega)
  rw [hn1] at hc1 ⊢
  have hq1 : m1 ≤ cap1 := by omega
  have hr1 : (m1 : Int) ≤ (cap1 : Int) := by omega
  generalize L1.take m1 = M at *
  obtain ⟨K, hK⟩ : ∃ K, min s.size 2000 = K := ⟨_, rfl⟩
  have hk1 : (min (s.size : Int) 2000) = (K : Int) := by omega
  have hk2 : (K : Int) ≤ (s.size : Int) := by omega
  have hk3 : K ≤ s.size := by omega
  obtain ⟨c, hc⟩ : ∃ c, s.extract 0 K = c := ⟨_, rfl⟩
  have hcz : c.size ≤ 2000 := by rw [← hc, ByteArray.size_extract]; omega
  have k1 := Lib.hid (fun W (h : Below w.heap.size w W) => k0.below h)
  have H1 := fun W (h : Below w.heap.size w W) => join_any _ M W (k0.below h)
  have H3 := fun W => split_any c W (by omega)
  obtain ⟨f1, f2, f3⟩ := split_fit c
  have hoz : (outJ (splitV c)).size ≤ 1000 := by rw [outJ_size]; have := f1.2.2; omega
  have H4 := Lib.hid (fun W v (h : Strs W v (splitV c)) => join_any v (splitV c) W h)
  rw [(join_yes f1).1, (join_yes f1).2] at H4
  have H5 := fun W => split_any (outJ (splitV c)) W (by omega)
  unfold SplitPost at H5 H3
  rw [(split_of (split_join f1)).1, (split_of (split_join f1)).2] at H5
  have hH5 := Lib.hid H5
  obtain ⟨mx, hmx0⟩ : ∃ mx : Nat, max 1 c.size = mx := ⟨_, rfl⟩
  have hmx1 : max (1 : Int) (c.size : Int) = (mx : Int) := by omega
  have hmx : splitE c = 0 → ((outJ (splitV c)).size : Int) ≤ (mx : Int) := fun h => by have := f2 h; omega
  clear hmx0
  generalize outJ (splitV c) = o at *
  generalize splitV c = m at *
  clear h1 hn1 hm1 k0 hK hcz f1 f2 z0 hoz H5
  have H5 := hH5
  clear hH5
  by_cases hf : fitJ M
  · have hoM : (outJ M).size ≤ 1000 := by rw [outJ_size]; have := hf.2.2; omega
    rw [(join_yes hf).1, (join_yes hf).2] at H1
    have H2 := fun W => split_any (outJ M) W (by omega)
    unfold SplitPost at H2
    rw [(split_of (split_join hf)).1, (split_of (split_join hf)).2] at H2
    generalize outJ M = x at *
    have hH1 := Lib.hid H1
    have hH2 := Lib.hid H2
    clear hf H1 H2 hoM
    rcases f3 with f3 | f3
    · rw [f3] at H3 hmx
      have hmx2 := hmx rfl
      have hH3 := Lib.hid H3
      clear H3 f3 hmx
      have H1 := hH1
      have H2 := hH2
      have H3 := hH3
      clear hH1 hH2 hH3
      go_enter Try.func5, Try.ntmps5
      go_wp2_with (first
        | (go_at_call 8; refine (shown_any _).mono ?_; rintro e w1 ⟨rfl, hB1⟩; have HB := Lib.hid hB1; clear hB1)
        | (go_at_call 11; (with_reducible refine Calls.mono (H1.out _ HB.out) ?_); rintro e w2 ⟨rfl, hB2⟩; have HB2 := Lib.hid (below_th HB.out hB2); clear hB2)
        | (go_at_call 9; (with_reducible refine Calls.mono (H2.out _) ?_); rintro e w3 ⟨v3, rfl, hv3, hB3⟩; have HV3 := Lib.hid hv3; have HQ3 := Lib.hid hB3; have HB3 := Lib.hid (below_th HB2.out hB3); clear hB3 hv3)
        | (go_at_call 9; (with_reducible refine Calls.mono (H3.out _) ?_); rintro e w4 ⟨v4, rfl, hv4, hB4⟩; have HV4 := Lib.hid hv4; have HV34 := Lib.hid (HV3.out.below hB4); have HB4 := Lib.hid (below_th HB3.out hB4); clear hB4 hv4)
        | (go_at_call 11; (with_reducible refine Calls.mono (H4.out _ _ HV4.out) ?_); rintro e w5 ⟨rfl, hB5⟩; have HV45 := Lib.hid (HV4.out.below hB5); have HV35 := Lib.hid (HV34.out.below hB5); have HB5 := Lib.hid (below_th HB4.out hB5); clear hB5)
        | (go_at_call 9; (with_reducible refine Calls.mono (H5.out _) ?_); rintro e w6 ⟨v6, rfl, hv6, hB6⟩; have HV6 := Lib.hid hv6; have HV46 := Lib.hid (HV45.out.below hB6); have HV36 := Lib.hid (HV35.out.below hB6); have HB6 := Lib.hid (below_th HB5.out hB6); clear hB6 hv6)
        | (go_at_call 13; (with_reducible refine Calls.mono (R.same_any _ _ M M _ HV36.out (k1.out _ HB6.out)) ?_); rintro e w7 ⟨rfl, hB7⟩; have HC := Lib.hid hB7; have HB7 := Lib.hid (below_th HB6.out hB7); have hdd : decide (M = M) = true := decide_eq_true rfl; clear hB7)
        | (go_at_call 13; (with_reducible refine Calls.mono (R.same_any _ _ m m _ (HV6.out.below HC.out) (HV46.out.below HC.out)) ?_); rintro e w8 ⟨rfl, hB8⟩; have HN8 := Lib.hid ((HV6.out.below HC.out).below hB8); have HM8 := Lib.hid ((HV46.out.below HC.out).below hB8); have HB8 := Lib.hid (below_th HB7.out hB8); have hd2 : decide (m = m) = true := decide_eq_true rfl; clear hB8)
        | (go_at_call 16; (with_reducible refine Calls.mono (within_any _ _ m m _ HM8.out HN8.out) ?_); rw [within_self]; rintro e w9 ⟨rfl, hB9⟩; have HN9 := Lib.hid (HN8.out.below hB9); have HM9 := Lib.hid (HM8.out.below hB9); have HB9 := Lib.hid (below_th HB8.out hB9); clear hB9 HM8 HN8)
        | (go_at_call 16; (with_reducible refine Calls.mono (within_any _ _ m m _ HN9.out HM9.out) ?_); rw [within_self]; rintro e w10 ⟨rfl, hB10⟩; have HB10 := Lib.hid (below_th HB9.out hB10); clear hB10))
      go_ret
      exact ⟨rfl, HB10.out⟩

    · rw [f3] at H3
      have hH3 := Lib.hid H3
      clear H3 f3 hmx
      have H1 := hH1
      have H2 := hH2
      have H3 := hH3
      clear hH1 hH2 hH3
      go_enter Try.func5, Try.ntmps5
      go_wp2_with (first
        | (go_at_call 8; refine (shown_any _).mono ?_; rintro e w1 ⟨rfl, hB1⟩; have HB := Lib.hid hB1; clear hB1)
        | (go_at_call 11; (with_reducible refine Calls.mono (H1.out _ HB.out) ?_); rintro e w2 ⟨rfl, hB2⟩; have HB2 := Lib.hid (below_th HB.out hB2); clear hB2)
        | (go_at_call 9; (with_reducible refine Calls.mono (H2.out _) ?_); rintro e w3 ⟨v3, rfl, hv3, hB3⟩; have HV3 := Lib.hid hv3; have HQ3 := Lib.hid hB3; have HB3 := Lib.hid (below_th HB2.out hB3); clear hB3 hv3)
        | (go_at_call 9; (with_reducible refine Calls.mono (H3.out _) ?_); rintro e w4 ⟨v4, rfl, hv4, hB4⟩; have HV4 := Lib.hid hv4; have HV34 := Lib.hid (HV3.out.below hB4); have HB4 := Lib.hid (below_th HB3.out hB4); clear hB4 hv4)
        | (go_at_call 11; (with_reducible refine Calls.mono (H4.out _ _ HV4.out) ?_); rintro e w5 ⟨rfl, hB5⟩; have HV45 := Lib.hid (HV4.out.below hB5); have HV35 := Lib.hid (HV34.out.below hB5); have HB5 := Lib.hid (below_th HB4.out hB5); clear hB5)
        | (go_at_call 9; (with_reducible refine Calls.mono (H5.out _) ?_); rintro e w6 ⟨v6, rfl, hv6, hB6⟩; have HV6 := Lib.hid hv6; have HV46 := Lib.hid (HV45.out.below hB6); have HV36 := Lib.hid (HV35.out.below hB6); have HB6 := Lib.hid (below_th HB5.out hB6); clear hB6 hv6)
        | (go_at_call 13; (with_reducible refine Calls.mono (R.same_any _ _ M M _ HV36.out (k1.out _ HB6.out)) ?_); rintro e w7 ⟨rfl, hB7⟩; have HC := Lib.hid hB7; have HB7 := Lib.hid (below_th HB6.out hB7); have hdd : decide (M = M) = true := decide_eq_true rfl; clear hB7))
      go_ret
      exact ⟨rfl, HB7.out⟩

  · rw [(join_no hf).1, (join_no hf).2] at H1
    have H2 := fun W => split_any ⟨#[]⟩ W (by decide)
    unfold SplitPost at H2
    rw [(split_not split_empty).1, (split_not split_empty).2] at H2
    have hH1 := Lib.hid H1
    have hH2 := Lib.hid H2
    clear hf H1 H2
    rcases f3 with f3 | f3
    · rw [f3] at H3 hmx
      have hmx2 := hmx rfl
      have hH3 := Lib.hid H3
      clear H3 f3 hmx
      have H1 := hH1
      have H2 := hH2
      have H3 := hH3
      clear hH1 hH2 hH3
      go_enter Try.func5, Try.ntmps5
      go_wp2_with (first
        | (go_at_call 8; refine (shown_any _).mono ?_; rintro e w1 ⟨rfl, hB1⟩; have HB := Lib.hid hB1; clear hB1)
        | (go_at_call 11; (with_reducible refine Calls.mono (H1.out _ HB.out) ?_); rintro e w2 ⟨rfl, hB2⟩; have HB2 := Lib.hid (below_th HB.out hB2); clear hB2)
        | (go_at_call 9; (with_reducible refine Calls.mono (H2.out _) ?_); rintro e w3 ⟨v3, rfl, hv3, hB3⟩; have HV3 := Lib.hid hv3; have HQ3 := Lib.hid hB3; have HB3 := Lib.hid (below_th HB2.out hB3); clear hB3 hv3)
        | (go_at_call 9; (with_reducible refine Calls.mono (H3.out _) ?_); rintro e w4 ⟨v4, rfl, hv4, hB4⟩; have HV4 := Lib.hid hv4; have HV34 := Lib.hid (HV3.out.below hB4); have HB4 := Lib.hid (below_th HB3.out hB4); clear hB4 hv4)
        | (go_at_call 11; (with_reducible refine Calls.mono (H4.out _ _ HV4.out) ?_); rintro e w5 ⟨rfl, hB5⟩; have HV45 := Lib.hid (HV4.out.below hB5); have HV35 := Lib.hid (HV34.out.below hB5); have HB5 := Lib.hid (below_th HB4.out hB5); clear hB5)
        | (go_at_call 9; (with_reducible refine Calls.mono (H5.out _) ?_); rintro e w6 ⟨v6, rfl, hv6, hB6⟩; have HV6 := Lib.hid hv6; have HV46 := Lib.hid (HV45.out.below hB6); have HV36 := Lib.hid (HV35.out.below hB6); have HB6 := Lib.hid (below_th HB5.out hB6); clear hB6 hv6)
        | (go_at_call 13; (with_reducible refine Calls.mono (R.same_any _ _ m m _ HV6.out HV46.out) ?_); rintro e w8 ⟨rfl, hB8⟩; have HN8 := Lib.hid (HV6.out.below hB8); have HM8 := Lib.hid (HV46.out.below hB8); have HB8 := Lib.hid (below_th HB6.out hB8); have hd2 : decide (m = m) = true := decide_eq_true rfl; clear hB8)
        | (go_at_call 16; (with_reducible refine Calls.mono (within_any _ _ m m _ HM8.out HN8.out) ?_); rw [within_self]; rintro e w9 ⟨rfl, hB9⟩; have HN9 := Lib.hid (HN8.out.below hB9); have HM9 := Lib.hid (HM8.out.below hB9); have HB9 := Lib.hid (below_th HB8.out hB9); clear hB9 HM8 HN8)
        | (go_at_call 16; (with_reducible refine Calls.mono (within_any _ _ m m _ HN9.out HM9.out) ?_); rw [within_self]; rintro e w10 ⟨rfl, hB10⟩; have HB10 := Lib.hid (below_th HB9.out hB10); clear hB10))
      go_ret
      exact ⟨rfl, HB10.out⟩

    · rw [f3] at H3
      have hH3 := Lib.hid H3
      clear H3 f3 hmx
      have H1 := hH1
      have H2 := hH2
      have H3 := hH3
      clear hH1 hH2 hH3
      go_enter Try.func5, Try.ntmps5
      go_wp2_with (first
        | (go_at_call 8; refine (shown_any _).mono ?_; rintro e w1 ⟨rfl, hB1⟩; have HB := Lib.hid hB1; clear hB1)
        | (go_at_call 11; (with_reducible refine Calls.mono (H1.out _ HB.out) ?_); rintro e w2 ⟨rfl, hB2⟩; have HB2 := Lib.hid (below_th HB.out hB2); clear hB2)
        | (go_at_call 9; (with_reducible refine Calls.mono (H2.out _) ?_); rintro e w3 ⟨v3, rfl, hv3, hB3⟩; have HV3 := Lib.hid hv3; have HQ3 := Lib.hid hB3; have HB3 := Lib.hid (below_th HB2.out hB3); clear hB3 hv3)
        | (go_at_call 9; (with_reducible refine Calls.mono (H3.out _) ?_); rintro e w4 ⟨v4, rfl, hv4, hB4⟩; have HV4 := Lib.hid hv4; have HV34 := Lib.hid (HV3.out.below hB4); have HB4 := Lib.hid (below_th HB3.out hB4); clear hB4 hv4)
        | (go_at_call 11; (with_reducible refine Calls.mono (H4.out _ _ HV4.out) ?_); rintro e w5 ⟨rfl, hB5⟩; have HV45 := Lib.hid (HV4.out.below hB5); have HV35 := Lib.hid (HV34.out.below hB5); have HB5 := Lib.hid (below_th HB4.out hB5); clear hB5)
        | (go_at_call 9; (with_reducible refine Calls.mono (H5.out _) ?_); rintro e w6 ⟨v6, rfl, hv6, hB6⟩; have HV6 := Lib.hid hv6; have HV46 := Lib.hid (HV45.out.below hB6); have HV36 := Lib.hid (HV35.out.below hB6); have HB6 := Lib.hid (below_th HB5.out hB6); clear hB6 hv6))
      go_ret
      exact ⟨rfl, HB6.out⟩

end
end Go.Proofs.Ytgmpfkhcohlijaa.Pth
