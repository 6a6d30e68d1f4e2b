/- PathSplits, walked. -/
import Derived.Test.YtgmpfkhcohlijaaPathShown
namespace Go.Proofs.Ytgmpfkhcohlijaa.Pth
open Go.RowKit Nam
attribute [local go_sem] Oper.semAt_some
set_option linter.unusedVariables false
set_option linter.unusedSimpArgs false
section
set_option maxRecDepth 100000
set_option maxHeartbeats 8000000
theorem PathSplits_walk (s : ByteArray) (v : Value) (L : List ByteArray) (w : World) (z0 : s.size ≤ 140737488351232) (hL : Strs w v L) (wL : ∀ p ∈ L, p.size ≤ maxLen) : Calls Try.prog 3 #[.string s, v] w fun e w' => e = .returned (.bool true) ∧ Below w.heap.size w w' := by
  clear wL
  obtain ⟨a, cap, rfl, hc1, hc2⟩ := hL.parts
  obtain ⟨K, hK⟩ : ∃ K, min s.size 2000 = K := ⟨_, rfl⟩
  have hk1 : (min (s.size : Int) 2000) = (K : Int) := by omega
  have hk2 : (K : Int) ≤ (s.size : Int) := by omega
  have hk3 : K ≤ s.size := by omega
  obtain ⟨c, hc⟩ : ∃ c, s.extract 0 K = c := ⟨_, rfl⟩
  have hcz : c.size ≤ 2000 := by rw [← hc, ByteArray.size_extract]; omega
  obtain ⟨n, hn⟩ : ∃ n, L.length = n := ⟨_, rfl⟩
  obtain ⟨m, hm⟩ : ∃ m, min n 50 = m := ⟨_, rfl⟩
  have hm1 : (min (n : Int) 50) = (m : Int) := by omega
  have hcut := hL.cut m (by omega)
  rw [hn] at hc1 ⊢
  have hm2 : m ≤ cap := by omega
  have hm3 : (m : Int) ≤ (cap : Int) := by omega
  generalize L.take m = M at *
  have HM := Lib.hid hcut
  have H1 := Lib.hid (fun W => split_any c W (by omega))
  have H2 := Lib.hid (fun W => R.split_any c W (by omega))
  have H3 := Lib.hid (fun W (h : Strs W (.slice a m cap) M) => join_any _ M W h)
  have H4 := Lib.hid (fun W (h : Strs W (.slice a m cap) M) => R.join_any _ M W h)
  unfold SplitPost at H1 H2
  generalize splitE c = se at *
  generalize joinE M = je at *
  generalize joinV M = jv at *
  have q1 : (jv.toList == jv.toList) = true := beq_yes rfl
  clear hL hcut hK hcz hn hm z0
  go_enter Try.func3, Try.ntmps3
  go_wp2_with (first
    | (go_at_call 8; refine (shown_any _).mono ?_; rintro e w1 ⟨rfl, hB1⟩)
    | (go_at_call 9; (with_reducible refine Calls.mono (H1.out _) ?_); rintro e w2 ⟨v1, rfl, hv1, hB2⟩; have HV1 := Lib.hid hv1; clear hv1)
    | (go_at_call 10; (with_reducible refine Calls.mono (H2.out _) ?_); rintro e w3 ⟨v2, rfl, hv2, hB3⟩; have HV2 := Lib.hid hv2; clear hv2)
    | (go_at_call 11; refine (H3.out _ (((HM.out.below hB1).below hB2).below hB3)).mono ?_; rintro e w4 ⟨rfl, hB4⟩)
    | (go_at_call 12; refine (H4.out _ ((((HM.out.below hB1).below hB2).below hB3).below hB4)).mono ?_; rintro e w5 ⟨rfl, hB5⟩)
    | (go_at_call 13; refine (R.same_any _ _ (splitV c) (splitV c) _ (((HV1.out.below hB3).below hB4).below hB5) ((HV2.out.below hB4).below hB5)).mono ?_; rintro e w6 ⟨rfl, hB6⟩; have hd : decide (splitV c = splitV c) = true := decide_eq_true rfl))
  go_ret
  exact ⟨rfl, below_th (below_th (below_th (below_th (below_th hB1 hB2) hB3) hB4) hB5) hB6⟩
end
end Go.Proofs.Ytgmpfkhcohlijaa.Pth
