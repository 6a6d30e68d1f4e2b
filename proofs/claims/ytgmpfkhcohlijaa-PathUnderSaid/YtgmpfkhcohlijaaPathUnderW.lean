/- PathUnder, walked. -/
import Derived.Test.YtgmpfkhcohlijaaPathShown
namespace Go.Proofs.Ytgmpfkhcohlijaa.Pth
open Go.RowKit Nam
attribute [local go_sem] Oper.semAt_some
set_option linter.unusedVariables false
set_option linter.unusedSimpArgs false
section
set_option maxRecDepth 100000
set_option maxHeartbeats 8000000
theorem PathUnder_walk (v : Value) (L : List ByteArray) (t : ByteArray) (u : Value) (O : List ByteArray) (w : World) (hL : Strs w v L) (wL : ∀ p ∈ L, p.size ≤ maxLen) (z1 : t.size ≤ 140737488351232) (hO : Strs w u O) (wO : ∀ p ∈ O, p.size ≤ maxLen) : Calls Try.prog 4 #[v, .string t, u] w fun e w' => e = .returned (.bool true) ∧ Below w.heap.size w w' := by
  clear wL wO
  obtain ⟨a, cap, rfl, hc1, hc2⟩ := hL.parts
  obtain ⟨a2, cap2, rfl, hd1, hd2⟩ := hO.parts
  obtain ⟨K, hK⟩ : ∃ K, min t.size 2000 = K := ⟨_, rfl⟩
  have hk1 : (min (t.size : Int) 2000) = (K : Int) := by omega
  have hk2 : (K : Int) ≤ (t.size : Int) := by omega
  have hk3 : K ≤ t.size := by omega
  obtain ⟨c, hc⟩ : ∃ c, t.extract 0 K = c := ⟨_, rfl⟩
  have hcz : c.size ≤ 2000 := by rw [← hc, ByteArray.size_extract]; omega
  obtain ⟨n, hn⟩ : ∃ n, L.length = n := ⟨_, rfl⟩
  obtain ⟨m, hm⟩ : ∃ m, min n 50 = m := ⟨_, rfl⟩
  have hm1 : (min (n : Int) 50) = (m : Int) := by omega
  have hcut := hL.cut m (by omega)
  rw [hn] at hc1 ⊢
  have hm2 : m ≤ cap := by omega
  have hm3 : (m : Int) ≤ (cap : Int) := by omega
  generalize L.take m = M at *
  have HM := Lib.hid hcut
  have HO := Lib.hid hO
  have H1 := Lib.hid (fun W (h : Strs W (.slice a m cap) M) => under_any _ M c W h (by omega))
  have H2 := Lib.hid (fun W (h : Strs W (.slice a m cap) M) => R.under_any _ M c W h (by omega))
  have H3 := Lib.hid (fun W (h : Strs W (.slice a m cap) M) h2 => within_any _ (.slice a2 O.length cap2) M O W h h2)
  have H4 := Lib.hid (fun W (h : Strs W (.slice a m cap) M) h2 => R.within_any _ (.slice a2 O.length cap2) M O W h h2)
  unfold SplitPost at H1 H2
  generalize underS M c = sc at *
  generalize splitE sc = se at *
  generalize withinB M O = wb at *
  generalize O.length = n2 at *
  clear hL hcut hK hcz hn hm z1 hO
  go_enter Try.func4, Try.ntmps4
  go_wp2_with (first
    | (go_at_call 8; refine (shown_any _).mono ?_; rintro e w1 ⟨rfl, hB1⟩)
    | (go_at_call 14; refine (H1.out _ (HM.out.below hB1)).mono ?_; rintro e w2 ⟨v1, rfl, hv1, hB2⟩; have HV1 := Lib.hid hv1; clear hv1)
    | (go_at_call 15; refine (H2.out _ ((HM.out.below hB1).below hB2)).mono ?_; rintro e w3 ⟨v2, rfl, hv2, hB3⟩; have HV2 := Lib.hid hv2; clear hv2)
    | (go_at_call 13; refine (R.same_any _ _ (splitV sc) (splitV sc) _ (HV1.out.below hB3) HV2.out).mono ?_; rintro e w4 ⟨rfl, hB4⟩; have hd : decide (splitV sc = splitV sc) = true := decide_eq_true rfl; have HB := Lib.hid (below_th (below_th (below_th hB1 hB2) hB3) hB4))
    | (go_at_call 16; refine (H3.out _ (HM.out.below HB.out) (HO.out.below HB.out)).mono ?_; rintro e w5 ⟨rfl, hB5⟩; have HBX := Lib.hid (below_th HB.out hB5))
    | (go_at_call 17; refine (H4.out _ (HM.out.below HBX.out) (HO.out.below HBX.out)).mono ?_; rintro e w6 ⟨rfl, hB6⟩))
  go_ret
  exact ⟨rfl, below_th HBX.out hB6⟩
end
end Go.Proofs.Ytgmpfkhcohlijaa.Pth
