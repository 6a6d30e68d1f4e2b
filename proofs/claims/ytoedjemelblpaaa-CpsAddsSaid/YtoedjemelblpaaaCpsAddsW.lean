/- CpsAdds, walked. -/
import Derived.Test.YtoedjemelblpaaaCpsRefC
import Derived.Test.YtoedjemelblpaaaCpsFacts
import Derived.Test.YtoedjemelblpaaaCpsArgs
namespace Go.Proofs.Ytoedjemelblpaaa.Cps
open Go.RowKit
attribute [local go_sem] Oper.semAt_some
set_option linter.unusedVariables false
set_option linter.unusedSimpArgs false
section
set_option maxRecDepth 100000
set_option maxHeartbeats 8000000
theorem CpsAdds_walk (v1 : Value) (L : List C) (c : C) (cp0 : Int) (w : World) (hL : Chs w v1 L) (wL : ∀ o ∈ L, COk o) (wc : COk c) (k2 : (Lit.int .u64 cp0).wf = true) :
    Calls Try.prog 3 #[v1, c.val, .int .u64 cp0] w fun e w' => e = .returned (.bool true) ∧ Below w.heap.size w w' := by
  have b2 := boundsU k2
  obtain ⟨cp, rfl⟩ := Int.eq_ofNat_of_zero_le b2.1
  obtain ⟨M, hM⟩ : ∃ M, L.take 200 = M := ⟨_, rfl⟩
  obtain ⟨N, hN⟩ : ∃ N, M.length = N := ⟨_, rfl⟩
  have hM9 : M.length ≤ 1000 := by rw [← hM, List.length_take]; omega
  have HCut := Lib.hid (fun W h => cut_at v1 L M N hM hN W h)
  obtain ⟨W0, hW0⟩ : ∃ W0, w.alloc (boxO c) = W0 := ⟨_, rfl⟩
  have hB0 : Below w.heap.size w W0 := by rw [← hW0]; exact below_new _ _
  have hAc : At W0 w.heap.size c := by rw [← hW0]; exact At.new w c
  have HL := Lib.hid (hL.below hB0)
  have HB0 := Lib.hid hB0
  have HC := Lib.hid (fun W (h : Below W0.heap.size W0 W) => (hAc.th h).c)
  have H1 := Lib.hid (fun v W (h : Chs W v M) => add_any v M c W h)
  have H2 := Lib.hid (fun v W (h : Chs W v M) => R.add_any v M c W h)
  unfold TabPost at H1 H2
  have H3 := Lib.hid (fun v W (h : Chs W v M) => Find_any v M cp W h)
  have H4 := Lib.hid (fun v W (h : Chs W v M) => R.Find_any v M cp W h)
  unfold Ans at H3 H4
  have H5 := Lib.hid (fun v W (h : Chs W v M) => right_any v M W h)
  have H6 := Lib.hid (fun v W (h : Chs W v M) => R.right_any v M W h)
  unfold Ans at H5 H6
  have H7 := Lib.hid (fun v W (h : Chs W v M) => numbers_any v M W h hM9)
  have H8 := Lib.hid (fun v W (h : Chs W v M) => R.numbers_any v M W h hM9)
  unfold NumPost at H7 H8
  have HPC := Lib.hid (fun W v X (h : Chs W v X) => h.parts)
  have HNY := Lib.hid (fun v1 v2 W h1 h2 => nums_yes v1 v2 (numV M) W h1 h2)
  obtain ⟨X, hX⟩ : ∃ X, addV M c = X := ⟨_, rfl⟩
  obtain ⟨n, hn⟩ : ∃ X, addE M c = X := ⟨_, rfl⟩
  obtain ⟨y, hy⟩ : ∃ X, fndC M cp = X := ⟨_, rfl⟩
  obtain ⟨f, hf⟩ : ∃ X, fndE M cp = X := ⟨_, rfl⟩
  obtain ⟨r, hr⟩ : ∃ X, rightB M = X := ⟨_, rfl⟩
  rw [hX, hn] at H1 H2
  rw [hy, hf] at H3 H4
  rw [hr] at H5 H6
  have HSX := Lib.hid (fun v1 v2 W h1 h2 => same_any v1 v2 X X W h1 h2)
  simp only [decide_true] at HSX
  have HQ := fun W => eqlC y y W
  simp only [decide_true] at HQ
  have HAN := Lib.hid (fun W : World => At.new W y)
  have HBN := Lib.hid (fun W : World => below_new W (boxO y))
  have HAT := Lib.hid (fun (W : World) b W' (h : At W b y) (hB : Below W.heap.size W W') => (h.th hB))
  clear hX hn hy hf hr hM hN hM9 hL wL wc k2 b2 hB0 hAc
  obtain ⟨ncp, ti, sn, ro⟩ := c
  obtain ⟨yn, yt, ys, yr⟩ := y
  unfold C.val at H1 H2 H3 H4 HQ ⊢
  unfold boxO at hW0 HBN
  dsimp only at H1 H2 H3 H4 HQ hW0 HBN HC ⊢
  go_enter Try.func3, Try.ntmps3
  go_wp2_with (first
    | (go_at_call 11; (with_reducible refine Calls.mono (shown_any _) ?_); rintro e w1 ⟨rfl, hB1⟩; have HL1 := Lib.hid (HL.out.below hB1); obtain ⟨q0, q1, q2, q3⟩ := HC.out _ hB1)
    | (go_at_call 12; (with_reducible refine Calls.mono (HCut.out _ HL1.out) ?_); rintro e w2 ⟨a, cap, rfl, HM, hc1, hc2, rfl⟩)
    | (go_at_call 13; (with_reducible refine Calls.mono (H1.out _ _ HM.out) ?_); rintro e w3 ⟨v3, rfl, hX3, hB3⟩; obtain ⟨a3, c3, rfl, _⟩ := HPC.out _ _ _ hX3; have HM := Lib.hid (HM.out.below hB3); have HX3 := Lib.hid hX3; have HB3 := Lib.hid (below_th hB1 hB3); clear hX3 hB3 q0 q1 q2 q3; obtain ⟨q0, q1, q2, q3⟩ := HC.out _ HB3.out)
    | (go_at_call 14; (with_reducible refine Calls.mono (H2.out _ _ HM.out) ?_); rintro e w4 ⟨v4, rfl, hX4, hB4⟩; obtain ⟨a4, c4, rfl, _⟩ := HPC.out _ _ _ hX4; have HM := Lib.hid (HM.out.below hB4); have HX3 := Lib.hid (HX3.out.below hB4); have HX4 := Lib.hid hX4; have HB4 := Lib.hid (below_th HB3.out hB4); clear hX4 hB4 q0 q1 q2 q3)
    | (go_at_call 15; (with_reducible refine Calls.mono (H3.out _ _ HM.out) ?_); rintro e w5 ⟨rfl, hB5⟩; have hB5 := below_th hB5 (HBN.out w5); have HM := Lib.hid (HM.out.below hB5); have HX3 := Lib.hid (HX3.out.below hB5); have HX4 := Lib.hid (HX4.out.below hB5); have HB5 := Lib.hid (below_th HB4.out hB5); have HA5 := Lib.hid (HAN.out w5); obtain ⟨q0, q1, q2, q3⟩ := HA5.out.c; dsimp only at q0 q1 q2 q3; clear hB5)
    | (go_at_call 16; (with_reducible refine Calls.mono (H4.out _ _ HM.out) ?_); rintro e w6 ⟨rfl, hB6⟩; have hB6 := below_th hB6 (HBN.out w6); have HM := Lib.hid (HM.out.below hB6); have HX3 := Lib.hid (HX3.out.below hB6); have HX4 := Lib.hid (HX4.out.below hB6); have HB6 := Lib.hid (below_th HB5.out hB6); have HA5 := Lib.hid (HAT.out _ _ _ HA5.out hB6); have HA6 := Lib.hid (HAN.out w6); clear hB6 q0 q1 q2 q3; obtain ⟨q0, q1, q2, q3⟩ := HA6.out.c; dsimp only at q0 q1 q2 q3)
    | (go_at_call 17; (with_reducible refine Calls.mono (H5.out _ _ HM.out) ?_); rintro e w7 ⟨rfl, hB7⟩; have HM := Lib.hid (HM.out.below hB7); have HX3 := Lib.hid (HX3.out.below hB7); have HX4 := Lib.hid (HX4.out.below hB7); have HB7 := Lib.hid (below_th HB6.out hB7); have HA5 := Lib.hid (HAT.out _ _ _ HA5.out hB7); have HA6 := Lib.hid (HAT.out _ _ _ HA6.out hB7); clear hB7 q0 q1 q2 q3)
    | (go_at_call 18; (with_reducible refine Calls.mono (H6.out _ _ HM.out) ?_); rintro e w8 ⟨rfl, hB8⟩; have HM := Lib.hid (HM.out.below hB8); have HX3 := Lib.hid (HX3.out.below hB8); have HX4 := Lib.hid (HX4.out.below hB8); have HB8 := Lib.hid (below_th HB7.out hB8); have HA5 := Lib.hid (HAT.out _ _ _ HA5.out hB8); have HA6 := Lib.hid (HAT.out _ _ _ HA6.out hB8); clear hB8)
    | (go_at_call 19; (with_reducible refine Calls.mono (HSX.out _ _ _ HX3.out HX4.out) ?_); rintro e w9 ⟨rfl, hB9⟩; have HM := Lib.hid (HM.out.below hB9); have HB9 := Lib.hid (below_th HB8.out hB9); have HA5 := Lib.hid (HAT.out _ _ _ HA5.out hB9); have HA6 := Lib.hid (HAT.out _ _ _ HA6.out hB9); clear hB9; obtain ⟨q0, q1, q2, q3⟩ := HA5.out.c; obtain ⟨s0, s1, s2, s3⟩ := HA6.out.c; dsimp only at q0 q1 q2 q3 s0 s1 s2 s3)
    | (go_at_call 21; (with_reducible refine Calls.mono (H7.out _ _ HM.out) ?_); rintro e w10 ⟨v10, rfl, hX10, hB10⟩; have HM := Lib.hid (HM.out.below hB10); have HX10 := Lib.hid hX10; have HB10 := Lib.hid (below_th HB9.out hB10); clear hX10 hB10)
    | (go_at_call 22; (with_reducible refine Calls.mono (H8.out _ _ HM.out) ?_); rintro e w11 ⟨v11, rfl, hX11, hB11⟩; have HX10 := Lib.hid (HX10.out.below hB11); have HX11 := Lib.hid hX11; have HB11 := Lib.hid (below_th HB10.out hB11); clear hX11 hB11)
    | (go_at_call 20; (with_reducible refine Calls.mono (HNY.out _ _ _ HX10.out HX11.out) ?_); rintro e w12 ⟨rfl, hB12⟩; have HB12 := Lib.hid (below_th HB11.out hB12); clear hB12))
  go_ret
  exact ⟨by simp, below_th HB0.out HB12.out⟩
end
end Go.Proofs.Ytoedjemelblpaaa.Cps
