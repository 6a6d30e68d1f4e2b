/- RootBack, walked. -/
import Derived.Test.YtdniakoedgohkaaRootCut
namespace Go.Proofs.Ytdniakoedgohkaa.Root
open Go.RowKit
attribute [local go_sem] Oper.semAt_some
set_option linter.unusedVariables false
set_option linter.unusedSimpArgs false
section
set_option maxRecDepth 100000
set_option maxHeartbeats 8000000
theorem back_go (R : Q) (r : Q) (s : ByteArray) (w : World) (a1 : Option Addr) (n1 cap1 K1 : Nat) (a2 : Option Addr) (n2 cap2 K2 : Nat) (hR : cutQ r = R) (hc1 : Nums w (.slice a1 K1 cap1) R.dats) (hc2 : Nums w (.slice a2 K2 cap2) R.cps) (ho : QOk R) (hs : s.size ≤ 140737488351232)
    (l11 : K1 ≤ n1) (l12 : K1 ≤ 100) (l13 : n1 ≤ cap1) (l14 : cap1 ≤ 9223372036854775807) (m1 : min (n1 : Int) 100 = (K1 : Int))
    (l21 : K2 ≤ n2) (l22 : K2 ≤ 100) (l23 : n2 ≤ cap2) (l24 : cap2 ≤ 9223372036854775807) (m2 : min (n2 : Int) 100 = (K2 : Int))
    (E1 : ByteArray) (er1 : Int) (X1 : Q) (er2 : Int) (X2 : Q) (er3 : Int) (E4 : ByteArray) (er4 : Int) (rt sm : Bool) (q508 : Bool)
    (he1 : encS R = E1) (he1' : encE R = er1) (hd1 : decV E1 = X1) (hd1' : decE E1 = er2) (hd2 : decV s = X2) (hd2' : decE s = er3) (he4 : encS X2 = E4) (he4' : encE X2 = er4) (hrt : rightB R = rt) (hsm : decide (X1 = R) = sm)
    (hq : (E1.size == 508) = q508) (hE1 : E1.size ≤ 1000)
    (H : (er1 = 0 ∧ rt = true ∧ er2 = 0 ∧ sm = true ∧ E1.size = 508) ∨ (er1 = 153 ∧ rt = false)) (H2 : (er3 = 0 ∧ er4 = 0 ∧ E4 = s) ∨ er3 = 153) :
    Calls Try.prog 4 #[r.val (.slice a1 n1 cap1) (.slice a2 n2 cap2), .string s] w (Ans w (.bool true)) := by
  have hB := below_new w (boxQ r (.slice a1 n1 cap1) (.slice a2 n2 cap2))
  have hA := QAt.new w r (.slice a1 n1 cap1) (.slice a2 n2 cap2)
  have HS := Lib.hid shown_any
  have hE := fun d c W (h1 : Nums W d R.dats) (h2 : Nums W c R.cps) => encode_any R d c W h1 h2 ho
  have hRt := fun d c W (h1 : Nums W d R.dats) (h2 : Nums W c R.cps) => right_any R d c W h1 h2 ho
  have hX1 := dec_ok E1
  have hX2 := dec_ok s
  rw [hd1] at hX1
  rw [hd2] at hX2
  have hD1 := fun W => decode_any E1 W (by omega)
  have hD2 := fun W => decode_any s W (by omega)
  have hE4 := fun d c W (h1 : Nums W d X2.dats) (h2 : Nums W c X2.cps) => encode_any X2 d c W h1 h2 hX2
  have hSm := fun d c e f W h1 h2 h3 h4 => same_any X1 R d c e f W h1 h2 h3 h4
  unfold DecPost at hD1 hD2
  unfold Q.val Ans at hE hRt hE4 hSm
  unfold Q.val at hD1 hD2
  simp only [he1, he1'] at hE
  simp only [hd1, hd1'] at hD1
  simp only [hd2, hd2'] at hD2
  simp only [he4, he4'] at hE4
  simp only [hrt] at hRt
  simp only [hsm] at hSm
  have hcp : r.cp = R.cp := by rw [← hR]; rfl
  have htk : r.tick = R.tick := by rw [← hR]; rfl
  unfold boxQ at hB hA
  unfold Q.val
  have HE := Lib.hid hE
  have HRT := Lib.hid hRt
  have HD1 := Lib.hid hD1
  have HD2 := Lib.hid hD2
  have HE4 := Lib.hid hE4
  have HSM := Lib.hid hSm
  have HO := Lib.hid (And.intro hc1 hc2)
  have hA' : QAt (w.alloc (.cells #[.int .u64 (r.cp : Int), .int .u64 (r.tick : Int), .slice a1 n1 cap1, .slice a2 n2 cap2] 25)) w.heap.size ⟨R.cp, R.tick, r.dats, r.cps⟩ (.slice a1 n1 cap1) (.slice a2 n2 cap2) := by rw [← hcp, ← htk]; exact hA
  obtain ⟨WB, hWB⟩ : ∃ WB, w.alloc (.cells #[.int .u64 (r.cp : Int), .int .u64 (r.tick : Int), .slice a1 n1 cap1, .slice a2 n2 cap2] 25) = WB := ⟨_, rfl⟩
  rw [hWB] at hB hA'
  have b1 : (K1 : Int) ≤ (cap1 : Int) := by omega
  have b2 : (K2 : Int) ≤ (cap2 : Int) := by omega
  have b3 : 0 ≤ (K1 : Int) := by omega
  have b4 : 0 ≤ (K2 : Int) := by omega
  clear hE hRt hD1 hD2 hE4 hSm hA he1 he1' hd1 hd1' hd2 hd2' he4 he4' hrt hsm hX1 hX2 hs hE1 hR hcp htk
  go_enter Try.func4, Try.ntmps4
  go_wp2_with (go_at_call 8; (with_reducible refine Calls.mono (HS.out _) ?_); rintro e w1 ⟨rfl, hB1⟩; have hA1 := hA'.th hB1; have HQ := Lib.hid (hA1.put2 R.dats R.cps (.slice a1 K1 cap1) (.slice a2 K2 cap2)); have HBW := Lib.hid (below_put2 (below_th hB hB1) w.heap.size (Nat.le_refl _) (.slice a1 K1 cap1) (.slice a2 K2 cap2)); obtain ⟨g0, g1, g2, g3⟩ := hA1.c; have f2 := hA1.f 2; have f3 := hA1.f 3; clear hA1)
  obtain ⟨w2, hw2⟩ : ∃ w2, (w1.setCell ⟨w.heap.size, 2, none⟩ (.slice a1 K1 cap1)).setCell ⟨w.heap.size, 3, none⟩ (.slice a2 K2 cap2) = w2 := ⟨_, rfl⟩
  simp only [hw2] at HQ HBW ⊢
  obtain ⟨q, hqq⟩ : ∃ q, w.heap.size = q := ⟨_, rfl⟩
  rw [hqq] at HQ HBW
  simp only [hqq]
  have HG : Hid (∀ W, Below w2.heap.size w2 W → (Nums W (.slice a1 K1 cap1) R.dats ∧ Nums W (.slice a2 K2 cap2) R.cps) ∧ W.cell? ⟨q, 0, none⟩ = some (.int .u64 (R.cp : Int)) ∧ W.cell? ⟨q, 1, none⟩ = some (.int .u64 (R.tick : Int)) ∧ W.cell? ⟨q, 2, none⟩ = some (.slice a1 K1 cap1) ∧ W.cell? ⟨q, 3, none⟩ = some (.slice a2 K2 cap2)) := fun W hW => by
    obtain ⟨c0, c1, c2, c3⟩ := (HQ.out.th hW).c
    exact ⟨⟨(HO.out.1.below (hqq ▸ HBW.out)).below hW, (HO.out.2.below (hqq ▸ HBW.out)).below hW⟩, c0, c1, c2, c3⟩
  obtain ⟨hn, c0, c1, c2, c3⟩ := HG.out w2 (Below.refl _ _)
  clear HQ HO hw2 hA' hB hB1 hWB g0 g1 g2 g3 f2 f3 m1 m2 HS l11 l12 l13 l14 l21 l22 l23 l24 b1 b2 b3 b4 hc1 hc2
  refine Calls.mono (HE.out _ _ _ hn.1 hn.2) ?_
  rintro e w3 ⟨rfl, hB3⟩
  clear HE hn
  go_wp2_with (first
    | (go_at_call 11; (with_reducible refine Calls.mono (HD1.out _) ?_); rintro e w4 ⟨vd, vc, rfl, hd4, hc4, hB4⟩; obtain ⟨xa, xc, rfl, _, _⟩ := hd4.parts; obtain ⟨ya, yc, rfl, _, _⟩ := hc4.parts; clear HD1)
    | (go_at_call 11; (with_reducible refine Calls.mono (HD2.out _) ?_); rintro e w5 ⟨ve, vf, rfl, hd5, hc5, hB5⟩; obtain ⟨za, zc, rfl, _, _⟩ := hd5.parts; obtain ⟨ta, tc, rfl, _, _⟩ := hc5.parts; clear HD2))
  have hb4 := below_new w4 (boxQ X1 (.slice xa X1.dats.length xc) (.slice ya X1.cps.length yc))
  have hA4 := QAt.new w4 X1 (.slice xa X1.dats.length xc) (.slice ya X1.cps.length yc)
  have hb5 := below_new w5 (boxQ X2 (.slice za X2.dats.length zc) (.slice ta X2.cps.length tc))
  unfold boxQ at hb4 hA4 hb5
  have hA5 := (hA4.th hB5).th hb5
  have hd4' := ((hd4.below hb4).below hB5).below hb5
  have hc4' := ((hc4.below hb4).below hB5).below hb5
  have hB25 := below_th (below_th (below_th (below_th hB3 hB4) hb4) hB5) hb5
  have hd5' := hd5.below hb5
  have hc5' := hc5.below hb5
  obtain ⟨w6, hw6⟩ : ∃ w6, w5.alloc (.cells #[.int .u64 (X2.cp : Int), .int .u64 (X2.tick : Int), .slice za X2.dats.length zc, .slice ta X2.cps.length tc] 25) = w6 := ⟨_, rfl⟩
  rw [hw6] at hA5 hd4' hc4' hB25 hd5' hc5' ⊢
  obtain ⟨p, hpp⟩ : ∃ p, w4.heap.size = p := ⟨_, rfl⟩
  rw [hpp] at hA5
  simp only [hpp]
  refine Calls.mono (HE4.out _ _ _ hd5' hc5') ?_
  rintro e w7 ⟨rfl, hB7⟩
  have hB27 := below_th hB25 hB7
  have HF : Hid (∀ W, Below w7.heap.size w7 W → (Nums W (.slice xa X1.dats.length xc) X1.dats ∧ Nums W (.slice ya X1.cps.length yc) X1.cps ∧ Nums W (.slice a1 K1 cap1) R.dats ∧ Nums W (.slice a2 K2 cap2) R.cps) ∧ W.cell? ⟨q, 0, none⟩ = some (.int .u64 (R.cp : Int)) ∧ W.cell? ⟨q, 1, none⟩ = some (.int .u64 (R.tick : Int)) ∧ W.cell? ⟨q, 2, none⟩ = some (.slice a1 K1 cap1) ∧ W.cell? ⟨q, 3, none⟩ = some (.slice a2 K2 cap2) ∧
      W.cell? ⟨p, 0, none⟩ = some (.int .u64 (X1.cp : Int)) ∧ W.cell? ⟨p, 1, none⟩ = some (.int .u64 (X1.tick : Int)) ∧ W.cell? ⟨p, 2, none⟩ = some (.slice xa X1.dats.length xc) ∧ W.cell? ⟨p, 3, none⟩ = some (.slice ya X1.cps.length yc)) := fun W hW => by
    obtain ⟨⟨y1, y2⟩, y3⟩ := HG.out W (below_th hB27 hW)
    obtain ⟨z0, z1, z2, z3⟩ := ((hA5.th hB7).th hW).c
    obtain ⟨y4, y5, y6, y7⟩ := y3
    exact ⟨⟨(hd4'.below hB7).below hW, (hc4'.below hB7).below hW, y1, y2⟩, y4, y5, y6, y7, z0, z1, z2, z3⟩
  obtain ⟨_, s0, s1, s2, s3, t0, t1, t2, t3⟩ := HF.out w7 (Below.refl _ _)
  have HB7 : Hid (Below w.heap.size w w7) := by
    have := HBW.out
    exact (hqq ▸ this : Below w.heap.size w w2).trans (hB27.mono this.size)
  clear HE4 hB27 hB25 hA5 hd4' hc4' hd5' hc5' hw6 hb4 hb5 hA4 hd4 hc4 hd5 hc5 hB3 hB4 hB5 hB7 HG c0 c1 c2 c3 HBW hpp
  have hself : Below w7.heap.size w7 w7 := Below.refl _ _
  rcases H with ⟨rfl, rfl, rfl, rfl, hz⟩ | ⟨rfl, rfl⟩
  · have hz1 : ((E1.size : Int) == 508) = true := by simp; omega
    rcases H2 with ⟨rfl, rfl, hes⟩ | rfl
    · obtain ⟨j1, j2⟩ := beqL_yes hes
      go_wp2_with (first
        | (go_at_call 13; (with_reducible refine Calls.mono (HRT.out _ _ _ (HF.out _ hself).1.2.2.1 (HF.out _ hself).1.2.2.2) ?_); rintro e w8 ⟨rfl, hB8⟩; obtain ⟨_, s0, s1, s2, s3, t0, t1, t2, t3⟩ := HF.out _ hB8)
        | (go_at_call 15; (with_reducible refine Calls.mono (HSM.out _ _ _ _ _ (HF.out _ hB8).1.1 (HF.out _ hB8).1.2.1 (HF.out _ hB8).1.2.2.1 (HF.out _ hB8).1.2.2.2) ?_); rintro e w9 ⟨rfl, hB9⟩))
      go_ret
      exact ⟨rfl, below_th (below_th HB7.out hB8) hB9⟩
    · go_wp2_with (first
        | (go_at_call 13; (with_reducible refine Calls.mono (HRT.out _ _ _ (HF.out _ hself).1.2.2.1 (HF.out _ hself).1.2.2.2) ?_); rintro e w8 ⟨rfl, hB8⟩; obtain ⟨_, s0, s1, s2, s3, t0, t1, t2, t3⟩ := HF.out _ hB8)
        | (go_at_call 15; (with_reducible refine Calls.mono (HSM.out _ _ _ _ _ (HF.out _ hB8).1.1 (HF.out _ hB8).1.2.1 (HF.out _ hB8).1.2.2.1 (HF.out _ hB8).1.2.2.2) ?_); rintro e w9 ⟨rfl, hB9⟩))
      go_ret
      exact ⟨rfl, below_th (below_th HB7.out hB8) hB9⟩
  · rcases H2 with ⟨rfl, rfl, hes⟩ | rfl
    · obtain ⟨j1, j2⟩ := beqL_yes hes
      go_wp2_with (go_at_call 13; (with_reducible refine Calls.mono (HRT.out _ _ _ (HF.out _ hself).1.2.2.1 (HF.out _ hself).1.2.2.2) ?_); rintro e w8 ⟨rfl, hB8⟩; obtain ⟨_, s0, s1, s2, s3, t0, t1, t2, t3⟩ := HF.out _ hB8)
      go_ret
      exact ⟨rfl, below_th HB7.out hB8⟩
    · go_wp2_with (go_at_call 13; (with_reducible refine Calls.mono (HRT.out _ _ _ (HF.out _ hself).1.2.2.1 (HF.out _ hself).1.2.2.2) ?_); rintro e w8 ⟨rfl, hB8⟩; obtain ⟨_, s0, s1, s2, s3, t0, t1, t2, t3⟩ := HF.out _ hB8)
      go_ret
      exact ⟨rfl, below_th HB7.out hB8⟩
theorem RootBack_walk (r : Q) (d c : Value) (s : ByteArray) (w : World) (h : Nums w d r.dats ∧ Nums w c r.cps) (ho : QOk r) (hs : s.size ≤ 140737488351232) : Calls Try.prog 4 #[r.val d c, .string s] w (Ans w (.bool true)) := by
  obtain ⟨h1, h2⟩ := h
  obtain ⟨a1, n1, cap1, K1, rfl, hc1, hk1, l11, l12, l13, l14, m1⟩ := h1.hundred
  obtain ⟨a2, n2, cap2, K2, rfl, hc2, hk2, l21, l22, l23, l24, m2⟩ := h2.hundred
  refine back_go (cutQ r) r s w a1 n1 cap1 K1 a2 n2 cap2 K2 rfl hc1 hc2 (cut_ok ho) hs l11 l12 l13 l14 m1 l21 l22 l23 l24 m2 _ _ _ _ _ _ _ _ _ _ _ rfl rfl rfl rfl rfl rfl rfl rfl rfl rfl rfl ?_ ?_ ?_
  · by_cases hr : RightP (cutQ r)
    · rw [encS_yes hr, rotB_size hr.1]; decide
    · rw [encS_no hr]; decide
  · by_cases hr : RightP (cutQ r)
    · left
      have hd := dec_rot hr
      rw [encS_yes hr]
      exact ⟨encE_yes hr, decide_eq_true hr, decE_yes hd.1, decide_eq_true hd.2, rotB_size hr.1⟩
    · exact .inr ⟨encE_no hr, decide_eq_false hr⟩
  · by_cases hd : DecP s
    · left
      rw [decV_yes hd]
      exact ⟨decE_yes hd, encE_yes hd.2.1, (encS_yes hd.2.1).trans hd.2.2⟩
    · exact .inr (decE_no hd)
end
end Go.Proofs.Ytdniakoedgohkaa.Root
