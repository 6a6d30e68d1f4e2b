/- RootBytes, walked. -/
import Derived.Deep.RegionHeld3
import Derived.Test.YtdniakoedgohkaaRootCut
import Derived.Test.YtdniakoedgohkaaRootRefD
namespace Go.Proofs.Ytdniakoedgohkaa.Root
open Go.RowKit
attribute [local go_sem] Oper.semAt_some
set_option linter.unusedVariables false
set_option linter.unusedSimpArgs false
section
set_option maxRecDepth 100000
set_option maxHeartbeats 8000000
theorem refEncode (r : Q) (d c : Value) (w : World) (h1 : Nums w d r.dats) (h2 : Nums w c r.cps) : Calls Try.prog 10 #[r.val d c] w (Ans w (.tuple #[.string (encS r), .int .i64 (encE r)])) := R.encode_any r d c w h1 h2
theorem refRight (r : Q) (d c : Value) (w : World) (h1 : Nums w d r.dats) (h2 : Nums w c r.cps) : Calls Try.prog 14 #[r.val d c] w (Ans w (.bool (rightB r))) := R.right_any r d c w h1 h2
theorem refDecode (s : ByteArray) (w : World) (hs : s.size ≤ 281474976710656) : Calls Try.prog 12 #[.string s] w (DecPost s w) := R.decode_any s w hs
theorem bytes_go (R : Q) (r : Q) (s : ByteArray) (w : World) (a1 : Option Addr) (n1 cap1 K1 : Nat) (a2 : Option Addr) (n2 cap2 K2 : Nat) (hR : cutQ r = R) (hc1 : Nums w (.slice a1 K1 cap1) R.dats) (hc2 : Nums w (.slice a2 K2 cap2) R.cps) (ho : QOk R) (hs : s.size ≤ 140737488351232)
    (l11 : K1 ≤ n1) (l12 : K1 ≤ 100) (l13 : n1 ≤ cap1) (l14 : cap1 ≤ 9223372036854775807) (m1 : min (n1 : Int) 100 = (K1 : Int))
    (l21 : K2 ≤ n2) (l22 : K2 ≤ 100) (l23 : n2 ≤ cap2) (l24 : cap2 ≤ 9223372036854775807) (m2 : min (n2 : Int) 100 = (K2 : Int))
    (E1 : ByteArray) (er1 : Int) (X2 : Q) (er3 : Int) (rt : Bool)
    (he1 : encS R = E1) (he1' : encE R = er1) (hd2 : decV s = X2) (hd2' : decE s = er3) (hrt : rightB R = rt) :
    Calls Try.prog 3 #[r.val (.slice a1 n1 cap1) (.slice a2 n2 cap2), .string s] w (Ans w (.bool true)) := by
  have hB := below_new w (boxQ r (.slice a1 n1 cap1) (.slice a2 n2 cap2))
  have hA := QAt.new w r (.slice a1 n1 cap1) (.slice a2 n2 cap2)
  have HS := Lib.hid shown_any
  have hE := fun d c W (h1 : Nums W d R.dats) (h2 : Nums W c R.cps) => encode_any R d c W h1 h2 ho
  have hF := fun d c W (h1 : Nums W d R.dats) (h2 : Nums W c R.cps) => refEncode R d c W h1 h2
  have hRt := fun d c W (h1 : Nums W d R.dats) (h2 : Nums W c R.cps) => right_any R d c W h1 h2 ho
  have hRu := fun d c W (h1 : Nums W d R.dats) (h2 : Nums W c R.cps) => refRight R d c W h1 h2
  have hD1 := fun W => decode_any s W (by omega)
  have hD2 := fun W => refDecode s W (by omega)
  have hSm := fun d c e f W h1 h2 h3 h4 => same_any X2 X2 d c e f W h1 h2 h3 h4
  unfold DecPost at hD1 hD2
  unfold Q.val Ans at hE hF hRt hRu hSm
  unfold Q.val at hD1 hD2
  simp only [he1, he1'] at hE hF
  simp only [hd2, hd2'] at hD1 hD2
  simp only [hrt] at hRt hRu
  rw [decide_eq_true (rfl : X2 = X2)] at hSm
  have hcp : r.cp = R.cp := by rw [← hR]; rfl
  have htk : r.tick = R.tick := by rw [← hR]; rfl
  unfold boxQ at hB hA
  unfold Q.val
  have HE := Lib.hid hE
  have HRT := Lib.hid hRt
  have HD1 := Lib.hid hD1
  have HD2 := Lib.hid hD2
  have HF := Lib.hid hF
  have HRU := Lib.hid hRu
  have HSM := Lib.hid hSm
  have HO := Lib.hid (And.intro hc1 hc2)
  have hA' : QAt (w.alloc (.cells #[.int .u64 (r.cp : Int), .int .u64 (r.tick : Int), .slice a1 n1 cap1, .slice a2 n2 cap2] 25)) w.heap.size ⟨R.cp, R.tick, r.dats, r.cps⟩ (.slice a1 n1 cap1) (.slice a2 n2 cap2) := by rw [← hcp, ← htk]; exact hA
  obtain ⟨WB, hWB⟩ : ∃ WB, w.alloc (.cells #[.int .u64 (r.cp : Int), .int .u64 (r.tick : Int), .slice a1 n1 cap1, .slice a2 n2 cap2] 25) = WB := ⟨_, rfl⟩
  rw [hWB] at hB hA'
  have b1 : (K1 : Int) ≤ (cap1 : Int) := by omega
  have b2 : (K2 : Int) ≤ (cap2 : Int) := by omega
  have b3 : 0 ≤ (K1 : Int) := by omega
  have b4 : 0 ≤ (K2 : Int) := by omega
  clear hE hF hRt hRu hD1 hD2 hSm hA he1 he1' hd2 hd2' hrt hs hR hcp htk
  go_enter Try.func3, Try.ntmps3
  go_wp2_with (go_at_call 8; (with_reducible refine Calls.mono (HS.out _) ?_); rintro e w1 ⟨rfl, hB1⟩; have hA1 := hA'.th hB1; have HQ := Lib.hid (hA1.put2 R.dats R.cps (.slice a1 K1 cap1) (.slice a2 K2 cap2)); have HBW := Lib.hid (below_put2 (below_th hB hB1) w.heap.size (Nat.le_refl _) (.slice a1 K1 cap1) (.slice a2 K2 cap2)); obtain ⟨g0, g1, g2, g3⟩ := hA1.c; have f2 := hA1.f 2; have f3 := hA1.f 3; clear hA1)
  obtain ⟨w2, hw2⟩ : ∃ w2, (w1.setCell ⟨w.heap.size, 2, none⟩ (.slice a1 K1 cap1)).setCell ⟨w.heap.size, 3, none⟩ (.slice a2 K2 cap2) = w2 := ⟨_, rfl⟩
  simp only [hw2] at HQ HBW ⊢
  obtain ⟨q, hqq⟩ : ∃ q, w.heap.size = q := ⟨_, rfl⟩
  rw [hqq] at HQ HBW
  simp only [hqq]
  have HG : Hid (∀ W, Below w2.heap.size w2 W → (Nums W (.slice a1 K1 cap1) R.dats ∧ Nums W (.slice a2 K2 cap2) R.cps) ∧ W.cell? ⟨q, 0, none⟩ = some (.int .u64 (R.cp : Int)) ∧ W.cell? ⟨q, 1, none⟩ = some (.int .u64 (R.tick : Int)) ∧ W.cell? ⟨q, 2, none⟩ = some (.slice a1 K1 cap1) ∧ W.cell? ⟨q, 3, none⟩ = some (.slice a2 K2 cap2)) := fun W hW => by
    obtain ⟨c0, c1, c2, c3⟩ := (HQ.out.th hW).c
    exact ⟨⟨(HO.out.1.below (hqq ▸ HBW.out)).below hW, (HO.out.2.below (hqq ▸ HBW.out)).below hW⟩, c0, c1, c2, c3⟩
  obtain ⟨hn, c0, c1, c2, c3⟩ := HG.out w2 (Below.refl _ _)
  clear HQ HO hw2 hA' hB hB1 hWB g0 g1 g2 g3 f2 f3 m1 m2 HS l11 l12 l13 l14 l21 l22 l23 l24 b1 b2 b3 b4 hc1 hc2
  refine Calls.mono (HE.out _ _ _ hn.1 hn.2) ?_
  rintro e w3 ⟨rfl, hB3⟩
  obtain ⟨hn3, c0, c1, c2, c3⟩ := HG.out w3 hB3
  clear HE hn
  go_wp2_with fail
  refine Calls.mono (HF.out _ _ _ hn3.1 hn3.2) ?_
  rintro e w4 ⟨rfl, hB4⟩
  clear HF hn3
  go_wp2_with (first
    | (go_at_call 11; (with_reducible refine Calls.mono (HD1.out _) ?_); rintro e w5 ⟨vd, vc, rfl, hd5, hc5, hB5⟩; obtain ⟨xa, xc, rfl, _, _⟩ := hd5.parts; obtain ⟨ya, yc, rfl, _, _⟩ := hc5.parts)
    | (go_at_call 12; (with_reducible refine Calls.mono (HD2.out _) ?_); rintro e w6 ⟨ve, vf, rfl, hd6, hc6, hB6⟩; obtain ⟨za, zc, rfl, _, _⟩ := hd6.parts; obtain ⟨ta, tc, rfl, _, _⟩ := hc6.parts))
  have hb5 := below_new w5 (boxQ X2 (.slice xa X2.dats.length xc) (.slice ya X2.cps.length yc))
  have hA5 := QAt.new w5 X2 (.slice xa X2.dats.length xc) (.slice ya X2.cps.length yc)
  have hb6 := below_new w6 (boxQ X2 (.slice za X2.dats.length zc) (.slice ta X2.cps.length tc))
  have hA6 := QAt.new w6 X2 (.slice za X2.dats.length zc) (.slice ta X2.cps.length tc)
  unfold boxQ at hb5 hA5 hb6 hA6
  have hA5' := (hA5.th hB6).th hb6
  have hd5' := ((hd5.below hb5).below hB6).below hb6
  have hc5' := ((hc5.below hb5).below hB6).below hb6
  have hd6' := hd6.below hb6
  have hc6' := hc6.below hb6
  have hB27 := below_th (below_th (below_th (below_th (below_th hB3 hB4) hB5) hb5) hB6) hb6
  obtain ⟨w7, hw7⟩ : ∃ w7, w6.alloc (.cells #[.int .u64 (X2.cp : Int), .int .u64 (X2.tick : Int), .slice za X2.dats.length zc, .slice ta X2.cps.length tc] 25) = w7 := ⟨_, rfl⟩
  rw [hw7] at hA5' hA6 hd5' hc5' hd6' hc6' hB27
  try rw [hw7]
  obtain ⟨p, hpp⟩ : ∃ p, w5.heap.size = p := ⟨_, rfl⟩
  obtain ⟨k, hkk⟩ : ∃ k, w6.heap.size = k := ⟨_, rfl⟩
  rw [hpp] at hA5'
  rw [hkk] at hA6
  try simp only [hpp, hkk]
  have HK : Hid (∀ W, Below w7.heap.size w7 W → (W.cell? ⟨q, 0, none⟩ = some (.int .u64 (R.cp : Int)) ∧ W.cell? ⟨q, 1, none⟩ = some (.int .u64 (R.tick : Int)) ∧ W.cell? ⟨q, 2, none⟩ = some (.slice a1 K1 cap1) ∧ W.cell? ⟨q, 3, none⟩ = some (.slice a2 K2 cap2)) ∧
      (W.cell? ⟨p, 0, none⟩ = some (.int .u64 (X2.cp : Int)) ∧ W.cell? ⟨p, 1, none⟩ = some (.int .u64 (X2.tick : Int)) ∧ W.cell? ⟨p, 2, none⟩ = some (.slice xa X2.dats.length xc) ∧ W.cell? ⟨p, 3, none⟩ = some (.slice ya X2.cps.length yc)) ∧
      (W.cell? ⟨k, 0, none⟩ = some (.int .u64 (X2.cp : Int)) ∧ W.cell? ⟨k, 1, none⟩ = some (.int .u64 (X2.tick : Int)) ∧ W.cell? ⟨k, 2, none⟩ = some (.slice za X2.dats.length zc) ∧ W.cell? ⟨k, 3, none⟩ = some (.slice ta X2.cps.length tc))) := fun W hW => ⟨(HG.out W (below_th hB27 hW)).2, (hA5'.th hW).c, (hA6.th hW).c⟩
  have HN : Hid (∀ W, Below w7.heap.size w7 W → (Nums W (.slice a1 K1 cap1) R.dats ∧ Nums W (.slice a2 K2 cap2) R.cps) ∧ (Nums W (.slice xa X2.dats.length xc) X2.dats ∧ Nums W (.slice ya X2.cps.length yc) X2.cps) ∧ Nums W (.slice za X2.dats.length zc) X2.dats ∧ Nums W (.slice ta X2.cps.length tc) X2.cps) := fun W hW => ⟨(HG.out W (below_th hB27 hW)).1, ⟨hd5'.below hW, hc5'.below hW⟩, hd6'.below hW, hc6'.below hW⟩
  obtain ⟨⟨s0, s1, s2, s3⟩, ⟨s4, s5, s6, s7⟩, s8, s9, t0, t1⟩ := HK.out w7 (Below.refl _ _)
  have HB7 : Hid (Below w.heap.size w w7) := by
    have := HBW.out
    exact (hqq ▸ this : Below w.heap.size w w2).trans (hB27.mono this.size)
  have hD1 : Below w7.heap.size w7 w7.drew := (Below.refl _ _).drew
  clear HD1 HD2 hB27 hA5 hA5' hA6 hd5' hc5' hd6' hc6' hw7 hb5 hb6 hd5 hc5 hd6 hc6 hB3 hB4 hB5 hB6 HG c0 c1 c2 c3 HBW hpp hkk
  cases rt with
  | true => 
    go_region_held3 (fun W => (W.cell? ⟨q, 0, none⟩ = some (.int .u64 (R.cp : Int)) ∧ W.cell? ⟨q, 1, none⟩ = some (.int .u64 (R.tick : Int)) ∧ W.cell? ⟨q, 2, none⟩ = some (.slice a1 K1 cap1) ∧ W.cell? ⟨q, 3, none⟩ = some (.slice a2 K2 cap2)) ∧
      (W.cell? ⟨p, 0, none⟩ = some (.int .u64 (X2.cp : Int)) ∧ W.cell? ⟨p, 1, none⟩ = some (.int .u64 (X2.tick : Int)) ∧ W.cell? ⟨p, 2, none⟩ = some (.slice xa X2.dats.length xc) ∧ W.cell? ⟨p, 3, none⟩ = some (.slice ya X2.cps.length yc)) ∧
      (W.cell? ⟨k, 0, none⟩ = some (.int .u64 (X2.cp : Int)) ∧ W.cell? ⟨k, 1, none⟩ = some (.int .u64 (X2.tick : Int)) ∧ W.cell? ⟨k, 2, none⟩ = some (.slice za X2.dats.length zc) ∧ W.cell? ⟨k, 3, none⟩ = some (.slice ta X2.cps.length tc))) (first | exact HK.out _ hD1 | exact HK.out _ (by assumption)) (first
        | (go_at_call 13; (with_reducible refine Calls.mono (HRT.out _ _ _ (HN.out _ hD1).1.1 (HN.out _ hD1).1.2) ?_); rintro e x1 ⟨rfl, hBn⟩; have hx1 := below_th hD1 hBn)
        | (go_at_call 14; (with_reducible refine Calls.mono (HRU.out _ _ _ (HN.out _ hx1).1.1 (HN.out _ hx1).1.2) ?_); rintro e x2 ⟨rfl, hBm⟩; have hx2 := below_th hx1 hBm)
        | (go_at_call 15; (with_reducible refine Calls.mono (HSM.out _ _ _ _ _ (HN.out _ hx2).2.1.1 (HN.out _ hx2).2.1.2 (HN.out _ hx2).2.2.1 (HN.out _ hx2).2.2.2) ?_); rintro e x3 ⟨rfl, hBo⟩; have hx3 := below_th hx2 hBo))
    go_wp2
    go_ret
    exact ⟨rfl, below_th HB7.out (by assumption)⟩
  | false =>
    go_region_held3 (fun W => (W.cell? ⟨q, 0, none⟩ = some (.int .u64 (R.cp : Int)) ∧ W.cell? ⟨q, 1, none⟩ = some (.int .u64 (R.tick : Int)) ∧ W.cell? ⟨q, 2, none⟩ = some (.slice a1 K1 cap1) ∧ W.cell? ⟨q, 3, none⟩ = some (.slice a2 K2 cap2)) ∧
      (W.cell? ⟨p, 0, none⟩ = some (.int .u64 (X2.cp : Int)) ∧ W.cell? ⟨p, 1, none⟩ = some (.int .u64 (X2.tick : Int)) ∧ W.cell? ⟨p, 2, none⟩ = some (.slice xa X2.dats.length xc) ∧ W.cell? ⟨p, 3, none⟩ = some (.slice ya X2.cps.length yc)) ∧
      (W.cell? ⟨k, 0, none⟩ = some (.int .u64 (X2.cp : Int)) ∧ W.cell? ⟨k, 1, none⟩ = some (.int .u64 (X2.tick : Int)) ∧ W.cell? ⟨k, 2, none⟩ = some (.slice za X2.dats.length zc) ∧ W.cell? ⟨k, 3, none⟩ = some (.slice ta X2.cps.length tc))) (first | exact HK.out _ hD1 | exact HK.out _ (by assumption)) (first
        | (go_at_call 13; (with_reducible refine Calls.mono (HRT.out _ _ _ (HN.out _ hD1).1.1 (HN.out _ hD1).1.2) ?_); rintro e x1 ⟨rfl, hBn⟩; have hx1 := below_th hD1 hBn)
        | (go_at_call 14; (with_reducible refine Calls.mono (HRU.out _ _ _ (HN.out _ hx1).1.1 (HN.out _ hx1).1.2) ?_); rintro e x2 ⟨rfl, hBm⟩; have hx2 := below_th hx1 hBm)
        | (go_at_call 15; (with_reducible refine Calls.mono (HSM.out _ _ _ _ _ (HN.out _ hx2).2.1.1 (HN.out _ hx2).2.1.2 (HN.out _ hx2).2.2.1 (HN.out _ hx2).2.2.2) ?_); rintro e x3 ⟨rfl, hBo⟩; have hx3 := below_th hx2 hBo))
    go_wp2
    go_ret
    exact ⟨rfl, below_th HB7.out (by assumption)⟩
theorem RootBytes_walk (r : Q) (d c : Value) (s : ByteArray) (w : World) (h : Nums w d r.dats ∧ Nums w c r.cps) (ho : QOk r) (hs : s.size ≤ 140737488351232) : Calls Try.prog 3 #[r.val d c, .string s] w (Ans w (.bool true)) := by
  obtain ⟨h1, h2⟩ := h
  obtain ⟨a1, n1, cap1, K1, rfl, hc1, hk1, l11, l12, l13, l14, m1⟩ := h1.hundred
  obtain ⟨a2, n2, cap2, K2, rfl, hc2, hk2, l21, l22, l23, l24, m2⟩ := h2.hundred
  exact bytes_go (cutQ r) r s w a1 n1 cap1 K1 a2 n2 cap2 K2 rfl hc1 hc2 (cut_ok ho) hs l11 l12 l13 l14 m1 l21 l22 l23 l24 m2 _ _ _ _ _ rfl rfl rfl rfl rfl
end
end Go.Proofs.Ytdniakoedgohkaa.Root
