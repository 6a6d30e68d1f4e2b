/- The document's Decode. -/
import Derived.Deep.Cut
import Derived.Deep.DeepCutAuto
import Derived.Deep.RegionWith
import Derived.Deep.RegionLaw
import Derived.Deep.RegionHeld3
import Derived.Test.YtdniakoedgohkaaRootRefE
import Derived.Test.YtdniakoedgohkaaRootRefM
import Derived.Test.YtdniakoedgohkaaRootDec
namespace Go.Proofs.Ytdniakoedgohkaa.Root.R
open Go.RowKit
attribute [local go_sem] Oper.semAt_some
set_option linter.unusedVariables false
set_option linter.unusedSimpArgs false
theorem nums_far {W : World} {b : Nat} {q : Q} {g o k c : Nat} {L : List Nat} (h : QAt W b q (.slice none 0 0) (.slice none 0 0)) (hN : Nums W (.slice (some ⟨g, o, none⟩) k c) L) (hk : 0 < k) : g ≠ b := fun e => by
  subst e
  obtain ⟨a1, c1, e2, _⟩ := hN.parts
  cases e2
  obtain ⟨b2, o2, e3, h3⟩ := hN.at rfl hk
  cases e3
  unfold QAt at h
  simp only [World.cell?, h] at h3
  rcases o with _ | _ | _ | _ | o <;> simp at h3
/-- what is laid, however it came about -/
def Laid (x3 x4 : Nat) (D C : List Nat) (WB : World) (p : Value) (wx : World) : Prop := ∃ b vd vc, p = .pointer (some ⟨b, 0, none⟩) ∧ Hid (QAt wx b ⟨x3, x4, D, C⟩ vd vc) ∧ Hid (Nums wx vd D) ∧ Hid (Nums wx vc C) ∧ WB.heap.size ≤ b ∧ Hid (Below WB.heap.size WB wx)
theorem laid_over {x3 x4 : Nat} {D C : List Nat} {WB y2 : World} {b : Nat} {vd vc : Value} (hz : QAt y2 b Q.zero (.slice none 0 0) (.slice none 0 0)) (hd : Nums y2 vd D) (hc : Nums y2 vc C) (hb : WB.heap.size ≤ b) (hB : Below WB.heap.size WB y2) :
    Laid x3 x4 D C WB (.pointer (some ⟨b, 0, none⟩)) ((((y2.setCell ⟨b, 0, none⟩ (.int .u64 x3)).setCell ⟨b, 1, none⟩ (.int .u64 x4)).setCell ⟨b, 2, none⟩ vd).setCell ⟨b, 3, none⟩ vc) := by
  obtain ⟨_, _, _, _, hA, hb2⟩ := hz.put4 ⟨x3, x4, D, C⟩ vd vc
  refine ⟨b, vd, vc, rfl, hA, ?_, ?_, hb, hB.trans (hb2.mono hb)⟩
  · exact hd.keep fun g o k c e hk => put4_other _ _ _ _ _ _ _ (by subst e; exact nums_far hz hd hk)
  · exact hc.keep fun g o k c e hk => put4_other _ _ _ _ _ _ _ (by subst e; exact nums_far hz hc hk)
theorem laid_new {x3 x4 : Nat} {D C : List Nat} {WB y2 : World} {vd vc : Value} (hd : Nums y2 vd D) (hc : Nums y2 vc C) (hB : Below WB.heap.size WB y2) :
    Laid x3 x4 D C WB (.pointer (some ⟨y2.heap.size, 0, none⟩)) (y2.alloc (.cells #[.int .u64 x3, .int .u64 x4, vd, vc] 25)) := by
  have hb := below_new y2 (boxQ ⟨x3, x4, D, C⟩ vd vc)
  exact ⟨_, vd, vc, rfl, (QAt.new y2 ⟨x3, x4, D, C⟩ vd vc : QAt _ _ _ _ _), hd.below hb, hc.below hb, hB.size, below_th hB hb⟩
section
set_option maxRecDepth 100000
set_option maxHeartbeats 8000000
theorem decode_size (s : ByteArray) (w : World) (hs : s.size ≤ 281474976710656) (h : ¬ s.size = 508) : Calls Try.prog 12 #[.string s] w (DecPost s w) := by
  have hno : ¬ DecP s := fun hh => h hh.1
  have HS := Lib.hid (decV_no hno)
  have HE := Lib.hid (decE_no hno)
  have hq : ((s.size : Int) != 508) = true := by simp; omega
  clear hno h
  go_enter Try.func12, Try.ntmps12
  go_wp2
  refine bodyPost_ret (results_root rfl _ _ rfl (QAt.new w Q.zero (.slice none 0 0) (.slice none 0 0))) rfl ?_
  exact dec_end HS.out HE.out (Nums.nil _) (Nums.nil _) (below_new w _)
theorem decode_508 (s : ByteArray) (w : World) (hs : s.size = 508) : Calls Try.prog 12 #[.string s] w (DecPost s w) := by
  have hYY := fun h0 h1 => rr_yes hs h0 h1
  have hNN := fun h => rr_no (s := s) h
  have hEnc := fun d c W (h1 : Nums W d (rr s).dats) (h2 : Nums W c (rr s).cps) => encode_any (rr s) d c W h1 h2
  have hrr : rr s = ⟨takeN s 0 6, takeN s 6 6, nAt s 14 (fitN s 14 (sb s 12)), nAt s (14 + 4 * sb s 12) (fitN s (14 + 4 * sb s 12) (sb s 13))⟩ := rfl
  obtain ⟨n, hn⟩ : ∃ n, sb s 12 = n := ⟨_, rfl⟩
  obtain ⟨m, hm⟩ : ∃ m, sb s 13 = m := ⟨_, rfl⟩
  have hn2 : n < 256 := by rw [← hn]; exact sb_lt s 12
  have hm2 : m < 256 := by rw [← hm]; exact sb_lt s 13
  have T1 := Lib.hid (fun W => take_ref_yes s 0 6 W (by omega) (by omega) (by omega) (by omega))
  have T2 := Lib.hid (fun W => take_ref_yes s 6 6 W (by omega) (by omega) (by omega) (by omega))
  have hN1 := fun W => numbers_any s 14 n W (by omega) (by omega) (by omega)
  have hN2 := fun W => numbers_any s (14 + 4 * n) m W (by omega) (by omega) (by omega)
  have ea : ((14 + 4 * n : Nat) : Int) = 14 + 4 * (n : Int) := by omega
  rw [ea] at hN2
  unfold NumPost at hN1 hN2
  have hq : ((s.size : Int) != 508) = false := by simp; omega
  have e12 : ∀ h : 12 < s.size, (((s[12]'h).toNat : Nat) : Int) = (n : Int) := fun h => by
    have : s.data.toList[12]? = some (s[12]'h) := Go.Proofs.byte_at s 12 h
    rw [← hn]; simp [sb, this]
  have e13 : ∀ h : 13 < s.size, (((s[13]'h).toNat : Nat) : Int) = (m : Int) := fun h => by
    have : s.data.toList[13]? = some (s[13]'h) := Go.Proofs.byte_at s 13 h
    rw [← hm]; simp [sb, this]
  have l12 : 12 < s.size := by omega
  have l13 : 13 < s.size := by omega
  have l12i : (12 : Int) < (s.size : Int) := by omega
  have l13i : (13 : Int) < (s.size : Int) := by omega
  have v1 : IntKind.i64.wrap (4 * (n : Int)) = 4 * (n : Int) := by rw [IntKind.wrap_i64]; omega
  have v2 : IntKind.i64.wrap (14 + 4 * (n : Int)) = 14 + 4 * (n : Int) := by rw [IntKind.wrap_i64]; omega
  have v3 : IntKind.i64.wrap (n : Int) = (n : Int) := by rw [IntKind.wrap_i64]; omega
  have v4 : IntKind.i64.wrap (m : Int) = (m : Int) := by rw [IntKind.wrap_i64]; omega
  obtain ⟨x3, hx3⟩ : ∃ x, takeN s 0 6 = x := ⟨_, rfl⟩
  obtain ⟨x4, hx4⟩ : ∃ x, takeN s 6 6 = x := ⟨_, rfl⟩
  rw [hn, hm] at hrr
  obtain ⟨D, hDD⟩ : ∃ D, nAt s 14 (fitN s 14 n) = D := ⟨_, rfl⟩
  obtain ⟨C, hCC⟩ : ∃ C, nAt s (14 + 4 * n) (fitN s (14 + 4 * n) m) = C := ⟨_, rfl⟩
  rw [hx3, hx4, hDD, hCC] at hrr
  simp only [hx3] at T1
  simp only [hx4] at T2
  simp only [hDD] at hN1
  simp only [hCC] at hN2
  rw [hrr] at hYY hNN hEnc
  have N1 := Lib.hid hN1
  have N2 := Lib.hid hN2
  have HYY := Lib.hid hYY
  have HNN := Lib.hid hNN
  have HENC := Lib.hid hEnc
  obtain ⟨WB, hWB⟩ : ∃ WB, w.alloc (.cells #[.int .u64 0, .int .u64 0, .slice none 0 0, .slice none 0 0] 25) = WB := ⟨_, rfl⟩
  have hZ : QAt WB w.heap.size Q.zero (.slice none 0 0) (.slice none 0 0) := by rw [← hWB]; exact QAt.new w Q.zero _ _
  have hBZ : Below w.heap.size w WB := by rw [← hWB]; exact below_new _ _
  have hsz : WB.heap.size = w.heap.size + 1 := by rw [← hWB]; exact World.size_alloc ..
  have HSZ := Lib.hid hsz
  clear hsz
  have HZ := Lib.hid hZ
  have HBZ := Lib.hid hBZ
  clear hN1 hN2 hYY hNN hEnc ea hn hm hx3 hx4 hDD hCC hrr hZ hBZ
  go_enter Try.func12, Try.ntmps12
  go_upto_region 6 with (first
    | (go_at_call 36; (with_reducible refine Calls.mono (T1.out _) ?_); rintro e w1 ⟨rfl, rfl⟩)
    | (go_at_call 36; (with_reducible refine Calls.mono (T2.out _) ?_); rintro e w1 ⟨rfl, rfl⟩))
  try rw [hWB]
  have HNEW : Hid (∀ W : World, QAt (W.alloc (.cells #[.int .u64 0, .int .u64 0, .slice none 0 0, .slice none 0 0] 25)) W.heap.size Q.zero (.slice none 0 0) (.slice none 0 0)) := fun W => QAt.new W Q.zero _ _
  go_cut [9] (fun p wx => Laid x3 x4 D C WB p wx)
  case first =>
    go_region_law (first
      | (go_simp; go_at_call 37; (with_reducible refine Calls.mono (N1.out _) ?_); rintro e y1 ⟨vd, rfl, hd1, hB1⟩; obtain ⟨ad, cd, rfl, _, _⟩ := hd1.parts; first | (have hB1' := below_th (below_drew (Below.refl WB.heap.size WB)) hB1) | (have hz1 := (HNEW.out WB).drew.th hB1; have hB1' := below_th (below_drew (below_new WB _)) hB1))
      | (go_simp; go_at_call 37; (with_reducible refine Calls.mono (N2.out _) ?_); rintro e y2 ⟨vc, rfl, hc2, hB2⟩; obtain ⟨ac, cc, rfl, _, _⟩ := hc2.parts;
          first
          | (have hz2 := hz1.th hB2; obtain ⟨k0, k1, k2, k3⟩ := hz2.c; have f0 := hz2.f 0; have f1 := hz2.f 1; have f2 := hz2.f 2; have f3 := hz2.f 3; have HL := Lib.hid (laid_over (x3 := x3) (x4 := x4) hz2 (hd1.below hB2) hc2 (Nat.le_refl _) (below_th hB1' hB2)); clear hd1 hc2 hz2)
          | (have hz2 := (HNEW.out y1).th hB2; obtain ⟨k0, k1, k2, k3⟩ := hz2.c; have f0 := hz2.f 0; have f1 := hz2.f 1; have f2 := hz2.f 2; have f3 := hz2.f 3; have HL := Lib.hid (laid_over (x3 := x3) (x4 := x4) hz2 ((hd1.below (below_new y1 _)).below hB2) hc2 hB1'.size (below_th (below_th hB1' (below_new y1 _)) hB2)); clear hd1 hc2 hz2)
          | (have HL := Lib.hid (laid_new (x3 := x3) (x4 := x4) (hd1.below hB2) hc2 (below_th hB1' hB2)); clear hd1 hc2)))
    all_goals
      go_wp2_with fail
      go_meet
      exact HL.out
  case rest =>
    obtain ⟨b, vd, vc, rfl, HQ, HD, HC, hbz, HB⟩ := hcut
    have hHD := HD.out
    have hHC := HC.out
    obtain ⟨ad, cd, rfl, _, _⟩ := hHD.parts
    obtain ⟨ac, cc, rfl, _, _⟩ := hHC.parts
    have hAc : QAt wc w.heap.size Q.zero (.slice none 0 0) (.slice none 0 0) := HZ.out.th HB.out
    have hwc : Below w.heap.size w wc := HBZ.out.trans (HB.out.mono HBZ.out.size)
    have hgb : b ≠ w.heap.size := by have := HSZ.out; omega
    have hQc := HQ.out
    obtain ⟨r0, r1, r2, r3⟩ := hQc.c
    dsimp only at r0 r1 r2 r3
    have hen := HENC.out _ _ wc hHD hHC
    obtain ⟨E, hE⟩ : ∃ E, encS ⟨x3, x4, D, C⟩ = E := ⟨_, rfl⟩
    obtain ⟨er, her⟩ : ∃ er, encE ⟨x3, x4, D, C⟩ = er := ⟨_, rfl⟩
    unfold Q.val Ans at hen
    have hYES : er = 0 ∧ E = s → ∀ w' d c, Nums w' d D → Nums w' c C → Below w.heap.size w w' → DecPost s w (.returned (.tuple #[Q.val ⟨x3, x4, D, C⟩ d c, .int .i64 0])) w' := fun hh w' d c h1 h2 h3 => by
      have h4 := HYY.out (by rw [her]; exact hh.1) (by rw [hE]; exact hh.2)
      exact dec_end h4.2.symm (decE_yes h4.1) h1 h2 h3
    have hNO : ¬ (er = 0 ∧ E = s) → ∀ w', Below w.heap.size w w' → DecPost s w (.returned (.tuple #[Q.zero.val (.slice none 0 0) (.slice none 0 0), .int .i64 153])) w' := fun hh w' h3 => by
      have h4 := HNN.out (by rw [her, hE]; exact hh)
      exact dec_end (decV_no h4) (decE_no h4) (Nums.nil _) (Nums.nil _) h3
    simp only [hE, her] at hen
    have HYES := Lib.hid hYES
    have HNO := Lib.hid hNO
    have HEN := Lib.hid hen
    clear hen hYES hNO hE her HYY HNN HENC N1 N2 T1 T2 HNEW hWB e12 e13 l12 l13 l12i l13i v1 v2 v3 v4 hs hq hn2 hm2
    go_wp2_with fail
    (with_reducible refine Calls.mono HEN.out ?_)
    rintro e w8 ⟨rfl, hB8⟩
    have hA8 := hAc.th hB8
    have hR8 := hQc.th hB8
    have hw8 := below_th hwc hB8
    have hp5 := hHD.below hB8
    have hp6 := hHC.below hB8
    obtain ⟨a0, a1, a2, a3⟩ := hA8.c
    obtain ⟨q0, q1, q2, q3⟩ := hR8.c
    dsimp only at q0 q1 q2 q3
    have f0 := hA8.f 0
    have f1 := hA8.f 1
    have f2 := hA8.f 2
    have f3 := hA8.f 3
    by_cases h0 : er = 0
    · have g0 : ((er : Int) != 0) = false := by simp [h0]
      by_cases hes : E = s
      · obtain ⟨g1, g2⟩ := beqL_yes hes
        have HY := Lib.hid (HYES.out ⟨h0, hes⟩)
        obtain ⟨k0, k1, k2, k3, hAp, hBp⟩ := hA8.put4 ⟨x3, x4, D, C⟩ (.slice ad D.length cd) (.slice ac C.length cc)
        have hq5 : Nums _ (.slice ad D.length cd) D := hp5.keep fun g o k c he hk => put4_other w8 w.heap.size (.int .u64 x3) (.int .u64 x4) (.slice ad D.length cd) (.slice ac C.length cc) g (by rw [he] at hp5; exact nums_far hA8 hp5 hk)
        have hq6 : Nums _ (.slice ac C.length cc) C := hp6.keep fun g o k c he hk => put4_other w8 w.heap.size (.int .u64 x3) (.int .u64 x4) (.slice ad D.length cd) (.slice ac C.length cc) g (by rw [he] at hp6; exact nums_far hA8 hp6 hk)
        have HF := Lib.hid (HY.out _ _ _ hq5 hq6 (hw8.trans hBp))
        have HAp := Lib.hid hAp
        clear hq5 hq6 hBp hp5 hp6 hA8 hR8 hw8 hAc hwc hQc hB8 HEN HYES HNO HY h0 hes hAp r0 r1 r2 r3
        go_wp2
        refine bodyPost_ret (results_root rfl _ _ rfl HAp.out) rfl ?_
        exact HF.out
      · obtain ⟨g1, g2⟩ := beqL_no hes
        have HY := Lib.hid (HNO.out (fun hh => hes hh.2))
        obtain ⟨k0, k1, k2, k3, hAp, hBp⟩ := hA8.put4 Q.zero (.slice none 0 0) (.slice none 0 0)
        have HF := Lib.hid (HY.out _ (hw8.trans hBp))
        have HAp := Lib.hid hAp
        clear hBp hp5 hp6 hA8 hR8 hw8 hAc hwc hQc hB8 HEN HYES HNO HY h0 hes hAp r0 r1 r2 r3
        go_wp2
        refine bodyPost_ret (results_root rfl _ _ rfl HAp.out) rfl ?_
        exact HF.out
    · have g0 : ((er : Int) != 0) = true := by simp [h0]
      have HY := Lib.hid (HNO.out (fun hh => h0 hh.1))
      obtain ⟨k0, k1, k2, k3, hAp, hBp⟩ := hA8.put4 Q.zero (.slice none 0 0) (.slice none 0 0)
      have HF := Lib.hid (HY.out _ (hw8.trans hBp))
      have HAp := Lib.hid hAp
      clear hBp hp5 hp6 hA8 hR8 hw8 hAc hwc hQc hB8 HEN HYES HNO HY h0 hAp r0 r1 r2 r3
      go_wp2
      refine bodyPost_ret (results_root rfl _ _ rfl HAp.out) rfl ?_
      exact HF.out
theorem decode_any (s : ByteArray) (w : World) (hs : s.size ≤ 281474976710656) : Calls Try.prog 12 #[.string s] w (DecPost s w) := by
  by_cases h1 : s.size = 508
  · exact decode_508 s w h1
  · exact decode_size s w hs h1
end
end Go.Proofs.Ytdniakoedgohkaa.Root.R
