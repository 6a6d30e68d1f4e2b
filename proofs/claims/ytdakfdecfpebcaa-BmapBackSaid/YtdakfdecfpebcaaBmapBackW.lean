/- BmapBack, walked. -/
import Derived.Test.YtdakfdecfpebcaaBmpApp
import Derived.Test.YtdakfdecfpebcaaBmpArgs
namespace Go.Proofs.Ytdakfdecfpebcaa.Bmp
open Go.RowKit Ino
attribute [local go_sem] Oper.semAt_some
set_option linter.unusedVariables false
set_option linter.unusedSimpArgs false
section
set_option maxRecDepth 100000
set_option maxHeartbeats 8000000
theorem back_long (s : Nat) (v1 v2 v5 : Value) (V I : List Nat) (ma mb mc md me mf : Nat) (B : List ByteArray) (w : World) (ws : s < 4294967296) (hV : U32s w v1 V) (hI : U32s w v2 I) (sV : Small V) (sI : Small I) (hB : Strs w v5 B) (hm : MOk ⟨ma, mb, mc, md, me, mf⟩) (k1 : 1000 < V.length) : Calls Try.prog 5 #[.int .u32 s, v1, v2, (.agg #[.int .u32 (ma : Int), .int .u32 (mb : Int), .int .u32 (mc : Int), .int .u32 (md : Int), .int .u32 (me : Int), .int .u32 (mf : Int)]), v5] w (Ans w (.bool true)) := by
  obtain ⟨a1, c1, rfl, p1, q1⟩ := hV.parts
  obtain ⟨a2, c2, rfl, p2, q2⟩ := hI.parts
  obtain ⟨a5, c5, rfl, p5, q5⟩ := hB.parts
  have HM0 := Lib.hid (AtM.new w ⟨ma, mb, mc, md, me, mf⟩)
  have HB0 := Lib.hid (below_new w (boxM ⟨ma, mb, mc, md, me, mf⟩))
  unfold boxM at HM0 HB0
  dsimp only at HM0 HB0
  have HBW : Hid (∀ W, Below (w.alloc (.cells #[.int .u32 (ma : Int), .int .u32 (mb : Int), .int .u32 (mc : Int), .int .u32 (md : Int), .int .u32 (me : Int), .int .u32 (mf : Int)] 32)).heap.size (w.alloc (.cells #[.int .u32 (ma : Int), .int .u32 (mb : Int), .int .u32 (mc : Int), .int .u32 (md : Int), .int .u32 (me : Int), .int .u32 (mf : Int)] 32)) W → Below w.heap.size w W) := fun W h => below_th HB0.out h
  have HMB := Lib.hid (fun W h => AtM.c (AtM.th (W' := W) HM0.out h))
  dsimp only at HMB
  clear HM0
  have g1 : (1000 : Int) < (V.length : Int) := by omega
  clear hV hI sV sI ws hB hm k1
  go_enter Try.func5, Try.ntmps5
  go_wp2_with (go_at_call 9; (with_reducible refine Calls.mono (shown_any _) ?_); rintro e w1 ⟨rfl, hB1⟩; have HB1 := Lib.hid hB1; clear hB1)
  go_ret
  exact ⟨rfl, HBW.out _ HB1.out⟩
theorem back_ids (s : Nat) (v1 v2 v5 : Value) (V I : List Nat) (ma mb mc md me mf : Nat) (B : List ByteArray) (w : World) (ws : s < 4294967296) (hV : U32s w v1 V) (hI : U32s w v2 I) (sV : Small V) (sI : Small I) (hB : Strs w v5 B) (hm : MOk ⟨ma, mb, mc, md, me, mf⟩) (k1 : ¬ 1000 < V.length) (k2 : 1000 < I.length) : Calls Try.prog 5 #[.int .u32 s, v1, v2, (.agg #[.int .u32 (ma : Int), .int .u32 (mb : Int), .int .u32 (mc : Int), .int .u32 (md : Int), .int .u32 (me : Int), .int .u32 (mf : Int)]), v5] w (Ans w (.bool true)) := by
  obtain ⟨a1, c1, rfl, p1, q1⟩ := hV.parts
  obtain ⟨a2, c2, rfl, p2, q2⟩ := hI.parts
  obtain ⟨a5, c5, rfl, p5, q5⟩ := hB.parts
  have HM0 := Lib.hid (AtM.new w ⟨ma, mb, mc, md, me, mf⟩)
  have HB0 := Lib.hid (below_new w (boxM ⟨ma, mb, mc, md, me, mf⟩))
  unfold boxM at HM0 HB0
  dsimp only at HM0 HB0
  have HBW : Hid (∀ W, Below (w.alloc (.cells #[.int .u32 (ma : Int), .int .u32 (mb : Int), .int .u32 (mc : Int), .int .u32 (md : Int), .int .u32 (me : Int), .int .u32 (mf : Int)] 32)).heap.size (w.alloc (.cells #[.int .u32 (ma : Int), .int .u32 (mb : Int), .int .u32 (mc : Int), .int .u32 (md : Int), .int .u32 (me : Int), .int .u32 (mf : Int)] 32)) W → Below w.heap.size w W) := fun W h => below_th HB0.out h
  have HMB := Lib.hid (fun W h => AtM.c (AtM.th (W' := W) HM0.out h))
  dsimp only at HMB
  clear HM0
  have g1 : ¬ (1000 : Int) < (V.length : Int) := by omega
  have g2 : (1000 : Int) < (I.length : Int) := by omega
  clear hV hI sV sI ws hB hm k1 k2
  go_enter Try.func5, Try.ntmps5
  go_wp2_with (go_at_call 9; (with_reducible refine Calls.mono (shown_any _) ?_); rintro e w1 ⟨rfl, hB1⟩; have HB1 := Lib.hid hB1; clear hB1)
  go_ret
  exact ⟨rfl, HBW.out _ HB1.out⟩
theorem back_yes0 (s : Nat) (v1 v2 v5 : Value) (V I : List Nat) (ma mb mc md me mf : Nat) (B : List ByteArray) (w : World) (ws : s < 4294967296) (hV : U32s w v1 V) (hI : U32s w v2 I) (sV : Small V) (sI : Small I) (hB : Strs w v5 B) (hm : MOk ⟨ma, mb, mc, md, me, mf⟩) (k1 : ¬ 1000 < V.length) (k2 : ¬ 1000 < I.length) (l1 : layP s V I) (hno : ∀ V' I', ¬ joinP s ⟨ma, mb, mc, md, me, mf⟩ (B.take (min B.length 10)) V' I') : Calls Try.prog 5 #[.int .u32 s, v1, v2, (.agg #[.int .u32 (ma : Int), .int .u32 (mb : Int), .int .u32 (mc : Int), .int .u32 (md : Int), .int .u32 (me : Int), .int .u32 (mf : Int)]), v5] w (Ans w (.bool true)) := by
  obtain ⟨a1, c1, rfl, p1, q1⟩ := hV.parts
  obtain ⟨a2, c2, rfl, p2, q2⟩ := hI.parts
  obtain ⟨a5, c5, rfl, p5, q5⟩ := hB.parts
  have HM0 := Lib.hid (AtM.new w ⟨ma, mb, mc, md, me, mf⟩)
  have HB0 := Lib.hid (below_new w (boxM ⟨ma, mb, mc, md, me, mf⟩))
  unfold boxM at HM0 HB0
  dsimp only at HM0 HB0
  have HBW : Hid (∀ W, Below (w.alloc (.cells #[.int .u32 (ma : Int), .int .u32 (mb : Int), .int .u32 (mc : Int), .int .u32 (md : Int), .int .u32 (me : Int), .int .u32 (mf : Int)] 32)).heap.size (w.alloc (.cells #[.int .u32 (ma : Int), .int .u32 (mb : Int), .int .u32 (mc : Int), .int .u32 (md : Int), .int .u32 (me : Int), .int .u32 (mf : Int)] 32)) W → Below w.heap.size w W) := fun W h => below_th HB0.out h
  have HMB := Lib.hid (fun W h => AtM.c (AtM.th (W' := W) HM0.out h))
  dsimp only at HMB
  clear HM0
  have g1 : ¬ (1000 : Int) < (V.length : Int) := by omega
  have g2 : ¬ (1000 : Int) < (I.length : Int) := by omega
  have h1 := fun W (h : Below w.heap.size w W) => lay_any s _ _ V I W ws (hV.below h) (hI.below h) sV sI (by omega) (by omega)
  unfold LayPost at h1
  obtain ⟨k5, hk5⟩ : ∃ k5, min B.length 10 = k5 := ⟨_, rfl⟩
  have hcut := fun W (h : Below w.heap.size w W) => Strs.cut (hB.below h) k5 (by omega)
  have hbl : (B.take k5).length = k5 := by rw [List.length_take]; omega
  have hmin : min (B.length : Int) 10 = (k5 : Int) := by omega
  have hk10 : k5 ≤ 10 := by omega
  have hkc : k5 ≤ c5 := by omega
  have hkcI : (k5 : Int) ≤ (c5 : Int) := by omega
  have hlj := joinP_lay l1 sV sI
  have hxl : (layB s V I).length ≤ 10 := by
    unfold layB
    rw [if_pos l1, blocks_length l1, cnt_def l1.1]
    have hd := dp_le s
    have h7 := l1.2.1
    split
    · unfold lowN; omega
    · omega
  rw [show layE s V I = 0 from if_pos l1] at h1
  have h2 := fun v W (hv : Strs W v (layB s V I)) => join_some s _ v _ V I W ws hv hlj hxl
  have h3 := fun v W (hv : U32s W v V) (h : Below w.heap.size w W) => R.same_any v _ V V W hv (hV.below h)
  rw [decide_eq_true (rfl : V = V)] at h3
  have H3 := Lib.hid h3
  generalize layM s V I = n at h1 h2
  generalize layB s V I = X at h1 h2
  clear hlj hxl h3
  obtain ⟨na, nb, nc, nd, ne, nf⟩ := n
  unfold M.val at h1 h2
  dsimp only at h1 h2
  have H1 := Lib.hid h1
  have H2 := Lib.hid h2
  have h4 := fun W (h : Below w.heap.size w W) => join_none s ⟨ma, mb, mc, md, me, mf⟩ _ (B.take k5) W ws hm (hcut W h) (by rw [← hk5]; exact hno) (by omega)
  unfold M.val at h4
  dsimp only at h4
  have H4 := Lib.hid h4
  clear h4
  generalize V.length = lv at *
  generalize I.length = li at *
  clear h1 h2 ws hV hI sV sI hB hm k1 k2 l1 hcut hbl hk5 hno
  go_enter Try.func5, Try.ntmps5
  go_wp2_with (first
    | (go_at_call 9; (with_reducible refine Calls.mono (shown_any _) ?_); rintro e w1 ⟨rfl, hB1⟩; have HB1 := Lib.hid hB1; clear hB1)
    | (go_at_call 15; (with_reducible refine Calls.mono (H1.out _ (HBW.out _ HB1.out)) ?_); rintro e w2 ⟨u2, rfl, hv2, hB2⟩; have HV2 := Lib.hid hv2; have HB2 := Lib.hid (below_th HB1.out hB2); clear hv2 hB2)
    | (go_at_call 18; (with_reducible refine Calls.mono (H2.out _ _ (HV2.out.below (below_new _ _))) ?_); rintro e w4 ⟨u4, rfl, hv4, hB4⟩; have HV4 := Lib.hid hv4; have HB4 := Lib.hid (below_th (below_al HB2.out _) hB4); clear hv4 hB4)
    | (go_at_call 19; (with_reducible refine Calls.mono (H3.out _ _ HV4.out (HBW.out _ HB4.out)) ?_); rintro e w5 ⟨rfl, hB5⟩; have HB5 := Lib.hid (below_th HB4.out hB5); obtain ⟨x0, x1, x2, x3, x4, x5⟩ := HMB.out _ HB5.out; clear hB5)
    | (go_at_call 18; (with_reducible refine Calls.mono (H4.out _ (HBW.out _ HB5.out)) ?_); rintro e w6 ⟨u6, rfl, hB6⟩))
  go_ret
  exact ⟨rfl, HBW.out _ (below_th HB5.out hB6)⟩
theorem back_yes1 (s : Nat) (v1 v2 v5 : Value) (V I : List Nat) (ma mb mc md me mf : Nat) (B : List ByteArray) (w : World) (ws : s < 4294967296) (hV : U32s w v1 V) (hI : U32s w v2 I) (sV : Small V) (sI : Small I) (hB : Strs w v5 B) (hm : MOk ⟨ma, mb, mc, md, me, mf⟩) (k1 : ¬ 1000 < V.length) (k2 : ¬ 1000 < I.length) (l1 : layP s V I) (V' I' : List Nat) (k0 : Nat) (hk0' : k0 = min B.length 10) (hy : joinP s ⟨ma, mb, mc, md, me, mf⟩ (B.take k0) V' I') (hd : dpN s = 0) : Calls Try.prog 5 #[.int .u32 s, v1, v2, (.agg #[.int .u32 (ma : Int), .int .u32 (mb : Int), .int .u32 (mc : Int), .int .u32 (md : Int), .int .u32 (me : Int), .int .u32 (mf : Int)]), v5] w (Ans w (.bool true)) := by
  obtain ⟨a1, c1, rfl, p1, q1⟩ := hV.parts
  obtain ⟨a2, c2, rfl, p2, q2⟩ := hI.parts
  obtain ⟨a5, c5, rfl, p5, q5⟩ := hB.parts
  have HM0 := Lib.hid (AtM.new w ⟨ma, mb, mc, md, me, mf⟩)
  have HB0 := Lib.hid (below_new w (boxM ⟨ma, mb, mc, md, me, mf⟩))
  unfold boxM at HM0 HB0
  dsimp only at HM0 HB0
  have HBW : Hid (∀ W, Below (w.alloc (.cells #[.int .u32 (ma : Int), .int .u32 (mb : Int), .int .u32 (mc : Int), .int .u32 (md : Int), .int .u32 (me : Int), .int .u32 (mf : Int)] 32)).heap.size (w.alloc (.cells #[.int .u32 (ma : Int), .int .u32 (mb : Int), .int .u32 (mc : Int), .int .u32 (md : Int), .int .u32 (me : Int), .int .u32 (mf : Int)] 32)) W → Below w.heap.size w W) := fun W h => below_th HB0.out h
  have HMB := Lib.hid (fun W h => AtM.c (AtM.th (W' := W) HM0.out h))
  dsimp only at HMB
  clear HM0
  have g1 : ¬ (1000 : Int) < (V.length : Int) := by omega
  have g2 : ¬ (1000 : Int) < (I.length : Int) := by omega
  have h1 := fun W (h : Below w.heap.size w W) => lay_any s _ _ V I W ws (hV.below h) (hI.below h) sV sI (by omega) (by omega)
  unfold LayPost at h1
  obtain ⟨k5, hk5⟩ : ∃ k5, min B.length 10 = k5 := ⟨_, rfl⟩
  have hcut := fun W (h : Below w.heap.size w W) => Strs.cut (hB.below h) k5 (by omega)
  have hbl : (B.take k5).length = k5 := by rw [List.length_take]; omega
  have hmin : min (B.length : Int) 10 = (k5 : Int) := by omega
  have hk10 : k5 ≤ 10 := by omega
  have hkc : k5 ≤ c5 := by omega
  have hkcI : (k5 : Int) ≤ (c5 : Int) := by omega
  have hlj := joinP_lay l1 sV sI
  have hxl : (layB s V I).length ≤ 10 := by
    unfold layB
    rw [if_pos l1, blocks_length l1, cnt_def l1.1]
    have hd := dp_le s
    have h7 := l1.2.1
    split
    · unfold lowN; omega
    · omega
  rw [show layE s V I = 0 from if_pos l1] at h1
  have h2 := fun v W (hv : Strs W v (layB s V I)) => join_some s _ v _ V I W ws hv hlj hxl
  have h3 := fun v W (hv : U32s W v V) (h : Below w.heap.size w W) => R.same_any v _ V V W hv (hV.below h)
  rw [decide_eq_true (rfl : V = V)] at h3
  have H3 := Lib.hid h3
  generalize layM s V I = n at h1 h2
  generalize layB s V I = X at h1 h2
  clear hlj hxl h3
  obtain ⟨na, nb, nc, nd, ne, nf⟩ := n
  unfold M.val at h1 h2
  dsimp only at h1 h2
  have H1 := Lib.hid h1
  have H2 := Lib.hid h2
  obtain rfl : k0 = k5 := by omega
  have h4 := fun W (h : Below w.heap.size w W) => join_some s ⟨ma, mb, mc, md, me, mf⟩ _ (B.take k0) V' I' W ws (hcut W h) hy (by omega)
  obtain ⟨f1, f2, f3⟩ := joinP_few hy (by omega)
  rw [hbl] at f3
  obtain ⟨r1, r2, r3⟩ := lay_back hy
  have h6 := fun v3 v4 W (h7 : U32s W v3 V') (h8 : U32s W v4 I') => lay_any s v3 v4 V' I' W ws h7 h8 hy.1 hy.2.1 f1 f2
  unfold LayPost at h6
  rw [r1, r2, r3] at h6
  have h7 := fun v3 W (h : Strs W v3 (B.take k0)) (hw : Below w.heap.size w W) => R.sameTexts_any v3 _ (B.take k0) (B.take k0) W h (hcut W hw)
  rw [decide_eq_true (rfl : B.take k0 = B.take k0)] at h7
  have hcn := cnt_def hy.2.2.1.1
  have hil := hy.2.2.1.2.2.1
  have hmm := hy.2.2.2.1
  have hbb := hy.2.2.2.2
  have hQ := fun W => eqlM ⟨ma, mb, mc, md, me, mf⟩ ⟨ma, mb, mc, md, me, mf⟩ W
  rw [decide_eq_true rfl] at hQ
  unfold M.val at h4 h6 hQ
  dsimp only at h4 h6 hQ
  have hi0 : I' = [] := List.eq_nil_of_length_eq_zero (by rw [hil, hcn, if_neg (by omega), hd])
  subst hi0
  have hk0 : k0 = 0 := f3.symm
  have gk : ((k0 : Int) == 0) = true := by rw [hk0]; rfl
  have gk2 : ¬ (1 : Int) < (k0 : Int) := by omega
  have H4 := Lib.hid h4
  have H6 := Lib.hid h6
  have H7 := Lib.hid h7
  generalize V.length = lv at *
  generalize I.length = li at *
  clear h1 h2 ws hV hI sV sI hB hm k1 k2 l1 hcut hbl hk5 h4 h6 h7 f1 f2 f3 r1 r2 r3 hcn hil hmm hbb hy hk0 hd hk0'
  go_enter Try.func5, Try.ntmps5
  go_wp2_with (first
    | (go_at_call 9; (with_reducible refine Calls.mono (shown_any _) ?_); rintro e w1 ⟨rfl, hB1⟩; have HB1 := Lib.hid hB1; clear hB1)
    | (go_at_call 15; (with_reducible refine Calls.mono (H1.out _ (HBW.out _ HB1.out)) ?_); rintro e w2 ⟨u2, rfl, hv2, hB2⟩; have HV2 := Lib.hid hv2; have HB2 := Lib.hid (below_th HB1.out hB2); clear hv2 hB2)
    | (go_at_call 18; (with_reducible refine Calls.mono (H2.out _ _ (HV2.out.below (below_new _ _))) ?_); rintro e w4 ⟨u4, rfl, hv4, hB4⟩; have HV4 := Lib.hid hv4; have HB4 := Lib.hid (below_th (below_al HB2.out _) hB4); clear hv4 hB4)
    | (go_at_call 19; (with_reducible refine Calls.mono (H3.out _ _ HV4.out (HBW.out _ HB4.out)) ?_); rintro e w5 ⟨rfl, hB5⟩; have HB5 := Lib.hid (below_th HB4.out hB5); obtain ⟨x0, x1, x2, x3, x4, x5⟩ := HMB.out _ HB5.out; clear hB5)
    | (go_at_call 18; (with_reducible refine Calls.mono (H4.out _ (HBW.out _ HB5.out)) ?_); rintro e w6 ⟨u6, rfl, hv6, hB6⟩; have HV6 := Lib.hid hv6; have HB6 := Lib.hid (below_th HB5.out hB6); have HB7 := Lib.hid (below_al HB6.out (.cells #[.int .u32 (ma : Int)] 22)); obtain ⟨y0, y1, y2, y3, y4, y5⟩ := HMB.out _ HB6.out; clear hv6 hB6)
    | (go_at_call 15; (with_reducible refine Calls.mono (H6.out _ _ _ (HV6.out.below (below_new _ _)) (U32s.nil _)) ?_); rintro e w9 ⟨u9, rfl, hv9, hB9⟩; have HV9 := Lib.hid (hv9.below (below_new w9 (boxM ⟨ma, mb, mc, md, me, mf⟩))); have hC9 := AtM.new w9 ⟨ma, mb, mc, md, me, mf⟩; have HB10 := Lib.hid (below_al (below_th HB7.out hB9) (boxM ⟨ma, mb, mc, md, me, mf⟩)); unfold boxM at HV9 hC9 HB10; dsimp only at HV9 hC9 HB10; obtain ⟨z0, z1, z2, z3, z4, z5⟩ := hC9.c; obtain ⟨t0, t1, t2, t3, t4, t5⟩ := HMB.out _ HB10.out; clear hv9 hB9 hC9)
    | (go_at_call 17; (with_reducible refine Calls.mono (H7.out _ _ HV9.out (HBW.out _ HB10.out)) ?_); rintro e w11 ⟨rfl, hB11⟩))
  go_ret
  exact ⟨rfl, HBW.out _ (below_th HB10.out hB11)⟩
theorem back_yes2 (s : Nat) (v1 v2 v5 : Value) (V I : List Nat) (ma mb mc md me mf : Nat) (B : List ByteArray) (w : World) (ws : s < 4294967296) (hV : U32s w v1 V) (hI : U32s w v2 I) (sV : Small V) (sI : Small I) (hB : Strs w v5 B) (hm : MOk ⟨ma, mb, mc, md, me, mf⟩) (k1 : ¬ 1000 < V.length) (k2 : ¬ 1000 < I.length) (l1 : layP s V I) (V' I' : List Nat) (k0 : Nat) (hk0' : k0 = min B.length 10) (hy : joinP s ⟨ma, mb, mc, md, me, mf⟩ (B.take k0) V' I') (hd : dpN s = 1) : Calls Try.prog 5 #[.int .u32 s, v1, v2, (.agg #[.int .u32 (ma : Int), .int .u32 (mb : Int), .int .u32 (mc : Int), .int .u32 (md : Int), .int .u32 (me : Int), .int .u32 (mf : Int)]), v5] w (Ans w (.bool true)) := by
  obtain ⟨a1, c1, rfl, p1, q1⟩ := hV.parts
  obtain ⟨a2, c2, rfl, p2, q2⟩ := hI.parts
  obtain ⟨a5, c5, rfl, p5, q5⟩ := hB.parts
  have HM0 := Lib.hid (AtM.new w ⟨ma, mb, mc, md, me, mf⟩)
  have HB0 := Lib.hid (below_new w (boxM ⟨ma, mb, mc, md, me, mf⟩))
  unfold boxM at HM0 HB0
  dsimp only at HM0 HB0
  have HBW : Hid (∀ W, Below (w.alloc (.cells #[.int .u32 (ma : Int), .int .u32 (mb : Int), .int .u32 (mc : Int), .int .u32 (md : Int), .int .u32 (me : Int), .int .u32 (mf : Int)] 32)).heap.size (w.alloc (.cells #[.int .u32 (ma : Int), .int .u32 (mb : Int), .int .u32 (mc : Int), .int .u32 (md : Int), .int .u32 (me : Int), .int .u32 (mf : Int)] 32)) W → Below w.heap.size w W) := fun W h => below_th HB0.out h
  have HMB := Lib.hid (fun W h => AtM.c (AtM.th (W' := W) HM0.out h))
  dsimp only at HMB
  clear HM0
  have g1 : ¬ (1000 : Int) < (V.length : Int) := by omega
  have g2 : ¬ (1000 : Int) < (I.length : Int) := by omega
  have h1 := fun W (h : Below w.heap.size w W) => lay_any s _ _ V I W ws (hV.below h) (hI.below h) sV sI (by omega) (by omega)
  unfold LayPost at h1
  obtain ⟨k5, hk5⟩ : ∃ k5, min B.length 10 = k5 := ⟨_, rfl⟩
  have hcut := fun W (h : Below w.heap.size w W) => Strs.cut (hB.below h) k5 (by omega)
  have hbl : (B.take k5).length = k5 := by rw [List.length_take]; omega
  have hmin : min (B.length : Int) 10 = (k5 : Int) := by omega
  have hk10 : k5 ≤ 10 := by omega
  have hkc : k5 ≤ c5 := by omega
  have hkcI : (k5 : Int) ≤ (c5 : Int) := by omega
  have hlj := joinP_lay l1 sV sI
  have hxl : (layB s V I).length ≤ 10 := by
    unfold layB
    rw [if_pos l1, blocks_length l1, cnt_def l1.1]
    have hd := dp_le s
    have h7 := l1.2.1
    split
    · unfold lowN; omega
    · omega
  rw [show layE s V I = 0 from if_pos l1] at h1
  have h2 := fun v W (hv : Strs W v (layB s V I)) => join_some s _ v _ V I W ws hv hlj hxl
  have h3 := fun v W (hv : U32s W v V) (h : Below w.heap.size w W) => R.same_any v _ V V W hv (hV.below h)
  rw [decide_eq_true (rfl : V = V)] at h3
  have H3 := Lib.hid h3
  generalize layM s V I = n at h1 h2
  generalize layB s V I = X at h1 h2
  clear hlj hxl h3
  obtain ⟨na, nb, nc, nd, ne, nf⟩ := n
  unfold M.val at h1 h2
  dsimp only at h1 h2
  have H1 := Lib.hid h1
  have H2 := Lib.hid h2
  obtain rfl : k0 = k5 := by omega
  have h4 := fun W (h : Below w.heap.size w W) => join_some s ⟨ma, mb, mc, md, me, mf⟩ _ (B.take k0) V' I' W ws (hcut W h) hy (by omega)
  obtain ⟨f1, f2, f3⟩ := joinP_few hy (by omega)
  rw [hbl] at f3
  obtain ⟨r1, r2, r3⟩ := lay_back hy
  have h6 := fun v3 v4 W (h7 : U32s W v3 V') (h8 : U32s W v4 I') => lay_any s v3 v4 V' I' W ws h7 h8 hy.1 hy.2.1 f1 f2
  unfold LayPost at h6
  rw [r1, r2, r3] at h6
  have h7 := fun v3 W (h : Strs W v3 (B.take k0)) (hw : Below w.heap.size w W) => R.sameTexts_any v3 _ (B.take k0) (B.take k0) W h (hcut W hw)
  rw [decide_eq_true (rfl : B.take k0 = B.take k0)] at h7
  have hcn := cnt_def hy.2.2.1.1
  have hil := hy.2.2.1.2.2.1
  have hmm := hy.2.2.2.1
  have hbb := hy.2.2.2.2
  have hQ := fun W => eqlM ⟨ma, mb, mc, md, me, mf⟩ ⟨ma, mb, mc, md, me, mf⟩ W
  rw [decide_eq_true rfl] at hQ
  unfold M.val at h4 h6 hQ
  dsimp only at h4 h6 hQ
  have hi1 : I'.length = 1 := by rw [hil, hcn, if_neg (by omega), hd]
  have hma : I' = [ma] := by
    unfold mapOf at hmm
    rw [if_neg (by omega)] at hmm
    simp only [M.mk.injEq] at hmm
    match I', hi1, hmm.1 with
    | [x], _, h => rw [show x = ma from h]
  subst hma
  have hk1 : k0 = 1 := f3.symm
  have gk : ((k0 : Int) == 0) = false := by rw [hk1]; rfl
  have gk2 : ¬ (1 : Int) < (k0 : Int) := by omega
  have H4 := Lib.hid h4
  have H6 := Lib.hid h6
  have H7 := Lib.hid h7
  have HLO : Hid (∀ W : World, U32s (W.alloc (.cells #[.int .u32 (ma : Int)] 22)) (.slice (some ⟨W.heap.size, 0, none⟩) 1 1) [ma]) := fun W => U32s.lit (X := [ma]) (World.alloc_heap_new W _) rfl (by show 1 ≤ 1000; decide)
  generalize V.length = lv at *
  generalize I.length = li at *
  clear h1 h2 ws hV hI sV sI hB hm k1 k2 l1 hcut hbl hk5 h4 h6 h7 f1 f2 f3 r1 r2 r3 hcn hil hmm hbb hy hi1 hk1 hd hk0'
  go_enter Try.func5, Try.ntmps5
  go_wp2_with (first
    | (go_at_call 9; (with_reducible refine Calls.mono (shown_any _) ?_); rintro e w1 ⟨rfl, hB1⟩; have HB1 := Lib.hid hB1; clear hB1)
    | (go_at_call 15; (with_reducible refine Calls.mono (H1.out _ (HBW.out _ HB1.out)) ?_); rintro e w2 ⟨u2, rfl, hv2, hB2⟩; have HV2 := Lib.hid hv2; have HB2 := Lib.hid (below_th HB1.out hB2); clear hv2 hB2)
    | (go_at_call 18; (with_reducible refine Calls.mono (H2.out _ _ (HV2.out.below (below_new _ _))) ?_); rintro e w4 ⟨u4, rfl, hv4, hB4⟩; have HV4 := Lib.hid hv4; have HB4 := Lib.hid (below_th (below_al HB2.out _) hB4); clear hv4 hB4)
    | (go_at_call 19; (with_reducible refine Calls.mono (H3.out _ _ HV4.out (HBW.out _ HB4.out)) ?_); rintro e w5 ⟨rfl, hB5⟩; have HB5 := Lib.hid (below_th HB4.out hB5); obtain ⟨x0, x1, x2, x3, x4, x5⟩ := HMB.out _ HB5.out; clear hB5)
    | (go_at_call 18; (with_reducible refine Calls.mono (H4.out _ (HBW.out _ HB5.out)) ?_); rintro e w6 ⟨u6, rfl, hv6, hB6⟩; have HV6 := Lib.hid hv6; have HB6 := Lib.hid (below_th HB5.out hB6); have HB7 := Lib.hid (below_al HB6.out (.cells #[.int .u32 (ma : Int)] 22)); obtain ⟨y0, y1, y2, y3, y4, y5⟩ := HMB.out _ HB6.out; clear hv6 hB6)
    | (go_at_call 15; (with_reducible refine Calls.mono (H6.out _ _ _ (HV6.out.below (below_new _ _)) (HLO.out _)) ?_); rintro e w9 ⟨u9, rfl, hv9, hB9⟩; have HV9 := Lib.hid (hv9.below (below_new w9 (boxM ⟨ma, mb, mc, md, me, mf⟩))); have hC9 := AtM.new w9 ⟨ma, mb, mc, md, me, mf⟩; have HB10 := Lib.hid (below_al (below_th HB7.out hB9) (boxM ⟨ma, mb, mc, md, me, mf⟩)); unfold boxM at HV9 hC9 HB10; dsimp only at HV9 hC9 HB10; obtain ⟨z0, z1, z2, z3, z4, z5⟩ := hC9.c; obtain ⟨t0, t1, t2, t3, t4, t5⟩ := HMB.out _ HB10.out; clear hv9 hB9 hC9)
    | (go_at_call 17; (with_reducible refine Calls.mono (H7.out _ _ HV9.out (HBW.out _ HB10.out)) ?_); rintro e w11 ⟨rfl, hB11⟩))
  go_ret
  exact ⟨rfl, HBW.out _ (below_th HB10.out hB11)⟩
theorem back_yes3 (s : Nat) (v1 v2 v5 : Value) (V I : List Nat) (ma mb mc md me mf : Nat) (B : List ByteArray) (w : World) (ws : s < 4294967296) (hV : U32s w v1 V) (hI : U32s w v2 I) (sV : Small V) (sI : Small I) (hB : Strs w v5 B) (hm : MOk ⟨ma, mb, mc, md, me, mf⟩) (k1 : ¬ 1000 < V.length) (k2 : ¬ 1000 < I.length) (l1 : layP s V I) (V' I' : List Nat) (k0 : Nat) (hk0' : k0 = min B.length 10) (hy : joinP s ⟨ma, mb, mc, md, me, mf⟩ (B.take k0) V' I') (hd : dpN s = 2) : Calls Try.prog 5 #[.int .u32 s, v1, v2, (.agg #[.int .u32 (ma : Int), .int .u32 (mb : Int), .int .u32 (mc : Int), .int .u32 (md : Int), .int .u32 (me : Int), .int .u32 (mf : Int)]), v5] w (Ans w (.bool true)) := by
  obtain ⟨a1, c1, rfl, p1, q1⟩ := hV.parts
  obtain ⟨a2, c2, rfl, p2, q2⟩ := hI.parts
  obtain ⟨a5, c5, rfl, p5, q5⟩ := hB.parts
  have HM0 := Lib.hid (AtM.new w ⟨ma, mb, mc, md, me, mf⟩)
  have HB0 := Lib.hid (below_new w (boxM ⟨ma, mb, mc, md, me, mf⟩))
  unfold boxM at HM0 HB0
  dsimp only at HM0 HB0
  have HBW : Hid (∀ W, Below (w.alloc (.cells #[.int .u32 (ma : Int), .int .u32 (mb : Int), .int .u32 (mc : Int), .int .u32 (md : Int), .int .u32 (me : Int), .int .u32 (mf : Int)] 32)).heap.size (w.alloc (.cells #[.int .u32 (ma : Int), .int .u32 (mb : Int), .int .u32 (mc : Int), .int .u32 (md : Int), .int .u32 (me : Int), .int .u32 (mf : Int)] 32)) W → Below w.heap.size w W) := fun W h => below_th HB0.out h
  have HMB := Lib.hid (fun W h => AtM.c (AtM.th (W' := W) HM0.out h))
  dsimp only at HMB
  clear HM0
  have g1 : ¬ (1000 : Int) < (V.length : Int) := by omega
  have g2 : ¬ (1000 : Int) < (I.length : Int) := by omega
  have h1 := fun W (h : Below w.heap.size w W) => lay_any s _ _ V I W ws (hV.below h) (hI.below h) sV sI (by omega) (by omega)
  unfold LayPost at h1
  obtain ⟨k5, hk5⟩ : ∃ k5, min B.length 10 = k5 := ⟨_, rfl⟩
  have hcut := fun W (h : Below w.heap.size w W) => Strs.cut (hB.below h) k5 (by omega)
  have hbl : (B.take k5).length = k5 := by rw [List.length_take]; omega
  have hmin : min (B.length : Int) 10 = (k5 : Int) := by omega
  have hk10 : k5 ≤ 10 := by omega
  have hkc : k5 ≤ c5 := by omega
  have hkcI : (k5 : Int) ≤ (c5 : Int) := by omega
  have hlj := joinP_lay l1 sV sI
  have hxl : (layB s V I).length ≤ 10 := by
    unfold layB
    rw [if_pos l1, blocks_length l1, cnt_def l1.1]
    have hd := dp_le s
    have h7 := l1.2.1
    split
    · unfold lowN; omega
    · omega
  rw [show layE s V I = 0 from if_pos l1] at h1
  have h2 := fun v W (hv : Strs W v (layB s V I)) => join_some s _ v _ V I W ws hv hlj hxl
  have h3 := fun v W (hv : U32s W v V) (h : Below w.heap.size w W) => R.same_any v _ V V W hv (hV.below h)
  rw [decide_eq_true (rfl : V = V)] at h3
  have H3 := Lib.hid h3
  generalize layM s V I = n at h1 h2
  generalize layB s V I = X at h1 h2
  clear hlj hxl h3
  obtain ⟨na, nb, nc, nd, ne, nf⟩ := n
  unfold M.val at h1 h2
  dsimp only at h1 h2
  have H1 := Lib.hid h1
  have H2 := Lib.hid h2
  obtain rfl : k0 = k5 := by omega
  have h4 := fun W (h : Below w.heap.size w W) => join_some s ⟨ma, mb, mc, md, me, mf⟩ _ (B.take k0) V' I' W ws (hcut W h) hy (by omega)
  obtain ⟨f1, f2, f3⟩ := joinP_few hy (by omega)
  rw [hbl] at f3
  obtain ⟨r1, r2, r3⟩ := lay_back hy
  have h6 := fun v3 v4 W (h7 : U32s W v3 V') (h8 : U32s W v4 I') => lay_any s v3 v4 V' I' W ws h7 h8 hy.1 hy.2.1 f1 f2
  unfold LayPost at h6
  rw [r1, r2, r3] at h6
  have h7 := fun v3 W (h : Strs W v3 (B.take k0)) (hw : Below w.heap.size w W) => R.sameTexts_any v3 _ (B.take k0) (B.take k0) W h (hcut W hw)
  rw [decide_eq_true (rfl : B.take k0 = B.take k0)] at h7
  have hcn := cnt_def hy.2.2.1.1
  have hil := hy.2.2.1.2.2.1
  have hmm := hy.2.2.2.1
  have hbb := hy.2.2.2.2
  have hQ := fun W => eqlM ⟨ma, mb, mc, md, me, mf⟩ ⟨ma, mb, mc, md, me, mf⟩ W
  rw [decide_eq_true rfl] at hQ
  unfold M.val at h4 h6 hQ
  dsimp only at h4 h6 hQ
  have hb2 := dp_two hd
  have hi1 : I'.length = 1 + lowN s := by rw [hil, hcn, if_pos hd]
  have hlw : 2 ≤ lowN s := by unfold lowN; omega
  have hma : I' = ma :: I'.tail := by
    unfold mapOf at hmm
    rw [if_neg (by omega)] at hmm
    simp only [M.mk.injEq] at hmm
    have h0 := hmm.1
    cases I' with
    | nil => simp at hi1; omega
    | cons x r =>
      have e : x = ma := h0
      rw [e]
      rfl
  have htl : I'.tail.length = lowN s := by rw [List.length_tail]; omega
  have h5 := fun W => below_some s I'.tail W hy.2.2.1.1 hd htl (small_tail hy.2.1) (fun x hx => hy.2.2.1.2.2.2 x (List.mem_of_mem_tail hx))
  have hbb0 : (B.take k0).getD 0 ⟨#[]⟩ = blkB I'.tail := by
    rw [← hbb]
    unfold blocksOf
    rw [if_neg (by omega), if_neg (by omega)]
    rfl
  obtain ⟨b5, o5, e5, x5⟩ := (hcut w (Below.refl _ _)).get (k := 0) (by omega)
  subst e5
  rw [hbb0, Nat.add_zero] at x5
  have HC5 : Hid (∀ W, Below w.heap.size w W → W.cell? ⟨b5, o5, none⟩ = some (.string (blkB I'.tail))) := fun W h => (h.cell (p := ⟨b5, o5, none⟩) (World.block_lt_of_cell? _ _ x5)).trans x5
  have gk : ((k0 : Int) == 0) = false := beq_eq_false_iff_ne.2 (by omega)
  have gk2 : (1 : Int) < (k0 : Int) := by omega
  have gk3 : 0 < k0 := by omega
  have gk4 : 1 < k0 := by omega
  rw [hma] at h6
  have htz : I'.tail.length ≤ 1000 := by omega
  generalize I'.tail = T at *
  have H5 := Lib.hid h5
  generalize blkB T = BT at *
  have H4 := Lib.hid h4
  have H6 := Lib.hid h6
  have H7 := Lib.hid h7
  generalize V.length = lv at *
  generalize I.length = li at *
  clear h1 h2 ws hV hI sV sI hB hm k1 k2 l1 hcut hbl hk5 h4 h6 h7 f1 f2 f3 r1 r2 r3 hcn hil hmm hbb hy hb2 hi1 hlw hma htl h5 hbb0 x5 hd hk0'
  go_enter Try.func5, Try.ntmps5
  go_wp2_with (first
    | (go_at_call 9; (with_reducible refine Calls.mono (shown_any _) ?_); rintro e w1 ⟨rfl, hB1⟩; have HB1 := Lib.hid hB1; clear hB1)
    | (go_at_call 15; (with_reducible refine Calls.mono (H1.out _ (HBW.out _ HB1.out)) ?_); rintro e w2 ⟨u2, rfl, hv2, hB2⟩; have HV2 := Lib.hid hv2; have HB2 := Lib.hid (below_th HB1.out hB2); clear hv2 hB2)
    | (go_at_call 18; (with_reducible refine Calls.mono (H2.out _ _ (HV2.out.below (below_new _ _))) ?_); rintro e w4 ⟨u4, rfl, hv4, hB4⟩; have HV4 := Lib.hid hv4; have HB4 := Lib.hid (below_th (below_al HB2.out _) hB4); clear hv4 hB4)
    | (go_at_call 19; (with_reducible refine Calls.mono (H3.out _ _ HV4.out (HBW.out _ HB4.out)) ?_); rintro e w5 ⟨rfl, hB5⟩; have HB5 := Lib.hid (below_th HB4.out hB5); obtain ⟨x0, x1, x2, x3, x4, x5⟩ := HMB.out _ HB5.out; clear hB5)
    | (go_at_call 18; (with_reducible refine Calls.mono (H4.out _ (HBW.out _ HB5.out)) ?_); rintro e w6 ⟨u6, rfl, hv6, hB6⟩; have HV6 := Lib.hid hv6; have HB6 := Lib.hid (below_th HB5.out hB6); have HB7 := Lib.hid (below_al HB6.out (.cells #[.int .u32 (ma : Int)] 22)); obtain ⟨y0, y1, y2, y3, y4, y5⟩ := HMB.out _ HB6.out; have cb := HC5.out _ (HBW.out _ HB7.out); clear hv6 hB6)
    | (go_at_call 20; (with_reducible refine Calls.mono (H5.out _) ?_); rintro e w7 ⟨u7, rfl, hv7, hB7⟩; have HV7 := Lib.hid hv7; have HW7 := Lib.hid hB7; have HB8 := Lib.hid (below_th HB7.out hB7); have HOW := Lib.hid (own_below2 (own_u32 (World.alloc_heap_new w6 (.cells #[.int .u32 (ma : Int)] 22)) (Nat.le_refl _)) hB7); clear hv7 hB7)
    | (at_builtin; (refine wpList_append_u32s rfl _ _ rfl rfl w6.heap.size _ 1 [.int .u32 (ma : Int)] rfl HOW.out _ T rfl HV7.out (by omega) (by have h := HW7.out.size; rw [World.size_alloc] at h; omega) ?_; intro v8 w8 hown8 hgrow8; have HO8 : Hid (U32s w8 v8 (ma :: T)) := U32s.own (base := w6.heap.size) (by rw [List.length_cons, Nat.add_comm]; exact hown8); have hg8 := ((below_al (Below.refl _ w6) (.cells #[.int .u32 (ma : Int)] 22)).trans (HW7.out.mono (by simp))).grown hgrow8 (by have h := HW7.out.size; rw [World.size_alloc] at h; omega) (fun r e => ((HOW.out).lt r e).1); have HV8 := Lib.hid (HV6.out.below hg8); have HB9 := Lib.hid (below_th HB6.out hg8); clear hown8 hgrow8 hg8))
    | (go_at_call 15; (with_reducible refine Calls.mono (H6.out _ _ _ HV8.out HO8.out) ?_); rintro e w9 ⟨u9, rfl, hv9, hB9⟩; have HV9 := Lib.hid (hv9.below (below_new w9 (boxM ⟨ma, mb, mc, md, me, mf⟩))); have hC9 := AtM.new w9 ⟨ma, mb, mc, md, me, mf⟩; have HB10 := Lib.hid (below_al (below_th HB9.out hB9) (boxM ⟨ma, mb, mc, md, me, mf⟩)); unfold boxM at HV9 hC9 HB10; dsimp only at HV9 hC9 HB10; obtain ⟨z0, z1, z2, z3, z4, z5⟩ := hC9.c; obtain ⟨t0, t1, t2, t3, t4, t5⟩ := HMB.out _ HB10.out; clear hv9 hB9 hC9)
    | (go_at_call 17; (with_reducible refine Calls.mono (H7.out _ _ HV9.out (HBW.out _ HB10.out)) ?_); rintro e w11 ⟨rfl, hB11⟩))
  go_ret
  exact ⟨rfl, HBW.out _ (below_th HB10.out hB11)⟩
theorem back_no0 (s : Nat) (v1 v2 v5 : Value) (V I : List Nat) (ma mb mc md me mf : Nat) (B : List ByteArray) (w : World) (ws : s < 4294967296) (hV : U32s w v1 V) (hI : U32s w v2 I) (sV : Small V) (sI : Small I) (hB : Strs w v5 B) (hm : MOk ⟨ma, mb, mc, md, me, mf⟩) (k1 : ¬ 1000 < V.length) (k2 : ¬ 1000 < I.length) (l1 : ¬ layP s V I) (hno : ∀ V' I', ¬ joinP s ⟨ma, mb, mc, md, me, mf⟩ (B.take (min B.length 10)) V' I') : Calls Try.prog 5 #[.int .u32 s, v1, v2, (.agg #[.int .u32 (ma : Int), .int .u32 (mb : Int), .int .u32 (mc : Int), .int .u32 (md : Int), .int .u32 (me : Int), .int .u32 (mf : Int)]), v5] w (Ans w (.bool true)) := by
  obtain ⟨a1, c1, rfl, p1, q1⟩ := hV.parts
  obtain ⟨a2, c2, rfl, p2, q2⟩ := hI.parts
  obtain ⟨a5, c5, rfl, p5, q5⟩ := hB.parts
  have HM0 := Lib.hid (AtM.new w ⟨ma, mb, mc, md, me, mf⟩)
  have HB0 := Lib.hid (below_new w (boxM ⟨ma, mb, mc, md, me, mf⟩))
  unfold boxM at HM0 HB0
  dsimp only at HM0 HB0
  have HBW : Hid (∀ W, Below (w.alloc (.cells #[.int .u32 (ma : Int), .int .u32 (mb : Int), .int .u32 (mc : Int), .int .u32 (md : Int), .int .u32 (me : Int), .int .u32 (mf : Int)] 32)).heap.size (w.alloc (.cells #[.int .u32 (ma : Int), .int .u32 (mb : Int), .int .u32 (mc : Int), .int .u32 (md : Int), .int .u32 (me : Int), .int .u32 (mf : Int)] 32)) W → Below w.heap.size w W) := fun W h => below_th HB0.out h
  have HMB := Lib.hid (fun W h => AtM.c (AtM.th (W' := W) HM0.out h))
  dsimp only at HMB
  clear HM0
  have g1 : ¬ (1000 : Int) < (V.length : Int) := by omega
  have g2 : ¬ (1000 : Int) < (I.length : Int) := by omega
  have h1 := fun W (h : Below w.heap.size w W) => lay_any s _ _ V I W ws (hV.below h) (hI.below h) sV sI (by omega) (by omega)
  unfold LayPost at h1
  obtain ⟨k5, hk5⟩ : ∃ k5, min B.length 10 = k5 := ⟨_, rfl⟩
  have hcut := fun W (h : Below w.heap.size w W) => Strs.cut (hB.below h) k5 (by omega)
  have hbl : (B.take k5).length = k5 := by rw [List.length_take]; omega
  have hmin : min (B.length : Int) 10 = (k5 : Int) := by omega
  have hk10 : k5 ≤ 10 := by omega
  have hkc : k5 ≤ c5 := by omega
  have hkcI : (k5 : Int) ≤ (c5 : Int) := by omega
  rw [(lay_e1 l1).1, (lay_e1 l1).2.1, (lay_e1 l1).2.2] at h1
  have h2 := fun v W (hv : Strs W v []) => join_any s M.zero v [] W ws (by unfold MOk M.zero; decide) hv (by simp)
  have hzz : MOk M.zero := by unfold MOk M.zero; decide
  generalize M.zero = n at h1 h2
  generalize ([] : List ByteArray) = X at h1 h2
  clear hzz
  obtain ⟨na, nb, nc, nd, ne, nf⟩ := n
  unfold M.val at h1 h2
  dsimp only at h1 h2
  have H1 := Lib.hid h1
  have H2 := Lib.hid h2
  have h4 := fun W (h : Below w.heap.size w W) => join_none s ⟨ma, mb, mc, md, me, mf⟩ _ (B.take k5) W ws hm (hcut W h) (by rw [← hk5]; exact hno) (by omega)
  unfold M.val at h4
  dsimp only at h4
  have H4 := Lib.hid h4
  clear h4
  generalize V.length = lv at *
  generalize I.length = li at *
  clear h1 h2 ws hV hI sV sI hB hm k1 k2 l1 hcut hbl hk5 hno
  go_enter Try.func5, Try.ntmps5
  go_wp2_with (first
    | (go_at_call 9; (with_reducible refine Calls.mono (shown_any _) ?_); rintro e w1 ⟨rfl, hB1⟩; have HB1 := Lib.hid hB1; clear hB1)
    | (go_at_call 15; (with_reducible refine Calls.mono (H1.out _ (HBW.out _ HB1.out)) ?_); rintro e w2 ⟨u2, rfl, hv2, hB2⟩; have HV2 := Lib.hid hv2; have HB2 := Lib.hid (below_th HB1.out hB2); clear hv2 hB2)
    | (go_at_call 18; (with_reducible refine Calls.mono (H2.out _ _ (HV2.out.below (below_new _ _))) ?_); rintro e w4 ⟨u4, E4, rfl, hB4⟩; have HB4 := Lib.hid (below_th (below_al HB2.out _) hB4); obtain ⟨x0, x1, x2, x3, x4, x5⟩ := HMB.out _ HB4.out; clear hB4)
    | (go_at_call 18; (with_reducible refine Calls.mono (H4.out _ (HBW.out _ HB4.out)) ?_); rintro e w6 ⟨u6, rfl, hB6⟩))
  go_ret
  exact ⟨rfl, HBW.out _ (below_th HB4.out hB6)⟩
theorem back_no1 (s : Nat) (v1 v2 v5 : Value) (V I : List Nat) (ma mb mc md me mf : Nat) (B : List ByteArray) (w : World) (ws : s < 4294967296) (hV : U32s w v1 V) (hI : U32s w v2 I) (sV : Small V) (sI : Small I) (hB : Strs w v5 B) (hm : MOk ⟨ma, mb, mc, md, me, mf⟩) (k1 : ¬ 1000 < V.length) (k2 : ¬ 1000 < I.length) (l1 : ¬ layP s V I) (V' I' : List Nat) (k0 : Nat) (hk0' : k0 = min B.length 10) (hy : joinP s ⟨ma, mb, mc, md, me, mf⟩ (B.take k0) V' I') (hd : dpN s = 0) : Calls Try.prog 5 #[.int .u32 s, v1, v2, (.agg #[.int .u32 (ma : Int), .int .u32 (mb : Int), .int .u32 (mc : Int), .int .u32 (md : Int), .int .u32 (me : Int), .int .u32 (mf : Int)]), v5] w (Ans w (.bool true)) := by
  obtain ⟨a1, c1, rfl, p1, q1⟩ := hV.parts
  obtain ⟨a2, c2, rfl, p2, q2⟩ := hI.parts
  obtain ⟨a5, c5, rfl, p5, q5⟩ := hB.parts
  have HM0 := Lib.hid (AtM.new w ⟨ma, mb, mc, md, me, mf⟩)
  have HB0 := Lib.hid (below_new w (boxM ⟨ma, mb, mc, md, me, mf⟩))
  unfold boxM at HM0 HB0
  dsimp only at HM0 HB0
  have HBW : Hid (∀ W, Below (w.alloc (.cells #[.int .u32 (ma : Int), .int .u32 (mb : Int), .int .u32 (mc : Int), .int .u32 (md : Int), .int .u32 (me : Int), .int .u32 (mf : Int)] 32)).heap.size (w.alloc (.cells #[.int .u32 (ma : Int), .int .u32 (mb : Int), .int .u32 (mc : Int), .int .u32 (md : Int), .int .u32 (me : Int), .int .u32 (mf : Int)] 32)) W → Below w.heap.size w W) := fun W h => below_th HB0.out h
  have HMB := Lib.hid (fun W h => AtM.c (AtM.th (W' := W) HM0.out h))
  dsimp only at HMB
  clear HM0
  have g1 : ¬ (1000 : Int) < (V.length : Int) := by omega
  have g2 : ¬ (1000 : Int) < (I.length : Int) := by omega
  have h1 := fun W (h : Below w.heap.size w W) => lay_any s _ _ V I W ws (hV.below h) (hI.below h) sV sI (by omega) (by omega)
  unfold LayPost at h1
  obtain ⟨k5, hk5⟩ : ∃ k5, min B.length 10 = k5 := ⟨_, rfl⟩
  have hcut := fun W (h : Below w.heap.size w W) => Strs.cut (hB.below h) k5 (by omega)
  have hbl : (B.take k5).length = k5 := by rw [List.length_take]; omega
  have hmin : min (B.length : Int) 10 = (k5 : Int) := by omega
  have hk10 : k5 ≤ 10 := by omega
  have hkc : k5 ≤ c5 := by omega
  have hkcI : (k5 : Int) ≤ (c5 : Int) := by omega
  rw [(lay_e1 l1).1, (lay_e1 l1).2.1, (lay_e1 l1).2.2] at h1
  have h2 := fun v W (hv : Strs W v []) => join_any s M.zero v [] W ws (by unfold MOk M.zero; decide) hv (by simp)
  have hzz : MOk M.zero := by unfold MOk M.zero; decide
  generalize M.zero = n at h1 h2
  generalize ([] : List ByteArray) = X at h1 h2
  clear hzz
  obtain ⟨na, nb, nc, nd, ne, nf⟩ := n
  unfold M.val at h1 h2
  dsimp only at h1 h2
  have H1 := Lib.hid h1
  have H2 := Lib.hid h2
  obtain rfl : k0 = k5 := by omega
  have h4 := fun W (h : Below w.heap.size w W) => join_some s ⟨ma, mb, mc, md, me, mf⟩ _ (B.take k0) V' I' W ws (hcut W h) hy (by omega)
  obtain ⟨f1, f2, f3⟩ := joinP_few hy (by omega)
  rw [hbl] at f3
  obtain ⟨r1, r2, r3⟩ := lay_back hy
  have h6 := fun v3 v4 W (h7 : U32s W v3 V') (h8 : U32s W v4 I') => lay_any s v3 v4 V' I' W ws h7 h8 hy.1 hy.2.1 f1 f2
  unfold LayPost at h6
  rw [r1, r2, r3] at h6
  have h7 := fun v3 W (h : Strs W v3 (B.take k0)) (hw : Below w.heap.size w W) => R.sameTexts_any v3 _ (B.take k0) (B.take k0) W h (hcut W hw)
  rw [decide_eq_true (rfl : B.take k0 = B.take k0)] at h7
  have hcn := cnt_def hy.2.2.1.1
  have hil := hy.2.2.1.2.2.1
  have hmm := hy.2.2.2.1
  have hbb := hy.2.2.2.2
  have hQ := fun W => eqlM ⟨ma, mb, mc, md, me, mf⟩ ⟨ma, mb, mc, md, me, mf⟩ W
  rw [decide_eq_true rfl] at hQ
  unfold M.val at h4 h6 hQ
  dsimp only at h4 h6 hQ
  have hi0 : I' = [] := List.eq_nil_of_length_eq_zero (by rw [hil, hcn, if_neg (by omega), hd])
  subst hi0
  have hk0 : k0 = 0 := f3.symm
  have gk : ((k0 : Int) == 0) = true := by rw [hk0]; rfl
  have gk2 : ¬ (1 : Int) < (k0 : Int) := by omega
  have H4 := Lib.hid h4
  have H6 := Lib.hid h6
  have H7 := Lib.hid h7
  generalize V.length = lv at *
  generalize I.length = li at *
  clear h1 h2 ws hV hI sV sI hB hm k1 k2 l1 hcut hbl hk5 h4 h6 h7 f1 f2 f3 r1 r2 r3 hcn hil hmm hbb hy hk0 hd hk0'
  go_enter Try.func5, Try.ntmps5
  go_wp2_with (first
    | (go_at_call 9; (with_reducible refine Calls.mono (shown_any _) ?_); rintro e w1 ⟨rfl, hB1⟩; have HB1 := Lib.hid hB1; clear hB1)
    | (go_at_call 15; (with_reducible refine Calls.mono (H1.out _ (HBW.out _ HB1.out)) ?_); rintro e w2 ⟨u2, rfl, hv2, hB2⟩; have HV2 := Lib.hid hv2; have HB2 := Lib.hid (below_th HB1.out hB2); clear hv2 hB2)
    | (go_at_call 18; (with_reducible refine Calls.mono (H2.out _ _ (HV2.out.below (below_new _ _))) ?_); rintro e w4 ⟨u4, E4, rfl, hB4⟩; have HB4 := Lib.hid (below_th (below_al HB2.out _) hB4); obtain ⟨x0, x1, x2, x3, x4, x5⟩ := HMB.out _ HB4.out; clear hB4)
    | (go_at_call 18; (with_reducible refine Calls.mono (H4.out _ (HBW.out _ HB4.out)) ?_); rintro e w6 ⟨u6, rfl, hv6, hB6⟩; have HV6 := Lib.hid hv6; have HB6 := Lib.hid (below_th HB4.out hB6); have HB7 := Lib.hid (below_al HB6.out (.cells #[.int .u32 (ma : Int)] 22)); obtain ⟨y0, y1, y2, y3, y4, y5⟩ := HMB.out _ HB6.out; clear hv6 hB6)
    | (go_at_call 15; (with_reducible refine Calls.mono (H6.out _ _ _ (HV6.out.below (below_new _ _)) (U32s.nil _)) ?_); rintro e w9 ⟨u9, rfl, hv9, hB9⟩; have HV9 := Lib.hid (hv9.below (below_new w9 (boxM ⟨ma, mb, mc, md, me, mf⟩))); have hC9 := AtM.new w9 ⟨ma, mb, mc, md, me, mf⟩; have HB10 := Lib.hid (below_al (below_th HB7.out hB9) (boxM ⟨ma, mb, mc, md, me, mf⟩)); unfold boxM at HV9 hC9 HB10; dsimp only at HV9 hC9 HB10; obtain ⟨z0, z1, z2, z3, z4, z5⟩ := hC9.c; obtain ⟨t0, t1, t2, t3, t4, t5⟩ := HMB.out _ HB10.out; clear hv9 hB9 hC9)
    | (go_at_call 17; (with_reducible refine Calls.mono (H7.out _ _ HV9.out (HBW.out _ HB10.out)) ?_); rintro e w11 ⟨rfl, hB11⟩))
  go_ret
  exact ⟨rfl, HBW.out _ (below_th HB10.out hB11)⟩
theorem back_no2 (s : Nat) (v1 v2 v5 : Value) (V I : List Nat) (ma mb mc md me mf : Nat) (B : List ByteArray) (w : World) (ws : s < 4294967296) (hV : U32s w v1 V) (hI : U32s w v2 I) (sV : Small V) (sI : Small I) (hB : Strs w v5 B) (hm : MOk ⟨ma, mb, mc, md, me, mf⟩) (k1 : ¬ 1000 < V.length) (k2 : ¬ 1000 < I.length) (l1 : ¬ layP s V I) (V' I' : List Nat) (k0 : Nat) (hk0' : k0 = min B.length 10) (hy : joinP s ⟨ma, mb, mc, md, me, mf⟩ (B.take k0) V' I') (hd : dpN s = 1) : Calls Try.prog 5 #[.int .u32 s, v1, v2, (.agg #[.int .u32 (ma : Int), .int .u32 (mb : Int), .int .u32 (mc : Int), .int .u32 (md : Int), .int .u32 (me : Int), .int .u32 (mf : Int)]), v5] w (Ans w (.bool true)) := by
  obtain ⟨a1, c1, rfl, p1, q1⟩ := hV.parts
  obtain ⟨a2, c2, rfl, p2, q2⟩ := hI.parts
  obtain ⟨a5, c5, rfl, p5, q5⟩ := hB.parts
  have HM0 := Lib.hid (AtM.new w ⟨ma, mb, mc, md, me, mf⟩)
  have HB0 := Lib.hid (below_new w (boxM ⟨ma, mb, mc, md, me, mf⟩))
  unfold boxM at HM0 HB0
  dsimp only at HM0 HB0
  have HBW : Hid (∀ W, Below (w.alloc (.cells #[.int .u32 (ma : Int), .int .u32 (mb : Int), .int .u32 (mc : Int), .int .u32 (md : Int), .int .u32 (me : Int), .int .u32 (mf : Int)] 32)).heap.size (w.alloc (.cells #[.int .u32 (ma : Int), .int .u32 (mb : Int), .int .u32 (mc : Int), .int .u32 (md : Int), .int .u32 (me : Int), .int .u32 (mf : Int)] 32)) W → Below w.heap.size w W) := fun W h => below_th HB0.out h
  have HMB := Lib.hid (fun W h => AtM.c (AtM.th (W' := W) HM0.out h))
  dsimp only at HMB
  clear HM0
  have g1 : ¬ (1000 : Int) < (V.length : Int) := by omega
  have g2 : ¬ (1000 : Int) < (I.length : Int) := by omega
  have h1 := fun W (h : Below w.heap.size w W) => lay_any s _ _ V I W ws (hV.below h) (hI.below h) sV sI (by omega) (by omega)
  unfold LayPost at h1
  obtain ⟨k5, hk5⟩ : ∃ k5, min B.length 10 = k5 := ⟨_, rfl⟩
  have hcut := fun W (h : Below w.heap.size w W) => Strs.cut (hB.below h) k5 (by omega)
  have hbl : (B.take k5).length = k5 := by rw [List.length_take]; omega
  have hmin : min (B.length : Int) 10 = (k5 : Int) := by omega
  have hk10 : k5 ≤ 10 := by omega
  have hkc : k5 ≤ c5 := by omega
  have hkcI : (k5 : Int) ≤ (c5 : Int) := by omega
  rw [(lay_e1 l1).1, (lay_e1 l1).2.1, (lay_e1 l1).2.2] at h1
  have h2 := fun v W (hv : Strs W v []) => join_any s M.zero v [] W ws (by unfold MOk M.zero; decide) hv (by simp)
  have hzz : MOk M.zero := by unfold MOk M.zero; decide
  generalize M.zero = n at h1 h2
  generalize ([] : List ByteArray) = X at h1 h2
  clear hzz
  obtain ⟨na, nb, nc, nd, ne, nf⟩ := n
  unfold M.val at h1 h2
  dsimp only at h1 h2
  have H1 := Lib.hid h1
  have H2 := Lib.hid h2
  obtain rfl : k0 = k5 := by omega
  have h4 := fun W (h : Below w.heap.size w W) => join_some s ⟨ma, mb, mc, md, me, mf⟩ _ (B.take k0) V' I' W ws (hcut W h) hy (by omega)
  obtain ⟨f1, f2, f3⟩ := joinP_few hy (by omega)
  rw [hbl] at f3
  obtain ⟨r1, r2, r3⟩ := lay_back hy
  have h6 := fun v3 v4 W (h7 : U32s W v3 V') (h8 : U32s W v4 I') => lay_any s v3 v4 V' I' W ws h7 h8 hy.1 hy.2.1 f1 f2
  unfold LayPost at h6
  rw [r1, r2, r3] at h6
  have h7 := fun v3 W (h : Strs W v3 (B.take k0)) (hw : Below w.heap.size w W) => R.sameTexts_any v3 _ (B.take k0) (B.take k0) W h (hcut W hw)
  rw [decide_eq_true (rfl : B.take k0 = B.take k0)] at h7
  have hcn := cnt_def hy.2.2.1.1
  have hil := hy.2.2.1.2.2.1
  have hmm := hy.2.2.2.1
  have hbb := hy.2.2.2.2
  have hQ := fun W => eqlM ⟨ma, mb, mc, md, me, mf⟩ ⟨ma, mb, mc, md, me, mf⟩ W
  rw [decide_eq_true rfl] at hQ
  unfold M.val at h4 h6 hQ
  dsimp only at h4 h6 hQ
  have hi1 : I'.length = 1 := by rw [hil, hcn, if_neg (by omega), hd]
  have hma : I' = [ma] := by
    unfold mapOf at hmm
    rw [if_neg (by omega)] at hmm
    simp only [M.mk.injEq] at hmm
    match I', hi1, hmm.1 with
    | [x], _, h => rw [show x = ma from h]
  subst hma
  have hk1 : k0 = 1 := f3.symm
  have gk : ((k0 : Int) == 0) = false := by rw [hk1]; rfl
  have gk2 : ¬ (1 : Int) < (k0 : Int) := by omega
  have H4 := Lib.hid h4
  have H6 := Lib.hid h6
  have H7 := Lib.hid h7
  have HLO : Hid (∀ W : World, U32s (W.alloc (.cells #[.int .u32 (ma : Int)] 22)) (.slice (some ⟨W.heap.size, 0, none⟩) 1 1) [ma]) := fun W => U32s.lit (X := [ma]) (World.alloc_heap_new W _) rfl (by show 1 ≤ 1000; decide)
  generalize V.length = lv at *
  generalize I.length = li at *
  clear h1 h2 ws hV hI sV sI hB hm k1 k2 l1 hcut hbl hk5 h4 h6 h7 f1 f2 f3 r1 r2 r3 hcn hil hmm hbb hy hi1 hk1 hd hk0'
  go_enter Try.func5, Try.ntmps5
  go_wp2_with (first
    | (go_at_call 9; (with_reducible refine Calls.mono (shown_any _) ?_); rintro e w1 ⟨rfl, hB1⟩; have HB1 := Lib.hid hB1; clear hB1)
    | (go_at_call 15; (with_reducible refine Calls.mono (H1.out _ (HBW.out _ HB1.out)) ?_); rintro e w2 ⟨u2, rfl, hv2, hB2⟩; have HV2 := Lib.hid hv2; have HB2 := Lib.hid (below_th HB1.out hB2); clear hv2 hB2)
    | (go_at_call 18; (with_reducible refine Calls.mono (H2.out _ _ (HV2.out.below (below_new _ _))) ?_); rintro e w4 ⟨u4, E4, rfl, hB4⟩; have HB4 := Lib.hid (below_th (below_al HB2.out _) hB4); obtain ⟨x0, x1, x2, x3, x4, x5⟩ := HMB.out _ HB4.out; clear hB4)
    | (go_at_call 18; (with_reducible refine Calls.mono (H4.out _ (HBW.out _ HB4.out)) ?_); rintro e w6 ⟨u6, rfl, hv6, hB6⟩; have HV6 := Lib.hid hv6; have HB6 := Lib.hid (below_th HB4.out hB6); have HB7 := Lib.hid (below_al HB6.out (.cells #[.int .u32 (ma : Int)] 22)); obtain ⟨y0, y1, y2, y3, y4, y5⟩ := HMB.out _ HB6.out; clear hv6 hB6)
    | (go_at_call 15; (with_reducible refine Calls.mono (H6.out _ _ _ (HV6.out.below (below_new _ _)) (HLO.out _)) ?_); rintro e w9 ⟨u9, rfl, hv9, hB9⟩; have HV9 := Lib.hid (hv9.below (below_new w9 (boxM ⟨ma, mb, mc, md, me, mf⟩))); have hC9 := AtM.new w9 ⟨ma, mb, mc, md, me, mf⟩; have HB10 := Lib.hid (below_al (below_th HB7.out hB9) (boxM ⟨ma, mb, mc, md, me, mf⟩)); unfold boxM at HV9 hC9 HB10; dsimp only at HV9 hC9 HB10; obtain ⟨z0, z1, z2, z3, z4, z5⟩ := hC9.c; obtain ⟨t0, t1, t2, t3, t4, t5⟩ := HMB.out _ HB10.out; clear hv9 hB9 hC9)
    | (go_at_call 17; (with_reducible refine Calls.mono (H7.out _ _ HV9.out (HBW.out _ HB10.out)) ?_); rintro e w11 ⟨rfl, hB11⟩))
  go_ret
  exact ⟨rfl, HBW.out _ (below_th HB10.out hB11)⟩
theorem back_no3 (s : Nat) (v1 v2 v5 : Value) (V I : List Nat) (ma mb mc md me mf : Nat) (B : List ByteArray) (w : World) (ws : s < 4294967296) (hV : U32s w v1 V) (hI : U32s w v2 I) (sV : Small V) (sI : Small I) (hB : Strs w v5 B) (hm : MOk ⟨ma, mb, mc, md, me, mf⟩) (k1 : ¬ 1000 < V.length) (k2 : ¬ 1000 < I.length) (l1 : ¬ layP s V I) (V' I' : List Nat) (k0 : Nat) (hk0' : k0 = min B.length 10) (hy : joinP s ⟨ma, mb, mc, md, me, mf⟩ (B.take k0) V' I') (hd : dpN s = 2) : Calls Try.prog 5 #[.int .u32 s, v1, v2, (.agg #[.int .u32 (ma : Int), .int .u32 (mb : Int), .int .u32 (mc : Int), .int .u32 (md : Int), .int .u32 (me : Int), .int .u32 (mf : Int)]), v5] w (Ans w (.bool true)) := by
  obtain ⟨a1, c1, rfl, p1, q1⟩ := hV.parts
  obtain ⟨a2, c2, rfl, p2, q2⟩ := hI.parts
  obtain ⟨a5, c5, rfl, p5, q5⟩ := hB.parts
  have HM0 := Lib.hid (AtM.new w ⟨ma, mb, mc, md, me, mf⟩)
  have HB0 := Lib.hid (below_new w (boxM ⟨ma, mb, mc, md, me, mf⟩))
  unfold boxM at HM0 HB0
  dsimp only at HM0 HB0
  have HBW : Hid (∀ W, Below (w.alloc (.cells #[.int .u32 (ma : Int), .int .u32 (mb : Int), .int .u32 (mc : Int), .int .u32 (md : Int), .int .u32 (me : Int), .int .u32 (mf : Int)] 32)).heap.size (w.alloc (.cells #[.int .u32 (ma : Int), .int .u32 (mb : Int), .int .u32 (mc : Int), .int .u32 (md : Int), .int .u32 (me : Int), .int .u32 (mf : Int)] 32)) W → Below w.heap.size w W) := fun W h => below_th HB0.out h
  have HMB := Lib.hid (fun W h => AtM.c (AtM.th (W' := W) HM0.out h))
  dsimp only at HMB
  clear HM0
  have g1 : ¬ (1000 : Int) < (V.length : Int) := by omega
  have g2 : ¬ (1000 : Int) < (I.length : Int) := by omega
  have h1 := fun W (h : Below w.heap.size w W) => lay_any s _ _ V I W ws (hV.below h) (hI.below h) sV sI (by omega) (by omega)
  unfold LayPost at h1
  obtain ⟨k5, hk5⟩ : ∃ k5, min B.length 10 = k5 := ⟨_, rfl⟩
  have hcut := fun W (h : Below w.heap.size w W) => Strs.cut (hB.below h) k5 (by omega)
  have hbl : (B.take k5).length = k5 := by rw [List.length_take]; omega
  have hmin : min (B.length : Int) 10 = (k5 : Int) := by omega
  have hk10 : k5 ≤ 10 := by omega
  have hkc : k5 ≤ c5 := by omega
  have hkcI : (k5 : Int) ≤ (c5 : Int) := by omega
  rw [(lay_e1 l1).1, (lay_e1 l1).2.1, (lay_e1 l1).2.2] at h1
  have h2 := fun v W (hv : Strs W v []) => join_any s M.zero v [] W ws (by unfold MOk M.zero; decide) hv (by simp)
  have hzz : MOk M.zero := by unfold MOk M.zero; decide
  generalize M.zero = n at h1 h2
  generalize ([] : List ByteArray) = X at h1 h2
  clear hzz
  obtain ⟨na, nb, nc, nd, ne, nf⟩ := n
  unfold M.val at h1 h2
  dsimp only at h1 h2
  have H1 := Lib.hid h1
  have H2 := Lib.hid h2
  obtain rfl : k0 = k5 := by omega
  have h4 := fun W (h : Below w.heap.size w W) => join_some s ⟨ma, mb, mc, md, me, mf⟩ _ (B.take k0) V' I' W ws (hcut W h) hy (by omega)
  obtain ⟨f1, f2, f3⟩ := joinP_few hy (by omega)
  rw [hbl] at f3
  obtain ⟨r1, r2, r3⟩ := lay_back hy
  have h6 := fun v3 v4 W (h7 : U32s W v3 V') (h8 : U32s W v4 I') => lay_any s v3 v4 V' I' W ws h7 h8 hy.1 hy.2.1 f1 f2
  unfold LayPost at h6
  rw [r1, r2, r3] at h6
  have h7 := fun v3 W (h : Strs W v3 (B.take k0)) (hw : Below w.heap.size w W) => R.sameTexts_any v3 _ (B.take k0) (B.take k0) W h (hcut W hw)
  rw [decide_eq_true (rfl : B.take k0 = B.take k0)] at h7
  have hcn := cnt_def hy.2.2.1.1
  have hil := hy.2.2.1.2.2.1
  have hmm := hy.2.2.2.1
  have hbb := hy.2.2.2.2
  have hQ := fun W => eqlM ⟨ma, mb, mc, md, me, mf⟩ ⟨ma, mb, mc, md, me, mf⟩ W
  rw [decide_eq_true rfl] at hQ
  unfold M.val at h4 h6 hQ
  dsimp only at h4 h6 hQ
  have hb2 := dp_two hd
  have hi1 : I'.length = 1 + lowN s := by rw [hil, hcn, if_pos hd]
  have hlw : 2 ≤ lowN s := by unfold lowN; omega
  have hma : I' = ma :: I'.tail := by
    unfold mapOf at hmm
    rw [if_neg (by omega)] at hmm
    simp only [M.mk.injEq] at hmm
    have h0 := hmm.1
    cases I' with
    | nil => simp at hi1; omega
    | cons x r =>
      have e : x = ma := h0
      rw [e]
      rfl
  have htl : I'.tail.length = lowN s := by rw [List.length_tail]; omega
  have h5 := fun W => below_some s I'.tail W hy.2.2.1.1 hd htl (small_tail hy.2.1) (fun x hx => hy.2.2.1.2.2.2 x (List.mem_of_mem_tail hx))
  have hbb0 : (B.take k0).getD 0 ⟨#[]⟩ = blkB I'.tail := by
    rw [← hbb]
    unfold blocksOf
    rw [if_neg (by omega), if_neg (by omega)]
    rfl
  obtain ⟨b5, o5, e5, x5⟩ := (hcut w (Below.refl _ _)).get (k := 0) (by omega)
  subst e5
  rw [hbb0, Nat.add_zero] at x5
  have HC5 : Hid (∀ W, Below w.heap.size w W → W.cell? ⟨b5, o5, none⟩ = some (.string (blkB I'.tail))) := fun W h => (h.cell (p := ⟨b5, o5, none⟩) (World.block_lt_of_cell? _ _ x5)).trans x5
  have gk : ((k0 : Int) == 0) = false := beq_eq_false_iff_ne.2 (by omega)
  have gk2 : (1 : Int) < (k0 : Int) := by omega
  have gk3 : 0 < k0 := by omega
  have gk4 : 1 < k0 := by omega
  rw [hma] at h6
  have htz : I'.tail.length ≤ 1000 := by omega
  generalize I'.tail = T at *
  have H5 := Lib.hid h5
  generalize blkB T = BT at *
  have H4 := Lib.hid h4
  have H6 := Lib.hid h6
  have H7 := Lib.hid h7
  generalize V.length = lv at *
  generalize I.length = li at *
  clear h1 h2 ws hV hI sV sI hB hm k1 k2 l1 hcut hbl hk5 h4 h6 h7 f1 f2 f3 r1 r2 r3 hcn hil hmm hbb hy hb2 hi1 hlw hma htl h5 hbb0 x5 hd hk0'
  go_enter Try.func5, Try.ntmps5
  go_wp2_with (first
    | (go_at_call 9; (with_reducible refine Calls.mono (shown_any _) ?_); rintro e w1 ⟨rfl, hB1⟩; have HB1 := Lib.hid hB1; clear hB1)
    | (go_at_call 15; (with_reducible refine Calls.mono (H1.out _ (HBW.out _ HB1.out)) ?_); rintro e w2 ⟨u2, rfl, hv2, hB2⟩; have HV2 := Lib.hid hv2; have HB2 := Lib.hid (below_th HB1.out hB2); clear hv2 hB2)
    | (go_at_call 18; (with_reducible refine Calls.mono (H2.out _ _ (HV2.out.below (below_new _ _))) ?_); rintro e w4 ⟨u4, E4, rfl, hB4⟩; have HB4 := Lib.hid (below_th (below_al HB2.out _) hB4); obtain ⟨x0, x1, x2, x3, x4, x5⟩ := HMB.out _ HB4.out; clear hB4)
    | (go_at_call 18; (with_reducible refine Calls.mono (H4.out _ (HBW.out _ HB4.out)) ?_); rintro e w6 ⟨u6, rfl, hv6, hB6⟩; have HV6 := Lib.hid hv6; have HB6 := Lib.hid (below_th HB4.out hB6); have HB7 := Lib.hid (below_al HB6.out (.cells #[.int .u32 (ma : Int)] 22)); obtain ⟨y0, y1, y2, y3, y4, y5⟩ := HMB.out _ HB6.out; have cb := HC5.out _ (HBW.out _ HB7.out); clear hv6 hB6)
    | (go_at_call 20; (with_reducible refine Calls.mono (H5.out _) ?_); rintro e w7 ⟨u7, rfl, hv7, hB7⟩; have HV7 := Lib.hid hv7; have HW7 := Lib.hid hB7; have HB8 := Lib.hid (below_th HB7.out hB7); have HOW := Lib.hid (own_below2 (own_u32 (World.alloc_heap_new w6 (.cells #[.int .u32 (ma : Int)] 22)) (Nat.le_refl _)) hB7); clear hv7 hB7)
    | (at_builtin; (refine wpList_append_u32s rfl _ _ rfl rfl w6.heap.size _ 1 [.int .u32 (ma : Int)] rfl HOW.out _ T rfl HV7.out (by omega) (by have h := HW7.out.size; rw [World.size_alloc] at h; omega) ?_; intro v8 w8 hown8 hgrow8; have HO8 : Hid (U32s w8 v8 (ma :: T)) := U32s.own (base := w6.heap.size) (by rw [List.length_cons, Nat.add_comm]; exact hown8); have hg8 := ((below_al (Below.refl _ w6) (.cells #[.int .u32 (ma : Int)] 22)).trans (HW7.out.mono (by simp))).grown hgrow8 (by have h := HW7.out.size; rw [World.size_alloc] at h; omega) (fun r e => ((HOW.out).lt r e).1); have HV8 := Lib.hid (HV6.out.below hg8); have HB9 := Lib.hid (below_th HB6.out hg8); clear hown8 hgrow8 hg8))
    | (go_at_call 15; (with_reducible refine Calls.mono (H6.out _ _ _ HV8.out HO8.out) ?_); rintro e w9 ⟨u9, rfl, hv9, hB9⟩; have HV9 := Lib.hid (hv9.below (below_new w9 (boxM ⟨ma, mb, mc, md, me, mf⟩))); have hC9 := AtM.new w9 ⟨ma, mb, mc, md, me, mf⟩; have HB10 := Lib.hid (below_al (below_th HB9.out hB9) (boxM ⟨ma, mb, mc, md, me, mf⟩)); unfold boxM at HV9 hC9 HB10; dsimp only at HV9 hC9 HB10; obtain ⟨z0, z1, z2, z3, z4, z5⟩ := hC9.c; obtain ⟨t0, t1, t2, t3, t4, t5⟩ := HMB.out _ HB10.out; clear hv9 hB9 hC9)
    | (go_at_call 17; (with_reducible refine Calls.mono (H7.out _ _ HV9.out (HBW.out _ HB10.out)) ?_); rintro e w11 ⟨rfl, hB11⟩))
  go_ret
  exact ⟨rfl, HBW.out _ (below_th HB10.out hB11)⟩
theorem BmapBack_walk (s : Int) (v1 : Value) (V : List Nat) (v2 : Value) (I : List Nat) (m : M) (v5 : Value) (B : List ByteArray) (w : World) (ws : (Lit.int .u32 s).wf = true) (hV : U32s w v1 V) (sV : Small V) (hI : U32s w v2 I) (sI : Small I) (hm : MOk m) (hB : Strs w v5 B) (wB : ∀ s ∈ B, s.size ≤ maxLen) : Calls Try.prog 5 #[.int .u32 s, v1, v2, m.val, v5] w fun e w' => e = .returned (.bool true) ∧ Below w.heap.size w w' := by
  have h1 := bounds32 ws
  obtain ⟨n, rfl⟩ : ∃ n : Nat, s = (n : Int) := ⟨s.toNat, by omega⟩
  have wn : n < 4294967296 := by omega
  obtain ⟨ma, mb, mc, md, me, mf⟩ := m
  by_cases k1 : 1000 < V.length
  · exact back_long n v1 v2 v5 V I ma mb mc md me mf B w wn hV hI sV sI hB hm k1
  by_cases k2 : 1000 < I.length
  · exact back_ids n v1 v2 v5 V I ma mb mc md me mf B w wn hV hI sV sI hB hm k1 k2
  have hd := dp_le n
  by_cases l1 : layP n V I
  · by_cases hj : ∃ V' I', joinP n ⟨ma, mb, mc, md, me, mf⟩ (B.take (min B.length 10)) V' I'
    · obtain ⟨V', I', hy⟩ := hj
      by_cases h0 : dpN n = 0
      · exact back_yes1 n v1 v2 v5 V I ma mb mc md me mf B w wn hV hI sV sI hB hm k1 k2 l1 V' I' _ rfl hy h0
      by_cases h4 : dpN n = 1
      · exact back_yes2 n v1 v2 v5 V I ma mb mc md me mf B w wn hV hI sV sI hB hm k1 k2 l1 V' I' _ rfl hy h4
      · exact back_yes3 n v1 v2 v5 V I ma mb mc md me mf B w wn hV hI sV sI hB hm k1 k2 l1 V' I' _ rfl hy (by omega)
    · exact back_yes0 n v1 v2 v5 V I ma mb mc md me mf B w wn hV hI sV sI hB hm k1 k2 l1 fun V' I' h => hj ⟨V', I', h⟩
  · by_cases hj : ∃ V' I', joinP n ⟨ma, mb, mc, md, me, mf⟩ (B.take (min B.length 10)) V' I'
    · obtain ⟨V', I', hy⟩ := hj
      by_cases h0 : dpN n = 0
      · exact back_no1 n v1 v2 v5 V I ma mb mc md me mf B w wn hV hI sV sI hB hm k1 k2 l1 V' I' _ rfl hy h0
      by_cases h4 : dpN n = 1
      · exact back_no2 n v1 v2 v5 V I ma mb mc md me mf B w wn hV hI sV sI hB hm k1 k2 l1 V' I' _ rfl hy h4
      · exact back_no3 n v1 v2 v5 V I ma mb mc md me mf B w wn hV hI sV sI hB hm k1 k2 l1 V' I' _ rfl hy (by omega)
    · exact back_no0 n v1 v2 v5 V I ma mb mc md me mf B w wn hV hI sV sI hB hm k1 k2 l1 fun V' I' h => hj ⟨V', I', h⟩
end
end Go.Proofs.Ytdakfdecfpebcaa.Bmp
