/- BmapFirst, walked. -/
import Derived.Test.YtdakfdecfpebcaaBmpArgs
import Derived.BigQuiet
namespace Go.Proofs.Ytdakfdecfpebcaa.Bmp
open Go.RowKit Ino
attribute [local go_sem] Oper.semAt_some
set_option linter.unusedVariables false
set_option linter.unusedSimpArgs false
theorem neqM (a b : M) (w : World) : (binOp .neq 32 a.val b.val).run Try.prog w = .ok (.bool (!decide (a = b))) w := by
  have h := run_eqM 9998 a b w
  unfold M.val at h ⊢
  rw [run_neq_struct, h]
  rfl
theorem U32s.cut {w : World} {a : Option Addr} {n cap : Nat} {X : List Nat} (h : U32s w (.slice a n cap) X) (m : Nat) (hm : m ≤ X.length) : U32s w (.slice a m cap) (X.take m) := by
  obtain ⟨a', cap', e, h2, h3, h4, h5⟩ := h
  cases e
  have hl : (X.take m).length = m := by rw [List.length_take]; omega
  refine ⟨a, cap, by rw [hl], by omega, h3, by rw [List.length_map, hl, Nat.mul_one], fun hn => ?_⟩
  obtain ⟨b, off, rfl, hc⟩ := h5 (by rw [hl] at hn; omega)
  refine ⟨b, off, rfl, fun j u hj => hc j u ?_⟩
  have hj2 := (List.getElem?_eq_some_iff.1 hj).1
  rw [List.length_map, hl] at hj2
  rw [List.getElem?_map, List.getElem?_take_of_lt hj2] at hj
  rw [List.getElem?_map]
  exact hj
theorem drewN_below (w : World) (q : Nat) : Below w.heap.size w (w.drewN q) := by
  induction q with
  | zero => exact Below.refl _ _
  | succ q ih => exact ih.drew
section
set_option maxRecDepth 100000
set_option maxHeartbeats 8000000
theorem first_long (s : Nat) (v1 v2 : Value) (V I : List Nat) (w : World) (ws : s < 4294967296) (hV : U32s w v1 V) (hI : U32s w v2 I) (sV : Small V) (sI : Small I) (k1 : 1000 < V.length) : Calls Try.prog 8 #[.int .u32 s, v1, v2] w (Ans w (.bool true)) := by
  obtain ⟨a1, c1, rfl, p1, q1⟩ := hV.parts
  obtain ⟨a2, c2, rfl, p2, q2⟩ := hI.parts
  have g1 : (1000 : Int) < (V.length : Int) := by omega
  clear hV hI sV sI ws k1
  go_enter Try.func8, Try.ntmps8
  go_wp2_with (go_at_call 9; (with_reducible refine Calls.mono (shown_any _) ?_); rintro e w1 ⟨rfl, hB1⟩)
  go_ret
  exact ⟨rfl, hB1⟩
theorem first_ids (s : Nat) (v1 v2 : Value) (V I : List Nat) (w : World) (ws : s < 4294967296) (hV : U32s w v1 V) (hI : U32s w v2 I) (sV : Small V) (sI : Small I) (k1 : ¬ 1000 < V.length) (k2 : 1000 < I.length) : Calls Try.prog 8 #[.int .u32 s, v1, v2] w (Ans w (.bool true)) := by
  obtain ⟨a1, c1, rfl, p1, q1⟩ := hV.parts
  obtain ⟨a2, c2, rfl, p2, q2⟩ := hI.parts
  have g1 : ¬ (1000 : Int) < (V.length : Int) := by omega
  have g2 : (1000 : Int) < (I.length : Int) := by omega
  clear hV hI sV sI ws k1 k2
  go_enter Try.func8, Try.ntmps8
  go_wp2_with (go_at_call 9; (with_reducible refine Calls.mono (shown_any _) ?_); rintro e w1 ⟨rfl, hB1⟩)
  go_ret
  exact ⟨rfl, hB1⟩
theorem first_no (s : Nat) (v1 v2 : Value) (V I : List Nat) (w : World) (ws : s < 4294967296) (hV : U32s w v1 V) (hI : U32s w v2 I) (sV : Small V) (sI : Small I) (k1 : ¬ 1000 < V.length) (k2 : ¬ 1000 < I.length) (l1 : ¬ layP s V I) : Calls Try.prog 8 #[.int .u32 s, v1, v2] w (Ans w (.bool true)) := by
  obtain ⟨a1, c1, rfl, p1, q1⟩ := hV.parts
  obtain ⟨a2, c2, rfl, p2, q2⟩ := hI.parts
  have g1 : ¬ (1000 : Int) < (V.length : Int) := by omega
  have g2 : ¬ (1000 : Int) < (I.length : Int) := by omega
  have h1 := fun W (h : Below w.heap.size w W) => lay_any s _ _ V I W ws (hV.below h) (hI.below h) sV sI (by omega) (by omega)
  unfold LayPost at h1
  rw [(lay_e1 l1).1, (lay_e1 l1).2.1, (lay_e1 l1).2.2] at h1
  generalize M.zero = m at h1
  obtain ⟨ma, mb, mc, md, me, mf⟩ := m
  unfold M.val at h1
  dsimp only at h1
  have H1 := Lib.hid h1
  generalize V.length = nv at *
  generalize I.length = ni at *
  clear h1 ws hV hI sV sI k1 k2 l1
  go_enter Try.func8, Try.ntmps8
  go_wp2_with (first
    | (go_at_call 9; (with_reducible refine Calls.mono (shown_any _) ?_); rintro e w1 ⟨rfl, hB1⟩)
    | (go_at_call 15; (with_reducible refine Calls.mono (H1.out _ hB1) ?_); rintro e w2 ⟨u2, rfl, hv2, hB2⟩; obtain ⟨xa, xc, ex, _, _⟩ := hv2.parts; subst ex; clear hv2))
  go_ret
  exact ⟨rfl, below_al (below_th hB1 hB2) (boxM ⟨ma, mb, mc, md, me, mf⟩)⟩
theorem first_none (s : Nat) (v1 v2 : Value) (V I : List Nat) (w : World) (ws : s < 4294967296) (hV : U32s w v1 V) (hI : U32s w v2 I) (sV : Small V) (sI : Small I) (k1 : ¬ 1000 < V.length) (k2 : ¬ 1000 < I.length) (l1 : layP s V I) (l0 : I.length = 0) : Calls Try.prog 8 #[.int .u32 s, v1, v2] w (Ans w (.bool true)) := by
  obtain ⟨a1, c1, rfl, p1, q1⟩ := hV.parts
  obtain ⟨a2, c2, rfl, p2, q2⟩ := hI.parts
  have g1 : ¬ (1000 : Int) < (V.length : Int) := by omega
  have g2 : ¬ (1000 : Int) < (I.length : Int) := by omega
  have h1 := fun W (h : Below w.heap.size w W) => lay_any s _ _ V I W ws (hV.below h) (hI.below h) sV sI (by omega) (by omega)
  unfold LayPost at h1
  have e1 : layE s V I = 0 := if_pos l1
  have hX : (layB s V I).length = 0 := by unfold layB; rw [if_pos l1, blocks_length l1, ← l1.2.2.1, l0]
  rw [e1] at h1
  generalize layM s V I = m at h1
  generalize layB s V I = X at h1 hX
  obtain rfl := List.eq_nil_of_length_eq_zero hX
  obtain ⟨ma, mb, mc, md, me, mf⟩ := m
  unfold M.val at h1
  dsimp only at h1
  rw [l0] at h1 p2 g2 ⊢
  have H1 := Lib.hid h1
  generalize V.length = nv at *
  clear h1 ws hV hI sV sI k1 k2 l1 hX e1 l0
  go_enter Try.func8, Try.ntmps8
  go_wp2_with (first
    | (go_at_call 9; (with_reducible refine Calls.mono (shown_any _) ?_); rintro e w1 ⟨rfl, hB1⟩)
    | (go_at_call 15; (with_reducible refine Calls.mono (H1.out _ hB1) ?_); rintro e w2 ⟨u2, rfl, hv2, hB2⟩; obtain ⟨xa, xc, ex, _, _⟩ := hv2.parts; obtain rfl : u2 = .slice xa 0 xc := ex; clear hv2))
  go_ret
  exact ⟨rfl, below_al (below_th hB1 hB2) (boxM ⟨ma, mb, mc, md, me, mf⟩)⟩
theorem first_one (s : Nat) (v1 v2 : Value) (V I : List Nat) (w : World) (ws : s < 4294967296) (hV : U32s w v1 V) (hI : U32s w v2 I) (sV : Small V) (sI : Small I) (k1 : ¬ 1000 < V.length) (k2 : ¬ 1000 < I.length) (l1 : layP s V I) (hd1 : dpN s = 1) : Calls Try.prog 8 #[.int .u32 s, v1, v2] w (Ans w (.bool true)) := by
  obtain ⟨a1, c1, rfl, p1, q1⟩ := hV.parts
  obtain ⟨a2, c2, rfl, p2, q2⟩ := hI.parts
  have g1 : ¬ (1000 : Int) < (V.length : Int) := by omega
  have g2 : ¬ (1000 : Int) < (I.length : Int) := by omega
  have h1 := fun W (h : Below w.heap.size w W) => lay_any s _ _ V I W ws (hV.below h) (hI.below h) sV sI (by omega) (by omega)
  unfold LayPost at h1
  have e1 : layE s V I = 0 := if_pos l1
  have hX : (layB s V I).length = I.length := by unfold layB; rw [if_pos l1, blocks_length l1, l1.2.2.1]
  have hd := dp_le s
  have hcn := cnt_def l1.1
  have hM : layM s V I = ⟨I.getD 0 0, 0, 0, 0, 0, 0⟩ := by unfold layM mapOf; rw [if_pos l1, if_neg (by omega)]
  have hB0 : layB s V I = [blkB V] := by unfold layB blocksOf; rw [if_pos l1, if_neg (by omega), if_pos hd1]
  have hni : I.length = 1 := by rw [l1.2.2.1, hcn, if_neg (by omega), hd1]
  have hnv : V.length ≤ 127 := by rw [l1.2.1]; exact (dp_one hd1).2
  rw [e1, hM, hB0] at h1
  have h2 := fun W => numbers_some (blkB V) W (blkB_size hnv)
  have hnl := nums_of_blk hnv sV
  have hnt : (numsAt (blkB V)).take V.length = V := by rw [hnl, List.take_left]
  have hlen := numsAt_length (blkB V)
  have h3 := fun va cp W (hv : U32s W (.slice va 127 cp) (numsAt (blkB V))) (h : Below w.heap.size w W) => R.same_any (.slice va V.length cp) (.slice a1 V.length c1) V V W (by
    have := hv.cut V.length (by rw [hlen]; exact hnv)
    rw [hnt] at this
    exact this) (hV.below h)
  obtain ⟨bi, oi, ei, ci⟩ := hI.get (k := 0) (by omega)
  subst ei
  have HCI : Hid (∀ W, Below w.heap.size w W → W.cell? ⟨bi, oi, none⟩ = some (.int .u32 ((I.getD 0 0 : Nat) : Int))) := fun W h => (h.cell (p := ⟨bi, oi, none⟩) (World.block_lt_of_cell? _ _ ci)).trans ci
  rw [decide_eq_true (rfl : V = V)] at h3
  generalize I.getD 0 0 = x at h1 HCI
  have hQ : ∀ W, (binOp .neq 32 (.agg #[.int .u32 (x : Int), .int .u32 0, .int .u32 0, .int .u32 0, .int .u32 0, .int .u32 0]) (.agg #[.int .u32 (x : Int), .int .u32 0, .int .u32 0, .int .u32 0, .int .u32 0, .int .u32 0])).run Try.prog W = .ok (.bool false) W := fun W => by
    have := neqM ⟨x, 0, 0, 0, 0, 0⟩ ⟨x, 0, 0, 0, 0, 0⟩ W
    rw [decide_eq_true rfl] at this
    exact this
  unfold M.val at h1
  dsimp only at h1
  generalize hN : numsAt (blkB V) = N at h2 h3 hlen
  generalize hBV : blkB V = BV at h1 h2
  rw [hni] at h1 p2 g2 ⊢
  have H1 := Lib.hid h1
  have H2 := Lib.hid h2
  have H3 := Lib.hid h3
  have HL := Lib.hid hlen
  have gn : (V.length : Int) ≤ 127 := by omega
  have gn2 : V.length ≤ 127 := hnv
  generalize V.length = nv at *
  clear h1 h2 h3 ws hV hI sV sI k1 k2 l1 hX e1 hM hB0 hnl hnt hN hBV hlen hni hd hcn hd1 ci
  go_enter Try.func8, Try.ntmps8
  go_wp2_with (first
    | (go_at_call 9; (with_reducible refine Calls.mono (shown_any _) ?_); rintro e w1 ⟨rfl, hB1⟩)
    | (go_at_call 15; (with_reducible refine Calls.mono (H1.out _ hB1) ?_); rintro e w2 ⟨u2, rfl, hv2, hB2⟩; obtain ⟨xa, xc, ex, _, _⟩ := hv2.parts; obtain rfl : u2 = .slice xa 1 xc := ex; obtain ⟨bl, ol, rfl, cl⟩ := hv2.get (k := 0) (by show 0 < 1; decide); have cl : w2.cell? ⟨bl, ol, none⟩ = some (.string BV) := cl; have HC := Lib.hid (And.intro cl (below_th hB1 hB2)); clear hv2 cl))
  obtain ⟨W3, hW3⟩ : ∃ W3, w2.alloc (.cells #[.int .u32 (x : Int), .int .u32 0, .int .u32 0, .int .u32 0, .int .u32 0, .int .u32 0] 32) = W3 := ⟨_, rfl⟩
  have hB3 : Below w2.heap.size w2 W3 := by rw [← hW3]; exact below_new _ _
  have hM3 : AtM W3 w2.heap.size ⟨x, 0, 0, 0, 0, 0⟩ := by rw [← hW3]; exact AtM.new w2 ⟨x, 0, 0, 0, 0, 0⟩
  have hB4 := below_th HC.out.2 hB3
  have ci3 := HCI.out _ hB4
  have cl3 := (hB3.cell (p := ⟨bl, ol, none⟩) (World.block_lt_of_cell? _ _ HC.out.1)).trans HC.out.1
  obtain ⟨x0, x1, x2, x3, x4, x5⟩ := hM3.c
  dsimp only at x0 x1 x2 x3 x4 x5
  rw [hW3]
  clear hW3 hM3 hB3
  have HD := Lib.hid (fun q => below_th hB4 (drewN_below W3 q))
  clear hB4
  go_quiet (fail)
  go_wp2_with (first
    | (go_at_call 21; (with_reducible refine Calls.mono (H2.out _) ?_); rintro e w4 ⟨u4, rfl, hv4, hB5⟩; obtain ⟨na, nc, en, hn1, hn2⟩ := hv4.parts; rw [HL.out] at en hn1; subst en; have HV4 := Lib.hid hv4; have HB5 := Lib.hid (below_th (HD.out _) hB5); clear hv4 hB5)
    | (go_at_call 19; (with_reducible refine Calls.mono (H3.out _ _ _ HV4.out HB5.out) ?_); rintro e w6 ⟨rfl, hB6⟩))
  go_ret
  exact ⟨rfl, below_th HB5.out hB6⟩
theorem first_two (s : Nat) (v1 v2 : Value) (V I : List Nat) (w : World) (ws : s < 4294967296) (hV : U32s w v1 V) (hI : U32s w v2 I) (sV : Small V) (sI : Small I) (k1 : ¬ 1000 < V.length) (k2 : ¬ 1000 < I.length) (l1 : layP s V I) (hd1 : dpN s = 2) : Calls Try.prog 8 #[.int .u32 s, v1, v2] w (Ans w (.bool true)) := by
  obtain ⟨a1, c1, rfl, p1, q1⟩ := hV.parts
  obtain ⟨a2, c2, rfl, p2, q2⟩ := hI.parts
  have g1 : ¬ (1000 : Int) < (V.length : Int) := by omega
  have g2 : ¬ (1000 : Int) < (I.length : Int) := by omega
  have h1 := fun W (h : Below w.heap.size w W) => lay_any s _ _ V I W ws (hV.below h) (hI.below h) sV sI (by omega) (by omega)
  unfold LayPost at h1
  have e1 : layE s V I = 0 := if_pos l1
  have hX : (layB s V I).length = I.length := by unfold layB; rw [if_pos l1, blocks_length l1, l1.2.2.1]
  have hd := dp_le s
  have hcn := cnt_def l1.1
  have hM : layM s V I = ⟨I.getD 0 0, 0, 0, 0, 0, 0⟩ := by unfold layM mapOf; rw [if_pos l1, if_neg (by omega)]
  have hB0 : layB s V I = blkB I.tail :: lowers V (lowN s) := by unfold layB blocksOf; rw [if_pos l1, if_neg (by omega), if_neg (by omega)]
  have hni : I.length = 1 + lowN s := by rw [l1.2.2.1, hcn, if_pos hd1]
  have hb2 := dp_two hd1
  have hlw : 2 ≤ lowN s := by unfold lowN; omega
  have htl : I.tail.length = lowN s := by rw [List.length_tail]; omega
  have hll : (blkB I.tail :: lowers V (lowN s)).length = I.length := by rw [← hB0]; exact hX
  rw [e1, hM, hB0] at h1
  have h2 := fun W => below_some s I.tail W l1.1 hd1 htl (small_tail sI) (fun x hx => l1.2.2.2 x (List.mem_of_mem_tail hx))
  obtain ⟨bi, oi, ei, ci⟩ := hI.get (k := 0) (by omega)
  subst ei
  have h3 := fun v W (hv : U32s W v I.tail) (h : Below w.heap.size w W) => R.same_any v (.slice (some ⟨bi, oi + 1, none⟩) (I.length - 1) (c2 - 1)) I.tail I.tail W hv (by
    have := U32s.sub (U32s.below hI h) 1 I.length (by omega) (Nat.le_refl _)
    rw [List.drop_one, List.take_of_length_le (by rw [List.length_tail]; exact Nat.le_refl _)] at this
    exact this)
  rw [decide_eq_true (rfl : I.tail = I.tail)] at h3
  have HCI : Hid (∀ W, Below w.heap.size w W → W.cell? ⟨bi, oi, none⟩ = some (.int .u32 ((I.getD 0 0 : Nat) : Int))) := fun W h => (h.cell (p := ⟨bi, oi, none⟩) (World.block_lt_of_cell? _ _ ci)).trans ci
  generalize I.getD 0 0 = x at h1 HCI
  have hQ : ∀ W, (binOp .neq 32 (.agg #[.int .u32 (x : Int), .int .u32 0, .int .u32 0, .int .u32 0, .int .u32 0, .int .u32 0]) (.agg #[.int .u32 (x : Int), .int .u32 0, .int .u32 0, .int .u32 0, .int .u32 0, .int .u32 0])).run Try.prog W = .ok (.bool false) W := fun W => by
    have := neqM ⟨x, 0, 0, 0, 0, 0⟩ ⟨x, 0, 0, 0, 0, 0⟩ W
    rw [decide_eq_true rfl] at this
    exact this
  unfold M.val at h1
  dsimp only at h1
  generalize hBV : blkB I.tail = BV at h1 h2 hll
  generalize hLL : BV :: lowers V (lowN s) = LL at h1 hll
  have HL0 : Hid (LL.getD 0 ⟨#[]⟩ = BV) := by unfold Hid; rw [← hLL]; rfl
  have hlp : 0 < LL.length := by omega
  have H1 := Lib.hid h1
  have H2 := Lib.hid h2
  have H3 := Lib.hid h3
  have HLL := Lib.hid hll
  have HLP := Lib.hid hlp
  have hcc1 : 1 < c2 := by omega
  have hcc2 : ¬ c2 = 1 := by omega
  have hcc3 : ¬ c2 - 1 = 0 := by omega
  have hcc4 : (1 : Int) < (c2 : Int) := by omega
  have hn3 : 2 < I.length := by omega
  have gq : ((I.length : Int) != (I.length : Int)) = false := by simp
  have gq1 : ((I.length : Int) == 1) = false := beq_eq_false_iff_ne.2 (by omega)
  have gq0 : ((I.length : Int) == 0) = false := beq_eq_false_iff_ne.2 (by omega)
  have gp : 0 < I.length := by omega
  have gpi : (0 : Int) < (I.length : Int) := by omega
  have gp1 : 1 ≤ I.length := by omega
  generalize V.length = nv at *
  generalize I.length = ni at *
  clear h1 h2 h3 ws hV hI sV sI k1 k2 l1 hX e1 hM hB0 hBV hLL hll hlp hni hd hcn hd1 ci hb2 hlw htl
  go_enter Try.func8, Try.ntmps8
  go_wp2_with (first
    | (go_at_call 9; (with_reducible refine Calls.mono (shown_any _) ?_); rintro e w1 ⟨rfl, hB1⟩)
    | (go_at_call 15; (with_reducible refine Calls.mono (H1.out _ hB1) ?_); rintro e w2 ⟨u2, rfl, hv2, hB2⟩; obtain ⟨xa, xc, ex, _, _⟩ := hv2.parts; rw [HLL.out] at ex; subst ex; obtain ⟨bl, ol, rfl, cl⟩ := hv2.get (k := 0) HLP.out; rw [HL0.out, Nat.add_zero] at cl; have HC := Lib.hid (And.intro cl (below_th hB1 hB2)); clear hv2 cl))
  obtain ⟨W3, hW3⟩ : ∃ W3, w2.alloc (.cells #[.int .u32 (x : Int), .int .u32 0, .int .u32 0, .int .u32 0, .int .u32 0, .int .u32 0] 32) = W3 := ⟨_, rfl⟩
  have hB3 : Below w2.heap.size w2 W3 := by rw [← hW3]; exact below_new _ _
  have hM3 : AtM W3 w2.heap.size ⟨x, 0, 0, 0, 0, 0⟩ := by rw [← hW3]; exact AtM.new w2 ⟨x, 0, 0, 0, 0, 0⟩
  have hB4 := below_th HC.out.2 hB3
  have ci3 := HCI.out _ hB4
  have cl3 := (hB3.cell (p := ⟨bl, ol, none⟩) (World.block_lt_of_cell? _ _ HC.out.1)).trans HC.out.1
  obtain ⟨x0, x1, x2, x3, x4, x5⟩ := hM3.c
  dsimp only at x0 x1 x2 x3 x4 x5
  rw [hW3]
  clear hW3 hM3 hB3
  have HD := Lib.hid (fun q => below_th hB4 (drewN_below W3 q))
  clear hB4
  go_quiet (fail)
  go_wp2_with (first
    | (go_at_call 20; (with_reducible refine Calls.mono (H2.out _) ?_); rintro e w4 ⟨u4, rfl, hv4, hB5⟩; have HV4 := Lib.hid hv4; have HB5 := Lib.hid (below_th (HD.out _) hB5); clear hv4 hB5)
    | (go_at_call 19; (with_reducible refine Calls.mono (H3.out _ _ HV4.out HB5.out) ?_); rintro e w6 ⟨rfl, hB6⟩))
  go_ret
  exact ⟨rfl, below_th HB5.out hB6⟩
theorem BmapFirst_walk (s : Int) (v1 : Value) (V : List Nat) (v2 : Value) (I : List Nat) (w : World) (ws : (Lit.int .u32 s).wf = true) (hV : U32s w v1 V) (sV : Small V) (hI : U32s w v2 I) (sI : Small I) : Calls Try.prog 8 #[.int .u32 s, v1, v2] w fun e w' => e = .returned (.bool true) ∧ Below w.heap.size w w' := by
  have h1 := bounds32 ws
  obtain ⟨n, rfl⟩ : ∃ n : Nat, s = (n : Int) := ⟨s.toNat, by omega⟩
  have wn : n < 4294967296 := by omega
  by_cases k1 : 1000 < V.length
  · exact first_long n v1 v2 V I w wn hV hI sV sI k1
  by_cases k2 : 1000 < I.length
  · exact first_ids n v1 v2 V I w wn hV hI sV sI k1 k2
  by_cases l1 : layP n V I
  · by_cases l0 : I.length = 0
    · exact first_none n v1 v2 V I w wn hV hI sV sI k1 k2 l1 l0
    · have hd := dp_le n
      have hc := cnt_def l1.1
      by_cases h0 : dpN n = 0
      · exfalso
        rw [if_neg (by omega), h0, ← l1.2.2.1] at hc
        exact l0 hc
      · by_cases h4 : dpN n = 1
        · exact first_one n v1 v2 V I w wn hV hI sV sI k1 k2 l1 h4
        · exact first_two n v1 v2 V I w wn hV hI sV sI k1 k2 l1 (by omega)
  · exact first_no n v1 v2 V I w wn hV hI sV sI k1 k2 l1
end
end Go.Proofs.Ytdakfdecfpebcaa.Bmp
