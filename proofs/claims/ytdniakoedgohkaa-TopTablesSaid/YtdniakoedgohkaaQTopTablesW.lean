/- TopTables, walked. -/
import Derived.Test.YtdniakoedgohkaaPk15
import Derived.Test.YtdniakoedgohkaaPk22
import Derived.Test.YtdniakoedgohkaaPk24
import Derived.Test.YtdniakoedgohkaaPk12
import Derived.Test.YtdniakoedgohkaaPkRootArgs
namespace Go.Proofs.Ytdniakoedgohkaa.Tab
open Go.RowKit
open Cps (Strs)
attribute [local go_sem] Oper.semAt_some
set_option linter.unusedVariables false
set_option linter.unusedSimpArgs false
theorem cut_trs {w : World} {v : Value} {L : List Dat.T} (h : Dat.Trs w v L) : ∃ a n cap K, v = .slice a n cap ∧ Dat.Trs w (.slice a K cap) (L.take 1000) ∧ K ≤ n ∧ n ≤ cap ∧ cap ≤ 9223372036854775807 ∧ min (n : Int) 1000 = (K : Int) := by
  obtain ⟨a, cap, rfl, h1, h2⟩ := h.parts
  refine ⟨a, L.length, cap, min 1000 L.length, rfl, ?_, Nat.min_le_right _ _, h1, h2, by omega⟩
  have h3 := h.cut (min 1000 L.length) (Nat.min_le_right _ _)
  have e : L.take (min 1000 L.length) = L.take 1000 := by
    rcases Nat.le_total 1000 L.length with h | h
    · rw [Nat.min_eq_left h]
    · rw [Nat.min_eq_right h, List.take_length, List.take_of_length_le h]
  rw [e] at h3
  exact h3
theorem cut_chs {w : World} {v : Value} {L : List Cps.C} (h : Cps.Chs w v L) : ∃ a n cap K, v = .slice a n cap ∧ Cps.Chs w (.slice a K cap) (L.take 100) ∧ K ≤ n ∧ n ≤ cap ∧ cap ≤ 9223372036854775807 ∧ min (n : Int) 100 = (K : Int) := by
  obtain ⟨a, cap, rfl, h1, h2⟩ := h.parts
  refine ⟨a, L.length, cap, min 100 L.length, rfl, ?_, Nat.min_le_right _ _, h1, h2, by omega⟩
  have h3 := h.cut (min 100 L.length) (Nat.min_le_right _ _)
  have e : L.take (min 100 L.length) = L.take 100 := by
    rcases Nat.le_total 100 L.length with h | h
    · rw [Nat.min_eq_left h]
    · rw [Nat.min_eq_right h, List.take_length, List.take_of_length_le h]
  rw [e] at h3
  exact h3
theorem strs_one {W : World} {b : Nat} {x : ByteArray} (h : W.heap[b]? = some (.cells #[.string x] 9 (0, 0))) : Strs W (.slice (some ⟨b, 0, none⟩) 1 1) [x] := by
  refine ⟨_, 1, rfl, Nat.le_refl _, ⟨by unfold maxLen; decide, fun e => by cases e⟩, rfl, fun _ => ⟨b, 0, rfl, fun j u hj => ?_⟩⟩
  rcases j with _ | j
  · cases hj
    simp only [World.cell?, h]
    rfl
  · simp at hj
/-- what came in, at a later world -/
structure Base (w : World) (q : Nat) (R : Root.Q) (d c sl sc : Value) (L : List Dat.T) (C : List Cps.C) (W : World) : Prop where
  num : Root.Nums W d R.dats ∧ Root.Nums W c R.cps
  box : Root.QAt W q R d c
  tab : Dat.Trs W sl L
  chk : Cps.Chs W sc C
  bel : Below w.heap.size w W
theorem Base.th {w : World} {q : Nat} {R : Root.Q} {d c sl sc : Value} {L : List Dat.T} {C : List Cps.C} {W W' : World} (h : Base w q R d c sl sc L C W) (hB : Below W.heap.size W W') : Base w q R d c sl sc L C W' :=
  ⟨⟨h.num.1.below hB, h.num.2.below hB⟩, h.box.th hB, h.tab.below hB, h.chk.below hB, below_th h.bel hB⟩
theorem Base.cells {w : World} {q : Nat} {R : Root.Q} {d c sl sc : Value} {L : List Dat.T} {C : List Cps.C} {W : World} (h : Base w q R d c sl sc L C W) : W.cell? ⟨q, 0, none⟩ = some (.int .u64 (R.cp : Int)) ∧ W.cell? ⟨q, 1, none⟩ = some (.int .u64 (R.tick : Int)) ∧ W.cell? ⟨q, 2, none⟩ = some d ∧ W.cell? ⟨q, 3, none⟩ = some c := h.box.c
section
set_option maxRecDepth 100000
set_option maxHeartbeats 16000000

theorem below_newW (w : World) (o : Obj) : Below w.heap.size w (w.alloc o) := (Below.refl _ _).alloc (Nat.le_refl _) o
theorem tables_111 (R : Root.Q) (d c : Value) (w : World) (a1 : Option Addr) (n1 cap1 K1 : Nat) (a2 : Option Addr) (n2 cap2 K2 : Nat) (L : List Dat.T) (C : List Cps.C) (hL : Dat.Trs w (.slice a1 K1 cap1) L) (hC : Cps.Chs w (.slice a2 K2 cap2) C) (h : Root.Nums w d R.dats ∧ Root.Nums w c R.cps) (ho : Root.QOk R) (hCL : C.length ≤ 100)
    (l11 : K1 ≤ n1) (l13 : n1 ≤ cap1) (l14 : cap1 ≤ 9223372036854775807) (m1 : min (n1 : Int) 1000 = (K1 : Int))
    (l21 : K2 ≤ n2) (l23 : n2 ≤ cap2) (l24 : cap2 ≤ 9223372036854775807) (m2 : min (n2 : Int) 100 = (K2 : Int))
    (hl : Dat.RightP L) (hc : Cps.RightP C) (hr : Root.RightP R) :
    Calls Try.prog 7 #[.slice a1 n1 cap1, .slice a2 n2 cap2, R.val d c] w (Dat.Ans w (.bool true)) := by
  obtain ⟨a3, cap3, rfl, _, _⟩ := h.1.parts
  obtain ⟨a4, cap4, rfl, _, _⟩ := h.2.parts
  have hSW := fun v vn W (h1 : Dat.Trs W v L) (h2 : Cps.Nums W vn (Cps.numV C)) => Dat.sweep_any v vn L (Cps.numV C) W h1 h2
  unfold Dat.SwpPost at hSW
  have hMR := Dat.swpV_right (C := Cps.numV C) hl
  rw [show Dat.swpE L = 0 from if_pos hl] at hSW
  obtain ⟨M, hM⟩ : ∃ M, Dat.swpV L (Cps.numV C) = M := ⟨_, rfl⟩
  obtain ⟨sn, hsn⟩ : ∃ n, Dat.swpN L (Cps.numV C) = n := ⟨_, rfl⟩
  simp only [hM, hsn] at hSW
  have hDE := fun v W (h1 : Dat.Trs W v M) => Dat.encode_any v M W h1
  unfold Dat.EncPost at hDE
  rw [hM] at hMR
  rw [show Dat.encE M = 0 from if_pos hMR.1] at hDE
  have hTA := fun v W (h1 : Dat.Strs W v (Dat.encV M)) => through_any v (Dat.encV M) W h1 (Dat.enc_sizes hMR.1) (by rw [Dat.enc_len hMR.1]; have := hMR.1.1.2; unfold Dat.nBl; omega)
  have hDD := fun v W (h1 : Strs W v (Dat.encV M)) => Dat.back_any v M W hMR.1 h1
  have hDS := fun v u W (h1 : Dat.Trs W v M) (h2 : Dat.Trs W u M) => Dat.R.same_any v u M M W h1 h2
  unfold ThrPost at hTA
  unfold Dat.BackPost at hDD
  rw [hMR.2] at hDD
  rw [decide_eq_true (rfl : M = M)] at hDS
  unfold Dat.Ans at hDS
  obtain ⟨eM, heM⟩ : ∃ e, Dat.encE M = e := ⟨_, rfl⟩
  obtain ⟨VM, hVM⟩ : ∃ V, Dat.encV M = V := ⟨_, rfl⟩
  simp only [hVM] at hDE hTA hDD
  have hCE := fun v W (h1 : Cps.Chs W v C) => Cps.encode_any v C W h1
  unfold Cps.EncPost at hCE
  rw [show Cps.encE C = 0 from if_pos hc] at hCE
  have hTB := fun v W (h1 : Strs W v (Cps.encV C)) => through_any v (Cps.encV C) W h1 (Cps.enc_sizes hc) (by rw [Cps.enc_length hc]; have := hc.1; unfold Cps.nBl; omega)
  have hCD := fun v W (h1 : Strs W v (Cps.encV C)) => Cps.decode_any v (Cps.encV C) W h1
  have hCS := fun v u W (h1 : Cps.Chs W v C) (h2 : Cps.Chs W u C) => Cps.same_any v u C C W h1 h2
  have hdy := Cps.dec_yes (T := Cps.encV C) (L := C) ⟨hc, rfl⟩
  unfold ThrPost at hTB
  unfold Cps.DecPost at hCD
  rw [hdy.1, hdy.2] at hCD
  rw [decide_eq_true (rfl : C = C)] at hCS
  unfold Cps.Ans at hCS
  obtain ⟨VC, hVC⟩ : ∃ V, Cps.encV C = V := ⟨_, rfl⟩
  simp only [hVC] at hCE hTB hCD
  have hRE := fun d c W (h1 : Root.Nums W d R.dats) (h2 : Root.Nums W c R.cps) => Root.encode_any R d c W h1 h2 ho
  rw [Root.encS_yes hr, Root.encE_yes hr] at hRE
  have hsz := Root.rotB_size hr.1
  have hRD := fun W => Root.decode_any (Root.rotB R) W (by omega)
  have hdr := Root.dec_rot hr
  unfold Root.DecPost at hRD
  rw [hdr.2, Root.decE_yes hdr.1] at hRD
  obtain ⟨E, hE⟩ : ∃ E, Root.rotB R = E := ⟨_, rfl⟩
  rw [hE] at hRE hRD hsz
  have hTS := fun v W (h1 : Strs W v [E]) => through_any v [E] W h1 (fun b hb => by rw [List.mem_singleton] at hb; rw [hb]; exact hsz) (by simp)
  have hRS := fun d c e f W h1 h2 h3 h4 => Root.same_any R R d c e f W h1 h2 h3 h4
  unfold ThrPost at hTS
  rw [decide_eq_true (rfl : R = R)] at hRS
  unfold Root.Q.val Root.Ans at hRE hRS
  unfold Root.Q.val at hRD
  have HSW := Lib.hid hSW
  have HDE := Lib.hid hDE
  have HCE := Lib.hid hCE
  have HRE := Lib.hid hRE
  have HTA := Lib.hid hTA
  have HDD := Lib.hid hDD
  have HDS := Lib.hid hDS
  have HTB := Lib.hid hTB
  have HCD := Lib.hid hCD
  have HCS := Lib.hid hCS
  have HTS := Lib.hid hTS
  have HRD := Lib.hid hRD
  have HRS := Lib.hid hRS
  have HCL := Lib.hid hCL
  have hB0 := below_newW w (Root.boxQ R (.slice a3 R.dats.length cap3) (.slice a4 R.cps.length cap4))
  have hbase : Base w w.heap.size R (.slice a3 R.dats.length cap3) (.slice a4 R.cps.length cap4) (.slice a1 K1 cap1) (.slice a2 K2 cap2) L C (w.alloc (Root.boxQ R (.slice a3 R.dats.length cap3) (.slice a4 R.cps.length cap4))) := ⟨⟨h.1.below hB0, h.2.below hB0⟩, Root.QAt.new w _ _ _, hL.below hB0, hC.below hB0, hB0⟩
  unfold Root.boxQ at hbase
  obtain ⟨q, hqq⟩ : ∃ q, w.heap.size = q := ⟨_, rfl⟩
  obtain ⟨WB, hWB⟩ : ∃ WB, w.alloc (.cells #[.int .u64 (R.cp : Int), .int .u64 (R.tick : Int), .slice a3 R.dats.length cap3, .slice a4 R.cps.length cap4] 25) = WB := ⟨_, rfl⟩
  rw [hqq, hWB] at hbase
  have HB := Lib.hid hbase
  have b1 : (K1 : Int) ≤ (cap1 : Int) := by omega
  have b2 : (K2 : Int) ≤ (cap2 : Int) := by omega
  have b3 : 0 ≤ (K1 : Int) := by omega
  have b4 : 0 ≤ (K2 : Int) := by omega
  unfold Root.Q.val Dat.Ans
  clear hSW hDE hCE hRE hTA hDD hDS hMR hTB hCD hCS hdy hTS hRD hRS hdr hsz hE hM hsn heM hVM hVC hL hC h hCL hl hc hr hB0 hbase l11 l13 l14 l21 l23 l24
  go_enter Try.func7, Try.ntmps7
  go_wp2_with (first
    | (go_at_call 16; (with_reducible refine Calls.mono (tabs_any _) ?_); rintro e x1 ⟨rfl, hB1⟩; replace HB := Lib.hid (HB.out.th hB1))
    | (go_at_call 18; (with_reducible refine Calls.mono (Cps.numbers_any _ _ _ HB.out.chk (by have := HCL.out; omega)) ?_); rintro e x2 ⟨vn, rfl, hn2, hB2⟩; obtain ⟨an, cn, rfl, _⟩ := Lies.parts hn2; replace HB := Lib.hid (HB.out.th hB2); have HN := Lib.hid hn2; clear hn2)
    | (go_at_call 17; (with_reducible refine Calls.mono (HSW.out _ _ _ HB.out.tab HN.out) ?_); rintro e x3 ⟨vm, rfl, hm3, hB3⟩; obtain ⟨am, cm, rfl, _, _⟩ := hm3.parts; replace HB := Lib.hid (HB.out.th hB3); have HM := Lib.hid hm3; clear hm3)
    | (go_at_call 19; (with_reducible refine Calls.mono (HDE.out _ _ HM.out) ?_); rintro e x4 ⟨va, rfl, ha4, hB4⟩; obtain ⟨aa, ca, rfl, _, _⟩ := Dat.Strs.parts ha4; replace HB := Lib.hid (HB.out.th hB4); replace HM := Lib.hid (HM.out.below hB4); have HA := Lib.hid ha4; clear ha4)
    | (go_at_call 20; (with_reducible refine Calls.mono (HCE.out _ _ HB.out.chk) ?_); rintro e x5 ⟨vb, rfl, hb5, hB5⟩; obtain ⟨ab, cb, rfl, _, _⟩ := Cps.Strs.parts hb5; replace HB := Lib.hid (HB.out.th hB5); replace HM := Lib.hid (HM.out.below hB5); replace HA := Lib.hid (HA.out.below hB5); have HE := Lib.hid hb5; clear hb5; obtain ⟨q0, q1, q2, q3⟩ := HB.out.cells)
    | (go_at_call 9; (with_reducible refine Calls.mono (HRE.out _ _ _ HB.out.num.1 HB.out.num.2) ?_); rintro e x6 ⟨rfl, hB6⟩; replace HB := Lib.hid (HB.out.th hB6); replace HM := Lib.hid (HM.out.below hB6); replace HA := Lib.hid (HA.out.below hB6); replace HE := Lib.hid (HE.out.below hB6))
    | (go_at_call 21; (with_reducible refine Calls.mono (HTA.out _ _ HA.out) ?_); rintro e y1 ⟨vx, rfl, hx1, hC1⟩; obtain ⟨ax, cx, rfl, _, _⟩ := Cps.Strs.parts hx1; replace HB := Lib.hid (HB.out.th hC1); replace HM := Lib.hid (HM.out.below hC1); replace HA := Lib.hid (HA.out.below hC1); replace HE := Lib.hid (HE.out.below hC1); have HX := Lib.hid hx1; clear hx1)
    | (go_at_call 22; (with_reducible refine Calls.mono (HDD.out _ _ HX.out) ?_); rintro e y2 ⟨vy, rfl, hy2, hC2⟩; obtain ⟨ay, cy, rfl, _, _⟩ := hy2.parts; replace HB := Lib.hid (HB.out.th hC2); replace HM := Lib.hid (HM.out.below hC2); replace HA := Lib.hid (HA.out.below hC2); replace HE := Lib.hid (HE.out.below hC2); have HY := Lib.hid hy2; clear hy2)
    | (go_at_call 23; (with_reducible refine Calls.mono (HDS.out _ _ _ HY.out HM.out) ?_); rintro e y3 ⟨rfl, hC3⟩; replace HB := Lib.hid (HB.out.th hC3); replace HM := Lib.hid (HM.out.below hC3); replace HA := Lib.hid (HA.out.below hC3); replace HE := Lib.hid (HE.out.below hC3))
    | (go_at_call 21; (with_reducible refine Calls.mono (HTB.out _ _ HE.out) ?_); rintro e z1 ⟨vz, rfl, hz1, hD1⟩; obtain ⟨az, cz, rfl, _, _⟩ := Cps.Strs.parts hz1; replace HB := Lib.hid (HB.out.th hD1); replace HM := Lib.hid (HM.out.below hD1); replace HA := Lib.hid (HA.out.below hD1); replace HE := Lib.hid (HE.out.below hD1); have HZ := Lib.hid hz1; clear hz1)
    | (go_at_call 24; (with_reducible refine Calls.mono (HCD.out _ _ HZ.out) ?_); rintro e z2 ⟨vt, rfl, ht2, hD2⟩; obtain ⟨at2, ct, rfl, _, _⟩ := ht2.parts; replace HB := Lib.hid (HB.out.th hD2); replace HM := Lib.hid (HM.out.below hD2); replace HA := Lib.hid (HA.out.below hD2); replace HE := Lib.hid (HE.out.below hD2); have HT := Lib.hid ht2; clear ht2)
    | (go_at_call 25; (with_reducible refine Calls.mono (HCS.out _ _ _ HT.out HB.out.chk) ?_); rintro e z3 ⟨rfl, hD3⟩; replace HB := Lib.hid (HB.out.th hD3); replace HM := Lib.hid (HM.out.below hD3); replace HA := Lib.hid (HA.out.below hD3); replace HE := Lib.hid (HE.out.below hD3))
    | (go_at_call 21; (with_reducible refine Calls.mono (HTS.out _ _ (strs_one (World.alloc_heap_new _ _))) ?_); rintro e s1 ⟨vs, rfl, hs1, hE1⟩; obtain ⟨aS, cS, es, hs2, _⟩ := Cps.Strs.parts hs1; obtain rfl : vs = .slice aS 1 cS := es; obtain ⟨bs, os, rfl, k0⟩ := Cps.Strs.get hs1 (k := 0) (by simp); replace HB := Lib.hid ((HB.out.th (below_newW _ _)).th hE1); have k1 : s1.cell? ⟨bs, os, none⟩ = some (.string E) := k0; clear hs1)
    | (go_at_call 11; (with_reducible refine Calls.mono (HRD.out _) ?_); rintro e s2 ⟨ve, vf, rfl, he2, hf2, hE2⟩; obtain ⟨ae, ce, rfl, _, _⟩ := he2.parts; obtain ⟨af, cf, rfl, _, _⟩ := hf2.parts; replace HB := Lib.hid (HB.out.th hE2); have HBN := Lib.hid (HB.out.th (below_newW s2 (Root.boxQ R (.slice ae R.dats.length ce) (.slice af R.cps.length cf)))); have HEN := Lib.hid (he2.below (below_newW s2 (Root.boxQ R (.slice ae R.dats.length ce) (.slice af R.cps.length cf)))); have HFN := Lib.hid (hf2.below (below_newW s2 (Root.boxQ R (.slice ae R.dats.length ce) (.slice af R.cps.length cf)))); unfold Root.boxQ at HBN HEN HFN; obtain ⟨t0, t1, t2, t3⟩ := HBN.out.cells; clear he2 hf2)
    | (go_at_call 15; (with_reducible refine Calls.mono (HRS.out _ _ _ _ _ HEN.out HFN.out HBN.out.num.1 HBN.out.num.2) ?_); rintro e s3 ⟨rfl, hE3⟩; replace HBN := Lib.hid (HBN.out.th hE3)))
  go_ret
  exact ⟨rfl, HBN.out.bel⟩

theorem tables_110 (R : Root.Q) (d c : Value) (w : World) (a1 : Option Addr) (n1 cap1 K1 : Nat) (a2 : Option Addr) (n2 cap2 K2 : Nat) (L : List Dat.T) (C : List Cps.C) (hL : Dat.Trs w (.slice a1 K1 cap1) L) (hC : Cps.Chs w (.slice a2 K2 cap2) C) (h : Root.Nums w d R.dats ∧ Root.Nums w c R.cps) (ho : Root.QOk R) (hCL : C.length ≤ 100)
    (l11 : K1 ≤ n1) (l13 : n1 ≤ cap1) (l14 : cap1 ≤ 9223372036854775807) (m1 : min (n1 : Int) 1000 = (K1 : Int))
    (l21 : K2 ≤ n2) (l23 : n2 ≤ cap2) (l24 : cap2 ≤ 9223372036854775807) (m2 : min (n2 : Int) 100 = (K2 : Int))
    (hl : Dat.RightP L) (hc : Cps.RightP C) (hr : ¬ Root.RightP R) :
    Calls Try.prog 7 #[.slice a1 n1 cap1, .slice a2 n2 cap2, R.val d c] w (Dat.Ans w (.bool true)) := by
  obtain ⟨a3, cap3, rfl, _, _⟩ := h.1.parts
  obtain ⟨a4, cap4, rfl, _, _⟩ := h.2.parts
  have hSW := fun v vn W (h1 : Dat.Trs W v L) (h2 : Cps.Nums W vn (Cps.numV C)) => Dat.sweep_any v vn L (Cps.numV C) W h1 h2
  unfold Dat.SwpPost at hSW
  have hMR := Dat.swpV_right (C := Cps.numV C) hl
  rw [show Dat.swpE L = 0 from if_pos hl] at hSW
  obtain ⟨M, hM⟩ : ∃ M, Dat.swpV L (Cps.numV C) = M := ⟨_, rfl⟩
  obtain ⟨sn, hsn⟩ : ∃ n, Dat.swpN L (Cps.numV C) = n := ⟨_, rfl⟩
  simp only [hM, hsn] at hSW
  have hDE := fun v W (h1 : Dat.Trs W v M) => Dat.encode_any v M W h1
  unfold Dat.EncPost at hDE
  rw [hM] at hMR
  rw [show Dat.encE M = 0 from if_pos hMR.1] at hDE
  have hTA := fun v W (h1 : Dat.Strs W v (Dat.encV M)) => through_any v (Dat.encV M) W h1 (Dat.enc_sizes hMR.1) (by rw [Dat.enc_len hMR.1]; have := hMR.1.1.2; unfold Dat.nBl; omega)
  have hDD := fun v W (h1 : Strs W v (Dat.encV M)) => Dat.back_any v M W hMR.1 h1
  have hDS := fun v u W (h1 : Dat.Trs W v M) (h2 : Dat.Trs W u M) => Dat.R.same_any v u M M W h1 h2
  unfold ThrPost at hTA
  unfold Dat.BackPost at hDD
  rw [hMR.2] at hDD
  rw [decide_eq_true (rfl : M = M)] at hDS
  unfold Dat.Ans at hDS
  obtain ⟨eM, heM⟩ : ∃ e, Dat.encE M = e := ⟨_, rfl⟩
  obtain ⟨VM, hVM⟩ : ∃ V, Dat.encV M = V := ⟨_, rfl⟩
  simp only [hVM] at hDE hTA hDD
  have hCE := fun v W (h1 : Cps.Chs W v C) => Cps.encode_any v C W h1
  unfold Cps.EncPost at hCE
  rw [show Cps.encE C = 0 from if_pos hc] at hCE
  have hTB := fun v W (h1 : Strs W v (Cps.encV C)) => through_any v (Cps.encV C) W h1 (Cps.enc_sizes hc) (by rw [Cps.enc_length hc]; have := hc.1; unfold Cps.nBl; omega)
  have hCD := fun v W (h1 : Strs W v (Cps.encV C)) => Cps.decode_any v (Cps.encV C) W h1
  have hCS := fun v u W (h1 : Cps.Chs W v C) (h2 : Cps.Chs W u C) => Cps.same_any v u C C W h1 h2
  have hdy := Cps.dec_yes (T := Cps.encV C) (L := C) ⟨hc, rfl⟩
  unfold ThrPost at hTB
  unfold Cps.DecPost at hCD
  rw [hdy.1, hdy.2] at hCD
  rw [decide_eq_true (rfl : C = C)] at hCS
  unfold Cps.Ans at hCS
  obtain ⟨VC, hVC⟩ : ∃ V, Cps.encV C = V := ⟨_, rfl⟩
  simp only [hVC] at hCE hTB hCD
  have hRE := fun d c W (h1 : Root.Nums W d R.dats) (h2 : Root.Nums W c R.cps) => Root.encode_any R d c W h1 h2 ho
  rw [Root.encS_no hr, Root.encE_no hr] at hRE
  unfold Root.Q.val Root.Ans at hRE
  have HSW := Lib.hid hSW
  have HDE := Lib.hid hDE
  have HCE := Lib.hid hCE
  have HRE := Lib.hid hRE
  have HTA := Lib.hid hTA
  have HDD := Lib.hid hDD
  have HDS := Lib.hid hDS
  have HTB := Lib.hid hTB
  have HCD := Lib.hid hCD
  have HCS := Lib.hid hCS
  have HCL := Lib.hid hCL
  have hB0 := below_newW w (Root.boxQ R (.slice a3 R.dats.length cap3) (.slice a4 R.cps.length cap4))
  have hbase : Base w w.heap.size R (.slice a3 R.dats.length cap3) (.slice a4 R.cps.length cap4) (.slice a1 K1 cap1) (.slice a2 K2 cap2) L C (w.alloc (Root.boxQ R (.slice a3 R.dats.length cap3) (.slice a4 R.cps.length cap4))) := ⟨⟨h.1.below hB0, h.2.below hB0⟩, Root.QAt.new w _ _ _, hL.below hB0, hC.below hB0, hB0⟩
  unfold Root.boxQ at hbase
  obtain ⟨q, hqq⟩ : ∃ q, w.heap.size = q := ⟨_, rfl⟩
  obtain ⟨WB, hWB⟩ : ∃ WB, w.alloc (.cells #[.int .u64 (R.cp : Int), .int .u64 (R.tick : Int), .slice a3 R.dats.length cap3, .slice a4 R.cps.length cap4] 25) = WB := ⟨_, rfl⟩
  rw [hqq, hWB] at hbase
  have HB := Lib.hid hbase
  have b1 : (K1 : Int) ≤ (cap1 : Int) := by omega
  have b2 : (K2 : Int) ≤ (cap2 : Int) := by omega
  have b3 : 0 ≤ (K1 : Int) := by omega
  have b4 : 0 ≤ (K2 : Int) := by omega
  unfold Root.Q.val Dat.Ans
  clear hSW hDE hCE hRE hTA hDD hDS hMR hTB hCD hCS hdy hM hsn heM hVM hVC hL hC h hCL hl hc hr hB0 hbase l11 l13 l14 l21 l23 l24
  go_enter Try.func7, Try.ntmps7
  go_wp2_with (first
    | (go_at_call 16; (with_reducible refine Calls.mono (tabs_any _) ?_); rintro e x1 ⟨rfl, hB1⟩; replace HB := Lib.hid (HB.out.th hB1))
    | (go_at_call 18; (with_reducible refine Calls.mono (Cps.numbers_any _ _ _ HB.out.chk (by have := HCL.out; omega)) ?_); rintro e x2 ⟨vn, rfl, hn2, hB2⟩; obtain ⟨an, cn, rfl, _⟩ := Lies.parts hn2; replace HB := Lib.hid (HB.out.th hB2); have HN := Lib.hid hn2; clear hn2)
    | (go_at_call 17; (with_reducible refine Calls.mono (HSW.out _ _ _ HB.out.tab HN.out) ?_); rintro e x3 ⟨vm, rfl, hm3, hB3⟩; obtain ⟨am, cm, rfl, _, _⟩ := hm3.parts; replace HB := Lib.hid (HB.out.th hB3); have HM := Lib.hid hm3; clear hm3)
    | (go_at_call 19; (with_reducible refine Calls.mono (HDE.out _ _ HM.out) ?_); rintro e x4 ⟨va, rfl, ha4, hB4⟩; obtain ⟨aa, ca, rfl, _, _⟩ := Dat.Strs.parts ha4; replace HB := Lib.hid (HB.out.th hB4); replace HM := Lib.hid (HM.out.below hB4); have HA := Lib.hid ha4; clear ha4)
    | (go_at_call 20; (with_reducible refine Calls.mono (HCE.out _ _ HB.out.chk) ?_); rintro e x5 ⟨vb, rfl, hb5, hB5⟩; obtain ⟨ab, cb, rfl, _, _⟩ := Cps.Strs.parts hb5; replace HB := Lib.hid (HB.out.th hB5); replace HM := Lib.hid (HM.out.below hB5); replace HA := Lib.hid (HA.out.below hB5); have HE := Lib.hid hb5; clear hb5; obtain ⟨q0, q1, q2, q3⟩ := HB.out.cells)
    | (go_at_call 9; (with_reducible refine Calls.mono (HRE.out _ _ _ HB.out.num.1 HB.out.num.2) ?_); rintro e x6 ⟨rfl, hB6⟩; replace HB := Lib.hid (HB.out.th hB6); replace HM := Lib.hid (HM.out.below hB6); replace HA := Lib.hid (HA.out.below hB6); replace HE := Lib.hid (HE.out.below hB6))
    | (go_at_call 21; (with_reducible refine Calls.mono (HTA.out _ _ HA.out) ?_); rintro e y1 ⟨vx, rfl, hx1, hC1⟩; obtain ⟨ax, cx, rfl, _, _⟩ := Cps.Strs.parts hx1; replace HB := Lib.hid (HB.out.th hC1); replace HM := Lib.hid (HM.out.below hC1); replace HA := Lib.hid (HA.out.below hC1); replace HE := Lib.hid (HE.out.below hC1); have HX := Lib.hid hx1; clear hx1)
    | (go_at_call 22; (with_reducible refine Calls.mono (HDD.out _ _ HX.out) ?_); rintro e y2 ⟨vy, rfl, hy2, hC2⟩; obtain ⟨ay, cy, rfl, _, _⟩ := hy2.parts; replace HB := Lib.hid (HB.out.th hC2); replace HM := Lib.hid (HM.out.below hC2); replace HA := Lib.hid (HA.out.below hC2); replace HE := Lib.hid (HE.out.below hC2); have HY := Lib.hid hy2; clear hy2)
    | (go_at_call 23; (with_reducible refine Calls.mono (HDS.out _ _ _ HY.out HM.out) ?_); rintro e y3 ⟨rfl, hC3⟩; replace HB := Lib.hid (HB.out.th hC3); replace HM := Lib.hid (HM.out.below hC3); replace HA := Lib.hid (HA.out.below hC3); replace HE := Lib.hid (HE.out.below hC3))
    | (go_at_call 21; (with_reducible refine Calls.mono (HTB.out _ _ HE.out) ?_); rintro e z1 ⟨vz, rfl, hz1, hD1⟩; obtain ⟨az, cz, rfl, _, _⟩ := Cps.Strs.parts hz1; replace HB := Lib.hid (HB.out.th hD1); replace HM := Lib.hid (HM.out.below hD1); replace HA := Lib.hid (HA.out.below hD1); replace HE := Lib.hid (HE.out.below hD1); have HZ := Lib.hid hz1; clear hz1)
    | (go_at_call 24; (with_reducible refine Calls.mono (HCD.out _ _ HZ.out) ?_); rintro e z2 ⟨vt, rfl, ht2, hD2⟩; obtain ⟨at2, ct, rfl, _, _⟩ := ht2.parts; replace HB := Lib.hid (HB.out.th hD2); replace HM := Lib.hid (HM.out.below hD2); replace HA := Lib.hid (HA.out.below hD2); replace HE := Lib.hid (HE.out.below hD2); have HT := Lib.hid ht2; clear ht2)
    | (go_at_call 25; (with_reducible refine Calls.mono (HCS.out _ _ _ HT.out HB.out.chk) ?_); rintro e z3 ⟨rfl, hD3⟩; replace HB := Lib.hid (HB.out.th hD3); replace HM := Lib.hid (HM.out.below hD3); replace HA := Lib.hid (HA.out.below hD3); replace HE := Lib.hid (HE.out.below hD3)))
  go_ret
  exact ⟨rfl, HB.out.bel⟩

theorem tables_101 (R : Root.Q) (d c : Value) (w : World) (a1 : Option Addr) (n1 cap1 K1 : Nat) (a2 : Option Addr) (n2 cap2 K2 : Nat) (L : List Dat.T) (C : List Cps.C) (hL : Dat.Trs w (.slice a1 K1 cap1) L) (hC : Cps.Chs w (.slice a2 K2 cap2) C) (h : Root.Nums w d R.dats ∧ Root.Nums w c R.cps) (ho : Root.QOk R) (hCL : C.length ≤ 100)
    (l11 : K1 ≤ n1) (l13 : n1 ≤ cap1) (l14 : cap1 ≤ 9223372036854775807) (m1 : min (n1 : Int) 1000 = (K1 : Int))
    (l21 : K2 ≤ n2) (l23 : n2 ≤ cap2) (l24 : cap2 ≤ 9223372036854775807) (m2 : min (n2 : Int) 100 = (K2 : Int))
    (hl : Dat.RightP L) (hc : ¬ Cps.RightP C) (hr : Root.RightP R) :
    Calls Try.prog 7 #[.slice a1 n1 cap1, .slice a2 n2 cap2, R.val d c] w (Dat.Ans w (.bool true)) := by
  obtain ⟨a3, cap3, rfl, _, _⟩ := h.1.parts
  obtain ⟨a4, cap4, rfl, _, _⟩ := h.2.parts
  have hSW := fun v vn W (h1 : Dat.Trs W v L) (h2 : Cps.Nums W vn (Cps.numV C)) => Dat.sweep_any v vn L (Cps.numV C) W h1 h2
  unfold Dat.SwpPost at hSW
  have hMR := Dat.swpV_right (C := Cps.numV C) hl
  rw [show Dat.swpE L = 0 from if_pos hl] at hSW
  obtain ⟨M, hM⟩ : ∃ M, Dat.swpV L (Cps.numV C) = M := ⟨_, rfl⟩
  obtain ⟨sn, hsn⟩ : ∃ n, Dat.swpN L (Cps.numV C) = n := ⟨_, rfl⟩
  simp only [hM, hsn] at hSW
  have hDE := fun v W (h1 : Dat.Trs W v M) => Dat.encode_any v M W h1
  unfold Dat.EncPost at hDE
  rw [hM] at hMR
  rw [show Dat.encE M = 0 from if_pos hMR.1] at hDE
  have hTA := fun v W (h1 : Dat.Strs W v (Dat.encV M)) => through_any v (Dat.encV M) W h1 (Dat.enc_sizes hMR.1) (by rw [Dat.enc_len hMR.1]; have := hMR.1.1.2; unfold Dat.nBl; omega)
  have hDD := fun v W (h1 : Strs W v (Dat.encV M)) => Dat.back_any v M W hMR.1 h1
  have hDS := fun v u W (h1 : Dat.Trs W v M) (h2 : Dat.Trs W u M) => Dat.R.same_any v u M M W h1 h2
  unfold ThrPost at hTA
  unfold Dat.BackPost at hDD
  rw [hMR.2] at hDD
  rw [decide_eq_true (rfl : M = M)] at hDS
  unfold Dat.Ans at hDS
  obtain ⟨eM, heM⟩ : ∃ e, Dat.encE M = e := ⟨_, rfl⟩
  obtain ⟨VM, hVM⟩ : ∃ V, Dat.encV M = V := ⟨_, rfl⟩
  simp only [hVM] at hDE hTA hDD
  have hCE := fun v W (h1 : Cps.Chs W v C) => Cps.encode_any v C W h1
  unfold Cps.EncPost at hCE
  rw [show Cps.encE C = 90 from if_neg hc] at hCE
  obtain ⟨VC, hVC⟩ : ∃ V, Cps.encV C = V := ⟨_, rfl⟩
  simp only [hVC] at hCE
  have hRE := fun d c W (h1 : Root.Nums W d R.dats) (h2 : Root.Nums W c R.cps) => Root.encode_any R d c W h1 h2 ho
  rw [Root.encS_yes hr, Root.encE_yes hr] at hRE
  have hsz := Root.rotB_size hr.1
  have hRD := fun W => Root.decode_any (Root.rotB R) W (by omega)
  have hdr := Root.dec_rot hr
  unfold Root.DecPost at hRD
  rw [hdr.2, Root.decE_yes hdr.1] at hRD
  obtain ⟨E, hE⟩ : ∃ E, Root.rotB R = E := ⟨_, rfl⟩
  rw [hE] at hRE hRD hsz
  have hTS := fun v W (h1 : Strs W v [E]) => through_any v [E] W h1 (fun b hb => by rw [List.mem_singleton] at hb; rw [hb]; exact hsz) (by simp)
  have hRS := fun d c e f W h1 h2 h3 h4 => Root.same_any R R d c e f W h1 h2 h3 h4
  unfold ThrPost at hTS
  rw [decide_eq_true (rfl : R = R)] at hRS
  unfold Root.Q.val Root.Ans at hRE hRS
  unfold Root.Q.val at hRD
  have HSW := Lib.hid hSW
  have HDE := Lib.hid hDE
  have HCE := Lib.hid hCE
  have HRE := Lib.hid hRE
  have HTA := Lib.hid hTA
  have HDD := Lib.hid hDD
  have HDS := Lib.hid hDS
  have HTS := Lib.hid hTS
  have HRD := Lib.hid hRD
  have HRS := Lib.hid hRS
  have HCL := Lib.hid hCL
  have hB0 := below_newW w (Root.boxQ R (.slice a3 R.dats.length cap3) (.slice a4 R.cps.length cap4))
  have hbase : Base w w.heap.size R (.slice a3 R.dats.length cap3) (.slice a4 R.cps.length cap4) (.slice a1 K1 cap1) (.slice a2 K2 cap2) L C (w.alloc (Root.boxQ R (.slice a3 R.dats.length cap3) (.slice a4 R.cps.length cap4))) := ⟨⟨h.1.below hB0, h.2.below hB0⟩, Root.QAt.new w _ _ _, hL.below hB0, hC.below hB0, hB0⟩
  unfold Root.boxQ at hbase
  obtain ⟨q, hqq⟩ : ∃ q, w.heap.size = q := ⟨_, rfl⟩
  obtain ⟨WB, hWB⟩ : ∃ WB, w.alloc (.cells #[.int .u64 (R.cp : Int), .int .u64 (R.tick : Int), .slice a3 R.dats.length cap3, .slice a4 R.cps.length cap4] 25) = WB := ⟨_, rfl⟩
  rw [hqq, hWB] at hbase
  have HB := Lib.hid hbase
  have b1 : (K1 : Int) ≤ (cap1 : Int) := by omega
  have b2 : (K2 : Int) ≤ (cap2 : Int) := by omega
  have b3 : 0 ≤ (K1 : Int) := by omega
  have b4 : 0 ≤ (K2 : Int) := by omega
  unfold Root.Q.val Dat.Ans
  clear hSW hDE hCE hRE hTA hDD hDS hMR hTS hRD hRS hdr hsz hE hM hsn heM hVM hVC hL hC h hCL hl hc hr hB0 hbase l11 l13 l14 l21 l23 l24
  go_enter Try.func7, Try.ntmps7
  go_wp2_with (first
    | (go_at_call 16; (with_reducible refine Calls.mono (tabs_any _) ?_); rintro e x1 ⟨rfl, hB1⟩; replace HB := Lib.hid (HB.out.th hB1))
    | (go_at_call 18; (with_reducible refine Calls.mono (Cps.numbers_any _ _ _ HB.out.chk (by have := HCL.out; omega)) ?_); rintro e x2 ⟨vn, rfl, hn2, hB2⟩; obtain ⟨an, cn, rfl, _⟩ := Lies.parts hn2; replace HB := Lib.hid (HB.out.th hB2); have HN := Lib.hid hn2; clear hn2)
    | (go_at_call 17; (with_reducible refine Calls.mono (HSW.out _ _ _ HB.out.tab HN.out) ?_); rintro e x3 ⟨vm, rfl, hm3, hB3⟩; obtain ⟨am, cm, rfl, _, _⟩ := hm3.parts; replace HB := Lib.hid (HB.out.th hB3); have HM := Lib.hid hm3; clear hm3)
    | (go_at_call 19; (with_reducible refine Calls.mono (HDE.out _ _ HM.out) ?_); rintro e x4 ⟨va, rfl, ha4, hB4⟩; obtain ⟨aa, ca, rfl, _, _⟩ := Dat.Strs.parts ha4; replace HB := Lib.hid (HB.out.th hB4); replace HM := Lib.hid (HM.out.below hB4); have HA := Lib.hid ha4; clear ha4)
    | (go_at_call 20; (with_reducible refine Calls.mono (HCE.out _ _ HB.out.chk) ?_); rintro e x5 ⟨vb, rfl, hb5, hB5⟩; obtain ⟨ab, cb, rfl, _, _⟩ := Cps.Strs.parts hb5; replace HB := Lib.hid (HB.out.th hB5); replace HM := Lib.hid (HM.out.below hB5); replace HA := Lib.hid (HA.out.below hB5); have HE := Lib.hid hb5; clear hb5; obtain ⟨q0, q1, q2, q3⟩ := HB.out.cells)
    | (go_at_call 9; (with_reducible refine Calls.mono (HRE.out _ _ _ HB.out.num.1 HB.out.num.2) ?_); rintro e x6 ⟨rfl, hB6⟩; replace HB := Lib.hid (HB.out.th hB6); replace HM := Lib.hid (HM.out.below hB6); replace HA := Lib.hid (HA.out.below hB6); replace HE := Lib.hid (HE.out.below hB6))
    | (go_at_call 21; (with_reducible refine Calls.mono (HTA.out _ _ HA.out) ?_); rintro e y1 ⟨vx, rfl, hx1, hC1⟩; obtain ⟨ax, cx, rfl, _, _⟩ := Cps.Strs.parts hx1; replace HB := Lib.hid (HB.out.th hC1); replace HM := Lib.hid (HM.out.below hC1); replace HA := Lib.hid (HA.out.below hC1); replace HE := Lib.hid (HE.out.below hC1); have HX := Lib.hid hx1; clear hx1)
    | (go_at_call 22; (with_reducible refine Calls.mono (HDD.out _ _ HX.out) ?_); rintro e y2 ⟨vy, rfl, hy2, hC2⟩; obtain ⟨ay, cy, rfl, _, _⟩ := hy2.parts; replace HB := Lib.hid (HB.out.th hC2); replace HM := Lib.hid (HM.out.below hC2); replace HA := Lib.hid (HA.out.below hC2); replace HE := Lib.hid (HE.out.below hC2); have HY := Lib.hid hy2; clear hy2)
    | (go_at_call 23; (with_reducible refine Calls.mono (HDS.out _ _ _ HY.out HM.out) ?_); rintro e y3 ⟨rfl, hC3⟩; replace HB := Lib.hid (HB.out.th hC3); replace HM := Lib.hid (HM.out.below hC3); replace HA := Lib.hid (HA.out.below hC3); replace HE := Lib.hid (HE.out.below hC3))
    | (go_at_call 21; (with_reducible refine Calls.mono (HTS.out _ _ (strs_one (World.alloc_heap_new _ _))) ?_); rintro e s1 ⟨vs, rfl, hs1, hE1⟩; obtain ⟨aS, cS, es, hs2, _⟩ := Cps.Strs.parts hs1; obtain rfl : vs = .slice aS 1 cS := es; obtain ⟨bs, os, rfl, k0⟩ := Cps.Strs.get hs1 (k := 0) (by simp); replace HB := Lib.hid ((HB.out.th (below_newW _ _)).th hE1); have k1 : s1.cell? ⟨bs, os, none⟩ = some (.string E) := k0; clear hs1)
    | (go_at_call 11; (with_reducible refine Calls.mono (HRD.out _) ?_); rintro e s2 ⟨ve, vf, rfl, he2, hf2, hE2⟩; obtain ⟨ae, ce, rfl, _, _⟩ := he2.parts; obtain ⟨af, cf, rfl, _, _⟩ := hf2.parts; replace HB := Lib.hid (HB.out.th hE2); have HBN := Lib.hid (HB.out.th (below_newW s2 (Root.boxQ R (.slice ae R.dats.length ce) (.slice af R.cps.length cf)))); have HEN := Lib.hid (he2.below (below_newW s2 (Root.boxQ R (.slice ae R.dats.length ce) (.slice af R.cps.length cf)))); have HFN := Lib.hid (hf2.below (below_newW s2 (Root.boxQ R (.slice ae R.dats.length ce) (.slice af R.cps.length cf)))); unfold Root.boxQ at HBN HEN HFN; obtain ⟨t0, t1, t2, t3⟩ := HBN.out.cells; clear he2 hf2)
    | (go_at_call 15; (with_reducible refine Calls.mono (HRS.out _ _ _ _ _ HEN.out HFN.out HBN.out.num.1 HBN.out.num.2) ?_); rintro e s3 ⟨rfl, hE3⟩; replace HBN := Lib.hid (HBN.out.th hE3)))
  go_ret
  exact ⟨rfl, HBN.out.bel⟩

theorem tables_100 (R : Root.Q) (d c : Value) (w : World) (a1 : Option Addr) (n1 cap1 K1 : Nat) (a2 : Option Addr) (n2 cap2 K2 : Nat) (L : List Dat.T) (C : List Cps.C) (hL : Dat.Trs w (.slice a1 K1 cap1) L) (hC : Cps.Chs w (.slice a2 K2 cap2) C) (h : Root.Nums w d R.dats ∧ Root.Nums w c R.cps) (ho : Root.QOk R) (hCL : C.length ≤ 100)
    (l11 : K1 ≤ n1) (l13 : n1 ≤ cap1) (l14 : cap1 ≤ 9223372036854775807) (m1 : min (n1 : Int) 1000 = (K1 : Int))
    (l21 : K2 ≤ n2) (l23 : n2 ≤ cap2) (l24 : cap2 ≤ 9223372036854775807) (m2 : min (n2 : Int) 100 = (K2 : Int))
    (hl : Dat.RightP L) (hc : ¬ Cps.RightP C) (hr : ¬ Root.RightP R) :
    Calls Try.prog 7 #[.slice a1 n1 cap1, .slice a2 n2 cap2, R.val d c] w (Dat.Ans w (.bool true)) := by
  obtain ⟨a3, cap3, rfl, _, _⟩ := h.1.parts
  obtain ⟨a4, cap4, rfl, _, _⟩ := h.2.parts
  have hSW := fun v vn W (h1 : Dat.Trs W v L) (h2 : Cps.Nums W vn (Cps.numV C)) => Dat.sweep_any v vn L (Cps.numV C) W h1 h2
  unfold Dat.SwpPost at hSW
  have hMR := Dat.swpV_right (C := Cps.numV C) hl
  rw [show Dat.swpE L = 0 from if_pos hl] at hSW
  obtain ⟨M, hM⟩ : ∃ M, Dat.swpV L (Cps.numV C) = M := ⟨_, rfl⟩
  obtain ⟨sn, hsn⟩ : ∃ n, Dat.swpN L (Cps.numV C) = n := ⟨_, rfl⟩
  simp only [hM, hsn] at hSW
  have hDE := fun v W (h1 : Dat.Trs W v M) => Dat.encode_any v M W h1
  unfold Dat.EncPost at hDE
  rw [hM] at hMR
  rw [show Dat.encE M = 0 from if_pos hMR.1] at hDE
  have hTA := fun v W (h1 : Dat.Strs W v (Dat.encV M)) => through_any v (Dat.encV M) W h1 (Dat.enc_sizes hMR.1) (by rw [Dat.enc_len hMR.1]; have := hMR.1.1.2; unfold Dat.nBl; omega)
  have hDD := fun v W (h1 : Strs W v (Dat.encV M)) => Dat.back_any v M W hMR.1 h1
  have hDS := fun v u W (h1 : Dat.Trs W v M) (h2 : Dat.Trs W u M) => Dat.R.same_any v u M M W h1 h2
  unfold ThrPost at hTA
  unfold Dat.BackPost at hDD
  rw [hMR.2] at hDD
  rw [decide_eq_true (rfl : M = M)] at hDS
  unfold Dat.Ans at hDS
  obtain ⟨eM, heM⟩ : ∃ e, Dat.encE M = e := ⟨_, rfl⟩
  obtain ⟨VM, hVM⟩ : ∃ V, Dat.encV M = V := ⟨_, rfl⟩
  simp only [hVM] at hDE hTA hDD
  have hCE := fun v W (h1 : Cps.Chs W v C) => Cps.encode_any v C W h1
  unfold Cps.EncPost at hCE
  rw [show Cps.encE C = 90 from if_neg hc] at hCE
  obtain ⟨VC, hVC⟩ : ∃ V, Cps.encV C = V := ⟨_, rfl⟩
  simp only [hVC] at hCE
  have hRE := fun d c W (h1 : Root.Nums W d R.dats) (h2 : Root.Nums W c R.cps) => Root.encode_any R d c W h1 h2 ho
  rw [Root.encS_no hr, Root.encE_no hr] at hRE
  unfold Root.Q.val Root.Ans at hRE
  have HSW := Lib.hid hSW
  have HDE := Lib.hid hDE
  have HCE := Lib.hid hCE
  have HRE := Lib.hid hRE
  have HTA := Lib.hid hTA
  have HDD := Lib.hid hDD
  have HDS := Lib.hid hDS
  have HCL := Lib.hid hCL
  have hB0 := below_newW w (Root.boxQ R (.slice a3 R.dats.length cap3) (.slice a4 R.cps.length cap4))
  have hbase : Base w w.heap.size R (.slice a3 R.dats.length cap3) (.slice a4 R.cps.length cap4) (.slice a1 K1 cap1) (.slice a2 K2 cap2) L C (w.alloc (Root.boxQ R (.slice a3 R.dats.length cap3) (.slice a4 R.cps.length cap4))) := ⟨⟨h.1.below hB0, h.2.below hB0⟩, Root.QAt.new w _ _ _, hL.below hB0, hC.below hB0, hB0⟩
  unfold Root.boxQ at hbase
  obtain ⟨q, hqq⟩ : ∃ q, w.heap.size = q := ⟨_, rfl⟩
  obtain ⟨WB, hWB⟩ : ∃ WB, w.alloc (.cells #[.int .u64 (R.cp : Int), .int .u64 (R.tick : Int), .slice a3 R.dats.length cap3, .slice a4 R.cps.length cap4] 25) = WB := ⟨_, rfl⟩
  rw [hqq, hWB] at hbase
  have HB := Lib.hid hbase
  have b1 : (K1 : Int) ≤ (cap1 : Int) := by omega
  have b2 : (K2 : Int) ≤ (cap2 : Int) := by omega
  have b3 : 0 ≤ (K1 : Int) := by omega
  have b4 : 0 ≤ (K2 : Int) := by omega
  unfold Root.Q.val Dat.Ans
  clear hSW hDE hCE hRE hTA hDD hDS hMR hM hsn heM hVM hVC hL hC h hCL hl hc hr hB0 hbase l11 l13 l14 l21 l23 l24
  go_enter Try.func7, Try.ntmps7
  go_wp2_with (first
    | (go_at_call 16; (with_reducible refine Calls.mono (tabs_any _) ?_); rintro e x1 ⟨rfl, hB1⟩; replace HB := Lib.hid (HB.out.th hB1))
    | (go_at_call 18; (with_reducible refine Calls.mono (Cps.numbers_any _ _ _ HB.out.chk (by have := HCL.out; omega)) ?_); rintro e x2 ⟨vn, rfl, hn2, hB2⟩; obtain ⟨an, cn, rfl, _⟩ := Lies.parts hn2; replace HB := Lib.hid (HB.out.th hB2); have HN := Lib.hid hn2; clear hn2)
    | (go_at_call 17; (with_reducible refine Calls.mono (HSW.out _ _ _ HB.out.tab HN.out) ?_); rintro e x3 ⟨vm, rfl, hm3, hB3⟩; obtain ⟨am, cm, rfl, _, _⟩ := hm3.parts; replace HB := Lib.hid (HB.out.th hB3); have HM := Lib.hid hm3; clear hm3)
    | (go_at_call 19; (with_reducible refine Calls.mono (HDE.out _ _ HM.out) ?_); rintro e x4 ⟨va, rfl, ha4, hB4⟩; obtain ⟨aa, ca, rfl, _, _⟩ := Dat.Strs.parts ha4; replace HB := Lib.hid (HB.out.th hB4); replace HM := Lib.hid (HM.out.below hB4); have HA := Lib.hid ha4; clear ha4)
    | (go_at_call 20; (with_reducible refine Calls.mono (HCE.out _ _ HB.out.chk) ?_); rintro e x5 ⟨vb, rfl, hb5, hB5⟩; obtain ⟨ab, cb, rfl, _, _⟩ := Cps.Strs.parts hb5; replace HB := Lib.hid (HB.out.th hB5); replace HM := Lib.hid (HM.out.below hB5); replace HA := Lib.hid (HA.out.below hB5); have HE := Lib.hid hb5; clear hb5; obtain ⟨q0, q1, q2, q3⟩ := HB.out.cells)
    | (go_at_call 9; (with_reducible refine Calls.mono (HRE.out _ _ _ HB.out.num.1 HB.out.num.2) ?_); rintro e x6 ⟨rfl, hB6⟩; replace HB := Lib.hid (HB.out.th hB6); replace HM := Lib.hid (HM.out.below hB6); replace HA := Lib.hid (HA.out.below hB6); replace HE := Lib.hid (HE.out.below hB6))
    | (go_at_call 21; (with_reducible refine Calls.mono (HTA.out _ _ HA.out) ?_); rintro e y1 ⟨vx, rfl, hx1, hC1⟩; obtain ⟨ax, cx, rfl, _, _⟩ := Cps.Strs.parts hx1; replace HB := Lib.hid (HB.out.th hC1); replace HM := Lib.hid (HM.out.below hC1); replace HA := Lib.hid (HA.out.below hC1); replace HE := Lib.hid (HE.out.below hC1); have HX := Lib.hid hx1; clear hx1)
    | (go_at_call 22; (with_reducible refine Calls.mono (HDD.out _ _ HX.out) ?_); rintro e y2 ⟨vy, rfl, hy2, hC2⟩; obtain ⟨ay, cy, rfl, _, _⟩ := hy2.parts; replace HB := Lib.hid (HB.out.th hC2); replace HM := Lib.hid (HM.out.below hC2); replace HA := Lib.hid (HA.out.below hC2); replace HE := Lib.hid (HE.out.below hC2); have HY := Lib.hid hy2; clear hy2)
    | (go_at_call 23; (with_reducible refine Calls.mono (HDS.out _ _ _ HY.out HM.out) ?_); rintro e y3 ⟨rfl, hC3⟩; replace HB := Lib.hid (HB.out.th hC3); replace HM := Lib.hid (HM.out.below hC3); replace HA := Lib.hid (HA.out.below hC3); replace HE := Lib.hid (HE.out.below hC3)))
  go_ret
  exact ⟨rfl, HB.out.bel⟩

theorem tables_011 (R : Root.Q) (d c : Value) (w : World) (a1 : Option Addr) (n1 cap1 K1 : Nat) (a2 : Option Addr) (n2 cap2 K2 : Nat) (L : List Dat.T) (C : List Cps.C) (hL : Dat.Trs w (.slice a1 K1 cap1) L) (hC : Cps.Chs w (.slice a2 K2 cap2) C) (h : Root.Nums w d R.dats ∧ Root.Nums w c R.cps) (ho : Root.QOk R) (hCL : C.length ≤ 100)
    (l11 : K1 ≤ n1) (l13 : n1 ≤ cap1) (l14 : cap1 ≤ 9223372036854775807) (m1 : min (n1 : Int) 1000 = (K1 : Int))
    (l21 : K2 ≤ n2) (l23 : n2 ≤ cap2) (l24 : cap2 ≤ 9223372036854775807) (m2 : min (n2 : Int) 100 = (K2 : Int))
    (hl : ¬ Dat.RightP L) (hc : Cps.RightP C) (hr : Root.RightP R) :
    Calls Try.prog 7 #[.slice a1 n1 cap1, .slice a2 n2 cap2, R.val d c] w (Dat.Ans w (.bool true)) := by
  obtain ⟨a3, cap3, rfl, _, _⟩ := h.1.parts
  obtain ⟨a4, cap4, rfl, _, _⟩ := h.2.parts
  have hSW := fun v vn W (h1 : Dat.Trs W v L) (h2 : Cps.Nums W vn (Cps.numV C)) => Dat.sweep_any v vn L (Cps.numV C) W h1 h2
  unfold Dat.SwpPost at hSW
  rw [show Dat.swpE L = 80 from if_neg hl] at hSW
  obtain ⟨M, hM⟩ : ∃ M, Dat.swpV L (Cps.numV C) = M := ⟨_, rfl⟩
  obtain ⟨sn, hsn⟩ : ∃ n, Dat.swpN L (Cps.numV C) = n := ⟨_, rfl⟩
  simp only [hM, hsn] at hSW
  have hDE := fun v W (h1 : Dat.Trs W v M) => Dat.encode_any v M W h1
  unfold Dat.EncPost at hDE
  obtain ⟨eM, heM⟩ : ∃ e, Dat.encE M = e := ⟨_, rfl⟩
  obtain ⟨VM, hVM⟩ : ∃ V, Dat.encV M = V := ⟨_, rfl⟩
  simp only [hVM, heM] at hDE
  have hCE := fun v W (h1 : Cps.Chs W v C) => Cps.encode_any v C W h1
  unfold Cps.EncPost at hCE
  rw [show Cps.encE C = 0 from if_pos hc] at hCE
  have hTB := fun v W (h1 : Strs W v (Cps.encV C)) => through_any v (Cps.encV C) W h1 (Cps.enc_sizes hc) (by rw [Cps.enc_length hc]; have := hc.1; unfold Cps.nBl; omega)
  have hCD := fun v W (h1 : Strs W v (Cps.encV C)) => Cps.decode_any v (Cps.encV C) W h1
  have hCS := fun v u W (h1 : Cps.Chs W v C) (h2 : Cps.Chs W u C) => Cps.same_any v u C C W h1 h2
  have hdy := Cps.dec_yes (T := Cps.encV C) (L := C) ⟨hc, rfl⟩
  unfold ThrPost at hTB
  unfold Cps.DecPost at hCD
  rw [hdy.1, hdy.2] at hCD
  rw [decide_eq_true (rfl : C = C)] at hCS
  unfold Cps.Ans at hCS
  obtain ⟨VC, hVC⟩ : ∃ V, Cps.encV C = V := ⟨_, rfl⟩
  simp only [hVC] at hCE hTB hCD
  have hRE := fun d c W (h1 : Root.Nums W d R.dats) (h2 : Root.Nums W c R.cps) => Root.encode_any R d c W h1 h2 ho
  rw [Root.encS_yes hr, Root.encE_yes hr] at hRE
  have hsz := Root.rotB_size hr.1
  have hRD := fun W => Root.decode_any (Root.rotB R) W (by omega)
  have hdr := Root.dec_rot hr
  unfold Root.DecPost at hRD
  rw [hdr.2, Root.decE_yes hdr.1] at hRD
  obtain ⟨E, hE⟩ : ∃ E, Root.rotB R = E := ⟨_, rfl⟩
  rw [hE] at hRE hRD hsz
  have hTS := fun v W (h1 : Strs W v [E]) => through_any v [E] W h1 (fun b hb => by rw [List.mem_singleton] at hb; rw [hb]; exact hsz) (by simp)
  have hRS := fun d c e f W h1 h2 h3 h4 => Root.same_any R R d c e f W h1 h2 h3 h4
  unfold ThrPost at hTS
  rw [decide_eq_true (rfl : R = R)] at hRS
  unfold Root.Q.val Root.Ans at hRE hRS
  unfold Root.Q.val at hRD
  have HSW := Lib.hid hSW
  have HDE := Lib.hid hDE
  have HCE := Lib.hid hCE
  have HRE := Lib.hid hRE
  have HTB := Lib.hid hTB
  have HCD := Lib.hid hCD
  have HCS := Lib.hid hCS
  have HTS := Lib.hid hTS
  have HRD := Lib.hid hRD
  have HRS := Lib.hid hRS
  have HCL := Lib.hid hCL
  have hB0 := below_newW w (Root.boxQ R (.slice a3 R.dats.length cap3) (.slice a4 R.cps.length cap4))
  have hbase : Base w w.heap.size R (.slice a3 R.dats.length cap3) (.slice a4 R.cps.length cap4) (.slice a1 K1 cap1) (.slice a2 K2 cap2) L C (w.alloc (Root.boxQ R (.slice a3 R.dats.length cap3) (.slice a4 R.cps.length cap4))) := ⟨⟨h.1.below hB0, h.2.below hB0⟩, Root.QAt.new w _ _ _, hL.below hB0, hC.below hB0, hB0⟩
  unfold Root.boxQ at hbase
  obtain ⟨q, hqq⟩ : ∃ q, w.heap.size = q := ⟨_, rfl⟩
  obtain ⟨WB, hWB⟩ : ∃ WB, w.alloc (.cells #[.int .u64 (R.cp : Int), .int .u64 (R.tick : Int), .slice a3 R.dats.length cap3, .slice a4 R.cps.length cap4] 25) = WB := ⟨_, rfl⟩
  rw [hqq, hWB] at hbase
  have HB := Lib.hid hbase
  have b1 : (K1 : Int) ≤ (cap1 : Int) := by omega
  have b2 : (K2 : Int) ≤ (cap2 : Int) := by omega
  have b3 : 0 ≤ (K1 : Int) := by omega
  have b4 : 0 ≤ (K2 : Int) := by omega
  unfold Root.Q.val Dat.Ans
  clear hSW hDE hCE hRE hTB hCD hCS hdy hTS hRD hRS hdr hsz hE hM hsn heM hVM hVC hL hC h hCL hl hc hr hB0 hbase l11 l13 l14 l21 l23 l24
  go_enter Try.func7, Try.ntmps7
  go_wp2_with (first
    | (go_at_call 16; (with_reducible refine Calls.mono (tabs_any _) ?_); rintro e x1 ⟨rfl, hB1⟩; replace HB := Lib.hid (HB.out.th hB1))
    | (go_at_call 18; (with_reducible refine Calls.mono (Cps.numbers_any _ _ _ HB.out.chk (by have := HCL.out; omega)) ?_); rintro e x2 ⟨vn, rfl, hn2, hB2⟩; obtain ⟨an, cn, rfl, _⟩ := Lies.parts hn2; replace HB := Lib.hid (HB.out.th hB2); have HN := Lib.hid hn2; clear hn2)
    | (go_at_call 17; (with_reducible refine Calls.mono (HSW.out _ _ _ HB.out.tab HN.out) ?_); rintro e x3 ⟨vm, rfl, hm3, hB3⟩; obtain ⟨am, cm, rfl, _, _⟩ := hm3.parts; replace HB := Lib.hid (HB.out.th hB3); have HM := Lib.hid hm3; clear hm3)
    | (go_at_call 19; (with_reducible refine Calls.mono (HDE.out _ _ HM.out) ?_); rintro e x4 ⟨va, rfl, ha4, hB4⟩; obtain ⟨aa, ca, rfl, _, _⟩ := Dat.Strs.parts ha4; replace HB := Lib.hid (HB.out.th hB4); replace HM := Lib.hid (HM.out.below hB4); have HA := Lib.hid ha4; clear ha4)
    | (go_at_call 20; (with_reducible refine Calls.mono (HCE.out _ _ HB.out.chk) ?_); rintro e x5 ⟨vb, rfl, hb5, hB5⟩; obtain ⟨ab, cb, rfl, _, _⟩ := Cps.Strs.parts hb5; replace HB := Lib.hid (HB.out.th hB5); replace HM := Lib.hid (HM.out.below hB5); replace HA := Lib.hid (HA.out.below hB5); have HE := Lib.hid hb5; clear hb5; obtain ⟨q0, q1, q2, q3⟩ := HB.out.cells)
    | (go_at_call 9; (with_reducible refine Calls.mono (HRE.out _ _ _ HB.out.num.1 HB.out.num.2) ?_); rintro e x6 ⟨rfl, hB6⟩; replace HB := Lib.hid (HB.out.th hB6); replace HM := Lib.hid (HM.out.below hB6); replace HA := Lib.hid (HA.out.below hB6); replace HE := Lib.hid (HE.out.below hB6))
    | (go_at_call 21; (with_reducible refine Calls.mono (HTB.out _ _ HE.out) ?_); rintro e z1 ⟨vz, rfl, hz1, hD1⟩; obtain ⟨az, cz, rfl, _, _⟩ := Cps.Strs.parts hz1; replace HB := Lib.hid (HB.out.th hD1); replace HM := Lib.hid (HM.out.below hD1); replace HA := Lib.hid (HA.out.below hD1); replace HE := Lib.hid (HE.out.below hD1); have HZ := Lib.hid hz1; clear hz1)
    | (go_at_call 24; (with_reducible refine Calls.mono (HCD.out _ _ HZ.out) ?_); rintro e z2 ⟨vt, rfl, ht2, hD2⟩; obtain ⟨at2, ct, rfl, _, _⟩ := ht2.parts; replace HB := Lib.hid (HB.out.th hD2); replace HM := Lib.hid (HM.out.below hD2); replace HA := Lib.hid (HA.out.below hD2); replace HE := Lib.hid (HE.out.below hD2); have HT := Lib.hid ht2; clear ht2)
    | (go_at_call 25; (with_reducible refine Calls.mono (HCS.out _ _ _ HT.out HB.out.chk) ?_); rintro e z3 ⟨rfl, hD3⟩; replace HB := Lib.hid (HB.out.th hD3); replace HM := Lib.hid (HM.out.below hD3); replace HA := Lib.hid (HA.out.below hD3); replace HE := Lib.hid (HE.out.below hD3))
    | (go_at_call 21; (with_reducible refine Calls.mono (HTS.out _ _ (strs_one (World.alloc_heap_new _ _))) ?_); rintro e s1 ⟨vs, rfl, hs1, hE1⟩; obtain ⟨aS, cS, es, hs2, _⟩ := Cps.Strs.parts hs1; obtain rfl : vs = .slice aS 1 cS := es; obtain ⟨bs, os, rfl, k0⟩ := Cps.Strs.get hs1 (k := 0) (by simp); replace HB := Lib.hid ((HB.out.th (below_newW _ _)).th hE1); have k1 : s1.cell? ⟨bs, os, none⟩ = some (.string E) := k0; clear hs1)
    | (go_at_call 11; (with_reducible refine Calls.mono (HRD.out _) ?_); rintro e s2 ⟨ve, vf, rfl, he2, hf2, hE2⟩; obtain ⟨ae, ce, rfl, _, _⟩ := he2.parts; obtain ⟨af, cf, rfl, _, _⟩ := hf2.parts; replace HB := Lib.hid (HB.out.th hE2); have HBN := Lib.hid (HB.out.th (below_newW s2 (Root.boxQ R (.slice ae R.dats.length ce) (.slice af R.cps.length cf)))); have HEN := Lib.hid (he2.below (below_newW s2 (Root.boxQ R (.slice ae R.dats.length ce) (.slice af R.cps.length cf)))); have HFN := Lib.hid (hf2.below (below_newW s2 (Root.boxQ R (.slice ae R.dats.length ce) (.slice af R.cps.length cf)))); unfold Root.boxQ at HBN HEN HFN; obtain ⟨t0, t1, t2, t3⟩ := HBN.out.cells; clear he2 hf2)
    | (go_at_call 15; (with_reducible refine Calls.mono (HRS.out _ _ _ _ _ HEN.out HFN.out HBN.out.num.1 HBN.out.num.2) ?_); rintro e s3 ⟨rfl, hE3⟩; replace HBN := Lib.hid (HBN.out.th hE3)))
  go_ret
  exact ⟨rfl, HBN.out.bel⟩

theorem tables_010 (R : Root.Q) (d c : Value) (w : World) (a1 : Option Addr) (n1 cap1 K1 : Nat) (a2 : Option Addr) (n2 cap2 K2 : Nat) (L : List Dat.T) (C : List Cps.C) (hL : Dat.Trs w (.slice a1 K1 cap1) L) (hC : Cps.Chs w (.slice a2 K2 cap2) C) (h : Root.Nums w d R.dats ∧ Root.Nums w c R.cps) (ho : Root.QOk R) (hCL : C.length ≤ 100)
    (l11 : K1 ≤ n1) (l13 : n1 ≤ cap1) (l14 : cap1 ≤ 9223372036854775807) (m1 : min (n1 : Int) 1000 = (K1 : Int))
    (l21 : K2 ≤ n2) (l23 : n2 ≤ cap2) (l24 : cap2 ≤ 9223372036854775807) (m2 : min (n2 : Int) 100 = (K2 : Int))
    (hl : ¬ Dat.RightP L) (hc : Cps.RightP C) (hr : ¬ Root.RightP R) :
    Calls Try.prog 7 #[.slice a1 n1 cap1, .slice a2 n2 cap2, R.val d c] w (Dat.Ans w (.bool true)) := by
  obtain ⟨a3, cap3, rfl, _, _⟩ := h.1.parts
  obtain ⟨a4, cap4, rfl, _, _⟩ := h.2.parts
  have hSW := fun v vn W (h1 : Dat.Trs W v L) (h2 : Cps.Nums W vn (Cps.numV C)) => Dat.sweep_any v vn L (Cps.numV C) W h1 h2
  unfold Dat.SwpPost at hSW
  rw [show Dat.swpE L = 80 from if_neg hl] at hSW
  obtain ⟨M, hM⟩ : ∃ M, Dat.swpV L (Cps.numV C) = M := ⟨_, rfl⟩
  obtain ⟨sn, hsn⟩ : ∃ n, Dat.swpN L (Cps.numV C) = n := ⟨_, rfl⟩
  simp only [hM, hsn] at hSW
  have hDE := fun v W (h1 : Dat.Trs W v M) => Dat.encode_any v M W h1
  unfold Dat.EncPost at hDE
  obtain ⟨eM, heM⟩ : ∃ e, Dat.encE M = e := ⟨_, rfl⟩
  obtain ⟨VM, hVM⟩ : ∃ V, Dat.encV M = V := ⟨_, rfl⟩
  simp only [hVM, heM] at hDE
  have hCE := fun v W (h1 : Cps.Chs W v C) => Cps.encode_any v C W h1
  unfold Cps.EncPost at hCE
  rw [show Cps.encE C = 0 from if_pos hc] at hCE
  have hTB := fun v W (h1 : Strs W v (Cps.encV C)) => through_any v (Cps.encV C) W h1 (Cps.enc_sizes hc) (by rw [Cps.enc_length hc]; have := hc.1; unfold Cps.nBl; omega)
  have hCD := fun v W (h1 : Strs W v (Cps.encV C)) => Cps.decode_any v (Cps.encV C) W h1
  have hCS := fun v u W (h1 : Cps.Chs W v C) (h2 : Cps.Chs W u C) => Cps.same_any v u C C W h1 h2
  have hdy := Cps.dec_yes (T := Cps.encV C) (L := C) ⟨hc, rfl⟩
  unfold ThrPost at hTB
  unfold Cps.DecPost at hCD
  rw [hdy.1, hdy.2] at hCD
  rw [decide_eq_true (rfl : C = C)] at hCS
  unfold Cps.Ans at hCS
  obtain ⟨VC, hVC⟩ : ∃ V, Cps.encV C = V := ⟨_, rfl⟩
  simp only [hVC] at hCE hTB hCD
  have hRE := fun d c W (h1 : Root.Nums W d R.dats) (h2 : Root.Nums W c R.cps) => Root.encode_any R d c W h1 h2 ho
  rw [Root.encS_no hr, Root.encE_no hr] at hRE
  unfold Root.Q.val Root.Ans at hRE
  have HSW := Lib.hid hSW
  have HDE := Lib.hid hDE
  have HCE := Lib.hid hCE
  have HRE := Lib.hid hRE
  have HTB := Lib.hid hTB
  have HCD := Lib.hid hCD
  have HCS := Lib.hid hCS
  have HCL := Lib.hid hCL
  have hB0 := below_newW w (Root.boxQ R (.slice a3 R.dats.length cap3) (.slice a4 R.cps.length cap4))
  have hbase : Base w w.heap.size R (.slice a3 R.dats.length cap3) (.slice a4 R.cps.length cap4) (.slice a1 K1 cap1) (.slice a2 K2 cap2) L C (w.alloc (Root.boxQ R (.slice a3 R.dats.length cap3) (.slice a4 R.cps.length cap4))) := ⟨⟨h.1.below hB0, h.2.below hB0⟩, Root.QAt.new w _ _ _, hL.below hB0, hC.below hB0, hB0⟩
  unfold Root.boxQ at hbase
  obtain ⟨q, hqq⟩ : ∃ q, w.heap.size = q := ⟨_, rfl⟩
  obtain ⟨WB, hWB⟩ : ∃ WB, w.alloc (.cells #[.int .u64 (R.cp : Int), .int .u64 (R.tick : Int), .slice a3 R.dats.length cap3, .slice a4 R.cps.length cap4] 25) = WB := ⟨_, rfl⟩
  rw [hqq, hWB] at hbase
  have HB := Lib.hid hbase
  have b1 : (K1 : Int) ≤ (cap1 : Int) := by omega
  have b2 : (K2 : Int) ≤ (cap2 : Int) := by omega
  have b3 : 0 ≤ (K1 : Int) := by omega
  have b4 : 0 ≤ (K2 : Int) := by omega
  unfold Root.Q.val Dat.Ans
  clear hSW hDE hCE hRE hTB hCD hCS hdy hM hsn heM hVM hVC hL hC h hCL hl hc hr hB0 hbase l11 l13 l14 l21 l23 l24
  go_enter Try.func7, Try.ntmps7
  go_wp2_with (first
    | (go_at_call 16; (with_reducible refine Calls.mono (tabs_any _) ?_); rintro e x1 ⟨rfl, hB1⟩; replace HB := Lib.hid (HB.out.th hB1))
    | (go_at_call 18; (with_reducible refine Calls.mono (Cps.numbers_any _ _ _ HB.out.chk (by have := HCL.out; omega)) ?_); rintro e x2 ⟨vn, rfl, hn2, hB2⟩; obtain ⟨an, cn, rfl, _⟩ := Lies.parts hn2; replace HB := Lib.hid (HB.out.th hB2); have HN := Lib.hid hn2; clear hn2)
    | (go_at_call 17; (with_reducible refine Calls.mono (HSW.out _ _ _ HB.out.tab HN.out) ?_); rintro e x3 ⟨vm, rfl, hm3, hB3⟩; obtain ⟨am, cm, rfl, _, _⟩ := hm3.parts; replace HB := Lib.hid (HB.out.th hB3); have HM := Lib.hid hm3; clear hm3)
    | (go_at_call 19; (with_reducible refine Calls.mono (HDE.out _ _ HM.out) ?_); rintro e x4 ⟨va, rfl, ha4, hB4⟩; obtain ⟨aa, ca, rfl, _, _⟩ := Dat.Strs.parts ha4; replace HB := Lib.hid (HB.out.th hB4); replace HM := Lib.hid (HM.out.below hB4); have HA := Lib.hid ha4; clear ha4)
    | (go_at_call 20; (with_reducible refine Calls.mono (HCE.out _ _ HB.out.chk) ?_); rintro e x5 ⟨vb, rfl, hb5, hB5⟩; obtain ⟨ab, cb, rfl, _, _⟩ := Cps.Strs.parts hb5; replace HB := Lib.hid (HB.out.th hB5); replace HM := Lib.hid (HM.out.below hB5); replace HA := Lib.hid (HA.out.below hB5); have HE := Lib.hid hb5; clear hb5; obtain ⟨q0, q1, q2, q3⟩ := HB.out.cells)
    | (go_at_call 9; (with_reducible refine Calls.mono (HRE.out _ _ _ HB.out.num.1 HB.out.num.2) ?_); rintro e x6 ⟨rfl, hB6⟩; replace HB := Lib.hid (HB.out.th hB6); replace HM := Lib.hid (HM.out.below hB6); replace HA := Lib.hid (HA.out.below hB6); replace HE := Lib.hid (HE.out.below hB6))
    | (go_at_call 21; (with_reducible refine Calls.mono (HTB.out _ _ HE.out) ?_); rintro e z1 ⟨vz, rfl, hz1, hD1⟩; obtain ⟨az, cz, rfl, _, _⟩ := Cps.Strs.parts hz1; replace HB := Lib.hid (HB.out.th hD1); replace HM := Lib.hid (HM.out.below hD1); replace HA := Lib.hid (HA.out.below hD1); replace HE := Lib.hid (HE.out.below hD1); have HZ := Lib.hid hz1; clear hz1)
    | (go_at_call 24; (with_reducible refine Calls.mono (HCD.out _ _ HZ.out) ?_); rintro e z2 ⟨vt, rfl, ht2, hD2⟩; obtain ⟨at2, ct, rfl, _, _⟩ := ht2.parts; replace HB := Lib.hid (HB.out.th hD2); replace HM := Lib.hid (HM.out.below hD2); replace HA := Lib.hid (HA.out.below hD2); replace HE := Lib.hid (HE.out.below hD2); have HT := Lib.hid ht2; clear ht2)
    | (go_at_call 25; (with_reducible refine Calls.mono (HCS.out _ _ _ HT.out HB.out.chk) ?_); rintro e z3 ⟨rfl, hD3⟩; replace HB := Lib.hid (HB.out.th hD3); replace HM := Lib.hid (HM.out.below hD3); replace HA := Lib.hid (HA.out.below hD3); replace HE := Lib.hid (HE.out.below hD3)))
  go_ret
  exact ⟨rfl, HB.out.bel⟩

theorem tables_001 (R : Root.Q) (d c : Value) (w : World) (a1 : Option Addr) (n1 cap1 K1 : Nat) (a2 : Option Addr) (n2 cap2 K2 : Nat) (L : List Dat.T) (C : List Cps.C) (hL : Dat.Trs w (.slice a1 K1 cap1) L) (hC : Cps.Chs w (.slice a2 K2 cap2) C) (h : Root.Nums w d R.dats ∧ Root.Nums w c R.cps) (ho : Root.QOk R) (hCL : C.length ≤ 100)
    (l11 : K1 ≤ n1) (l13 : n1 ≤ cap1) (l14 : cap1 ≤ 9223372036854775807) (m1 : min (n1 : Int) 1000 = (K1 : Int))
    (l21 : K2 ≤ n2) (l23 : n2 ≤ cap2) (l24 : cap2 ≤ 9223372036854775807) (m2 : min (n2 : Int) 100 = (K2 : Int))
    (hl : ¬ Dat.RightP L) (hc : ¬ Cps.RightP C) (hr : Root.RightP R) :
    Calls Try.prog 7 #[.slice a1 n1 cap1, .slice a2 n2 cap2, R.val d c] w (Dat.Ans w (.bool true)) := by
  obtain ⟨a3, cap3, rfl, _, _⟩ := h.1.parts
  obtain ⟨a4, cap4, rfl, _, _⟩ := h.2.parts
  have hSW := fun v vn W (h1 : Dat.Trs W v L) (h2 : Cps.Nums W vn (Cps.numV C)) => Dat.sweep_any v vn L (Cps.numV C) W h1 h2
  unfold Dat.SwpPost at hSW
  rw [show Dat.swpE L = 80 from if_neg hl] at hSW
  obtain ⟨M, hM⟩ : ∃ M, Dat.swpV L (Cps.numV C) = M := ⟨_, rfl⟩
  obtain ⟨sn, hsn⟩ : ∃ n, Dat.swpN L (Cps.numV C) = n := ⟨_, rfl⟩
  simp only [hM, hsn] at hSW
  have hDE := fun v W (h1 : Dat.Trs W v M) => Dat.encode_any v M W h1
  unfold Dat.EncPost at hDE
  obtain ⟨eM, heM⟩ : ∃ e, Dat.encE M = e := ⟨_, rfl⟩
  obtain ⟨VM, hVM⟩ : ∃ V, Dat.encV M = V := ⟨_, rfl⟩
  simp only [hVM, heM] at hDE
  have hCE := fun v W (h1 : Cps.Chs W v C) => Cps.encode_any v C W h1
  unfold Cps.EncPost at hCE
  rw [show Cps.encE C = 90 from if_neg hc] at hCE
  obtain ⟨VC, hVC⟩ : ∃ V, Cps.encV C = V := ⟨_, rfl⟩
  simp only [hVC] at hCE
  have hRE := fun d c W (h1 : Root.Nums W d R.dats) (h2 : Root.Nums W c R.cps) => Root.encode_any R d c W h1 h2 ho
  rw [Root.encS_yes hr, Root.encE_yes hr] at hRE
  have hsz := Root.rotB_size hr.1
  have hRD := fun W => Root.decode_any (Root.rotB R) W (by omega)
  have hdr := Root.dec_rot hr
  unfold Root.DecPost at hRD
  rw [hdr.2, Root.decE_yes hdr.1] at hRD
  obtain ⟨E, hE⟩ : ∃ E, Root.rotB R = E := ⟨_, rfl⟩
  rw [hE] at hRE hRD hsz
  have hTS := fun v W (h1 : Strs W v [E]) => through_any v [E] W h1 (fun b hb => by rw [List.mem_singleton] at hb; rw [hb]; exact hsz) (by simp)
  have hRS := fun d c e f W h1 h2 h3 h4 => Root.same_any R R d c e f W h1 h2 h3 h4
  unfold ThrPost at hTS
  rw [decide_eq_true (rfl : R = R)] at hRS
  unfold Root.Q.val Root.Ans at hRE hRS
  unfold Root.Q.val at hRD
  have HSW := Lib.hid hSW
  have HDE := Lib.hid hDE
  have HCE := Lib.hid hCE
  have HRE := Lib.hid hRE
  have HTS := Lib.hid hTS
  have HRD := Lib.hid hRD
  have HRS := Lib.hid hRS
  have HCL := Lib.hid hCL
  have hB0 := below_newW w (Root.boxQ R (.slice a3 R.dats.length cap3) (.slice a4 R.cps.length cap4))
  have hbase : Base w w.heap.size R (.slice a3 R.dats.length cap3) (.slice a4 R.cps.length cap4) (.slice a1 K1 cap1) (.slice a2 K2 cap2) L C (w.alloc (Root.boxQ R (.slice a3 R.dats.length cap3) (.slice a4 R.cps.length cap4))) := ⟨⟨h.1.below hB0, h.2.below hB0⟩, Root.QAt.new w _ _ _, hL.below hB0, hC.below hB0, hB0⟩
  unfold Root.boxQ at hbase
  obtain ⟨q, hqq⟩ : ∃ q, w.heap.size = q := ⟨_, rfl⟩
  obtain ⟨WB, hWB⟩ : ∃ WB, w.alloc (.cells #[.int .u64 (R.cp : Int), .int .u64 (R.tick : Int), .slice a3 R.dats.length cap3, .slice a4 R.cps.length cap4] 25) = WB := ⟨_, rfl⟩
  rw [hqq, hWB] at hbase
  have HB := Lib.hid hbase
  have b1 : (K1 : Int) ≤ (cap1 : Int) := by omega
  have b2 : (K2 : Int) ≤ (cap2 : Int) := by omega
  have b3 : 0 ≤ (K1 : Int) := by omega
  have b4 : 0 ≤ (K2 : Int) := by omega
  unfold Root.Q.val Dat.Ans
  clear hSW hDE hCE hRE hTS hRD hRS hdr hsz hE hM hsn heM hVM hVC hL hC h hCL hl hc hr hB0 hbase l11 l13 l14 l21 l23 l24
  go_enter Try.func7, Try.ntmps7
  go_wp2_with (first
    | (go_at_call 16; (with_reducible refine Calls.mono (tabs_any _) ?_); rintro e x1 ⟨rfl, hB1⟩; replace HB := Lib.hid (HB.out.th hB1))
    | (go_at_call 18; (with_reducible refine Calls.mono (Cps.numbers_any _ _ _ HB.out.chk (by have := HCL.out; omega)) ?_); rintro e x2 ⟨vn, rfl, hn2, hB2⟩; obtain ⟨an, cn, rfl, _⟩ := Lies.parts hn2; replace HB := Lib.hid (HB.out.th hB2); have HN := Lib.hid hn2; clear hn2)
    | (go_at_call 17; (with_reducible refine Calls.mono (HSW.out _ _ _ HB.out.tab HN.out) ?_); rintro e x3 ⟨vm, rfl, hm3, hB3⟩; obtain ⟨am, cm, rfl, _, _⟩ := hm3.parts; replace HB := Lib.hid (HB.out.th hB3); have HM := Lib.hid hm3; clear hm3)
    | (go_at_call 19; (with_reducible refine Calls.mono (HDE.out _ _ HM.out) ?_); rintro e x4 ⟨va, rfl, ha4, hB4⟩; obtain ⟨aa, ca, rfl, _, _⟩ := Dat.Strs.parts ha4; replace HB := Lib.hid (HB.out.th hB4); replace HM := Lib.hid (HM.out.below hB4); have HA := Lib.hid ha4; clear ha4)
    | (go_at_call 20; (with_reducible refine Calls.mono (HCE.out _ _ HB.out.chk) ?_); rintro e x5 ⟨vb, rfl, hb5, hB5⟩; obtain ⟨ab, cb, rfl, _, _⟩ := Cps.Strs.parts hb5; replace HB := Lib.hid (HB.out.th hB5); replace HM := Lib.hid (HM.out.below hB5); replace HA := Lib.hid (HA.out.below hB5); have HE := Lib.hid hb5; clear hb5; obtain ⟨q0, q1, q2, q3⟩ := HB.out.cells)
    | (go_at_call 9; (with_reducible refine Calls.mono (HRE.out _ _ _ HB.out.num.1 HB.out.num.2) ?_); rintro e x6 ⟨rfl, hB6⟩; replace HB := Lib.hid (HB.out.th hB6); replace HM := Lib.hid (HM.out.below hB6); replace HA := Lib.hid (HA.out.below hB6); replace HE := Lib.hid (HE.out.below hB6))
    | (go_at_call 21; (with_reducible refine Calls.mono (HTS.out _ _ (strs_one (World.alloc_heap_new _ _))) ?_); rintro e s1 ⟨vs, rfl, hs1, hE1⟩; obtain ⟨aS, cS, es, hs2, _⟩ := Cps.Strs.parts hs1; obtain rfl : vs = .slice aS 1 cS := es; obtain ⟨bs, os, rfl, k0⟩ := Cps.Strs.get hs1 (k := 0) (by simp); replace HB := Lib.hid ((HB.out.th (below_newW _ _)).th hE1); have k1 : s1.cell? ⟨bs, os, none⟩ = some (.string E) := k0; clear hs1)
    | (go_at_call 11; (with_reducible refine Calls.mono (HRD.out _) ?_); rintro e s2 ⟨ve, vf, rfl, he2, hf2, hE2⟩; obtain ⟨ae, ce, rfl, _, _⟩ := he2.parts; obtain ⟨af, cf, rfl, _, _⟩ := hf2.parts; replace HB := Lib.hid (HB.out.th hE2); have HBN := Lib.hid (HB.out.th (below_newW s2 (Root.boxQ R (.slice ae R.dats.length ce) (.slice af R.cps.length cf)))); have HEN := Lib.hid (he2.below (below_newW s2 (Root.boxQ R (.slice ae R.dats.length ce) (.slice af R.cps.length cf)))); have HFN := Lib.hid (hf2.below (below_newW s2 (Root.boxQ R (.slice ae R.dats.length ce) (.slice af R.cps.length cf)))); unfold Root.boxQ at HBN HEN HFN; obtain ⟨t0, t1, t2, t3⟩ := HBN.out.cells; clear he2 hf2)
    | (go_at_call 15; (with_reducible refine Calls.mono (HRS.out _ _ _ _ _ HEN.out HFN.out HBN.out.num.1 HBN.out.num.2) ?_); rintro e s3 ⟨rfl, hE3⟩; replace HBN := Lib.hid (HBN.out.th hE3)))
  go_ret
  exact ⟨rfl, HBN.out.bel⟩

theorem tables_000 (R : Root.Q) (d c : Value) (w : World) (a1 : Option Addr) (n1 cap1 K1 : Nat) (a2 : Option Addr) (n2 cap2 K2 : Nat) (L : List Dat.T) (C : List Cps.C) (hL : Dat.Trs w (.slice a1 K1 cap1) L) (hC : Cps.Chs w (.slice a2 K2 cap2) C) (h : Root.Nums w d R.dats ∧ Root.Nums w c R.cps) (ho : Root.QOk R) (hCL : C.length ≤ 100)
    (l11 : K1 ≤ n1) (l13 : n1 ≤ cap1) (l14 : cap1 ≤ 9223372036854775807) (m1 : min (n1 : Int) 1000 = (K1 : Int))
    (l21 : K2 ≤ n2) (l23 : n2 ≤ cap2) (l24 : cap2 ≤ 9223372036854775807) (m2 : min (n2 : Int) 100 = (K2 : Int))
    (hl : ¬ Dat.RightP L) (hc : ¬ Cps.RightP C) (hr : ¬ Root.RightP R) :
    Calls Try.prog 7 #[.slice a1 n1 cap1, .slice a2 n2 cap2, R.val d c] w (Dat.Ans w (.bool true)) := by
  obtain ⟨a3, cap3, rfl, _, _⟩ := h.1.parts
  obtain ⟨a4, cap4, rfl, _, _⟩ := h.2.parts
  have hSW := fun v vn W (h1 : Dat.Trs W v L) (h2 : Cps.Nums W vn (Cps.numV C)) => Dat.sweep_any v vn L (Cps.numV C) W h1 h2
  unfold Dat.SwpPost at hSW
  rw [show Dat.swpE L = 80 from if_neg hl] at hSW
  obtain ⟨M, hM⟩ : ∃ M, Dat.swpV L (Cps.numV C) = M := ⟨_, rfl⟩
  obtain ⟨sn, hsn⟩ : ∃ n, Dat.swpN L (Cps.numV C) = n := ⟨_, rfl⟩
  simp only [hM, hsn] at hSW
  have hDE := fun v W (h1 : Dat.Trs W v M) => Dat.encode_any v M W h1
  unfold Dat.EncPost at hDE
  obtain ⟨eM, heM⟩ : ∃ e, Dat.encE M = e := ⟨_, rfl⟩
  obtain ⟨VM, hVM⟩ : ∃ V, Dat.encV M = V := ⟨_, rfl⟩
  simp only [hVM, heM] at hDE
  have hCE := fun v W (h1 : Cps.Chs W v C) => Cps.encode_any v C W h1
  unfold Cps.EncPost at hCE
  rw [show Cps.encE C = 90 from if_neg hc] at hCE
  obtain ⟨VC, hVC⟩ : ∃ V, Cps.encV C = V := ⟨_, rfl⟩
  simp only [hVC] at hCE
  have hRE := fun d c W (h1 : Root.Nums W d R.dats) (h2 : Root.Nums W c R.cps) => Root.encode_any R d c W h1 h2 ho
  rw [Root.encS_no hr, Root.encE_no hr] at hRE
  unfold Root.Q.val Root.Ans at hRE
  have HSW := Lib.hid hSW
  have HDE := Lib.hid hDE
  have HCE := Lib.hid hCE
  have HRE := Lib.hid hRE
  have HCL := Lib.hid hCL
  have hB0 := below_newW w (Root.boxQ R (.slice a3 R.dats.length cap3) (.slice a4 R.cps.length cap4))
  have hbase : Base w w.heap.size R (.slice a3 R.dats.length cap3) (.slice a4 R.cps.length cap4) (.slice a1 K1 cap1) (.slice a2 K2 cap2) L C (w.alloc (Root.boxQ R (.slice a3 R.dats.length cap3) (.slice a4 R.cps.length cap4))) := ⟨⟨h.1.below hB0, h.2.below hB0⟩, Root.QAt.new w _ _ _, hL.below hB0, hC.below hB0, hB0⟩
  unfold Root.boxQ at hbase
  obtain ⟨q, hqq⟩ : ∃ q, w.heap.size = q := ⟨_, rfl⟩
  obtain ⟨WB, hWB⟩ : ∃ WB, w.alloc (.cells #[.int .u64 (R.cp : Int), .int .u64 (R.tick : Int), .slice a3 R.dats.length cap3, .slice a4 R.cps.length cap4] 25) = WB := ⟨_, rfl⟩
  rw [hqq, hWB] at hbase
  have HB := Lib.hid hbase
  have b1 : (K1 : Int) ≤ (cap1 : Int) := by omega
  have b2 : (K2 : Int) ≤ (cap2 : Int) := by omega
  have b3 : 0 ≤ (K1 : Int) := by omega
  have b4 : 0 ≤ (K2 : Int) := by omega
  unfold Root.Q.val Dat.Ans
  clear hSW hDE hCE hRE hM hsn heM hVM hVC hL hC h hCL hl hc hr hB0 hbase l11 l13 l14 l21 l23 l24
  go_enter Try.func7, Try.ntmps7
  go_wp2_with (first
    | (go_at_call 16; (with_reducible refine Calls.mono (tabs_any _) ?_); rintro e x1 ⟨rfl, hB1⟩; replace HB := Lib.hid (HB.out.th hB1))
    | (go_at_call 18; (with_reducible refine Calls.mono (Cps.numbers_any _ _ _ HB.out.chk (by have := HCL.out; omega)) ?_); rintro e x2 ⟨vn, rfl, hn2, hB2⟩; obtain ⟨an, cn, rfl, _⟩ := Lies.parts hn2; replace HB := Lib.hid (HB.out.th hB2); have HN := Lib.hid hn2; clear hn2)
    | (go_at_call 17; (with_reducible refine Calls.mono (HSW.out _ _ _ HB.out.tab HN.out) ?_); rintro e x3 ⟨vm, rfl, hm3, hB3⟩; obtain ⟨am, cm, rfl, _, _⟩ := hm3.parts; replace HB := Lib.hid (HB.out.th hB3); have HM := Lib.hid hm3; clear hm3)
    | (go_at_call 19; (with_reducible refine Calls.mono (HDE.out _ _ HM.out) ?_); rintro e x4 ⟨va, rfl, ha4, hB4⟩; obtain ⟨aa, ca, rfl, _, _⟩ := Dat.Strs.parts ha4; replace HB := Lib.hid (HB.out.th hB4); replace HM := Lib.hid (HM.out.below hB4); have HA := Lib.hid ha4; clear ha4)
    | (go_at_call 20; (with_reducible refine Calls.mono (HCE.out _ _ HB.out.chk) ?_); rintro e x5 ⟨vb, rfl, hb5, hB5⟩; obtain ⟨ab, cb, rfl, _, _⟩ := Cps.Strs.parts hb5; replace HB := Lib.hid (HB.out.th hB5); replace HM := Lib.hid (HM.out.below hB5); replace HA := Lib.hid (HA.out.below hB5); have HE := Lib.hid hb5; clear hb5; obtain ⟨q0, q1, q2, q3⟩ := HB.out.cells)
    | (go_at_call 9; (with_reducible refine Calls.mono (HRE.out _ _ _ HB.out.num.1 HB.out.num.2) ?_); rintro e x6 ⟨rfl, hB6⟩; replace HB := Lib.hid (HB.out.th hB6); replace HM := Lib.hid (HM.out.below hB6); replace HA := Lib.hid (HA.out.below hB6); replace HE := Lib.hid (HE.out.below hB6)))
  go_ret
  exact ⟨rfl, HB.out.bel⟩

theorem TopTables_walk (v1 : Value) (L1 : List Dat.T) (v2 : Value) (L2 : List Cps.C) (R : Root.Q) (d c : Value) (w : World) (h1 : Dat.Trs w v1 L1) (_ : ∀ o ∈ L1, Dat.TOk o) (h2 : Cps.Chs w v2 L2) (_ : ∀ o ∈ L2, Cps.COk o) (h : Root.Nums w d R.dats ∧ Root.Nums w c R.cps) (ho : Root.QOk R) :
    Calls Try.prog 7 #[v1, v2, R.val d c] w (Dat.Ans w (.bool true)) := by
  obtain ⟨a1, n1, cap1, K1, rfl, hL, l11, l13, l14, m1⟩ := cut_trs h1
  obtain ⟨a2, n2, cap2, K2, rfl, hC, l21, l23, l24, m2⟩ := cut_chs h2
  have hCL : (L2.take 100).length ≤ 100 := by rw [List.length_take]; omega
  by_cases hl : Dat.RightP (L1.take 1000)
  · by_cases hc : Cps.RightP (L2.take 100)
    · by_cases hr : Root.RightP R
      · exact tables_111 R d c w a1 n1 cap1 K1 a2 n2 cap2 K2 _ _ hL hC h ho hCL l11 l13 l14 m1 l21 l23 l24 m2 hl hc hr
      · exact tables_110 R d c w a1 n1 cap1 K1 a2 n2 cap2 K2 _ _ hL hC h ho hCL l11 l13 l14 m1 l21 l23 l24 m2 hl hc hr
    · by_cases hr : Root.RightP R
      · exact tables_101 R d c w a1 n1 cap1 K1 a2 n2 cap2 K2 _ _ hL hC h ho hCL l11 l13 l14 m1 l21 l23 l24 m2 hl hc hr
      · exact tables_100 R d c w a1 n1 cap1 K1 a2 n2 cap2 K2 _ _ hL hC h ho hCL l11 l13 l14 m1 l21 l23 l24 m2 hl hc hr
  · by_cases hc : Cps.RightP (L2.take 100)
    · by_cases hr : Root.RightP R
      · exact tables_011 R d c w a1 n1 cap1 K1 a2 n2 cap2 K2 _ _ hL hC h ho hCL l11 l13 l14 m1 l21 l23 l24 m2 hl hc hr
      · exact tables_010 R d c w a1 n1 cap1 K1 a2 n2 cap2 K2 _ _ hL hC h ho hCL l11 l13 l14 m1 l21 l23 l24 m2 hl hc hr
    · by_cases hr : Root.RightP R
      · exact tables_001 R d c w a1 n1 cap1 K1 a2 n2 cap2 K2 _ _ hL hC h ho hCL l11 l13 l14 m1 l21 l23 l24 m2 hl hc hr
      · exact tables_000 R d c w a1 n1 cap1 K1 a2 n2 cap2 K2 _ _ hL hC h ho hCL l11 l13 l14 m1 l21 l23 l24 m2 hl hc hr

end
section
variable {H : Type} {enc : TypeId × Value → H} {w : World} {base fuel : Nat} {cs : List Value} {x : DataW H × List MemPlace}
open Go.ChangeShapes Go.WideShapes
set_option maxRecDepth 100000
theorem lies_trs (h : DataW.trod enc Try.prog w base (fun _ => true) true fuel 36 cs = some x) :
    ∃ (v : Value) (L : List Dat.T), cs = [v] ∧ Dat.Trs w v L ∧ (∀ o ∈ L, Dat.TOk o) := Dat.lies_trs h
theorem lies_chs (h : DataW.trod enc Try.prog w base (fun _ => true) true fuel 37 cs = some x) :
    ∃ (v : Value) (L : List Cps.C), cs = [v] ∧ Cps.Chs w v L ∧ (∀ o ∈ L, Cps.COk o) := Cps.lies_chs h
theorem root_arg {v : Value} {dd : DataW H} {pl : List MemPlace} {r : Reach} {b0 : Nat} (hv : Value.okWide Try.prog w r b0 25 v) (h : DataW.Trod enc Try.prog w base (fun _ => true) true 25 v dd pl) : ∃ (s : Root.Q) (d c : Value), v = s.val d c ∧ (Root.Nums w d s.dats ∧ Root.Nums w c s.cps) ∧ Root.QOk s := Root.root_arg hv h
end
end Go.Proofs.Ytdniakoedgohkaa.Tab
