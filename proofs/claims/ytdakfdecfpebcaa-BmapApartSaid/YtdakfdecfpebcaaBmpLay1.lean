/- The document's Lay, of the depth one. -/
import Derived.Test.YtdakfdecfpebcaaBmpLay0
namespace Go.Proofs.Ytdakfdecfpebcaa.Bmp
open Go.RowKit Ino
attribute [local go_sem] Oper.semAt_some
set_option linter.unusedVariables false
set_option linter.unusedSimpArgs false
/-- a slice built of one text -/
theorem Strs.one {W : World} {b : Nat} {x : ByteArray} {ty : TypeId} (h : W.heap[b]? = some (.cells #[.string x] ty (0, 0))) : Strs W (.slice (some ⟨b, 0, none⟩) 1 1) [x] := by
  refine ⟨some ⟨b, 0, none⟩, 1, rfl, Nat.le_refl _, ⟨by unfold maxLen; omega, fun e => by cases e⟩, rfl, fun _ => ⟨b, 0, rfl, fun j u hj => ?_⟩⟩
  have hl := (List.getElem?_eq_some_iff.1 hj).1
  match j, hj with
  | 0, hj =>
    cases hj
    simp only [World.cell?, h]
    rfl
  | j + 1, hj => exact absurd hl (by show ¬ j + 1 < 1; omega)
theorem set6_other (W : World) (b j : Nat) (u : Value) (h : j ≠ b) : ((((((W.setCell ⟨b, 0, none⟩ u).setCell ⟨b, 1, none⟩ (.int .u32 0)).setCell ⟨b, 2, none⟩ (.int .u32 0)).setCell ⟨b, 3, none⟩ (.int .u32 0)).setCell ⟨b, 4, none⟩ (.int .u32 0)).setCell ⟨b, 5, none⟩ (.int .u32 0)).heap[j]? = W.heap[j]? := by
  rw [Below.heap_setCell _ _ _ _ h, Below.heap_setCell _ _ _ _ h, Below.heap_setCell _ _ _ _ h, Below.heap_setCell _ _ _ _ h, Below.heap_setCell _ _ _ _ h, Below.heap_setCell _ _ _ _ h]
theorem set6_size (W : World) (b : Nat) (u : Value) : ((((((W.setCell ⟨b, 0, none⟩ u).setCell ⟨b, 1, none⟩ (.int .u32 0)).setCell ⟨b, 2, none⟩ (.int .u32 0)).setCell ⟨b, 3, none⟩ (.int .u32 0)).setCell ⟨b, 4, none⟩ (.int .u32 0)).setCell ⟨b, 5, none⟩ (.int .u32 0)).heap.size = W.heap.size := by simp only [World.size_setCell]
namespace R
section
set_option maxRecDepth 100000
set_option maxHeartbeats 4000000
theorem lay_one (s : Nat) (v1 v2 : Value) (V I : List Nat) (w : World) (h : s < 4294967296) (hV : U32s w v1 V) (hI : U32s w v2 I) (hok : layP s V I) (hsm : Small V) (hd : dpN s = 1) :
    Calls Try.prog 16 #[.int .u32 s, v1, v2] w (LayPost s V I w) := by
  have HY := Lib.hid (fun v w' (hv : Strs w' v (blocksOf s V I)) (hB : Below w.heap.size w w') => lay_yes (w := w) hok hv hB)
  obtain ⟨o1, o2, o3, o4⟩ := hok
  obtain ⟨a1, cv1, rfl, hca, hcb⟩ := hV.parts
  obtain ⟨a2, c2, rfl, hcc, hcd⟩ := hI.parts
  have hBl := Lib.hid (fun W => Ino.R.blocks_any s W h)
  have hDp := Lib.hid (fun W => Ino.R.depth_any s W h)
  have hC := Lib.hid (fun W => count_any s W h)
  have HZ : Hid (∀ k, k < I.length → ¬ I.getD k 0 = 0) := fun k hk => by
    rw [List.getD_eq_getElem?_getD, List.getElem?_eq_getElem hk]
    exact o4 _ (List.getElem_mem hk)
  have g1 : ¬ (8193532 : Int) < (s : Int) := by omega
  obtain ⟨W0, rfl⟩ : ∃ W0 : World, W0 = w := ⟨_, rfl⟩
  have HI := Lib.hid (fun W (hB : Below W0.heap.size W0 W) k (hk : k < I.length) => (hI.below hB).get (k := k) hk)
  have HV := Lib.hid (fun W (hB : Below W0.heap.size W0 W) k (hk : k < V.length) => (hV.below hB).get (k := k) hk)
  have hbo : blocksOf s V I = [blkB V] := by unfold blocksOf; rw [if_neg (by omega), if_pos hd]
  have hmo : mapOf s V I = ⟨I.getD 0 0, 0, 0, 0, 0, 0⟩ := by unfold mapOf; rw [if_neg (by omega)]
  have hn7 : V.length ≤ 127 := by rw [o2]; exact (dp_one hd).2
  have hni1 : I.length = 1 := by rw [o3, cnt_def o1, if_neg (by omega), hd]
  have HBK := Lib.hid (fun W (hB : Below W0.heap.size W0 W) => block_any _ V W (hV.below hB) hsm hn7)
  rw [hbo] at HY
  rw [hmo] at HY
  rw [hd] at hDp
  have HFIN := Lib.hid HY
  obtain ⟨R, hR⟩ : ∃ R, LayPost s V I W0 = R := ⟨_, rfl⟩
  rw [hR] at HFIN ⊢
  clear hV hI hR HY hbo hmo hd
  obtain ⟨ni, hni⟩ : ∃ ni, I.length = ni := ⟨_, rfl⟩
  rw [hni] at HI HZ o3 hcc hni1 ⊢
  rw [← o3] at hC
  rw [← o2] at hBl
  obtain ⟨b, hb⟩ : ∃ b, V.length = b := ⟨_, rfl⟩
  rw [hb] at HV HBK hBl hca hn7 ⊢
  have hlt0 : (0 : Int) < (ni : Int) := by omega
  have hlt1 : 0 < ni := by omega
  clear o1 o2 o3 o4 hni h hb hni1
  have g2 : ((b : Int) != (b : Int)) = false := by simp
  have g3 : ((ni : Int) != (ni : Int)) = false := by simp
  have hZ1 := (zM_new W0).th (below_new _ boxZM)
  have hZ2 := zM_new (W0.alloc boxZM)
  have HB := Lib.hid (below_al (below_new W0 boxZM) boxZM)
  rw [World.size_alloc] at hZ2
  obtain ⟨x0, x1, x2, x3, x4, x5⟩ := zM_c hZ1
  obtain ⟨y0, y1, y2, y3, y4, y5⟩ := zM_c hZ2
  unfold boxZM at x0 x1 x2 x3 x4 x5 y0 y1 y2 y3 y4 y5 HB
  clear hZ1 hZ2
  go_enter Try.func16, Try.ntmps16
  go_wp2_with (first
    | (go_at_call 24; (with_reducible refine Calls.mono (hBl.out _) ?_); rintro e w1 ⟨rfl, hw⟩; rw [← hw]; clear hw w1)
    | (go_at_call 13; (with_reducible refine Calls.mono (hC.out _) ?_); rintro e w1 ⟨rfl, hw⟩; rw [← hw]; clear hw w1))
  go_loop [10] (fun i => ∃ k : Nat, i = .int .i64 (k : Int) ∧ k ≤ ni) (fun i => ni - (intOf i).toNat)
  case atStart => exact ⟨0, rfl, by omega⟩
  case round =>
    obtain ⟨k, rfl, hk⟩ := hrel
    by_cases hlt : k < ni
    · obtain ⟨bb, off, e1, c1⟩ := HI.out _ HB.out k hlt
      subst e1
      have hx := HZ.out k hlt
      have q0 : (((I.getD k 0 : Nat) : Int) == 0) = false := beq_eq_false_iff_ne.2 (by omega)
      have q00 : (I.getD k 0 == 0) = false := beq_eq_false_iff_ne.2 hx
      clear hx
      generalize I.getD k 0 = x at c1 q0 q00
      go_wp2
      go_round
      case rel => exact ⟨k + 1, by go_num, by omega⟩
      case measure => simp [intOf]; omega
    · obtain rfl : k = ni := by omega
      have hA0 := (((zM_new W0).th (below_new _ boxZM)).th (below_new _ boxZM))
      have hA2 := zM_new ((W0.alloc boxZM).alloc boxZM)
      have hB2 := below_al (below_al (below_new W0 boxZM) boxZM) boxZM
      simp only [World.size_alloc] at hA2
      unfold boxZM at hA2 hB2 hA0
      have HA := Lib.hid (And.intro hA0 (And.intro hA2 hB2))
      clear hA0 hA2 hB2
      obtain ⟨bb, off, e1, c1⟩ := HI.out _ HA.out.2.2 0 hlt1
      subst e1
      rw [Nat.add_zero] at c1
      generalize I.getD 0 0 = x at c1 HFIN
      have hM := AtM.new ((W0.alloc boxZM).alloc boxZM) ⟨x, 0, 0, 0, 0, 0⟩
      have hR := ((zM_new W0).th (below_new _ boxZM)).th (below_new _ (boxM ⟨x, 0, 0, 0, 0, 0⟩))
      have hB4 := below_al (below_al (below_new W0 boxZM) boxZM) (boxM ⟨x, 0, 0, 0, 0, 0⟩)
      simp only [World.size_alloc] at hM
      unfold boxZM boxM at hM hR hB4
      dsimp only at hM hR hB4
      have HK := Lib.hid (And.intro hM (And.intro hR hB4))
      clear hM hR hB4
      go_wp2_with (go_at_call 25; (with_reducible refine Calls.mono (hDp.out _) ?_); rintro e w1 ⟨rfl, hw⟩; rw [← hw]; clear hw w1)
      obtain ⟨W4, hW4⟩ : ∃ W4, (((W0.alloc (.cells #[.int .u32 0, .int .u32 0, .int .u32 0, .int .u32 0, .int .u32 0, .int .u32 0] 32)).alloc (.cells #[.int .u32 0, .int .u32 0, .int .u32 0, .int .u32 0, .int .u32 0, .int .u32 0] 32)).alloc (.cells #[.int .u32 (x : Int), .int .u32 0, .int .u32 0, .int .u32 0, .int .u32 0, .int .u32 0] 32)) = W4 := ⟨_, rfl⟩
      have hM : AtM W4 (W0.heap.size + 1 + 1) ⟨x, 0, 0, 0, 0, 0⟩ := by rw [← hW4]; exact HK.out.1
      have hR : AtM W4 W0.heap.size M.zero := by rw [← hW4]; exact HK.out.2.1
      have hB4 : Below W0.heap.size W0 W4 := by rw [← hW4]; exact HK.out.2.2
      rw [hW4]
      have HFR : Hid (∀ w2, Below W4.heap.size W4 w2 → AtM w2 (W0.heap.size + 1 + 1) ⟨x, 0, 0, 0, 0, 0⟩ ∧ AtM w2 W0.heap.size M.zero) := fun w2 h => ⟨hM.th h, hR.th h⟩
      have HC : Hid (∀ w2, Below W4.heap.size W4 w2 → w2.cell? ⟨W0.heap.size + 1 + 1, 0, none⟩ = some (.int .u32 (x : Int)) ∧ w2.cell? ⟨W0.heap.size + 1 + 1, 1, none⟩ = some (.int .u32 0) ∧ w2.cell? ⟨W0.heap.size + 1 + 1, 2, none⟩ = some (.int .u32 0) ∧ w2.cell? ⟨W0.heap.size + 1 + 1, 3, none⟩ = some (.int .u32 0) ∧ w2.cell? ⟨W0.heap.size + 1 + 1, 4, none⟩ = some (.int .u32 0) ∧ w2.cell? ⟨W0.heap.size + 1 + 1, 5, none⟩ = some (.int .u32 0)) := fun w2 h => (hM.th h).c
      have HBK2 := Lib.hid (fun W (h : Below W4.heap.size W4 W) => HBK.out W (below_th hB4 h))
      have hself : Below W4.heap.size W4 W4.drew := (Below.refl _ _).drew
      obtain ⟨c0, c1', c2', c3, c4, c5⟩ := HC.out _ hself
      obtain ⟨BV, hBV⟩ : ∃ BV, blkB V = BV := ⟨_, rfl⟩
      rw [hBV] at HFIN
      simp only [hBV] at HBK2
      have HPUT : Hid (∀ w2, Below W4.heap.size W4 w2 → (AtM (((((((w2.alloc (.cells #[.string BV] 9)).setCell ⟨W0.heap.size, 0, none⟩ (.int .u32 (x : Int))).setCell ⟨W0.heap.size, 1, none⟩ (.int .u32 0)).setCell ⟨W0.heap.size, 2, none⟩ (.int .u32 0)).setCell ⟨W0.heap.size, 3, none⟩ (.int .u32 0)).setCell ⟨W0.heap.size, 4, none⟩ (.int .u32 0)).setCell ⟨W0.heap.size, 5, none⟩ (.int .u32 0)) W0.heap.size ⟨x, 0, 0, 0, 0, 0⟩ ∧ R (.returned (.tuple #[(⟨x, 0, 0, 0, 0, 0⟩ : M).val, .slice (some ⟨w2.heap.size, 0, none⟩) 1 1, .int .i64 0])) (((((((w2.alloc (.cells #[.string BV] 9)).setCell ⟨W0.heap.size, 0, none⟩ (.int .u32 (x : Int))).setCell ⟨W0.heap.size, 1, none⟩ (.int .u32 0)).setCell ⟨W0.heap.size, 2, none⟩ (.int .u32 0)).setCell ⟨W0.heap.size, 3, none⟩ (.int .u32 0)).setCell ⟨W0.heap.size, 4, none⟩ (.int .u32 0)).setCell ⟨W0.heap.size, 5, none⟩ (.int .u32 0))) ∧ (AtM (((((((w2.setCell ⟨W0.heap.size, 0, none⟩ (.int .u32 (x : Int))).setCell ⟨W0.heap.size, 1, none⟩ (.int .u32 0)).setCell ⟨W0.heap.size, 2, none⟩ (.int .u32 0)).setCell ⟨W0.heap.size, 3, none⟩ (.int .u32 0)).setCell ⟨W0.heap.size, 4, none⟩ (.int .u32 0)).setCell ⟨W0.heap.size, 5, none⟩ (.int .u32 0)).alloc (.cells #[.string BV] 9)) W0.heap.size ⟨x, 0, 0, 0, 0, 0⟩ ∧ R (.returned (.tuple #[(⟨x, 0, 0, 0, 0, 0⟩ : M).val, .slice (some ⟨w2.heap.size, 0, none⟩) 1 1, .int .i64 0])) (((((((w2.setCell ⟨W0.heap.size, 0, none⟩ (.int .u32 (x : Int))).setCell ⟨W0.heap.size, 1, none⟩ (.int .u32 0)).setCell ⟨W0.heap.size, 2, none⟩ (.int .u32 0)).setCell ⟨W0.heap.size, 3, none⟩ (.int .u32 0)).setCell ⟨W0.heap.size, 4, none⟩ (.int .u32 0)).setCell ⟨W0.heap.size, 5, none⟩ (.int .u32 0)).alloc (.cells #[.string BV] 9)))) := fun w2 h => by
        have hq : w2.heap.size ≠ W0.heap.size := by have := h.size; have := hM.lt; omega
        have h5 := below_al h (.cells #[.string BV] 9)
        obtain ⟨h1, h2⟩ := put6M (hR.th h5) (⟨x, 0, 0, 0, 0, 0⟩ : M)
        obtain ⟨h3, h4⟩ := put6M (hR.th h) (⟨x, 0, 0, 0, 0, 0⟩ : M)
        refine ⟨⟨h1, HFIN.out _ _ (Strs.one (ty := 9) ?_) ((below_th hB4 h5).trans h2)⟩, ⟨h3.th (below_new _ _), HFIN.out _ _ (Strs.one (ty := 9) ?_) (((below_th hB4 h).trans h4).alloc ?_ _)⟩⟩
        · exact (set6_other _ _ _ _ hq).trans (World.alloc_heap_new w2 _)
        · have := World.alloc_heap_new ((((((w2.setCell ⟨W0.heap.size, 0, none⟩ (.int .u32 (x : Int))).setCell ⟨W0.heap.size, 1, none⟩ (.int .u32 0)).setCell ⟨W0.heap.size, 2, none⟩ (.int .u32 0)).setCell ⟨W0.heap.size, 3, none⟩ (.int .u32 0)).setCell ⟨W0.heap.size, 4, none⟩ (.int .u32 0)).setCell ⟨W0.heap.size, 5, none⟩ (.int .u32 0)) (.cells #[.string BV] 9)
          rw [set6_size] at this
          exact this
        · have h6 := h4.size; have := h.size; have := hM.lt; omega
      clear hM hR hW4 hB4 hBV HBK HK HFIN
      refine wp_region_any (by kernel_rfl) ?_
      refine wpAny_take (i := 1) (v := .slice a1 b cv1) rfl (by kernel_rfl) (by kernel_rfl) (by kernel_rfl) (fun _ _ _ h => h) (Or.inl ⟨by rfl, by intro w; go_simp⟩) ?_
      refine wpAny_ready (rs := [0, 2]) (by kernel_rfl) (by simp) ?_
      refine AllReady.cons rfl (fun K hK => ?_) (AllReady.cons rfl (fun K hK => ?_) AllReady.nil)
      · go_simp
        refine hK _ _ ?_
        clear hK K
        refine wpAny_ready (rs := [2]) (by kernel_rfl) (by simp) ?_
        refine AllReady.cons rfl (fun K hK => ?_) AllReady.nil
        go_simp
        go_at_call 30
        (with_reducible refine Calls.mono (HBK2.out _ hself) ?_)
        rintro e w2 ⟨rfl, hB2⟩
        have hB3 := below_th hself hB2
        have hR2 := (HFR.out _ hB3).2
        have f0 := hR2.f 0
        have f1 := hR2.f 1
        have f2 := hR2.f 2
        have f3 := hR2.f 3
        have f4 := hR2.f 4
        have f5 := hR2.f 5
        have hB5 := below_al hB3 (.cells #[.string BV] 9)
        have hR3 := (HFR.out _ hB5).2
        have g0 := hR3.f 0
        have g1 := hR3.f 1
        have g2 := hR3.f 2
        have g3 := hR3.f 3
        have g4 := hR3.f 4
        have g5 := hR3.f 5
        obtain ⟨r0, r1, r2, r3, r4, r5⟩ := zM_c hR2
        obtain ⟨s0, s1, s2, s3, s4, s5⟩ := zM_c hR3
        obtain ⟨d0, d1, d2, d3, d4, d5⟩ := HC.out _ hB3
        obtain ⟨e0, e1, e2, e3, e4, e5⟩ := HC.out _ hB5
        obtain ⟨⟨p1, p2⟩, ⟨p3, p4⟩⟩ := HPUT.out _ hB3
        have HE1 := Lib.hid p1
        have HE2 := Lib.hid p2
        have HE3 := Lib.hid p3
        have HE4 := Lib.hid p4
        clear hR2 hR3 hB3 hB5 hB2 p1 p2 p3 p4
        try go_simp
        refine hK _ _ ?_
        clear hK K
        refine wpAny_ready (rs := [3, 4]) (by kernel_rfl) (by simp) ?_
        refine AllReady.cons rfl (fun K hK => ?_) (AllReady.cons rfl (fun K hK => ?_) AllReady.nil)
        · go_simp
          refine hK _ _ ?_
          clear hK K
          refine wpAny_ready (rs := [4]) (by kernel_rfl) (by simp) ?_
          refine AllReady.cons rfl (fun K hK => ?_) AllReady.nil
          go_simp
          refine hK _ _ ?_
          clear hK K
          refine wpAny_ready (rs := [5]) (by kernel_rfl) (by simp) ?_
          refine AllReady.cons rfl (fun K hK => ?_) AllReady.nil
          go_simp
          refine hK _ _ ?_
          clear hK K
          refine wpAny_ready (rs := [6]) (by kernel_rfl) (by simp) ?_
          refine AllReady.cons rfl (fun K hK => ?_) AllReady.nil
          go_simp
          refine hK _ _ ?_
          clear hK K
          refine wpAny_done (by kernel_rfl) ?_ _
          go_wp2
          refine bodyPost_ret (results_lay rfl _ _ rfl HE1.out) rfl ?_
          exact HE2.out
        · go_simp
          refine hK _ _ ?_
          clear hK K
          refine wpAny_ready (rs := [3]) (by kernel_rfl) (by simp) ?_
          refine AllReady.cons rfl (fun K hK => ?_) AllReady.nil
          go_simp
          refine hK _ _ ?_
          clear hK K
          refine wpAny_ready (rs := [5]) (by kernel_rfl) (by simp) ?_
          refine AllReady.cons rfl (fun K hK => ?_) AllReady.nil
          go_simp
          refine hK _ _ ?_
          clear hK K
          refine wpAny_ready (rs := [6]) (by kernel_rfl) (by simp) ?_
          refine AllReady.cons rfl (fun K hK => ?_) AllReady.nil
          go_simp
          refine hK _ _ ?_
          clear hK K
          refine wpAny_done (by kernel_rfl) ?_ _
          obtain ⟨Xw, hXw⟩ : ∃ Xw, (((((((w2.setCell ⟨W0.heap.size, 0, none⟩ (.int .u32 (x : Int))).setCell ⟨W0.heap.size, 1, none⟩ (.int .u32 0)).setCell ⟨W0.heap.size, 2, none⟩ (.int .u32 0)).setCell ⟨W0.heap.size, 3, none⟩ (.int .u32 0)).setCell ⟨W0.heap.size, 4, none⟩ (.int .u32 0)).setCell ⟨W0.heap.size, 5, none⟩ (.int .u32 0)).alloc (.cells #[.string BV] 9)) = Xw := ⟨_, rfl⟩
          rw [hXw] at HE3 HE4 ⊢
          clear hXw f0 f1 f2 f3 f4 f5 g0 g1 g2 g3 g4 g5 d0 d1 d2 d3 d4 d5 e0 e1 e2 e3 e4 e5 r0 r1 r2 r3 r4 r5 s0 s1 s2 s3 s4 s5
          go_wp2
          refine bodyPost_ret (results_lay rfl _ _ rfl HE3.out) rfl ?_
          exact HE4.out
      · go_simp
        go_at_call 30
        (with_reducible refine Calls.mono (HBK2.out _ hself) ?_)
        rintro e w2 ⟨rfl, hB2⟩
        have hB3 := below_th hself hB2
        have hR2 := (HFR.out _ hB3).2
        have f0 := hR2.f 0
        have f1 := hR2.f 1
        have f2 := hR2.f 2
        have f3 := hR2.f 3
        have f4 := hR2.f 4
        have f5 := hR2.f 5
        have hB5 := below_al hB3 (.cells #[.string BV] 9)
        have hR3 := (HFR.out _ hB5).2
        have g0 := hR3.f 0
        have g1 := hR3.f 1
        have g2 := hR3.f 2
        have g3 := hR3.f 3
        have g4 := hR3.f 4
        have g5 := hR3.f 5
        obtain ⟨r0, r1, r2, r3, r4, r5⟩ := zM_c hR2
        obtain ⟨s0, s1, s2, s3, s4, s5⟩ := zM_c hR3
        obtain ⟨d0, d1, d2, d3, d4, d5⟩ := HC.out _ hB3
        obtain ⟨e0, e1, e2, e3, e4, e5⟩ := HC.out _ hB5
        obtain ⟨⟨p1, p2⟩, ⟨p3, p4⟩⟩ := HPUT.out _ hB3
        have HE1 := Lib.hid p1
        have HE2 := Lib.hid p2
        have HE3 := Lib.hid p3
        have HE4 := Lib.hid p4
        clear hR2 hR3 hB3 hB5 hB2 p1 p2 p3 p4
        try go_simp
        refine hK _ _ ?_
        clear hK K
        refine wpAny_ready (rs := [0, 3]) (by kernel_rfl) (by simp) ?_
        refine AllReady.cons rfl (fun K hK => ?_) (AllReady.cons rfl (fun K hK => ?_) AllReady.nil)
        · go_simp
          refine hK _ _ ?_
          clear hK K
          refine wpAny_ready (rs := [3, 4]) (by kernel_rfl) (by simp) ?_
          refine AllReady.cons rfl (fun K hK => ?_) (AllReady.cons rfl (fun K hK => ?_) AllReady.nil)
          · go_simp
            refine hK _ _ ?_
            clear hK K
            refine wpAny_ready (rs := [4]) (by kernel_rfl) (by simp) ?_
            refine AllReady.cons rfl (fun K hK => ?_) AllReady.nil
            go_simp
            refine hK _ _ ?_
            clear hK K
            refine wpAny_ready (rs := [5]) (by kernel_rfl) (by simp) ?_
            refine AllReady.cons rfl (fun K hK => ?_) AllReady.nil
            go_simp
            refine hK _ _ ?_
            clear hK K
            refine wpAny_ready (rs := [6]) (by kernel_rfl) (by simp) ?_
            refine AllReady.cons rfl (fun K hK => ?_) AllReady.nil
            go_simp
            refine hK _ _ ?_
            clear hK K
            refine wpAny_done (by kernel_rfl) ?_ _
            obtain ⟨Xw, hXw⟩ : ∃ Xw, (((((((w2.alloc (.cells #[.string BV] 9)).setCell ⟨W0.heap.size, 0, none⟩ (.int .u32 (x : Int))).setCell ⟨W0.heap.size, 1, none⟩ (.int .u32 0)).setCell ⟨W0.heap.size, 2, none⟩ (.int .u32 0)).setCell ⟨W0.heap.size, 3, none⟩ (.int .u32 0)).setCell ⟨W0.heap.size, 4, none⟩ (.int .u32 0)).setCell ⟨W0.heap.size, 5, none⟩ (.int .u32 0)) = Xw := ⟨_, rfl⟩
            rw [hXw] at HE1 HE2 ⊢
            clear hXw f0 f1 f2 f3 f4 f5 g0 g1 g2 g3 g4 g5 d0 d1 d2 d3 d4 d5 e0 e1 e2 e3 e4 e5 r0 r1 r2 r3 r4 r5 s0 s1 s2 s3 s4 s5
            go_wp2
            refine bodyPost_ret (results_lay rfl _ _ rfl HE1.out) rfl ?_
            exact HE2.out
          · go_simp
            refine hK _ _ ?_
            clear hK K
            refine wpAny_ready (rs := [3]) (by kernel_rfl) (by simp) ?_
            refine AllReady.cons rfl (fun K hK => ?_) AllReady.nil
            go_simp
            refine hK _ _ ?_
            clear hK K
            refine wpAny_ready (rs := [5]) (by kernel_rfl) (by simp) ?_
            refine AllReady.cons rfl (fun K hK => ?_) AllReady.nil
            go_simp
            refine hK _ _ ?_
            clear hK K
            refine wpAny_ready (rs := [6]) (by kernel_rfl) (by simp) ?_
            refine AllReady.cons rfl (fun K hK => ?_) AllReady.nil
            go_simp
            refine hK _ _ ?_
            clear hK K
            refine wpAny_done (by kernel_rfl) ?_ _
            obtain ⟨Xw, hXw⟩ : ∃ Xw, (((((((w2.setCell ⟨W0.heap.size, 0, none⟩ (.int .u32 (x : Int))).setCell ⟨W0.heap.size, 1, none⟩ (.int .u32 0)).setCell ⟨W0.heap.size, 2, none⟩ (.int .u32 0)).setCell ⟨W0.heap.size, 3, none⟩ (.int .u32 0)).setCell ⟨W0.heap.size, 4, none⟩ (.int .u32 0)).setCell ⟨W0.heap.size, 5, none⟩ (.int .u32 0)).alloc (.cells #[.string BV] 9)) = Xw := ⟨_, rfl⟩
            rw [hXw] at HE3 HE4 ⊢
            clear hXw f0 f1 f2 f3 f4 f5 g0 g1 g2 g3 g4 g5 d0 d1 d2 d3 d4 d5 e0 e1 e2 e3 e4 e5 r0 r1 r2 r3 r4 r5 s0 s1 s2 s3 s4 s5
            go_wp2
            refine bodyPost_ret (results_lay rfl _ _ rfl HE3.out) rfl ?_
            exact HE4.out
        · go_simp
          refine hK _ _ ?_
          clear hK K
          refine wpAny_ready (rs := [0]) (by kernel_rfl) (by simp) ?_
          refine AllReady.cons rfl (fun K hK => ?_) AllReady.nil
          go_simp
          refine hK _ _ ?_
          clear hK K
          refine wpAny_ready (rs := [4]) (by kernel_rfl) (by simp) ?_
          refine AllReady.cons rfl (fun K hK => ?_) AllReady.nil
          go_simp
          refine hK _ _ ?_
          clear hK K
          refine wpAny_ready (rs := [5]) (by kernel_rfl) (by simp) ?_
          refine AllReady.cons rfl (fun K hK => ?_) AllReady.nil
          go_simp
          refine hK _ _ ?_
          clear hK K
          refine wpAny_ready (rs := [6]) (by kernel_rfl) (by simp) ?_
          refine AllReady.cons rfl (fun K hK => ?_) AllReady.nil
          go_simp
          refine hK _ _ ?_
          clear hK K
          refine wpAny_done (by kernel_rfl) ?_ _
          go_wp2
          refine bodyPost_ret (results_lay rfl _ _ rfl HE1.out) rfl ?_
          exact HE2.out
end
end R
end Go.Proofs.Ytdakfdecfpebcaa.Bmp
