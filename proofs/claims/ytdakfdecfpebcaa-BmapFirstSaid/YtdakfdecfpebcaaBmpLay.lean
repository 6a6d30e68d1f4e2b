/- The document's Lay: where it refuses. -/
import Derived.Test.YtdakfdecfpebcaaBmpBlk
namespace Go.Proofs.Ytdakfdecfpebcaa.Bmp
open Go.RowKit Ino
attribute [local go_sem] Oper.semAt_some
set_option linter.unusedVariables false
set_option linter.unusedSimpArgs false
def layM (s : Nat) (V I : List Nat) : M := if layP s V I then mapOf s V I else M.zero
def layB (s : Nat) (V I : List Nat) : List ByteArray := if layP s V I then blocksOf s V I else []
def layE (s : Nat) (V I : List Nat) : Int := if layP s V I then 0 else 130
/-- what Lay answers -/
def LayPost (s : Nat) (V I : List Nat) (w : World) (e : Ending) (w' : World) : Prop := ∃ v, e = .returned (.tuple #[(layM s V I).val, v, .int .i64 (layE s V I)]) ∧ Strs w' v (layB s V I) ∧ Below w.heap.size w w'
theorem lay_no {s : Nat} {V I : List Nat} {w w' : World} (h : ¬ layP s V I) (hB : Below w.heap.size w w') : LayPost s V I w (.returned (.tuple #[M.zero.val, .slice none 0 0, .int .i64 130])) w' := by
  refine ⟨.slice none 0 0, by unfold layM layE; rw [if_neg h, if_neg h], ?_, hB⟩
  unfold layB
  rw [if_neg h]
  exact Strs.nil _
theorem lay_yes {s : Nat} {V I : List Nat} {w w' : World} {v : Value} (h : layP s V I) (hv : Strs w' v (blocksOf s V I)) (hB : Below w.heap.size w w') : LayPost s V I w (.returned (.tuple #[(mapOf s V I).val, v, .int .i64 0])) w' := by
  refine ⟨v, by unfold layM layE; rw [if_pos h, if_pos h], ?_, hB⟩
  unfold layB
  rw [if_pos h]
  exact hv
theorem put6M {W : World} {b : Nat} {m : M} (h : AtM W b m) (t : M) :
    AtM ((((((W.setCell ⟨b, 0, none⟩ (.int .u32 t.a)).setCell ⟨b, 1, none⟩ (.int .u32 t.b)).setCell ⟨b, 2, none⟩ (.int .u32 t.c)).setCell ⟨b, 3, none⟩ (.int .u32 t.d)).setCell ⟨b, 4, none⟩ (.int .u32 t.e)).setCell ⟨b, 5, none⟩ (.int .u32 t.f)) b t ∧
    Below b W ((((((W.setCell ⟨b, 0, none⟩ (.int .u32 t.a)).setCell ⟨b, 1, none⟩ (.int .u32 t.b)).setCell ⟨b, 2, none⟩ (.int .u32 t.c)).setCell ⟨b, 3, none⟩ (.int .u32 t.d)).setCell ⟨b, 4, none⟩ (.int .u32 t.e)).setCell ⟨b, 5, none⟩ (.int .u32 t.f)) := by
  unfold AtM at h
  have h0 := heap_setCell_same W b 0 _ _ (.int .u32 t.a) h
  have h1 := heap_setCell_same _ b 1 _ _ (.int .u32 t.b) h0
  have h2 := heap_setCell_same _ b 2 _ _ (.int .u32 t.c) h1
  have h3 := heap_setCell_same _ b 3 _ _ (.int .u32 t.d) h2
  have h4 := heap_setCell_same _ b 4 _ _ (.int .u32 t.e) h3
  have h5 := heap_setCell_same _ b 5 _ _ (.int .u32 t.f) h4
  exact ⟨h5, ((((((Below.refl b W).setCell (p := ⟨b, 0, none⟩) (Nat.le_refl _) _).setCell (p := ⟨b, 1, none⟩) (Nat.le_refl _) _).setCell (p := ⟨b, 2, none⟩) (Nat.le_refl _) _).setCell (p := ⟨b, 3, none⟩) (Nat.le_refl _) _).setCell (p := ⟨b, 4, none⟩) (Nat.le_refl _) _).setCell (p := ⟨b, 5, none⟩) (Nat.le_refl _) _⟩
theorem results_lay {fn : Func} {r x e : Tmp} (h : fn.results = #[.cell r 32, .tmp x, .tmp e]) (tmps : Array Value) (w : World) {b : Nat} {m : M} (hp : tmps.getD r undef = .pointer (some ⟨b, 0, none⟩)) (hA : AtM w b m) :
    (results fn tmps).run Try.prog w = .ok (.tuple #[m.val, tmps.getD x undef, tmps.getD e undef]) w := by
  obtain ⟨c0, c1, c2, c3, c4, c5⟩ := hA.c
  rw [Array.getD_eq_getD_getElem?] at hp
  simp [results, h, hp, go_sem, c0, c1, c2, c3, c4, c5]
  rfl
/-- a map of noughts -/
def boxZM : Obj := .cells #[.int .u32 0, .int .u32 0, .int .u32 0, .int .u32 0, .int .u32 0, .int .u32 0] 32
theorem zM_new (w : World) : AtM (w.alloc boxZM) w.heap.size M.zero := AtM.new w M.zero
theorem zM_c {W : World} {b : Nat} (h : AtM W b M.zero) : W.cell? ⟨b, 0, none⟩ = some (.int .u32 0) ∧ W.cell? ⟨b, 1, none⟩ = some (.int .u32 0) ∧ W.cell? ⟨b, 2, none⟩ = some (.int .u32 0) ∧ W.cell? ⟨b, 3, none⟩ = some (.int .u32 0) ∧ W.cell? ⟨b, 4, none⟩ = some (.int .u32 0) ∧ W.cell? ⟨b, 5, none⟩ = some (.int .u32 0) := h.c
theorem zM_put {W : World} {b : Nat} {m : M} (h : AtM W b m) :
    AtM ((((((W.setCell ⟨b, 0, none⟩ (.int .u32 0)).setCell ⟨b, 1, none⟩ (.int .u32 0)).setCell ⟨b, 2, none⟩ (.int .u32 0)).setCell ⟨b, 3, none⟩ (.int .u32 0)).setCell ⟨b, 4, none⟩ (.int .u32 0)).setCell ⟨b, 5, none⟩ (.int .u32 0)) b M.zero ∧
    Below b W ((((((W.setCell ⟨b, 0, none⟩ (.int .u32 0)).setCell ⟨b, 1, none⟩ (.int .u32 0)).setCell ⟨b, 2, none⟩ (.int .u32 0)).setCell ⟨b, 3, none⟩ (.int .u32 0)).setCell ⟨b, 4, none⟩ (.int .u32 0)).setCell ⟨b, 5, none⟩ (.int .u32 0)) := put6M h M.zero
namespace R
section
set_option maxRecDepth 100000
set_option maxHeartbeats 4000000
/-- the sizes don't fit -/
theorem lay_size (s : Nat) (v1 v2 : Value) (V I : List Nat) (w : World) (h : s < 4294967296) (hV : U32s w v1 V) (hI : U32s w v2 I) (h1 : ¬ (s ≤ 8193532 ∧ V.length = blN s ∧ I.length = cntN s)) :
    Calls Try.prog 16 #[.int .u32 s, v1, v2] w (LayPost s V I w) := by
  have HN := Lib.hid (fun w' (hB : Below w.heap.size w w') => lay_no (s := s) (V := V) (I := I) (w := w) (w' := w') (fun h => h1 ⟨h.1, h.2.1, h.2.2.1⟩) hB)
  obtain ⟨a1, c1, rfl, _, _⟩ := hV.parts
  obtain ⟨a2, c2, rfl, _, _⟩ := hI.parts
  have hBl := Lib.hid (fun W => Ino.R.blocks_any s W h)
  have hC := Lib.hid (fun W => count_any s W h)
  obtain ⟨R, hR⟩ : ∃ R, LayPost s V I w = R := ⟨_, rfl⟩
  rw [hR] at HN ⊢
  generalize V.length = nv at *
  generalize I.length = ni at *
  generalize blN s = b at *
  generalize cntN s = c at *
  obtain ⟨W0, rfl⟩ : ∃ W0 : World, W0 = w := ⟨_, rfl⟩
  have hZ1 := (zM_new W0).th (below_new _ boxZM)
  have hZ2 := zM_new (W0.alloc boxZM)
  have HB := Lib.hid (below_al (below_new W0 boxZM) boxZM)
  rw [World.size_alloc] at hZ2
  obtain ⟨x0, x1, x2, x3, x4, x5⟩ := zM_c hZ1
  obtain ⟨y0, y1, y2, y3, y4, y5⟩ := zM_c hZ2
  have f0 := hZ1.f 0
  have f1 := hZ1.f 1
  have f2 := hZ1.f 2
  have f3 := hZ1.f 3
  have f4 := hZ1.f 4
  have f5 := hZ1.f 5
  have HP := Lib.hid hZ1
  unfold boxZM at x0 x1 x2 x3 x4 x5 y0 y1 y2 y3 y4 y5 f0 f1 f2 f3 f4 f5 HP HB
  clear hZ1 hZ2 hV hI hR
  by_cases k1 : 8193532 < s
  · have g1 : (8193532 : Int) < (s : Int) := by omega
    clear h1 k1 h
    go_enter Try.func16, Try.ntmps16
    go_wp2
    refine bodyPost_ret (results_lay rfl _ _ rfl HP.out) rfl ?_
    exact HN.out _ HB.out
  · have g1 : ¬ (8193532 : Int) < (s : Int) := by omega
    by_cases k2 : nv = b
    · have k3 : ¬ ni = c := fun k3 => h1 ⟨by omega, k2, k3⟩
      have g2 : ((nv : Int) != (b : Int)) = false := by rw [k2]; simp
      have g2b : (nv != b) = false := by rw [k2]; simp
      have g3 : ((ni : Int) != (c : Int)) = true := bne_iff_ne.2 (by omega)
      have g3b : (ni != c) = true := bne_iff_ne.2 k3
      have g3c : (ni == c) = false := beq_eq_false_iff_ne.2 k3
      subst k2
      clear h1 k1 h k3
      go_enter Try.func16, Try.ntmps16
      go_wp2_with (first
        | (go_at_call 24; (with_reducible refine Calls.mono (hBl.out _) ?_); rintro e w1 ⟨rfl, hw⟩; rw [← hw]; clear hw w1)
        | (go_at_call 13; (with_reducible refine Calls.mono (hC.out _) ?_); rintro e w1 ⟨rfl, hw⟩; rw [← hw]; clear hw w1))
      refine bodyPost_ret (results_lay rfl _ _ rfl HP.out) rfl ?_
      exact HN.out _ HB.out
    · have g2 : ((nv : Int) != (b : Int)) = true := bne_iff_ne.2 (by omega)
      have g2b : (nv != b) = true := bne_iff_ne.2 k2
      have g2c : (nv == b) = false := beq_eq_false_iff_ne.2 k2
      clear h1 k1 h k2
      go_enter Try.func16, Try.ntmps16
      go_wp2_with (first
        | (go_at_call 24; (with_reducible refine Calls.mono (hBl.out _) ?_); rintro e w1 ⟨rfl, hw⟩; rw [← hw]; clear hw w1)
        | (go_at_call 13; (with_reducible refine Calls.mono (hC.out _) ?_); rintro e w1 ⟨rfl, hw⟩; rw [← hw]; clear hw w1))
      refine bodyPost_ret (results_lay rfl _ _ rfl HP.out) rfl ?_
      exact HN.out _ HB.out
/-- a number of the map's blocks is null -/
theorem lay_null (s : Nat) (v1 v2 : Value) (V I : List Nat) (w : World) (h : s < 4294967296) (hV : U32s w v1 V) (hI : U32s w v2 I) (h1 : s ≤ 8193532 ∧ V.length = blN s ∧ I.length = cntN s) (hz : ∃ j, j < I.length ∧ I.getD j 0 = 0) :
    Calls Try.prog 16 #[.int .u32 s, v1, v2] w (LayPost s V I w) := by
  have hno : ¬ layP s V I := fun h => by
    obtain ⟨j, hj, hx⟩ := hz
    refine h.2.2.2 _ (List.getElem_mem hj) ?_
    rw [List.getD_eq_getElem?_getD, List.getElem?_eq_getElem hj] at hx
    exact hx
  have HN := Lib.hid (fun w' (hB : Below w.heap.size w w') => lay_no (s := s) (V := V) (I := I) (w := w) (w' := w') hno hB)
  obtain ⟨a1, c1, rfl, _, _⟩ := hV.parts
  obtain ⟨a2, c2, rfl, hcc, hcd⟩ := hI.parts
  have hBl := Lib.hid (fun W => Ino.R.blocks_any s W h)
  have hC := Lib.hid (fun W => count_any s W h)
  have HZ : Hid (∀ (P : Prop), (∀ j, j < I.length → ¬ I.getD j 0 = 0) → P) := fun P hx => by
    obtain ⟨j, hj, hh⟩ := hz
    exact absurd hh (hx j hj)
  have g1 : ¬ (8193532 : Int) < (s : Int) := by omega
  obtain ⟨o1, o2, o3⟩ := h1
  obtain ⟨W0, rfl⟩ : ∃ W0 : World, W0 = w := ⟨_, rfl⟩
  have HI := Lib.hid (fun W (hB : Below W0.heap.size W0 W) k (hk : k < I.length) => (hI.below hB).get (k := k) hk)
  obtain ⟨R, hR⟩ : ∃ R, LayPost s V I W0 = R := ⟨_, rfl⟩
  rw [hR] at HN ⊢
  rw [o2] at hV ⊢
  have o3' := o3
  clear hV hI hR
  obtain ⟨ni, hni⟩ : ∃ ni, I.length = ni := ⟨_, rfl⟩
  rw [hni] at HI HZ o3 hcc ⊢
  rw [← o3] at hC
  generalize blN s = b at *
  clear o1 o2 o3 o3' hni h hz hno
  have g2 : ((b : Int) != (b : Int)) = false := by simp
  have g3 : ((ni : Int) != (ni : Int)) = false := by simp
  have hZ1 := (zM_new W0).th (below_new _ boxZM)
  have hZ2 := zM_new (W0.alloc boxZM)
  have HB := Lib.hid (below_al (below_new W0 boxZM) boxZM)
  rw [World.size_alloc] at hZ2
  obtain ⟨x0, x1, x2, x3, x4, x5⟩ := zM_c hZ1
  obtain ⟨y0, y1, y2, y3, y4, y5⟩ := zM_c hZ2
  have f0 := hZ1.f 0
  have f1 := hZ1.f 1
  have f2 := hZ1.f 2
  have f3 := hZ1.f 3
  have f4 := hZ1.f 4
  have f5 := hZ1.f 5
  have HP := Lib.hid hZ1
  unfold boxZM at x0 x1 x2 x3 x4 x5 y0 y1 y2 y3 y4 y5 f0 f1 f2 f3 f4 f5 HP HB
  clear hZ1 hZ2
  go_enter Try.func16, Try.ntmps16
  go_wp2_with (first
    | (go_at_call 24; (with_reducible refine Calls.mono (hBl.out _) ?_); rintro e w1 ⟨rfl, hw⟩; rw [← hw]; clear hw w1)
    | (go_at_call 13; (with_reducible refine Calls.mono (hC.out _) ?_); rintro e w1 ⟨rfl, hw⟩; rw [← hw]; clear hw w1))
  go_loop [10] (fun i => ∃ k : Nat, i = .int .i64 (k : Int) ∧ k ≤ ni ∧ Hid (∀ j, j < k → ¬ I.getD j 0 = 0)) (fun i => ni - (intOf i).toNat)
  case atStart => exact ⟨0, rfl, by omega, fun j hj => absurd hj (Nat.not_lt_zero _)⟩
  case round =>
    obtain ⟨k, rfl, hk, HQ⟩ := hrel
    by_cases hlt : k < ni
    · obtain ⟨bb, off, e1, c1⟩ := HI.out _ HB.out k hlt
      subst e1
      by_cases hx : I.getD k 0 = 0
      · rw [hx] at c1
        go_wp2
        refine bodyPost_ret (results_lay rfl _ _ rfl HP.out) rfl ?_
        exact HN.out _ HB.out
      · have q0 : (((I.getD k 0 : Nat) : Int) == 0) = false := beq_eq_false_iff_ne.2 (by omega)
        have HQ2 : Hid (∀ j, j < k + 1 → ¬ I.getD j 0 = 0) := fun j hj => by
          rcases Nat.lt_succ_iff_lt_or_eq.1 hj with h | h
          · exact HQ.out j h
          · rw [h]; exact hx
        have q00 : (I.getD k 0 == 0) = false := beq_eq_false_iff_ne.2 hx
        clear hx
        generalize I.getD k 0 = x at c1 q0 q00
        go_wp2
        go_round
        case rel => exact ⟨k + 1, by go_num, by omega, HQ2⟩
        case measure => simp [intOf]; omega
    · obtain rfl : k = ni := by omega
      exact HZ.out _ HQ.out
end
end R
end Go.Proofs.Ytdakfdecfpebcaa.Bmp
