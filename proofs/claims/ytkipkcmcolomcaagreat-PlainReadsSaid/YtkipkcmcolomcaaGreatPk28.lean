/- Several texts in one, each under its own heading. -/
import Derived.Test.YtkipkcmcolomcaaGreatPk24
import Derived.Test.YtkipkcmcolomcaaGreatPk27
import Derived.BigQuiet
import Derived.StillTailTactics
/- aim: what a call's path leads to. The ways out ahead of the path. -/
namespace Go.Proofs.YtkipkcmcolomcaaGreat.Pln
open Go.RowKit
open Dir (N)
open Pth (Strs)
attribute [local go_sem] Oper.semAt_some
set_option linter.unusedVariables false
set_option linter.unusedSimpArgs false
def AimPost (D : List (List N)) (o : Except Int Pl) (w : World) (e : Ending) (w' : World) : Prop := match o with
  | .error n => ∃ x, e = .returned (.tuple #[x, .int .i64 n]) ∧ Below w.heap.size w w'
  | .ok q => ∃ a cap g, e = .returned (.tuple #[spV q (.slice a g.length cap), .int .i64 0]) ∧ (∃ B, rowS w' B (.slice a g.length cap) g) ∧ Gone D g q ∧ Below w.heap.size w w'
section
set_option maxRecDepth 100000
set_option maxHeartbeats 4000000
theorem aim_wrong (v : Value) (l : List Nd) (c : Cl) (now : Nat) (w : World) (h : Nodes w v l) (k : Able l) (hR : ¬ RightL l) :
    Calls Tryz.prog 21 #[v, c.val, .int .u64 now] w (fun e w' => e = .returned (.tuple #[spZV, .int .i64 139]) ∧ Below w.heap.size w w') := by
  have HRG := Lib.hid (fun W (hB : Below w.heap.size w W) => right_any v l W (h.below hB) k)
  unfold Ans at HRG
  rw [decide_eq_false hR] at HRG
  have HZ := Lib.hid (SpAt.newZ (w.alloc (clO c)))
  have HW := Lib.hid (below_al (below_new w (clO c)) spZ)
  unfold spZ clO at HZ HW
  unfold Cl.val
  obtain ⟨op, path, to_, data, off, n, mode⟩ := c
  dsimp only at HZ HW ⊢
  go_enter Tryz.func21, Tryz.ntmps21
  go_wp2_with (go_at_call 18; (with_reducible refine Calls.mono (HRG.out _ HW.out) ?_); rintro e w1 ⟨rfl, hB1⟩; have hz := HZ.out.th hB1; rw [World.size_alloc] at hz; have f0 := hz.f 0; have f1 := hz.f 1; have f2 := hz.f 2; have f3 := hz.f 3; obtain ⟨q0, q1, q2, q3⟩ := hz.cZ; have HZ1 := Lib.hid (And.intro hz (below_th HW.out hB1)); clear hz hB1)
  have HFIN := Lib.hid (And.intro (HZ1.out.1.putZ).1 (HZ1.out.2.trans ((HZ1.out.1.putZ).2.below (n := w.heap.size) HZ1.out.2.size (by rintro k rfl; omega))))
  refine bodyPost_ret (results_sp rfl _ _ rfl HFIN.out.1) rfl ?_
  exact ⟨rfl, HFIN.out.2⟩
theorem aim_late (v : Value) (l : List Nd) (c : Cl) (now : Nat) (w : World) (h : Nodes w v l) (k : Able l) (hR : RightL l) (hn : 281474976710656 ≤ now) :
    Calls Tryz.prog 21 #[v, c.val, .int .u64 now] w (fun e w' => e = .returned (.tuple #[spZV, .int .i64 2]) ∧ Below w.heap.size w w') := by
  have HRG := Lib.hid (fun W (hB : Below w.heap.size w W) => right_any v l W (h.below hB) k)
  unfold Ans at HRG
  rw [decide_eq_true hR] at HRG
  have HZ := Lib.hid (SpAt.newZ (w.alloc (clO c)))
  have HW := Lib.hid (below_al (below_new w (clO c)) spZ)
  unfold spZ clO at HZ HW
  unfold Cl.val
  obtain ⟨op, path, to_, data, off, n, mode⟩ := c
  dsimp only at HZ HW ⊢
  have hn1 : ((now : Int) ≥ 281474976710656) := by omega
  clear hn
  go_enter Tryz.func21, Tryz.ntmps21
  go_wp2_with (go_at_call 18; (with_reducible refine Calls.mono (HRG.out _ HW.out) ?_); rintro e w1 ⟨rfl, hB1⟩; have hz := HZ.out.th hB1; rw [World.size_alloc] at hz; have f0 := hz.f 0; have f1 := hz.f 1; have f2 := hz.f 2; have f3 := hz.f 3; obtain ⟨q0, q1, q2, q3⟩ := hz.cZ; have HZ1 := Lib.hid (And.intro hz (below_th HW.out hB1)); clear hz hB1)
  have HFIN := Lib.hid (And.intro (HZ1.out.1.putZ).1 (HZ1.out.2.trans ((HZ1.out.1.putZ).2.below (n := w.heap.size) HZ1.out.2.size (by rintro k rfl; omega))))
  refine bodyPost_ret (results_sp rfl _ _ rfl HFIN.out.1) rfl ?_
  exact ⟨rfl, HFIN.out.2⟩
theorem aim_arg (v : Value) (l : List Nd) (c : Cl) (now : Nat) (w : World) (h : Nodes w v l) (k : Able l) (hR : RightL l) (hn : ¬ 281474976710656 ≤ now) (hf : ¬ fitsP c) :
    Calls Tryz.prog 21 #[v, c.val, .int .u64 now] w (fun e w' => e = .returned (.tuple #[spZV, .int .i64 2]) ∧ Below w.heap.size w w') := by
  have HRG := Lib.hid (fun W (hB : Below w.heap.size w W) => right_any v l W (h.below hB) k)
  unfold Ans at HRG
  rw [decide_eq_true hR] at HRG
  have HZ := Lib.hid (SpAt.newZ (w.alloc (clO c)))
  have HW := Lib.hid (below_al (below_new w (clO c)) spZ)
  have HCL := Lib.hid (fun W (hB : Below (w.alloc (clO c)).heap.size (w.alloc (clO c)) W) => ((ClAt.new w c).th hB).c)
  have HFT := Lib.hid (fun W => fits_any c W)
  rw [decide_eq_false hf] at HFT
  unfold spZ clO at HZ HW
  unfold clO at HCL
  unfold Cl.val at HFT ⊢
  obtain ⟨op, path, to_, data, off, n, mode⟩ := c
  dsimp only at HZ HW HCL HFT ⊢
  have hn1 : ¬ ((now : Int) ≥ 281474976710656) := by omega
  clear hn hf
  go_enter Tryz.func21, Tryz.ntmps21
  go_wp2_with (first
    | (go_at_call 18; (with_reducible refine Calls.mono (HRG.out _ HW.out) ?_); rintro e w1 ⟨rfl, hB1⟩; have hz := HZ.out.th hB1; rw [World.size_alloc] at hz; have hcl := HCL.out _ (below_th (below_new _ _) hB1); obtain ⟨c0, c1, c2, c3, c4, c5, c6⟩ := hcl; have HZ1 := Lib.hid (And.intro hz (below_th HW.out hB1)); clear hz hB1)
    | (go_at_call 42; (with_reducible refine Calls.mono (HFT.out _) ?_); rintro e w2 ⟨rfl, hB2⟩; have hz := HZ1.out.1.th hB2; have f0 := hz.f 0; have f1 := hz.f 1; have f2 := hz.f 2; have f3 := hz.f 3; obtain ⟨q0, q1, q2, q3⟩ := hz.cZ; have HZ2 := Lib.hid (And.intro hz (below_th HZ1.out.2 hB2)); clear hz hB2))
  have HFIN := Lib.hid (And.intro (HZ2.out.1.putZ).1 (HZ2.out.2.trans ((HZ2.out.1.putZ).2.below (n := w.heap.size) HZ2.out.2.size (by rintro k rfl; omega))))
  refine bodyPost_ret (results_sp rfl _ _ rfl HFIN.out.1) rfl ?_
  exact ⟨rfl, HFIN.out.2⟩
end
end Go.Proofs.YtkipkcmcolomcaaGreat.Pln
/- aim: the ways out behind the path. -/
namespace Go.Proofs.YtkipkcmcolomcaaGreat.Pln
open Go.RowKit
open Dir (N)
open Pth (Strs)
attribute [local go_sem] Oper.semAt_some
set_option linter.unusedVariables false
set_option linter.unusedSimpArgs false
section
set_option maxRecDepth 100000
set_option maxHeartbeats 4000000
theorem aim_no {D : List (List N)} (v : Value) (l : List Nd) (c : Cl) (now : Nat) (w : World) (h : Nodes w v l) (k : Able l) (hD : RightD l D) (hR : RightL l) (hn : ¬ 281474976710656 ≤ now) (hf : fitsP c) (hp : c.path.size ≤ 281474976710656) {n9 : Int} (hg : goD l D c.path (decide (c.op = 1 ∨ c.op = 3 ∨ c.op = 5 ∨ c.op = 4 ∨ c.op = 13 ∨ c.op = 14 ∨ c.op = 15)) = .error n9) :
    Calls Tryz.prog 21 #[v, c.val, .int .u64 now] w (fun e w' => e = .returned (.tuple #[spZV, .int .i64 n9]) ∧ Below w.heap.size w w') := by
  have HRG := Lib.hid (fun W (hB : Below w.heap.size w W) => right_any v l W (h.below hB) k)
  unfold Ans at HRG
  rw [decide_eq_true hR] at HRG
  have HZ := Lib.hid (SpAt.newZ (w.alloc (clO c)))
  have HW := Lib.hid (below_al (below_new w (clO c)) spZ)
  have HCL := Lib.hid (fun W (hB : Below (w.alloc (clO c)).heap.size (w.alloc (clO c)) W) => ((ClAt.new w c).th hB).c)
  have HFT := Lib.hid (fun W => fits_any c W)
  have HCA := Lib.hid (ClAt.new w c)
  rw [decide_eq_true hf] at HFT
  have hn9 := goD_err hg
  have HFO := Lib.hid (fun W => follows_any c.op W)
  obtain ⟨fl, hfl⟩ : ∃ fl, decide (c.op = 1 ∨ c.op = 3 ∨ c.op = 5 ∨ c.op = 4 ∨ c.op = 13 ∨ c.op = 14 ∨ c.op = 15) = fl := ⟨_, rfl⟩
  rw [hfl] at HFO hg
  have HA := Lib.hid (fun W (hB : Below w.heap.size w W) => along_any hD v W (h.below hB) c.path hp fl)
  rw [hg] at HA
  unfold AlgPost spZV at HA
  unfold spZ clO at HZ HW
  unfold clO at HCL HCA
  unfold Cl.val at HFT ⊢
  obtain ⟨op, path, to_, data, off, n, mode⟩ := c
  dsimp only at HZ HW HCL HCA HFT HFO HA ⊢
  have hn1 : decide ((281474976710656 : Int) ≤ (now : Int)) = false := by rw [decide_eq_false_iff_not]; omega
  clear hn hf hfl hg hD hR h k hp
  go_enter Tryz.func21, Tryz.ntmps21
  go_wp2_with (first
    | (go_at_call 18; (with_reducible refine Calls.mono (HRG.out _ HW.out) ?_); rintro e w1 ⟨rfl, hB1⟩; have hz := HZ.out.th hB1; rw [World.size_alloc] at hz; have hcl := HCL.out _ (below_th (below_new _ _) hB1); obtain ⟨c0, c1, c2, c3, c4, c5, c6⟩ := hcl; have HZ1 := Lib.hid (And.intro hz (below_th HW.out hB1)); have HK1 := Lib.hid ((HCA.out.th (below_new _ _)).th hB1); clear hz hB1)
    | (go_at_call 42; (with_reducible refine Calls.mono (HFT.out _) ?_); rintro e w2 ⟨rfl, hB2⟩; have hz := HZ1.out.1.th hB2; have HZ2 := Lib.hid (And.intro hz (below_th HZ1.out.2 hB2)); have HK2 := Lib.hid (HK1.out.th hB2); clear hz hB2))
  clear hn1
  have hself0 : Below w2.heap.size w2 w2 := Below.refl _ w2
  have hself : Below w2.heap.size w2 w2.drew := hself0.drew
  have hselfA : Below w2.heap.size w2 (w2.alloc spZ).drew := (below_new w2 spZ).drew
  have hselfB : Below w2.heap.size w2 (w2.drew.alloc spZ) := below_al hself spZ
  have HA2 := Lib.hid (fun W (hB : Below w2.heap.size w2 W) => HA.out W (below_th HZ2.out.2 hB))
  have HR2 := Lib.hid (fun W (hB : Below w2.heap.size w2 W) => And.intro (HZ2.out.1.th hB) (below_th HZ2.out.2 hB))
  unfold spZ at hselfA hselfB
  have HBOX : Hid (∀ W W2, Below W.heap.size W W2 → W.heap[w2.heap.size]? = some (.cells #[.int .u32 0, .string ⟨#[]⟩, .int .u32 0, .slice none 0 0] 57 (0, 0)) → SpAt W2 w2.heap.size zPl (.slice none 0 0)) := fun W W2 h1 h2 => SpAt.th (show SpAt W w2.heap.size zPl (.slice none 0 0) from h2) h1
  have hnA : ((w2.alloc (.cells #[.int .u32 0, .string ⟨#[]⟩, .int .u32 0, .slice none 0 0] 57)).drew).heap[w2.heap.size]? = some (.cells #[.int .u32 0, .string ⟨#[]⟩, .int .u32 0, .slice none 0 0] 57 (0, 0)) := World.alloc_heap_new w2 _
  have hnB : ((w2.drew).alloc (.cells #[.int .u32 0, .string ⟨#[]⟩, .int .u32 0, .slice none 0 0] 57)).heap[w2.heap.size]? = some (.cells #[.int .u32 0, .string ⟨#[]⟩, .int .u32 0, .slice none 0 0] 57 (0, 0)) := World.alloc_heap_new w2.drew _
  have HC2 := Lib.hid (fun W (hW : Below w2.heap.size w2 W) => (HK2.out.th hW).c)
  clear HRG HZ HW HCL HCA HFT HZ1 HZ2 HA HK1 HK2
  dsimp only at HC2

  have HC3 : Hid (∀ W, Below w2.heap.size w2 W → W.cell? ⟨w.heap.size, 0, none⟩ = some (.int .i64 op) ∧ W.cell? ⟨w.heap.size, 1, none⟩ = some (.string path)) := fun W hW => ⟨(HC2.out W hW).1, (HC2.out W hW).2.1⟩
  go_region_held3 (fun w' => w'.cell? ⟨w.heap.size, 0, none⟩ = some (.int .i64 op) ∧ w'.cell? ⟨w.heap.size, 1, none⟩ = some (.string path)) (with_reducible first | exact HC3.out _ hself | exact HC3.out _ hselfA | exact HC3.out _ hselfB | exact HC3.out _ hb2 | exact HC3.out _ (below_al hb2 _) | exact HC3.out _ (below_set4 hb2 (Nat.le_refl _) _ _ _ _)) (first
    | (go_at_call 44; (with_reducible refine Calls.mono (HFO.out _) ?_); rintro e w3 ⟨rfl, rfl⟩)
    | (go_at_call 43; (with_reducible refine Calls.mono (HA2.out _ hself) ?_); rintro e w5 ⟨rfl, hB2⟩; have hb2 := below_th hself hB2)
    | (go_at_call 43; (with_reducible refine Calls.mono (HA2.out _ hselfA) ?_); rintro e w5 ⟨rfl, hB2⟩; have hb2 := below_th hselfA hB2; have HX2 := HBOX.out _ _ hB2 hnA; obtain ⟨y0, y1, y2, y3⟩ := HX2.cZ; have e0 := HX2.f 0; have e1 := HX2.f 1; have e2 := HX2.f 2; have e3 := HX2.f 3)
    | (go_at_call 43; (with_reducible refine Calls.mono (HA2.out _ hselfB) ?_); rintro e w5 ⟨rfl, hB2⟩; have hb2 := below_th hselfB hB2; have HX2 := HBOX.out _ _ hB2 hnB; obtain ⟨y0, y1, y2, y3⟩ := HX2.cZ; have e0 := HX2.f 0; have e1 := HX2.f 1; have e2 := HX2.f 2; have e3 := HX2.f 3))
  all_goals
    first
    | refine letter (P := fun W => SpAt W (w.heap.size + 1) zPl (.slice none 0 0) ∧ Below w.heap.size w W) (HR2.out _ (below_set4 (b := w2.heap.size) hb2 (Nat.le_refl _) (.int .u32 0) (.string ⟨#[]⟩) (.int .u32 0) (.slice none 0 0))) (fun WF HRF => ?_)
    | refine letter (P := fun W => SpAt W (w.heap.size + 1) zPl (.slice none 0 0) ∧ Below w.heap.size w W) (HR2.out _ (below_al hb2 _)) (fun WF HRF => ?_)
    obtain ⟨q0, q1, q2, q3⟩ := HRF.1.cZ
    have g0 := HRF.1.f 0
    have g1 := HRF.1.f 1
    have g2 := HRF.1.f 2
    have g3 := HRF.1.f 3
    have HFIN := Lib.hid (And.intro (HRF.1.putZ).1 (HRF.2.trans ((HRF.1.putZ).2.below (n := w.heap.size) HRF.2.size (by rintro k rfl; omega))))
    clear HRF HBOX HR2 HC2 HA2 HFO hself0 hself hselfA hselfB hnA hnB hb2
    go_wp2
    refine bodyPost_ret (results_sp rfl _ _ rfl HFIN.out.1) rfl ?_
    exact ⟨rfl, HFIN.out.2⟩
end
end Go.Proofs.YtkipkcmcolomcaaGreat.Pln
/- aim: the ways behind the path. -/
namespace Go.Proofs.YtkipkcmcolomcaaGreat.Pln
open Go.RowKit
open Dir (N)
open Pth (Strs)
attribute [local go_sem] Oper.semAt_some
set_option linter.unusedVariables false
set_option linter.unusedSimpArgs false
/-- behind the path: what is found in a box, the answer's box still empty -/
structure AimM (w : World) (op : Int) (q : Pl) (v : Value) (gg : List ByteArray) (b : Nat) (W : World) : Prop where
  z : SpAt W (w.heap.size + 1) zPl (.slice none 0 0)
  s : SpAt W b q v
  o : W.cell? ⟨w.heap.size, 0, none⟩ = some (.int .i64 op)
  bel : Below w.heap.size w W
  row : ∃ B, rowS W B v gg
  nb : ¬ b = w.heap.size + 1
theorem aim_m2 {w w5 : World} {op : Int} {q : Pl} {v g0 : Value} {gg : List ByteArray} {b : Nat} {z : Pl} (h : SpAt w5 b z g0) (hS : ∃ B, rowS w5 B v gg)
    (hr : SpAt ((((w5.setCell ⟨b, 0, none⟩ (.int .u32 q.dir)).setCell ⟨b, 1, none⟩ (.string q.name)).setCell ⟨b, 2, none⟩ (.int .u32 q.ino)).setCell ⟨b, 3, none⟩ v) (w.heap.size + 1) zPl (.slice none 0 0) ∧ Below w.heap.size w ((((w5.setCell ⟨b, 0, none⟩ (.int .u32 q.dir)).setCell ⟨b, 1, none⟩ (.string q.name)).setCell ⟨b, 2, none⟩ (.int .u32 q.ino)).setCell ⟨b, 3, none⟩ v))
    (ho : ((((w5.setCell ⟨b, 0, none⟩ (.int .u32 q.dir)).setCell ⟨b, 1, none⟩ (.string q.name)).setCell ⟨b, 2, none⟩ (.int .u32 q.ino)).setCell ⟨b, 3, none⟩ v).cell? ⟨w.heap.size, 0, none⟩ = some (.int .i64 op)) (hb : ¬ b = w.heap.size + 1) :
    AimM w op q v gg b ((((w5.setCell ⟨b, 0, none⟩ (.int .u32 q.dir)).setCell ⟨b, 1, none⟩ (.string q.name)).setCell ⟨b, 2, none⟩ (.int .u32 q.ino)).setCell ⟨b, 3, none⟩ v) := by
  obtain ⟨B, hB⟩ := hS
  exact ⟨hr.1, (h.put4 q v).1, ho, hr.2, ⟨B, hB.kept (h.put4 q v).2 (hB.not h (by decide))⟩, hb⟩
theorem aim_m1 {w w5 : World} {op : Int} {q : Pl} {v : Value} {gg : List ByteArray} (hS : ∃ B, rowS w5 B v gg)
    (hr : SpAt (w5.alloc (spO q v)) (w.heap.size + 1) zPl (.slice none 0 0) ∧ Below w.heap.size w (w5.alloc (spO q v))) (ho : (w5.alloc (spO q v)).cell? ⟨w.heap.size, 0, none⟩ = some (.int .i64 op)) (hb : ¬ w5.heap.size = w.heap.size + 1) :
    AimM w op q v gg w5.heap.size (w5.alloc (spO q v)) := by
  obtain ⟨B, hB⟩ := hS
  exact ⟨hr.1, SpAt.new w5 q v, ho, hr.2, ⟨B, hB.below (below_new _ _)⟩, hb⟩
theorem aim_out {w W : World} {op : Int} {q : Pl} {v : Value} {gg : List ByteArray} {b : Nat} (h : AimM w op q v gg b W) :
    SpAt ((((W.setCell ⟨w.heap.size + 1, 0, none⟩ (.int .u32 q.dir)).setCell ⟨w.heap.size + 1, 1, none⟩ (.string q.name)).setCell ⟨w.heap.size + 1, 2, none⟩ (.int .u32 q.ino)).setCell ⟨w.heap.size + 1, 3, none⟩ v) (w.heap.size + 1) q v ∧
    (∃ B, rowS ((((W.setCell ⟨w.heap.size + 1, 0, none⟩ (.int .u32 q.dir)).setCell ⟨w.heap.size + 1, 1, none⟩ (.string q.name)).setCell ⟨w.heap.size + 1, 2, none⟩ (.int .u32 q.ino)).setCell ⟨w.heap.size + 1, 3, none⟩ v) B v gg) ∧
    Below w.heap.size w ((((W.setCell ⟨w.heap.size + 1, 0, none⟩ (.int .u32 q.dir)).setCell ⟨w.heap.size + 1, 1, none⟩ (.string q.name)).setCell ⟨w.heap.size + 1, 2, none⟩ (.int .u32 q.ino)).setCell ⟨w.heap.size + 1, 3, none⟩ v) := by
  obtain ⟨B, hB⟩ := h.row
  exact ⟨(h.z.put4 q v).1, ⟨B, hB.kept (h.z.put4 q v).2 (hB.not h.z (by decide))⟩, below_set4 h.bel (by omega) _ _ _ _⟩
section
set_option maxRecDepth 100000
set_option maxHeartbeats 4000000
theorem aim_there {D : List (List N)} (v : Value) (l : List Nd) (c : Cl) (now : Nat) (w : World) (h : Nodes w v l) (k : Able l) (hD : RightD l D) (hR : RightL l) (hn : ¬ 281474976710656 ≤ now) (hf : fitsP c) (hp : c.path.size ≤ 281474976710656) {r : Pl} (hg : goD l D c.path (decide (c.op = 1 ∨ c.op = 3 ∨ c.op = 5 ∨ c.op = 4 ∨ c.op = 13 ∨ c.op = 14 ∨ c.op = 15)) = .ok r) (hm : c.op = 1 ∨ c.op = 2 ∨ c.op = 10) (h0 : ¬ r.ino = 0) :
    Calls Tryz.prog 21 #[v, c.val, .int .u64 now] w (fun e w' => e = .returned (.tuple #[spZV, .int .i64 113]) ∧ Below w.heap.size w w') := by
  have HRG := Lib.hid (fun W (hB : Below w.heap.size w W) => right_any v l W (h.below hB) k)
  unfold Ans at HRG
  rw [decide_eq_true hR] at HRG
  have HZ := Lib.hid (SpAt.newZ (w.alloc (clO c)))
  have HW := Lib.hid (below_al (below_new w (clO c)) spZ)
  have HCL := Lib.hid (fun W (hB : Below (w.alloc (clO c)).heap.size (w.alloc (clO c)) W) => ((ClAt.new w c).th hB).c)
  have HFT := Lib.hid (fun W => fits_any c W)
  have HCA := Lib.hid (ClAt.new w c)
  rw [decide_eq_true hf] at HFT
  have HMK := Lib.hid (fun W => makes_any c.op W)
  rw [decide_eq_true hm] at HMK
  have hne : ((r.ino : Int) != 0) = true := by simpa using h0
  clear hm h0
  have HFO := Lib.hid (fun W => follows_any c.op W)
  obtain ⟨fl, hfl⟩ : ∃ fl, decide (c.op = 1 ∨ c.op = 3 ∨ c.op = 5 ∨ c.op = 4 ∨ c.op = 13 ∨ c.op = 14 ∨ c.op = 15) = fl := ⟨_, rfl⟩
  rw [hfl] at HFO hg
  have HA := Lib.hid (fun W (hB : Below w.heap.size w W) => along_any hD v W (h.below hB) c.path hp fl)
  rw [hg] at HA
  unfold AlgPost at HA
  unfold spV at HA
  unfold spZ clO at HZ HW
  unfold clO at HCL HCA
  unfold Cl.val at HFT ⊢
  obtain ⟨op, path, to_, data, off, n, mode⟩ := c
  obtain ⟨rd, rn, ri⟩ := r
  dsimp only at *
  have hn1 : decide ((281474976710656 : Int) ≤ (now : Int)) = false := by rw [decide_eq_false_iff_not]; omega
  clear hn hf hfl hg hD hR h k hp
  go_enter Tryz.func21, Tryz.ntmps21
  go_wp2_with (first
    | (go_at_call 18; (with_reducible refine Calls.mono (HRG.out _ HW.out) ?_); rintro e w1 ⟨rfl, hB1⟩; have hz := HZ.out.th hB1; rw [World.size_alloc] at hz; have hcl := HCL.out _ (below_th (below_new _ _) hB1); obtain ⟨c0, c1, c2, c3, c4, c5, c6⟩ := hcl; have HZ1 := Lib.hid (And.intro hz (below_th HW.out hB1)); have HK1 := Lib.hid ((HCA.out.th (below_new _ _)).th hB1); clear hz hB1)
    | (go_at_call 42; (with_reducible refine Calls.mono (HFT.out _) ?_); rintro e w2 ⟨rfl, hB2⟩; have hz := HZ1.out.1.th hB2; have HZ2 := Lib.hid (And.intro hz (below_th HZ1.out.2 hB2)); have HK2 := Lib.hid (HK1.out.th hB2); clear hz hB2))
  clear hn1
  have hw2 := HZ2.out.1.lt
  have hself0 : Below w2.heap.size w2 w2 := Below.refl _ w2
  have hself : Below w2.heap.size w2 w2.drew := hself0.drew
  have hselfA : Below w2.heap.size w2 (w2.alloc spZ).drew := (below_new w2 spZ).drew
  have hselfB : Below w2.heap.size w2 (w2.drew.alloc spZ) := below_al hself spZ
  have HA2 := Lib.hid (fun W (hB : Below w2.heap.size w2 W) => HA.out W (below_th HZ2.out.2 hB))
  have HR2 := Lib.hid (fun W (hB : Below w2.heap.size w2 W) => And.intro (HZ2.out.1.th hB) (below_th HZ2.out.2 hB))
  unfold spZ at hselfA hselfB
  have HBOX : Hid (∀ W W2, Below W.heap.size W W2 → W.heap[w2.heap.size]? = some (.cells #[.int .u32 0, .string ⟨#[]⟩, .int .u32 0, .slice none 0 0] 57 (0, 0)) → SpAt W2 w2.heap.size zPl (.slice none 0 0)) := fun W W2 h1 h2 => SpAt.th (show SpAt W w2.heap.size zPl (.slice none 0 0) from h2) h1
  have hnA : ((w2.alloc (.cells #[.int .u32 0, .string ⟨#[]⟩, .int .u32 0, .slice none 0 0] 57)).drew).heap[w2.heap.size]? = some (.cells #[.int .u32 0, .string ⟨#[]⟩, .int .u32 0, .slice none 0 0] 57 (0, 0)) := World.alloc_heap_new w2 _
  have hnB : ((w2.drew).alloc (.cells #[.int .u32 0, .string ⟨#[]⟩, .int .u32 0, .slice none 0 0] 57)).heap[w2.heap.size]? = some (.cells #[.int .u32 0, .string ⟨#[]⟩, .int .u32 0, .slice none 0 0] 57 (0, 0)) := World.alloc_heap_new w2.drew _
  have HC2 := Lib.hid (fun W (hW : Below w2.heap.size w2 W) => (HK2.out.th hW).c)
  clear HRG HZ HW HCL HCA HFT HZ1 HZ2 HA HK1 HK2
  dsimp only at HC2

  have HC3 : Hid (∀ W, Below w2.heap.size w2 W → W.cell? ⟨w.heap.size, 0, none⟩ = some (.int .i64 op) ∧ W.cell? ⟨w.heap.size, 1, none⟩ = some (.string path)) := fun W hW => ⟨(HC2.out W hW).1, (HC2.out W hW).2.1⟩
  go_region_held3 (fun w' => w'.cell? ⟨w.heap.size, 0, none⟩ = some (.int .i64 op) ∧ w'.cell? ⟨w.heap.size, 1, none⟩ = some (.string path)) (with_reducible first | exact HC3.out _ hself | exact HC3.out _ hselfA | exact HC3.out _ hselfB | exact HC3.out _ hb2 | exact HC3.out _ (below_al hb2 _) | exact HC3.out _ (below_set4 hb2 (Nat.le_refl _) _ _ _ _)) (first
    | (go_at_call 44; (with_reducible refine Calls.mono (HFO.out _) ?_); rintro e w3 ⟨rfl, rfl⟩)
    | (go_at_call 43; (with_reducible refine Calls.mono (HA2.out _ hself) ?_); rintro e w5 ⟨a5, cp5, gg, rfl, hS5, hG5, hB2⟩; have hb2 := below_th hself hB2)
    | (go_at_call 43; (with_reducible refine Calls.mono (HA2.out _ hselfA) ?_); rintro e w5 ⟨a5, cp5, gg, rfl, hS5, hG5, hB2⟩; have hb2 := below_th hselfA hB2; have HX2 := HBOX.out _ _ hB2 hnA; obtain ⟨y0, y1, y2, y3⟩ := HX2.cZ; have e0 := HX2.f 0; have e1 := HX2.f 1; have e2 := HX2.f 2; have e3 := HX2.f 3)
    | (go_at_call 43; (with_reducible refine Calls.mono (HA2.out _ hselfB) ?_); rintro e w5 ⟨a5, cp5, gg, rfl, hS5, hG5, hB2⟩; have hb2 := below_th hselfB hB2; have HX2 := HBOX.out _ _ hB2 hnB; obtain ⟨y0, y1, y2, y3⟩ := HX2.cZ; have e0 := HX2.f 0; have e1 := HX2.f 1; have e2 := HX2.f 2; have e3 := HX2.f 3))
  all_goals
    first
    | refine letter (P := AimM w op ⟨rd, rn, ri⟩ (.slice a5 gg.length cp5) gg w2.heap.size) (aim_m2 HX2 hS5 (HR2.out _ (below_set4 (b := w2.heap.size) hb2 (Nat.le_refl _) (.int .u32 rd) (.string rn) (.int .u32 ri) (.slice a5 gg.length cp5))) (HC3.out _ (below_set4 (b := w2.heap.size) hb2 (Nat.le_refl _) (.int .u32 rd) (.string rn) (.int .u32 ri) (.slice a5 gg.length cp5))).1 (by omega)) (fun WF HRF => ?_)
    | refine letter (P := AimM w op ⟨rd, rn, ri⟩ (.slice a5 gg.length cp5) gg w5.heap.size) (aim_m1 hS5 (HR2.out _ (below_al hb2 (spO ⟨rd, rn, ri⟩ (.slice a5 gg.length cp5)))) (HC3.out _ (below_al hb2 (spO ⟨rd, rn, ri⟩ (.slice a5 gg.length cp5)))).1 (by have := hb2.size; omega)) (fun WF HRF => ?_)
  all_goals
    obtain ⟨q0, q1, q2, q3⟩ := HRF.z.cZ
    have g0 := HRF.z.f 0
    have g1 := HRF.z.f 1
    have g2 := HRF.z.f 2
    have g3 := HRF.z.f 3
    obtain ⟨b0, b1, b2, b3⟩ := HRF.s.c
    have o0 := HRF.o
    dsimp only at b0 b1 b2 b3
    have HM := Lib.hid HRF
    have HG5 := Lib.hid hG5
    clear HRF HBOX HR2 HC2 HC3 HA2 HFO hself0 hself hselfA hselfB hnA hnB hb2 hS5 hG5
    have HFIN := Lib.hid (And.intro (HM.out.z.putZ).1 (HM.out.bel.trans ((HM.out.z.putZ).2.below (n := w.heap.size) HM.out.bel.size (by rintro k rfl; omega))))
    go_wp2_with (go_at_call 45; (with_reducible refine Calls.mono (HMK.out _) ?_); rintro e w7 ⟨rfl, rfl⟩)
    trace_state
    refine bodyPost_ret (results_sp rfl _ _ rfl HFIN.out.1) rfl ?_
    exact ⟨rfl, HFIN.out.2⟩
theorem aim_none {D : List (List N)} (v : Value) (l : List Nd) (c : Cl) (now : Nat) (w : World) (h : Nodes w v l) (k : Able l) (hD : RightD l D) (hR : RightL l) (hn : ¬ 281474976710656 ≤ now) (hf : fitsP c) (hp : c.path.size ≤ 281474976710656) {r : Pl} (hg : goD l D c.path (decide (c.op = 1 ∨ c.op = 3 ∨ c.op = 5 ∨ c.op = 4 ∨ c.op = 13 ∨ c.op = 14 ∨ c.op = 15)) = .ok r) (hm : ¬ (c.op = 1 ∨ c.op = 2 ∨ c.op = 10)) (h0 : r.ino = 0) :
    Calls Tryz.prog 21 #[v, c.val, .int .u64 now] w (fun e w' => e = .returned (.tuple #[spZV, .int .i64 112]) ∧ Below w.heap.size w w') := by
  have HRG := Lib.hid (fun W (hB : Below w.heap.size w W) => right_any v l W (h.below hB) k)
  unfold Ans at HRG
  rw [decide_eq_true hR] at HRG
  have HZ := Lib.hid (SpAt.newZ (w.alloc (clO c)))
  have HW := Lib.hid (below_al (below_new w (clO c)) spZ)
  have HCL := Lib.hid (fun W (hB : Below (w.alloc (clO c)).heap.size (w.alloc (clO c)) W) => ((ClAt.new w c).th hB).c)
  have HFT := Lib.hid (fun W => fits_any c W)
  have HCA := Lib.hid (ClAt.new w c)
  rw [decide_eq_true hf] at HFT
  have HMK := Lib.hid (fun W => makes_any c.op W)
  rw [decide_eq_false hm] at HMK
  have hne : ((r.ino : Int) == 0) = true := by simp [h0]
  clear hm h0
  have HFO := Lib.hid (fun W => follows_any c.op W)
  obtain ⟨fl, hfl⟩ : ∃ fl, decide (c.op = 1 ∨ c.op = 3 ∨ c.op = 5 ∨ c.op = 4 ∨ c.op = 13 ∨ c.op = 14 ∨ c.op = 15) = fl := ⟨_, rfl⟩
  rw [hfl] at HFO hg
  have HA := Lib.hid (fun W (hB : Below w.heap.size w W) => along_any hD v W (h.below hB) c.path hp fl)
  rw [hg] at HA
  unfold AlgPost at HA
  unfold spV at HA
  unfold spZ clO at HZ HW
  unfold clO at HCL HCA
  unfold Cl.val at HFT ⊢
  obtain ⟨op, path, to_, data, off, n, mode⟩ := c
  obtain ⟨rd, rn, ri⟩ := r
  dsimp only at *
  have hn1 : decide ((281474976710656 : Int) ≤ (now : Int)) = false := by rw [decide_eq_false_iff_not]; omega
  clear hn hf hfl hg hD hR h k hp
  go_enter Tryz.func21, Tryz.ntmps21
  go_wp2_with (first
    | (go_at_call 18; (with_reducible refine Calls.mono (HRG.out _ HW.out) ?_); rintro e w1 ⟨rfl, hB1⟩; have hz := HZ.out.th hB1; rw [World.size_alloc] at hz; have hcl := HCL.out _ (below_th (below_new _ _) hB1); obtain ⟨c0, c1, c2, c3, c4, c5, c6⟩ := hcl; have HZ1 := Lib.hid (And.intro hz (below_th HW.out hB1)); have HK1 := Lib.hid ((HCA.out.th (below_new _ _)).th hB1); clear hz hB1)
    | (go_at_call 42; (with_reducible refine Calls.mono (HFT.out _) ?_); rintro e w2 ⟨rfl, hB2⟩; have hz := HZ1.out.1.th hB2; have HZ2 := Lib.hid (And.intro hz (below_th HZ1.out.2 hB2)); have HK2 := Lib.hid (HK1.out.th hB2); clear hz hB2))
  clear hn1
  have hw2 := HZ2.out.1.lt
  have hself0 : Below w2.heap.size w2 w2 := Below.refl _ w2
  have hself : Below w2.heap.size w2 w2.drew := hself0.drew
  have hselfA : Below w2.heap.size w2 (w2.alloc spZ).drew := (below_new w2 spZ).drew
  have hselfB : Below w2.heap.size w2 (w2.drew.alloc spZ) := below_al hself spZ
  have HA2 := Lib.hid (fun W (hB : Below w2.heap.size w2 W) => HA.out W (below_th HZ2.out.2 hB))
  have HR2 := Lib.hid (fun W (hB : Below w2.heap.size w2 W) => And.intro (HZ2.out.1.th hB) (below_th HZ2.out.2 hB))
  unfold spZ at hselfA hselfB
  have HBOX : Hid (∀ W W2, Below W.heap.size W W2 → W.heap[w2.heap.size]? = some (.cells #[.int .u32 0, .string ⟨#[]⟩, .int .u32 0, .slice none 0 0] 57 (0, 0)) → SpAt W2 w2.heap.size zPl (.slice none 0 0)) := fun W W2 h1 h2 => SpAt.th (show SpAt W w2.heap.size zPl (.slice none 0 0) from h2) h1
  have hnA : ((w2.alloc (.cells #[.int .u32 0, .string ⟨#[]⟩, .int .u32 0, .slice none 0 0] 57)).drew).heap[w2.heap.size]? = some (.cells #[.int .u32 0, .string ⟨#[]⟩, .int .u32 0, .slice none 0 0] 57 (0, 0)) := World.alloc_heap_new w2 _
  have hnB : ((w2.drew).alloc (.cells #[.int .u32 0, .string ⟨#[]⟩, .int .u32 0, .slice none 0 0] 57)).heap[w2.heap.size]? = some (.cells #[.int .u32 0, .string ⟨#[]⟩, .int .u32 0, .slice none 0 0] 57 (0, 0)) := World.alloc_heap_new w2.drew _
  have HC2 := Lib.hid (fun W (hW : Below w2.heap.size w2 W) => (HK2.out.th hW).c)
  clear HRG HZ HW HCL HCA HFT HZ1 HZ2 HA HK1 HK2
  dsimp only at HC2

  have HC3 : Hid (∀ W, Below w2.heap.size w2 W → W.cell? ⟨w.heap.size, 0, none⟩ = some (.int .i64 op) ∧ W.cell? ⟨w.heap.size, 1, none⟩ = some (.string path)) := fun W hW => ⟨(HC2.out W hW).1, (HC2.out W hW).2.1⟩
  go_region_held3 (fun w' => w'.cell? ⟨w.heap.size, 0, none⟩ = some (.int .i64 op) ∧ w'.cell? ⟨w.heap.size, 1, none⟩ = some (.string path)) (with_reducible first | exact HC3.out _ hself | exact HC3.out _ hselfA | exact HC3.out _ hselfB | exact HC3.out _ hb2 | exact HC3.out _ (below_al hb2 _) | exact HC3.out _ (below_set4 hb2 (Nat.le_refl _) _ _ _ _)) (first
    | (go_at_call 44; (with_reducible refine Calls.mono (HFO.out _) ?_); rintro e w3 ⟨rfl, rfl⟩)
    | (go_at_call 43; (with_reducible refine Calls.mono (HA2.out _ hself) ?_); rintro e w5 ⟨a5, cp5, gg, rfl, hS5, hG5, hB2⟩; have hb2 := below_th hself hB2)
    | (go_at_call 43; (with_reducible refine Calls.mono (HA2.out _ hselfA) ?_); rintro e w5 ⟨a5, cp5, gg, rfl, hS5, hG5, hB2⟩; have hb2 := below_th hselfA hB2; have HX2 := HBOX.out _ _ hB2 hnA; obtain ⟨y0, y1, y2, y3⟩ := HX2.cZ; have e0 := HX2.f 0; have e1 := HX2.f 1; have e2 := HX2.f 2; have e3 := HX2.f 3)
    | (go_at_call 43; (with_reducible refine Calls.mono (HA2.out _ hselfB) ?_); rintro e w5 ⟨a5, cp5, gg, rfl, hS5, hG5, hB2⟩; have hb2 := below_th hselfB hB2; have HX2 := HBOX.out _ _ hB2 hnB; obtain ⟨y0, y1, y2, y3⟩ := HX2.cZ; have e0 := HX2.f 0; have e1 := HX2.f 1; have e2 := HX2.f 2; have e3 := HX2.f 3))
  all_goals
    first
    | refine letter (P := AimM w op ⟨rd, rn, ri⟩ (.slice a5 gg.length cp5) gg w2.heap.size) (aim_m2 HX2 hS5 (HR2.out _ (below_set4 (b := w2.heap.size) hb2 (Nat.le_refl _) (.int .u32 rd) (.string rn) (.int .u32 ri) (.slice a5 gg.length cp5))) (HC3.out _ (below_set4 (b := w2.heap.size) hb2 (Nat.le_refl _) (.int .u32 rd) (.string rn) (.int .u32 ri) (.slice a5 gg.length cp5))).1 (by omega)) (fun WF HRF => ?_)
    | refine letter (P := AimM w op ⟨rd, rn, ri⟩ (.slice a5 gg.length cp5) gg w5.heap.size) (aim_m1 hS5 (HR2.out _ (below_al hb2 (spO ⟨rd, rn, ri⟩ (.slice a5 gg.length cp5)))) (HC3.out _ (below_al hb2 (spO ⟨rd, rn, ri⟩ (.slice a5 gg.length cp5)))).1 (by have := hb2.size; omega)) (fun WF HRF => ?_)
  all_goals
    obtain ⟨q0, q1, q2, q3⟩ := HRF.z.cZ
    have g0 := HRF.z.f 0
    have g1 := HRF.z.f 1
    have g2 := HRF.z.f 2
    have g3 := HRF.z.f 3
    obtain ⟨b0, b1, b2, b3⟩ := HRF.s.c
    have o0 := HRF.o
    dsimp only at b0 b1 b2 b3
    have HM := Lib.hid HRF
    have HG5 := Lib.hid hG5
    clear HRF HBOX HR2 HC2 HC3 HA2 HFO hself0 hself hselfA hselfB hnA hnB hb2 hS5 hG5
    have HFIN := Lib.hid (And.intro (HM.out.z.putZ).1 (HM.out.bel.trans ((HM.out.z.putZ).2.below (n := w.heap.size) HM.out.bel.size (by rintro k rfl; omega))))
    go_wp2_with (go_at_call 45; (with_reducible refine Calls.mono (HMK.out _) ?_); rintro e w7 ⟨rfl, rfl⟩)
    trace_state
    refine bodyPost_ret (results_sp rfl _ _ rfl HFIN.out.1) rfl ?_
    exact ⟨rfl, HFIN.out.2⟩
theorem aim_make {D : List (List N)} (v : Value) (l : List Nd) (c : Cl) (now : Nat) (w : World) (h : Nodes w v l) (k : Able l) (hD : RightD l D) (hR : RightL l) (hn : ¬ 281474976710656 ≤ now) (hf : fitsP c) (hp : c.path.size ≤ 281474976710656) {r : Pl} (hg : goD l D c.path (decide (c.op = 1 ∨ c.op = 3 ∨ c.op = 5 ∨ c.op = 4 ∨ c.op = 13 ∨ c.op = 14 ∨ c.op = 15)) = .ok r) (hm : c.op = 1 ∨ c.op = 2 ∨ c.op = 10) (h0 : r.ino = 0) :
    Calls Tryz.prog 21 #[v, c.val, .int .u64 now] w (fun e w' => ∃ a cap gg, e = .returned (.tuple #[spV r (.slice a gg.length cap), .int .i64 0]) ∧ (∃ B, rowS w' B (.slice a gg.length cap) gg) ∧ Gone D gg r ∧ Below w.heap.size w w') := by
  have HRG := Lib.hid (fun W (hB : Below w.heap.size w W) => right_any v l W (h.below hB) k)
  unfold Ans at HRG
  rw [decide_eq_true hR] at HRG
  have HZ := Lib.hid (SpAt.newZ (w.alloc (clO c)))
  have HW := Lib.hid (below_al (below_new w (clO c)) spZ)
  have HCL := Lib.hid (fun W (hB : Below (w.alloc (clO c)).heap.size (w.alloc (clO c)) W) => ((ClAt.new w c).th hB).c)
  have HFT := Lib.hid (fun W => fits_any c W)
  have HCA := Lib.hid (ClAt.new w c)
  rw [decide_eq_true hf] at HFT
  have HMK := Lib.hid (fun W => makes_any c.op W)
  rw [decide_eq_true hm] at HMK
  have hne : ((r.ino : Int) != 0) = false := by simp [h0]
  clear hm h0
  have HFO := Lib.hid (fun W => follows_any c.op W)
  obtain ⟨fl, hfl⟩ : ∃ fl, decide (c.op = 1 ∨ c.op = 3 ∨ c.op = 5 ∨ c.op = 4 ∨ c.op = 13 ∨ c.op = 14 ∨ c.op = 15) = fl := ⟨_, rfl⟩
  rw [hfl] at HFO hg
  have HA := Lib.hid (fun W (hB : Below w.heap.size w W) => along_any hD v W (h.below hB) c.path hp fl)
  rw [hg] at HA
  unfold AlgPost at HA
  unfold spV at HA
  unfold spZ clO at HZ HW
  unfold clO at HCL HCA
  unfold Cl.val at HFT ⊢
  obtain ⟨op, path, to_, data, off, n, mode⟩ := c
  obtain ⟨rd, rn, ri⟩ := r
  dsimp only at *
  have hn1 : decide ((281474976710656 : Int) ≤ (now : Int)) = false := by rw [decide_eq_false_iff_not]; omega
  clear hn hf hfl hg hD hR h k hp
  go_enter Tryz.func21, Tryz.ntmps21
  go_wp2_with (first
    | (go_at_call 18; (with_reducible refine Calls.mono (HRG.out _ HW.out) ?_); rintro e w1 ⟨rfl, hB1⟩; have hz := HZ.out.th hB1; rw [World.size_alloc] at hz; have hcl := HCL.out _ (below_th (below_new _ _) hB1); obtain ⟨c0, c1, c2, c3, c4, c5, c6⟩ := hcl; have HZ1 := Lib.hid (And.intro hz (below_th HW.out hB1)); have HK1 := Lib.hid ((HCA.out.th (below_new _ _)).th hB1); clear hz hB1)
    | (go_at_call 42; (with_reducible refine Calls.mono (HFT.out _) ?_); rintro e w2 ⟨rfl, hB2⟩; have hz := HZ1.out.1.th hB2; have HZ2 := Lib.hid (And.intro hz (below_th HZ1.out.2 hB2)); have HK2 := Lib.hid (HK1.out.th hB2); clear hz hB2))
  clear hn1
  have hw2 := HZ2.out.1.lt
  have hself0 : Below w2.heap.size w2 w2 := Below.refl _ w2
  have hself : Below w2.heap.size w2 w2.drew := hself0.drew
  have hselfA : Below w2.heap.size w2 (w2.alloc spZ).drew := (below_new w2 spZ).drew
  have hselfB : Below w2.heap.size w2 (w2.drew.alloc spZ) := below_al hself spZ
  have HA2 := Lib.hid (fun W (hB : Below w2.heap.size w2 W) => HA.out W (below_th HZ2.out.2 hB))
  have HR2 := Lib.hid (fun W (hB : Below w2.heap.size w2 W) => And.intro (HZ2.out.1.th hB) (below_th HZ2.out.2 hB))
  unfold spZ at hselfA hselfB
  have HBOX : Hid (∀ W W2, Below W.heap.size W W2 → W.heap[w2.heap.size]? = some (.cells #[.int .u32 0, .string ⟨#[]⟩, .int .u32 0, .slice none 0 0] 57 (0, 0)) → SpAt W2 w2.heap.size zPl (.slice none 0 0)) := fun W W2 h1 h2 => SpAt.th (show SpAt W w2.heap.size zPl (.slice none 0 0) from h2) h1
  have hnA : ((w2.alloc (.cells #[.int .u32 0, .string ⟨#[]⟩, .int .u32 0, .slice none 0 0] 57)).drew).heap[w2.heap.size]? = some (.cells #[.int .u32 0, .string ⟨#[]⟩, .int .u32 0, .slice none 0 0] 57 (0, 0)) := World.alloc_heap_new w2 _
  have hnB : ((w2.drew).alloc (.cells #[.int .u32 0, .string ⟨#[]⟩, .int .u32 0, .slice none 0 0] 57)).heap[w2.heap.size]? = some (.cells #[.int .u32 0, .string ⟨#[]⟩, .int .u32 0, .slice none 0 0] 57 (0, 0)) := World.alloc_heap_new w2.drew _
  have HC2 := Lib.hid (fun W (hW : Below w2.heap.size w2 W) => (HK2.out.th hW).c)
  clear HRG HZ HW HCL HCA HFT HZ1 HZ2 HA HK1 HK2
  dsimp only at HC2

  have HC3 : Hid (∀ W, Below w2.heap.size w2 W → W.cell? ⟨w.heap.size, 0, none⟩ = some (.int .i64 op) ∧ W.cell? ⟨w.heap.size, 1, none⟩ = some (.string path)) := fun W hW => ⟨(HC2.out W hW).1, (HC2.out W hW).2.1⟩
  go_region_held3 (fun w' => w'.cell? ⟨w.heap.size, 0, none⟩ = some (.int .i64 op) ∧ w'.cell? ⟨w.heap.size, 1, none⟩ = some (.string path)) (with_reducible first | exact HC3.out _ hself | exact HC3.out _ hselfA | exact HC3.out _ hselfB | exact HC3.out _ hb2 | exact HC3.out _ (below_al hb2 _) | exact HC3.out _ (below_set4 hb2 (Nat.le_refl _) _ _ _ _)) (first
    | (go_at_call 44; (with_reducible refine Calls.mono (HFO.out _) ?_); rintro e w3 ⟨rfl, rfl⟩)
    | (go_at_call 43; (with_reducible refine Calls.mono (HA2.out _ hself) ?_); rintro e w5 ⟨a5, cp5, gg, rfl, hS5, hG5, hB2⟩; have hb2 := below_th hself hB2)
    | (go_at_call 43; (with_reducible refine Calls.mono (HA2.out _ hselfA) ?_); rintro e w5 ⟨a5, cp5, gg, rfl, hS5, hG5, hB2⟩; have hb2 := below_th hselfA hB2; have HX2 := HBOX.out _ _ hB2 hnA; obtain ⟨y0, y1, y2, y3⟩ := HX2.cZ; have e0 := HX2.f 0; have e1 := HX2.f 1; have e2 := HX2.f 2; have e3 := HX2.f 3)
    | (go_at_call 43; (with_reducible refine Calls.mono (HA2.out _ hselfB) ?_); rintro e w5 ⟨a5, cp5, gg, rfl, hS5, hG5, hB2⟩; have hb2 := below_th hselfB hB2; have HX2 := HBOX.out _ _ hB2 hnB; obtain ⟨y0, y1, y2, y3⟩ := HX2.cZ; have e0 := HX2.f 0; have e1 := HX2.f 1; have e2 := HX2.f 2; have e3 := HX2.f 3))
  all_goals
    first
    | refine letter (P := AimM w op ⟨rd, rn, ri⟩ (.slice a5 gg.length cp5) gg w2.heap.size) (aim_m2 HX2 hS5 (HR2.out _ (below_set4 (b := w2.heap.size) hb2 (Nat.le_refl _) (.int .u32 rd) (.string rn) (.int .u32 ri) (.slice a5 gg.length cp5))) (HC3.out _ (below_set4 (b := w2.heap.size) hb2 (Nat.le_refl _) (.int .u32 rd) (.string rn) (.int .u32 ri) (.slice a5 gg.length cp5))).1 (by omega)) (fun WF HRF => ?_)
    | refine letter (P := AimM w op ⟨rd, rn, ri⟩ (.slice a5 gg.length cp5) gg w5.heap.size) (aim_m1 hS5 (HR2.out _ (below_al hb2 (spO ⟨rd, rn, ri⟩ (.slice a5 gg.length cp5)))) (HC3.out _ (below_al hb2 (spO ⟨rd, rn, ri⟩ (.slice a5 gg.length cp5)))).1 (by have := hb2.size; omega)) (fun WF HRF => ?_)
  all_goals
    obtain ⟨q0, q1, q2, q3⟩ := HRF.z.cZ
    have g0 := HRF.z.f 0
    have g1 := HRF.z.f 1
    have g2 := HRF.z.f 2
    have g3 := HRF.z.f 3
    obtain ⟨b0, b1, b2, b3⟩ := HRF.s.c
    have o0 := HRF.o
    dsimp only at b0 b1 b2 b3
    have HM := Lib.hid HRF
    have HG5 := Lib.hid hG5
    clear HRF HBOX HR2 HC2 HC3 HA2 HFO hself0 hself hselfA hselfB hnA hnB hb2 hS5 hG5
    have HFIN : Hid (_ ∧ _) := Lib.hid (aim_out HM.out)
    go_wp2_with (go_at_call 45; (with_reducible refine Calls.mono (HMK.out _) ?_); rintro e w7 ⟨rfl, rfl⟩)
    trace_state
    refine bodyPost_ret (results_sp rfl _ _ rfl HFIN.out.1) rfl ?_
    exact ⟨a5, cp5, gg, rfl, HFIN.out.2.1, HG5.out, HFIN.out.2.2⟩
end
end Go.Proofs.YtkipkcmcolomcaaGreat.Pln
/- aim: a file that is there, and the error of a call that asks for another kind. -/
namespace Go.Proofs.YtkipkcmcolomcaaGreat.Pln
open Go.RowKit
open Dir (N)
open Pth (Strs)
attribute [local go_sem] Oper.semAt_some
set_option linter.unusedVariables false
set_option linter.unusedSimpArgs false
section
set_option maxRecDepth 100000
set_option maxHeartbeats 4000000
theorem aim_suits {D : List (List N)} (v : Value) (l : List Nd) (c : Cl) (now : Nat) (w : World) (h : Nodes w v l) (k : Able l) (hD : RightD l D) (hR : RightL l) (hn : ¬ 281474976710656 ≤ now) (hf : fitsP c) (hp : c.path.size ≤ 281474976710656) {r : Pl} (hg : goD l D c.path (decide (c.op = 1 ∨ c.op = 3 ∨ c.op = 5 ∨ c.op = 4 ∨ c.op = 13 ∨ c.op = 14 ∨ c.op = 15)) = .ok r) (hm : ¬ (c.op = 1 ∨ c.op = 2 ∨ c.op = 10)) (h0 : ¬ r.ino = 0) (hrl : r.ino < l.length) :
    Calls Tryz.prog 21 #[v, c.val, .int .u64 now] w (fun e w' => ∃ a cap gg, e = .returned (.tuple #[spV r (.slice a gg.length cap), .int .i64 (suitsE c.op (nd l r.ino).kind)]) ∧ (∃ B, rowS w' B (.slice a gg.length cap) gg) ∧ Gone D gg r ∧ Below w.heap.size w w') := by
  have HRG := Lib.hid (fun W (hB : Below w.heap.size w W) => right_any v l W (h.below hB) k)
  unfold Ans at HRG
  rw [decide_eq_true hR] at HRG
  have HZ := Lib.hid (SpAt.newZ (w.alloc (clO c)))
  have HW := Lib.hid (below_al (below_new w (clO c)) spZ)
  have HCL := Lib.hid (fun W (hB : Below (w.alloc (clO c)).heap.size (w.alloc (clO c)) W) => ((ClAt.new w c).th hB).c)
  have HFT := Lib.hid (fun W => fits_any c W)
  have HCA := Lib.hid (ClAt.new w c)
  rw [decide_eq_true hf] at HFT
  have HMK := Lib.hid (fun W => makes_any c.op W)
  rw [decide_eq_false hm] at HMK
  have hne : ((r.ino : Int) == 0) = false := by simp; omega
  obtain ⟨nb, noff, ncap, hv, _⟩ := h.at hrl
  have hcap := h.parts
  obtain ⟨_, _, hce, hc1, hc2⟩ := hcap
  rw [hv] at hce
  injection hce with hce1 _ hce
  subst hce1
  subst hce
  have hlh := hD.high
  have hN2 : ∀ W, Below w.heap.size w W → Nodes W (.slice (some ⟨nb, noff, none⟩) l.length ncap) l := fun W hB => by rw [← hv]; exact h.below hB
  have HND := Lib.hid (fun W (hB : Below w.heap.size w W) => ((hN2 W hB).get rfl hrl).1)
  clear hN2
  have HSU := Lib.hid (fun W => suits_any c.op (nd l r.ino).kind W)
  have hnb : nb < w.heap.size := Nodes.lt (L := l) (by rw [← hv]; exact h) (by omega)
  generalize suitsE c.op (nd l r.ino).kind = se at *
  generalize (nd l r.ino).kind = KK at *
  clear hm h0
  have HFO := Lib.hid (fun W => follows_any c.op W)
  obtain ⟨fl, hfl⟩ : ∃ fl, decide (c.op = 1 ∨ c.op = 3 ∨ c.op = 5 ∨ c.op = 4 ∨ c.op = 13 ∨ c.op = 14 ∨ c.op = 15) = fl := ⟨_, rfl⟩
  rw [hfl] at HFO hg
  have HA := Lib.hid (fun W (hB : Below w.heap.size w W) => along_any hD v W (h.below hB) c.path hp fl)
  rw [hg] at HA
  unfold AlgPost at HA
  unfold spV at HA
  unfold spZ clO at HZ HW
  unfold clO at HCL HCA
  unfold Cl.val at HFT ⊢
  obtain ⟨op, path, to_, data, off, n, mode⟩ := c
  obtain ⟨rd, rn, ri⟩ := r
  dsimp only at *
  have hn1 : decide ((281474976710656 : Int) ≤ (now : Int)) = false := by rw [decide_eq_false_iff_not]; omega
  clear hn hf hfl hg hD hR h k hp
  subst hv
  go_enter Tryz.func21, Tryz.ntmps21
  go_wp2_with (first
    | (go_at_call 18; (with_reducible refine Calls.mono (HRG.out _ HW.out) ?_); rintro e w1 ⟨rfl, hB1⟩; have hz := HZ.out.th hB1; rw [World.size_alloc] at hz; have hcl := HCL.out _ (below_th (below_new _ _) hB1); obtain ⟨c0, c1, c2, c3, c4, c5, c6⟩ := hcl; have HZ1 := Lib.hid (And.intro hz (below_th HW.out hB1)); have HK1 := Lib.hid ((HCA.out.th (below_new _ _)).th hB1); clear hz hB1)
    | (go_at_call 42; (with_reducible refine Calls.mono (HFT.out _) ?_); rintro e w2 ⟨rfl, hB2⟩; have hz := HZ1.out.1.th hB2; have HZ2 := Lib.hid (And.intro hz (below_th HZ1.out.2 hB2)); have HK2 := Lib.hid (HK1.out.th hB2); clear hz hB2))
  clear hn1
  have hw2 := HZ2.out.1.lt
  have hself0 : Below w2.heap.size w2 w2 := Below.refl _ w2
  have hself : Below w2.heap.size w2 w2.drew := hself0.drew
  have hselfA : Below w2.heap.size w2 (w2.alloc spZ).drew := (below_new w2 spZ).drew
  have hselfB : Below w2.heap.size w2 (w2.drew.alloc spZ) := below_al hself spZ
  have HA2 := Lib.hid (fun W (hB : Below w2.heap.size w2 W) => HA.out W (below_th HZ2.out.2 hB))
  have HR2 := Lib.hid (fun W (hB : Below w2.heap.size w2 W) => And.intro (HZ2.out.1.th hB) (below_th HZ2.out.2 hB))
  unfold spZ at hselfA hselfB
  have HBOX : Hid (∀ W W2, Below W.heap.size W W2 → W.heap[w2.heap.size]? = some (.cells #[.int .u32 0, .string ⟨#[]⟩, .int .u32 0, .slice none 0 0] 57 (0, 0)) → SpAt W2 w2.heap.size zPl (.slice none 0 0)) := fun W W2 h1 h2 => SpAt.th (show SpAt W w2.heap.size zPl (.slice none 0 0) from h2) h1
  have hnA : ((w2.alloc (.cells #[.int .u32 0, .string ⟨#[]⟩, .int .u32 0, .slice none 0 0] 57)).drew).heap[w2.heap.size]? = some (.cells #[.int .u32 0, .string ⟨#[]⟩, .int .u32 0, .slice none 0 0] 57 (0, 0)) := World.alloc_heap_new w2 _
  have hnB : ((w2.drew).alloc (.cells #[.int .u32 0, .string ⟨#[]⟩, .int .u32 0, .slice none 0 0] 57)).heap[w2.heap.size]? = some (.cells #[.int .u32 0, .string ⟨#[]⟩, .int .u32 0, .slice none 0 0] 57 (0, 0)) := World.alloc_heap_new w2.drew _
  have HC2 := Lib.hid (fun W (hW : Below w2.heap.size w2 W) => (HK2.out.th hW).c)
  clear HRG HZ HW HCL HCA HFT HZ1 HZ2 HA HK1 HK2
  dsimp only at HC2

  have HC3 : Hid (∀ W, Below w2.heap.size w2 W → W.cell? ⟨w.heap.size, 0, none⟩ = some (.int .i64 op) ∧ W.cell? ⟨w.heap.size, 1, none⟩ = some (.string path)) := fun W hW => ⟨(HC2.out W hW).1, (HC2.out W hW).2.1⟩
  go_region_held3 (fun w' => w'.cell? ⟨w.heap.size, 0, none⟩ = some (.int .i64 op) ∧ w'.cell? ⟨w.heap.size, 1, none⟩ = some (.string path)) (with_reducible first | exact HC3.out _ hself | exact HC3.out _ hselfA | exact HC3.out _ hselfB | exact HC3.out _ hb2 | exact HC3.out _ (below_al hb2 _) | exact HC3.out _ (below_set4 hb2 (Nat.le_refl _) _ _ _ _)) (first
    | (go_at_call 44; (with_reducible refine Calls.mono (HFO.out _) ?_); rintro e w3 ⟨rfl, rfl⟩)
    | (go_at_call 43; (with_reducible refine Calls.mono (HA2.out _ hself) ?_); rintro e w5 ⟨a5, cp5, gg, rfl, hS5, hG5, hB2⟩; have hb2 := below_th hself hB2)
    | (go_at_call 43; (with_reducible refine Calls.mono (HA2.out _ hselfA) ?_); rintro e w5 ⟨a5, cp5, gg, rfl, hS5, hG5, hB2⟩; have hb2 := below_th hselfA hB2; have HX2 := HBOX.out _ _ hB2 hnA; obtain ⟨y0, y1, y2, y3⟩ := HX2.cZ; have e0 := HX2.f 0; have e1 := HX2.f 1; have e2 := HX2.f 2; have e3 := HX2.f 3)
    | (go_at_call 43; (with_reducible refine Calls.mono (HA2.out _ hselfB) ?_); rintro e w5 ⟨a5, cp5, gg, rfl, hS5, hG5, hB2⟩; have hb2 := below_th hselfB hB2; have HX2 := HBOX.out _ _ hB2 hnB; obtain ⟨y0, y1, y2, y3⟩ := HX2.cZ; have e0 := HX2.f 0; have e1 := HX2.f 1; have e2 := HX2.f 2; have e3 := HX2.f 3))
  all_goals
    first
      | (refine letter (P := AimM w op ⟨rd, rn, ri⟩ (.slice a5 gg.length cp5) gg w2.heap.size) (aim_m2 HX2 hS5 (HR2.out _ (below_set4 (b := w2.heap.size) hb2 (Nat.le_refl _) (.int .u32 rd) (.string rn) (.int .u32 ri) (.slice a5 gg.length cp5))) (HC3.out _ (below_set4 (b := w2.heap.size) hb2 (Nat.le_refl _) (.int .u32 rd) (.string rn) (.int .u32 ri) (.slice a5 gg.length cp5))).1 (by omega)) (fun WF HRF => ?_)
         obtain ⟨q0, q1, q2, q3⟩ := HRF.z.cZ
         have g0 := HRF.z.f 0
         have g1 := HRF.z.f 1
         have g2 := HRF.z.f 2
         have g3 := HRF.z.f 3
         obtain ⟨b0, b1, b2, b3⟩ := HRF.s.c
         have o0 := HRF.o
         dsimp only at b0 b1 b2 b3
         have HM := Lib.hid HRF
         have HG5 := Lib.hid hG5
         clear HRF HBOX HR2 HC2 HC3 HA2 HFO hself0 hself hselfA hselfB hnA hnB hb2 hS5 hG5
         have k0 := HND.out _ HM.out.bel
         have HFIN : Hid (_ ∧ _) := Lib.hid (aim_out HM.out)
         have HSS : Hid (∀ W : World, (∀ k, ¬ k = w.heap.size + 1 → W.heap[k]? = WF.heap[k]?) → W.cell? ⟨w.heap.size, 0, none⟩ = some (.int .i64 op) ∧ W.cell? ⟨w2.heap.size, 0, none⟩ = some (.int .u32 rd) ∧ W.cell? ⟨w2.heap.size, 1, none⟩ = some (.string rn) ∧ W.cell? ⟨w2.heap.size, 2, none⟩ = some (.int .u32 ri) ∧ W.cell? ⟨w2.heap.size, 3, none⟩ = some (.slice a5 gg.length cp5) ∧ W.cell? ⟨nb, noff + ri * 5, none⟩ = some (.int .i64 KK)) := fun W hW => by
           have t1 := hW w.heap.size (by omega)
           have t2 := hW w2.heap.size HM.out.nb
           have t3 := hW nb (by have := hnb; omega)
           simp only [World.cell?] at o0 b0 b1 b2 b3 k0 ⊢
           rw [t1, t2, t3]
           exact ⟨o0, b0, b1, b2, b3, k0⟩
         have hs0 := HSS.out WF (fun _ _ => rfl)
         have hs1 := HSS.out WF.drew (fun _ _ => rfl)
         have hs2 := HSS.out ((((WF.setCell ⟨w.heap.size + 1, 0, none⟩ (.int .u32 rd)).setCell ⟨w.heap.size + 1, 1, none⟩ (.string rn)).setCell ⟨w.heap.size + 1, 2, none⟩ (.int .u32 ri)).setCell ⟨w.heap.size + 1, 3, none⟩ (.slice a5 gg.length cp5)).drew (fun k hk => by
           show ((((WF.setCell ⟨w.heap.size + 1, 0, none⟩ (.int .u32 rd)).setCell ⟨w.heap.size + 1, 1, none⟩ (.string rn)).setCell ⟨w.heap.size + 1, 2, none⟩ (.int .u32 ri)).setCell ⟨w.heap.size + 1, 3, none⟩ (.slice a5 gg.length cp5)).heap[k]? = _
           rw [Below.heap_setCell _ _ _ _ hk, Below.heap_setCell _ _ _ _ hk, Below.heap_setCell _ _ _ _ hk, Below.heap_setCell _ _ _ _ hk])
         go_wp2_with (go_at_call 45; (with_reducible refine Calls.mono (HMK.out _) ?_); rintro e w7 ⟨rfl, rfl⟩)
         go_region_held3 (fun w' => w'.cell? ⟨w.heap.size, 0, none⟩ = some (.int .i64 op) ∧ w'.cell? ⟨w2.heap.size, 0, none⟩ = some (.int .u32 rd) ∧ w'.cell? ⟨w2.heap.size, 1, none⟩ = some (.string rn) ∧ w'.cell? ⟨w2.heap.size, 2, none⟩ = some (.int .u32 ri) ∧ w'.cell? ⟨w2.heap.size, 3, none⟩ = some (.slice a5 gg.length cp5) ∧ w'.cell? ⟨nb, noff + ri * 5, none⟩ = some (.int .i64 KK)) (with_reducible first | exact hs0 | exact hs1 | exact hs2) ((go_at_call 46; (with_reducible refine Calls.mono (HSU.out _) ?_); rintro e w8 ⟨rfl, rfl⟩))
         clear hs0 hs1 hs2 HSS
         go_wp2
         refine bodyPost_ret (results_sp rfl _ _ rfl (show SpAt (World.drew _) _ _ _ from HFIN.out.1)) rfl ?_
         exact ⟨a5, cp5, gg, rfl, HFIN.out.2.1.elim fun B hB => ⟨B, World.ownsRow.drew hB⟩, HG5.out, HFIN.out.2.2.drew⟩)
      | (refine letter (P := AimM w op ⟨rd, rn, ri⟩ (.slice a5 gg.length cp5) gg w5.heap.size) (aim_m1 hS5 (HR2.out _ (below_al hb2 (spO ⟨rd, rn, ri⟩ (.slice a5 gg.length cp5)))) (HC3.out _ (below_al hb2 (spO ⟨rd, rn, ri⟩ (.slice a5 gg.length cp5)))).1 (by have := hb2.size; omega)) (fun WF HRF => ?_)
         obtain ⟨q0, q1, q2, q3⟩ := HRF.z.cZ
         have g0 := HRF.z.f 0
         have g1 := HRF.z.f 1
         have g2 := HRF.z.f 2
         have g3 := HRF.z.f 3
         obtain ⟨b0, b1, b2, b3⟩ := HRF.s.c
         have o0 := HRF.o
         dsimp only at b0 b1 b2 b3
         have HM := Lib.hid HRF
         have HG5 := Lib.hid hG5
         clear HRF HBOX HR2 HC2 HC3 HA2 HFO hself0 hself hselfA hselfB hnA hnB hb2 hS5 hG5
         have k0 := HND.out _ HM.out.bel
         have HFIN : Hid (_ ∧ _) := Lib.hid (aim_out HM.out)
         have HSS : Hid (∀ W : World, (∀ k, ¬ k = w.heap.size + 1 → W.heap[k]? = WF.heap[k]?) → W.cell? ⟨w.heap.size, 0, none⟩ = some (.int .i64 op) ∧ W.cell? ⟨w5.heap.size, 0, none⟩ = some (.int .u32 rd) ∧ W.cell? ⟨w5.heap.size, 1, none⟩ = some (.string rn) ∧ W.cell? ⟨w5.heap.size, 2, none⟩ = some (.int .u32 ri) ∧ W.cell? ⟨w5.heap.size, 3, none⟩ = some (.slice a5 gg.length cp5) ∧ W.cell? ⟨nb, noff + ri * 5, none⟩ = some (.int .i64 KK)) := fun W hW => by
           have t1 := hW w.heap.size (by omega)
           have t2 := hW w5.heap.size HM.out.nb
           have t3 := hW nb (by have := hnb; omega)
           simp only [World.cell?] at o0 b0 b1 b2 b3 k0 ⊢
           rw [t1, t2, t3]
           exact ⟨o0, b0, b1, b2, b3, k0⟩
         have hs0 := HSS.out WF (fun _ _ => rfl)
         have hs1 := HSS.out WF.drew (fun _ _ => rfl)
         have hs2 := HSS.out ((((WF.setCell ⟨w.heap.size + 1, 0, none⟩ (.int .u32 rd)).setCell ⟨w.heap.size + 1, 1, none⟩ (.string rn)).setCell ⟨w.heap.size + 1, 2, none⟩ (.int .u32 ri)).setCell ⟨w.heap.size + 1, 3, none⟩ (.slice a5 gg.length cp5)).drew (fun k hk => by
           show ((((WF.setCell ⟨w.heap.size + 1, 0, none⟩ (.int .u32 rd)).setCell ⟨w.heap.size + 1, 1, none⟩ (.string rn)).setCell ⟨w.heap.size + 1, 2, none⟩ (.int .u32 ri)).setCell ⟨w.heap.size + 1, 3, none⟩ (.slice a5 gg.length cp5)).heap[k]? = _
           rw [Below.heap_setCell _ _ _ _ hk, Below.heap_setCell _ _ _ _ hk, Below.heap_setCell _ _ _ _ hk, Below.heap_setCell _ _ _ _ hk])
         go_wp2_with (go_at_call 45; (with_reducible refine Calls.mono (HMK.out _) ?_); rintro e w7 ⟨rfl, rfl⟩)
         go_region_held3 (fun w' => w'.cell? ⟨w.heap.size, 0, none⟩ = some (.int .i64 op) ∧ w'.cell? ⟨w5.heap.size, 0, none⟩ = some (.int .u32 rd) ∧ w'.cell? ⟨w5.heap.size, 1, none⟩ = some (.string rn) ∧ w'.cell? ⟨w5.heap.size, 2, none⟩ = some (.int .u32 ri) ∧ w'.cell? ⟨w5.heap.size, 3, none⟩ = some (.slice a5 gg.length cp5) ∧ w'.cell? ⟨nb, noff + ri * 5, none⟩ = some (.int .i64 KK)) (with_reducible first | exact hs0 | exact hs1 | exact hs2) ((go_at_call 46; (with_reducible refine Calls.mono (HSU.out _) ?_); rintro e w8 ⟨rfl, rfl⟩))
         clear hs0 hs1 hs2 HSS
         go_wp2
         refine bodyPost_ret (results_sp rfl _ _ rfl (show SpAt (World.drew _) _ _ _ from HFIN.out.1)) rfl ?_
         exact ⟨a5, cp5, gg, rfl, HFIN.out.2.1.elim fun B hB => ⟨B, World.ownsRow.drew hB⟩, HG5.out, HFIN.out.2.2.drew⟩)
end
end Go.Proofs.YtkipkcmcolomcaaGreat.Pln
