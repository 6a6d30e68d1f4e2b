/- Decode of the program. -/
import Derived.Test.YtblejaimafdhpaaRecEncP
import Derived.Test.YtblejaimafdhpaaRecTake
namespace Go.Proofs.Ytblejaimafdhpaa.Record
open Go.RowKit Go.Shelf
attribute [local go_sem] Oper.semAt_some
set_option linter.unusedVariables false

/-- a record is laid over another one, part by part -/
theorem RAt.put6 {W : World} {b : Nat} {s : R} {v0 : Value} (h : RAt W b s v0) (t : R) (v : Value) :
    (W.setCell ⟨b, 0, none⟩ (.int .u64 t.seq)).cell? ⟨b, 0, none⟩ = some (.int .u64 t.seq) ∧
    ((W.setCell ⟨b, 0, none⟩ (.int .u64 t.seq)).setCell ⟨b, 1, none⟩ (.int .u64 t.cp)).cell? ⟨b, 1, none⟩ = some (.int .u64 t.cp) ∧
    (((W.setCell ⟨b, 0, none⟩ (.int .u64 t.seq)).setCell ⟨b, 1, none⟩ (.int .u64 t.cp)).setCell ⟨b, 2, none⟩ (.bool t.ends)).cell? ⟨b, 2, none⟩ = some (.bool t.ends) ∧
    ((((W.setCell ⟨b, 0, none⟩ (.int .u64 t.seq)).setCell ⟨b, 1, none⟩ (.int .u64 t.cp)).setCell ⟨b, 2, none⟩ (.bool t.ends)).setCell ⟨b, 3, none⟩ (.bool t.sync)).cell? ⟨b, 3, none⟩ = some (.bool t.sync) ∧
    (((((W.setCell ⟨b, 0, none⟩ (.int .u64 t.seq)).setCell ⟨b, 1, none⟩ (.int .u64 t.cp)).setCell ⟨b, 2, none⟩ (.bool t.ends)).setCell ⟨b, 3, none⟩ (.bool t.sync)).setCell ⟨b, 4, none⟩ (.int .i64 t.next)).cell? ⟨b, 4, none⟩ = some (.int .i64 t.next) ∧
    ((((((W.setCell ⟨b, 0, none⟩ (.int .u64 t.seq)).setCell ⟨b, 1, none⟩ (.int .u64 t.cp)).setCell ⟨b, 2, none⟩ (.bool t.ends)).setCell ⟨b, 3, none⟩ (.bool t.sync)).setCell ⟨b, 4, none⟩ (.int .i64 t.next)).setCell ⟨b, 5, none⟩ v).cell? ⟨b, 5, none⟩ = some v ∧
    RAt ((((((W.setCell ⟨b, 0, none⟩ (.int .u64 t.seq)).setCell ⟨b, 1, none⟩ (.int .u64 t.cp)).setCell ⟨b, 2, none⟩ (.bool t.ends)).setCell ⟨b, 3, none⟩ (.bool t.sync)).setCell ⟨b, 4, none⟩ (.int .i64 t.next)).setCell ⟨b, 5, none⟩ v) b t v ∧
    Below b W ((((((W.setCell ⟨b, 0, none⟩ (.int .u64 t.seq)).setCell ⟨b, 1, none⟩ (.int .u64 t.cp)).setCell ⟨b, 2, none⟩ (.bool t.ends)).setCell ⟨b, 3, none⟩ (.bool t.sync)).setCell ⟨b, 4, none⟩ (.int .i64 t.next)).setCell ⟨b, 5, none⟩ v) := by
  unfold RAt at h
  have h0 := heap_setCell_same W b 0 _ _ (.int .u64 t.seq) h
  have h1 := heap_setCell_same _ b 1 _ _ (.int .u64 t.cp) h0
  have h2 := heap_setCell_same _ b 2 _ _ (.bool t.ends) h1
  have h3 := heap_setCell_same _ b 3 _ _ (.bool t.sync) h2
  have h4 := heap_setCell_same _ b 4 _ _ (.int .i64 t.next) h3
  have h5 := heap_setCell_same _ b 5 _ _ v h4
  refine ⟨by simp only [World.cell?, h0]; rfl, by simp only [World.cell?, h1]; rfl, by simp only [World.cell?, h2]; rfl, by simp only [World.cell?, h3]; rfl, by simp only [World.cell?, h4]; rfl, by simp only [World.cell?, h5]; rfl, h5, ?_⟩
  exact ((((((Below.refl b W).setCell (p := ⟨b, 0, none⟩) (Nat.le_refl _) _).setCell (p := ⟨b, 1, none⟩) (Nat.le_refl _) _).setCell (p := ⟨b, 2, none⟩) (Nat.le_refl _) _).setCell (p := ⟨b, 3, none⟩) (Nat.le_refl _) _).setCell (p := ⟨b, 4, none⟩) (Nat.le_refl _) _).setCell (p := ⟨b, 5, none⟩) (Nat.le_refl _) _
theorem put6_other (W : World) (b : Nat) (u0 u1 u2 u3 u4 u5 : Value) (j : Nat) (hj : j ≠ b) : ((((((W.setCell ⟨b, 0, none⟩ u0).setCell ⟨b, 1, none⟩ u1).setCell ⟨b, 2, none⟩ u2).setCell ⟨b, 3, none⟩ u3).setCell ⟨b, 4, none⟩ u4).setCell ⟨b, 5, none⟩ u5).heap[j]? = W.heap[j]? :=
  (Below.heap_setCell _ _ _ _ hj).trans ((Below.heap_setCell _ _ _ _ hj).trans ((Below.heap_setCell _ _ _ _ hj).trans ((Below.heap_setCell _ _ _ _ hj).trans ((Below.heap_setCell _ _ _ _ hj).trans (Below.heap_setCell _ _ _ _ hj)))))
/-- what Decode leaves -/
def DecPost (b : ByteArray) (w : World) (e : Ending) (W : World) : Prop := ∃ v, e = .returned (.tuple #[(decV b).val v, .int .i64 (decE b)]) ∧ Ents W v (decV b).l ∧ Below w.heap.size w W
theorem dec_end {b : ByteArray} {w W : World} {r : R} {v : Value} {n : Int} (h : decV b = r) (h2 : decE b = n) (hL : Ents W v r.l) (hB : Below w.heap.size w W) : DecPost b w (.returned (.tuple #[r.val v, .int .i64 n])) W :=
  ⟨v, by rw [h, h2], by rw [h]; exact hL, hB⟩
section
set_option maxRecDepth 100000
theorem results_rec {fn : Func} {r e : Tmp} (h : fn.results = #[.cell r 25, .tmp e]) (tmps : Array Value) (w : World) {b : Nat} {s : R} {v : Value} (hp : tmps.getD r undef = .pointer (some ⟨b, 0, none⟩)) (hA : RAt w b s v) :
    (results fn tmps).run Try.prog w = .ok (.tuple #[s.val v, tmps.getD e undef]) w := by
  obtain ⟨c0, c1, c2, c3, c4, c5⟩ := hA.c
  rw [Array.getD_eq_getD_getElem?] at hp
  simp [results, h, hp, go_sem, c0, c1, c2, c3, c4, c5]
  rfl
theorem decode_size (b : ByteArray) (w : World) (hs : b.size ≤ 281474976710656) (h : ¬ b.size = 512) : Calls Try.prog 12 #[.string b] w (DecPost b w) := by
  have hno : ¬ decOk b := fun hh => h hh.1
  have HS := Lib.hid (decV_no hno)
  have HE := Lib.hid (decE_no hno)
  have hq : ((b.size : Int) != 512) = true := by simp; omega
  clear hno h
  go_enter Try.func12, Try.ntmps12
  go_wp2
  refine bodyPost_ret (results_rec rfl _ _ rfl (RAt.new w R.none (.slice none 0 0))) rfl ?_
  exact dec_end HS.out HE.out (Ents.nil _) (below_new w _)

set_option maxHeartbeats 2000000 in
theorem decode_wrong (b : ByteArray) (w : World) (hs : b.size = 512) (h : ¬ RightP (decR b)) : Calls Try.prog 12 #[.string b] w (DecPost b w) := by
  have hno : ¬ decOk b := fun hh => h hh.2.1
  have HS := Lib.hid (decV_no hno)
  have HE := Lib.hid (decE_no hno)
  have hq : ((b.size : Int) != 512) = false := by simp; omega
  have T1 := Lib.hid (fun W => rtake_any b 1 6 W (by omega) (by omega) (by omega) (by omega))
  have T2 := Lib.hid (fun W => rtake_any b 7 6 W (by omega) (by omega) (by omega) (by omega))
  have T3 := Lib.hid (fun W => rtake_any b 13 1 W (by omega) (by omega) (by omega) (by omega))
  have T4 := Lib.hid (fun W => rtake_any b 14 2 W (by omega) (by omega) (by omega) (by omega))
  have T5 := Lib.hid (fun W => rtake_any b 16 1 W (by omega) (by omega) (by omega) (by omega))
  have hE := fun W v (hv : Ents W v (decR b).l) => encode_any (decR b) v W hv (decR_ok b)
  have e1 : (256 : Nat) ^ 1 = 256 := by decide
  have e2 : (256 : Nat) ^ 2 = 65536 := by decide
  have l4 := takeN_lt b 14 2
  have l5 := takeN_lt b 16 1
  rw [e2] at l4
  rw [e1] at l5
  have TE := Lib.hid (fun W => takeEntries_any b (takeN b 16 1) W hs (by omega))
  unfold Ans at hE
  rw [encS_no h, encE_no h] at hE
  clear h hno
  unfold R.val decR at hE
  dsimp only at hE
  obtain ⟨x1, hx1⟩ : ∃ x, takeN b 1 6 = x := ⟨_, rfl⟩
  obtain ⟨x2, hx2⟩ : ∃ x, takeN b 7 6 = x := ⟨_, rfl⟩
  obtain ⟨x3, hx3⟩ : ∃ x, takeN b 13 1 = x := ⟨_, rfl⟩
  obtain ⟨x4, hx4⟩ : ∃ x, takeN b 14 2 = x := ⟨_, rfl⟩
  obtain ⟨x5, hx5⟩ : ∃ x, takeN b 16 1 = x := ⟨_, rfl⟩
  obtain ⟨L, hLL⟩ : ∃ L, entsAt b x5 = L := ⟨_, rfl⟩
  simp only [hx1, hx2, hx3, hx4, hx5, hLL] at T1 T2 T3 T4 T5 TE hE l4 l5
  obtain ⟨en, hen⟩ : ∃ x, decide (x3 = 1) = x := ⟨_, rfl⟩
  obtain ⟨sy, hsy⟩ : ∃ x, decide (x3 = 2) = x := ⟨_, rfl⟩
  have u1 : ((x3 : Int) == 1) = en := by rw [← hen, Bool.eq_iff_iff, decide_eq_true_iff]; simp; omega
  have u2 : ((x3 : Int) == 2) = sy := by rw [← hsy, Bool.eq_iff_iff, decide_eq_true_iff]; simp; omega
  simp only [hen, hsy] at hE
  unfold TakePost at TE
  simp only [hLL] at TE
  have v4 : IntKind.i64.wrap (x4 : Int) = x4 := by rw [IntKind.wrap_i64]; omega
  have v5 : IntKind.i64.wrap (x5 : Int) = x5 := by rw [IntKind.wrap_i64]; omega
  have HEE := Lib.hid hE
  clear hx1 hx2 hx3 hx4 hx5 hs l4 l5 e1 e2 hE hen hsy hLL
  go_enter Try.func12, Try.ntmps12
  go_wp2_with (first
    | (go_at_call 28; with_reducible refine Calls.mono (T1.out _) ?_; rintro e w1 ⟨rfl, hB1⟩)
    | (go_at_call 28; with_reducible refine Calls.mono (T2.out _) ?_; rintro e w2 ⟨rfl, hB2⟩)
    | (go_at_call 28; with_reducible refine Calls.mono (T3.out _) ?_; rintro e w3 ⟨rfl, hB3⟩)
    | (go_at_call 28; with_reducible refine Calls.mono (T4.out _) ?_; rintro e w4 ⟨rfl, hB4⟩)
    | (go_at_call 28; with_reducible refine Calls.mono (T5.out _) ?_; rintro e w5 ⟨rfl, hB5⟩)
    | (go_at_call 29; (with_reducible refine Calls.mono (TE.out _) ?_); rintro e w6 ⟨v, rfl, hL6, hNV, hB6⟩; obtain ⟨ap, cp, rfl, hp1, hp2⟩ := hL6.parts; have HNV := Lib.hid hNV; have hL7 := Lib.hid (hL6.below (below_new w6 (boxR ⟨x1, x2, en, sy, (x4 : Int), L⟩ (.slice ap L.length cp)))); unfold boxR at hL7; clear hL6 hNV)
    | (go_at_call 10; with_reducible refine Calls.mono (HEE.out _ _ hL7.out) ?_; rintro e w7 ⟨rfl, hB7⟩))
  have hBw6 : Below w.heap.size w w6 := below_th (below_th (below_th (below_th (below_th (below_th (below_new w _) hB3) hB1) hB2) hB4) hB5) hB6
  have hA7 : RAt w7 w.heap.size R.none (.slice none 0 0) := (((((((RAt.new w R.none (.slice none 0 0)).th hB3).th hB1).th hB2).th hB4).th hB5).th hB6).th (below_th (below_new _ _) hB7)
  have hD7 : RAt w7 w6.heap.size ⟨x1, x2, en, sy, (x4 : Int), L⟩ (.slice ap L.length cp) := (RAt.new w6 _ _).th hB7
  have hBw7 : Below w.heap.size w w7 := below_th (below_al hBw6 _) hB7
  have hL8 : Ents w7 (.slice ap L.length cp) L := (hL7.out).below hB7
  obtain ⟨a0, a1, a2, a3, a4, a5⟩ := hA7.c
  obtain ⟨d0, d1, d2, d3, d4, d5⟩ := hD7.c
  have f0 := hA7.f 0
  have f1 := hA7.f 1
  have f2 := hA7.f 2
  have f3 := hA7.f 3
  have f4 := hA7.f 4
  have f5 := hA7.f 5
  obtain ⟨k0, k1, k2, k3, k4, k5, hAp, hBp⟩ := hA7.put6 R.none (.slice none 0 0)
  dsimp only [R.none] at a0 a1 a2 a3 a4 a5 d0 d1 d2 d3 d4 d5 k0 k1 k2 k3 k4 k5 hBp
  go_region
  go_wp2
  all_goals
    refine bodyPost_ret (results_rec rfl _ _ rfl hAp.drew) rfl ?_
    exact dec_end HS.out HE.out (Ents.nil _) (hBw7.trans hBp).drew

set_option maxHeartbeats 2000000 in
theorem decode_unlike (b : ByteArray) (w : World) (hs : b.size = 512) (h : RightP (decR b)) (hu : ¬ (encB (decR b)).extract 0 256 = b.extract 0 256) : Calls Try.prog 12 #[.string b] w (DecPost b w) := by
  have hno : ¬ decOk b := fun hh => hu hh.2.2
  have HS := Lib.hid (decV_no hno)
  have HE := Lib.hid (decE_no hno)
  clear hno
  have hq : ((b.size : Int) != 512) = false := by simp; omega
  have T1 := Lib.hid (fun W => rtake_any b 1 6 W (by omega) (by omega) (by omega) (by omega))
  have T2 := Lib.hid (fun W => rtake_any b 7 6 W (by omega) (by omega) (by omega) (by omega))
  have T3 := Lib.hid (fun W => rtake_any b 13 1 W (by omega) (by omega) (by omega) (by omega))
  have T4 := Lib.hid (fun W => rtake_any b 14 2 W (by omega) (by omega) (by omega) (by omega))
  have T5 := Lib.hid (fun W => rtake_any b 16 1 W (by omega) (by omega) (by omega) (by omega))
  have hE := fun W v (hv : Ents W v (decR b).l) => encode_any (decR b) v W hv (decR_ok b)
  have e1 : (256 : Nat) ^ 1 = 256 := by decide
  have e2 : (256 : Nat) ^ 2 = 65536 := by decide
  have l4 := takeN_lt b 14 2
  have l5 := takeN_lt b 16 1
  rw [e2] at l4
  rw [e1] at l5
  have TE := Lib.hid (fun W => takeEntries_any b (takeN b 16 1) W hs (by omega))
  unfold Ans at hE
  rw [encS_yes h, encE_yes h] at hE
  have hsz := encB_size h
  obtain ⟨EE, hEe⟩ : ∃ EE, encB (decR b) = EE := ⟨_, rfl⟩
  simp only [hEe] at hE hsz hu
  clear hEe
  have hcmp := beq_no hu
  have r1 : (256 : Int) ≤ (EE.size : Int) := by omega
  have r2 : (256 : Int) ≤ (b.size : Int) := by omega
  have r3 : 256 ≤ EE.size := by omega
  have r4 : 256 ≤ b.size := by omega
  clear h hu hsz
  unfold R.val decR at hE
  dsimp only at hE
  obtain ⟨x1, hx1⟩ : ∃ x, takeN b 1 6 = x := ⟨_, rfl⟩
  obtain ⟨x2, hx2⟩ : ∃ x, takeN b 7 6 = x := ⟨_, rfl⟩
  obtain ⟨x3, hx3⟩ : ∃ x, takeN b 13 1 = x := ⟨_, rfl⟩
  obtain ⟨x4, hx4⟩ : ∃ x, takeN b 14 2 = x := ⟨_, rfl⟩
  obtain ⟨x5, hx5⟩ : ∃ x, takeN b 16 1 = x := ⟨_, rfl⟩
  obtain ⟨L, hLL⟩ : ∃ L, entsAt b x5 = L := ⟨_, rfl⟩
  simp only [hx1, hx2, hx3, hx4, hx5, hLL] at T1 T2 T3 T4 T5 TE hE l4 l5
  obtain ⟨en, hen⟩ : ∃ x, decide (x3 = 1) = x := ⟨_, rfl⟩
  obtain ⟨sy, hsy⟩ : ∃ x, decide (x3 = 2) = x := ⟨_, rfl⟩
  have u1 : ((x3 : Int) == 1) = en := by rw [← hen, Bool.eq_iff_iff, decide_eq_true_iff]; simp; omega
  have u2 : ((x3 : Int) == 2) = sy := by rw [← hsy, Bool.eq_iff_iff, decide_eq_true_iff]; simp; omega
  simp only [hen, hsy] at hE
  unfold TakePost at TE
  simp only [hLL] at TE
  have v4 : IntKind.i64.wrap (x4 : Int) = x4 := by rw [IntKind.wrap_i64]; omega
  have v5 : IntKind.i64.wrap (x5 : Int) = x5 := by rw [IntKind.wrap_i64]; omega
  have HEE := Lib.hid hE
  clear hx1 hx2 hx3 hx4 hx5 hs l4 l5 e1 e2 hE hen hsy hLL
  go_enter Try.func12, Try.ntmps12
  go_wp2_with (first
    | (go_at_call 28; with_reducible refine Calls.mono (T1.out _) ?_; rintro e w1 ⟨rfl, hB1⟩)
    | (go_at_call 28; with_reducible refine Calls.mono (T2.out _) ?_; rintro e w2 ⟨rfl, hB2⟩)
    | (go_at_call 28; with_reducible refine Calls.mono (T3.out _) ?_; rintro e w3 ⟨rfl, hB3⟩)
    | (go_at_call 28; with_reducible refine Calls.mono (T4.out _) ?_; rintro e w4 ⟨rfl, hB4⟩)
    | (go_at_call 28; with_reducible refine Calls.mono (T5.out _) ?_; rintro e w5 ⟨rfl, hB5⟩)
    | (go_at_call 29; (with_reducible refine Calls.mono (TE.out _) ?_); rintro e w6 ⟨v, rfl, hL6, hNV, hB6⟩; obtain ⟨ap, cp, rfl, hp1, hp2⟩ := hL6.parts; have HNV := Lib.hid hNV; have hL7 := Lib.hid (hL6.below (below_new w6 (boxR ⟨x1, x2, en, sy, (x4 : Int), L⟩ (.slice ap L.length cp)))); unfold boxR at hL7; clear hL6 hNV)
    | (go_at_call 10; with_reducible refine Calls.mono (HEE.out _ _ hL7.out) ?_; rintro e w7 ⟨rfl, hB7⟩))
  have hBw6 : Below w.heap.size w w6 := below_th (below_th (below_th (below_th (below_th (below_th (below_new w _) hB3) hB1) hB2) hB4) hB5) hB6
  have hA7 : RAt w7 w.heap.size R.none (.slice none 0 0) := (((((((RAt.new w R.none (.slice none 0 0)).th hB3).th hB1).th hB2).th hB4).th hB5).th hB6).th (below_th (below_new _ _) hB7)
  have hD7 : RAt w7 w6.heap.size ⟨x1, x2, en, sy, (x4 : Int), L⟩ (.slice ap L.length cp) := (RAt.new w6 _ _).th hB7
  have hBw7 : Below w.heap.size w w7 := below_th (below_al hBw6 _) hB7
  have hL8 : Ents w7 (.slice ap L.length cp) L := (hL7.out).below hB7
  obtain ⟨a0, a1, a2, a3, a4, a5⟩ := hA7.c
  obtain ⟨d0, d1, d2, d3, d4, d5⟩ := hD7.c
  have f0 := hA7.f 0
  have f1 := hA7.f 1
  have f2 := hA7.f 2
  have f3 := hA7.f 3
  have f4 := hA7.f 4
  have f5 := hA7.f 5
  obtain ⟨k0, k1, k2, k3, k4, k5, hAp, hBp⟩ := hA7.put6 R.none (.slice none 0 0)
  dsimp only [R.none] at a0 a1 a2 a3 a4 a5 d0 d1 d2 d3 d4 d5 k0 k1 k2 k3 k4 k5 hBp
  go_region
  go_wp2
  all_goals
    refine bodyPost_ret (results_rec rfl _ _ rfl hAp.drew) rfl ?_
    exact dec_end HS.out HE.out (Ents.nil _) (hBw7.trans hBp).drew

end
end Go.Proofs.Ytblejaimafdhpaa.Record
