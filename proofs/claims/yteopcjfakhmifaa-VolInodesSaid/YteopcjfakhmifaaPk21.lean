/- Several texts in one, each under its own heading. -/
import Derived.Handy
import Derived.Test.YteopcjfakhmifaaPk20
import Derived.Test.YteopcjfakhmifaaPk15
import Derived.Test.YteopcjfakhmifaaPk19
/- Decode of the program. -/
namespace Go.Proofs.Yteopcjfakhmifaa.Ino
open Go.RowKit Go.Shelf
attribute [local go_sem] Oper.semAt_some
set_option linter.unusedVariables false
set_option linter.unusedSimpArgs false

theorem beq_yes {A B : ByteArray} (h : A = B) : (A.toList == B.toList) = true := by rw [h]; simp
theorem beq_no {A B : ByteArray} (h : ¬ A = B) : (A.toList == B.toList) = false := by
  rw [beq_eq_false_iff_ne]
  exact fun he => h (ByteArray.ext (Array.toList_inj.1 (by rw [← Lib.toList_data, ← Lib.toList_data]; exact he)))
/-- an inode laid over another one -/
theorem At.put12 {W : World} {b : Nat} {n : I} (h : At W b n) (t : I) :
    At ((((((((((((W.setCell ⟨b, 0, none⟩ (.int .i64 t.kind)).setCell ⟨b, 1, none⟩ (.int .u16 t.mode)).setCell ⟨b, 2, none⟩ (.int .u16 t.links)).setCell ⟨b, 3, none⟩ (.int .u32 t.size)).setCell ⟨b, 4, none⟩ (.int .u64 t.time)).setCell ⟨b, 5, none⟩ (.int .i64 t.depth)).setCell ⟨b, 6, none⟩ (.int .u32 t.m.a)).setCell ⟨b, 7, none⟩ (.int .u32 t.m.b)).setCell ⟨b, 8, none⟩ (.int .u32 t.m.c)).setCell ⟨b, 9, none⟩ (.int .u32 t.m.d)).setCell ⟨b, 10, none⟩ (.int .u32 t.m.e)).setCell ⟨b, 11, none⟩ (.int .u32 t.m.f)) b t ∧ Below b W ((((((((((((W.setCell ⟨b, 0, none⟩ (.int .i64 t.kind)).setCell ⟨b, 1, none⟩ (.int .u16 t.mode)).setCell ⟨b, 2, none⟩ (.int .u16 t.links)).setCell ⟨b, 3, none⟩ (.int .u32 t.size)).setCell ⟨b, 4, none⟩ (.int .u64 t.time)).setCell ⟨b, 5, none⟩ (.int .i64 t.depth)).setCell ⟨b, 6, none⟩ (.int .u32 t.m.a)).setCell ⟨b, 7, none⟩ (.int .u32 t.m.b)).setCell ⟨b, 8, none⟩ (.int .u32 t.m.c)).setCell ⟨b, 9, none⟩ (.int .u32 t.m.d)).setCell ⟨b, 10, none⟩ (.int .u32 t.m.e)).setCell ⟨b, 11, none⟩ (.int .u32 t.m.f)) := by
  unfold At at h
  have h0 : (W.setCell ⟨b, 0, none⟩ (.int .i64 t.kind)).heap[b]? = some (.cells #[.int .i64 t.kind, .int .u16 n.mode, .int .u16 n.links, .int .u32 n.size, .int .u64 n.time, .int .i64 n.depth, .int .u32 n.m.a, .int .u32 n.m.b, .int .u32 n.m.c, .int .u32 n.m.d, .int .u32 n.m.e, .int .u32 n.m.f] 41 (0, 0)) := heap_setCell_same _ b 0 _ _ (.int .i64 t.kind) h
  have h1 : ((W.setCell ⟨b, 0, none⟩ (.int .i64 t.kind)).setCell ⟨b, 1, none⟩ (.int .u16 t.mode)).heap[b]? = some (.cells #[.int .i64 t.kind, .int .u16 t.mode, .int .u16 n.links, .int .u32 n.size, .int .u64 n.time, .int .i64 n.depth, .int .u32 n.m.a, .int .u32 n.m.b, .int .u32 n.m.c, .int .u32 n.m.d, .int .u32 n.m.e, .int .u32 n.m.f] 41 (0, 0)) := heap_setCell_same _ b 1 _ _ (.int .u16 t.mode) h0
  have h2 : (((W.setCell ⟨b, 0, none⟩ (.int .i64 t.kind)).setCell ⟨b, 1, none⟩ (.int .u16 t.mode)).setCell ⟨b, 2, none⟩ (.int .u16 t.links)).heap[b]? = some (.cells #[.int .i64 t.kind, .int .u16 t.mode, .int .u16 t.links, .int .u32 n.size, .int .u64 n.time, .int .i64 n.depth, .int .u32 n.m.a, .int .u32 n.m.b, .int .u32 n.m.c, .int .u32 n.m.d, .int .u32 n.m.e, .int .u32 n.m.f] 41 (0, 0)) := heap_setCell_same _ b 2 _ _ (.int .u16 t.links) h1
  have h3 : ((((W.setCell ⟨b, 0, none⟩ (.int .i64 t.kind)).setCell ⟨b, 1, none⟩ (.int .u16 t.mode)).setCell ⟨b, 2, none⟩ (.int .u16 t.links)).setCell ⟨b, 3, none⟩ (.int .u32 t.size)).heap[b]? = some (.cells #[.int .i64 t.kind, .int .u16 t.mode, .int .u16 t.links, .int .u32 t.size, .int .u64 n.time, .int .i64 n.depth, .int .u32 n.m.a, .int .u32 n.m.b, .int .u32 n.m.c, .int .u32 n.m.d, .int .u32 n.m.e, .int .u32 n.m.f] 41 (0, 0)) := heap_setCell_same _ b 3 _ _ (.int .u32 t.size) h2
  have h4 : (((((W.setCell ⟨b, 0, none⟩ (.int .i64 t.kind)).setCell ⟨b, 1, none⟩ (.int .u16 t.mode)).setCell ⟨b, 2, none⟩ (.int .u16 t.links)).setCell ⟨b, 3, none⟩ (.int .u32 t.size)).setCell ⟨b, 4, none⟩ (.int .u64 t.time)).heap[b]? = some (.cells #[.int .i64 t.kind, .int .u16 t.mode, .int .u16 t.links, .int .u32 t.size, .int .u64 t.time, .int .i64 n.depth, .int .u32 n.m.a, .int .u32 n.m.b, .int .u32 n.m.c, .int .u32 n.m.d, .int .u32 n.m.e, .int .u32 n.m.f] 41 (0, 0)) := heap_setCell_same _ b 4 _ _ (.int .u64 t.time) h3
  have h5 : ((((((W.setCell ⟨b, 0, none⟩ (.int .i64 t.kind)).setCell ⟨b, 1, none⟩ (.int .u16 t.mode)).setCell ⟨b, 2, none⟩ (.int .u16 t.links)).setCell ⟨b, 3, none⟩ (.int .u32 t.size)).setCell ⟨b, 4, none⟩ (.int .u64 t.time)).setCell ⟨b, 5, none⟩ (.int .i64 t.depth)).heap[b]? = some (.cells #[.int .i64 t.kind, .int .u16 t.mode, .int .u16 t.links, .int .u32 t.size, .int .u64 t.time, .int .i64 t.depth, .int .u32 n.m.a, .int .u32 n.m.b, .int .u32 n.m.c, .int .u32 n.m.d, .int .u32 n.m.e, .int .u32 n.m.f] 41 (0, 0)) := heap_setCell_same _ b 5 _ _ (.int .i64 t.depth) h4
  have h6 : (((((((W.setCell ⟨b, 0, none⟩ (.int .i64 t.kind)).setCell ⟨b, 1, none⟩ (.int .u16 t.mode)).setCell ⟨b, 2, none⟩ (.int .u16 t.links)).setCell ⟨b, 3, none⟩ (.int .u32 t.size)).setCell ⟨b, 4, none⟩ (.int .u64 t.time)).setCell ⟨b, 5, none⟩ (.int .i64 t.depth)).setCell ⟨b, 6, none⟩ (.int .u32 t.m.a)).heap[b]? = some (.cells #[.int .i64 t.kind, .int .u16 t.mode, .int .u16 t.links, .int .u32 t.size, .int .u64 t.time, .int .i64 t.depth, .int .u32 t.m.a, .int .u32 n.m.b, .int .u32 n.m.c, .int .u32 n.m.d, .int .u32 n.m.e, .int .u32 n.m.f] 41 (0, 0)) := heap_setCell_same _ b 6 _ _ (.int .u32 t.m.a) h5
  have h7 : ((((((((W.setCell ⟨b, 0, none⟩ (.int .i64 t.kind)).setCell ⟨b, 1, none⟩ (.int .u16 t.mode)).setCell ⟨b, 2, none⟩ (.int .u16 t.links)).setCell ⟨b, 3, none⟩ (.int .u32 t.size)).setCell ⟨b, 4, none⟩ (.int .u64 t.time)).setCell ⟨b, 5, none⟩ (.int .i64 t.depth)).setCell ⟨b, 6, none⟩ (.int .u32 t.m.a)).setCell ⟨b, 7, none⟩ (.int .u32 t.m.b)).heap[b]? = some (.cells #[.int .i64 t.kind, .int .u16 t.mode, .int .u16 t.links, .int .u32 t.size, .int .u64 t.time, .int .i64 t.depth, .int .u32 t.m.a, .int .u32 t.m.b, .int .u32 n.m.c, .int .u32 n.m.d, .int .u32 n.m.e, .int .u32 n.m.f] 41 (0, 0)) := heap_setCell_same _ b 7 _ _ (.int .u32 t.m.b) h6
  have h8 : (((((((((W.setCell ⟨b, 0, none⟩ (.int .i64 t.kind)).setCell ⟨b, 1, none⟩ (.int .u16 t.mode)).setCell ⟨b, 2, none⟩ (.int .u16 t.links)).setCell ⟨b, 3, none⟩ (.int .u32 t.size)).setCell ⟨b, 4, none⟩ (.int .u64 t.time)).setCell ⟨b, 5, none⟩ (.int .i64 t.depth)).setCell ⟨b, 6, none⟩ (.int .u32 t.m.a)).setCell ⟨b, 7, none⟩ (.int .u32 t.m.b)).setCell ⟨b, 8, none⟩ (.int .u32 t.m.c)).heap[b]? = some (.cells #[.int .i64 t.kind, .int .u16 t.mode, .int .u16 t.links, .int .u32 t.size, .int .u64 t.time, .int .i64 t.depth, .int .u32 t.m.a, .int .u32 t.m.b, .int .u32 t.m.c, .int .u32 n.m.d, .int .u32 n.m.e, .int .u32 n.m.f] 41 (0, 0)) := heap_setCell_same _ b 8 _ _ (.int .u32 t.m.c) h7
  have h9 : ((((((((((W.setCell ⟨b, 0, none⟩ (.int .i64 t.kind)).setCell ⟨b, 1, none⟩ (.int .u16 t.mode)).setCell ⟨b, 2, none⟩ (.int .u16 t.links)).setCell ⟨b, 3, none⟩ (.int .u32 t.size)).setCell ⟨b, 4, none⟩ (.int .u64 t.time)).setCell ⟨b, 5, none⟩ (.int .i64 t.depth)).setCell ⟨b, 6, none⟩ (.int .u32 t.m.a)).setCell ⟨b, 7, none⟩ (.int .u32 t.m.b)).setCell ⟨b, 8, none⟩ (.int .u32 t.m.c)).setCell ⟨b, 9, none⟩ (.int .u32 t.m.d)).heap[b]? = some (.cells #[.int .i64 t.kind, .int .u16 t.mode, .int .u16 t.links, .int .u32 t.size, .int .u64 t.time, .int .i64 t.depth, .int .u32 t.m.a, .int .u32 t.m.b, .int .u32 t.m.c, .int .u32 t.m.d, .int .u32 n.m.e, .int .u32 n.m.f] 41 (0, 0)) := heap_setCell_same _ b 9 _ _ (.int .u32 t.m.d) h8
  have h10 : (((((((((((W.setCell ⟨b, 0, none⟩ (.int .i64 t.kind)).setCell ⟨b, 1, none⟩ (.int .u16 t.mode)).setCell ⟨b, 2, none⟩ (.int .u16 t.links)).setCell ⟨b, 3, none⟩ (.int .u32 t.size)).setCell ⟨b, 4, none⟩ (.int .u64 t.time)).setCell ⟨b, 5, none⟩ (.int .i64 t.depth)).setCell ⟨b, 6, none⟩ (.int .u32 t.m.a)).setCell ⟨b, 7, none⟩ (.int .u32 t.m.b)).setCell ⟨b, 8, none⟩ (.int .u32 t.m.c)).setCell ⟨b, 9, none⟩ (.int .u32 t.m.d)).setCell ⟨b, 10, none⟩ (.int .u32 t.m.e)).heap[b]? = some (.cells #[.int .i64 t.kind, .int .u16 t.mode, .int .u16 t.links, .int .u32 t.size, .int .u64 t.time, .int .i64 t.depth, .int .u32 t.m.a, .int .u32 t.m.b, .int .u32 t.m.c, .int .u32 t.m.d, .int .u32 t.m.e, .int .u32 n.m.f] 41 (0, 0)) := heap_setCell_same _ b 10 _ _ (.int .u32 t.m.e) h9
  have h11 : ((((((((((((W.setCell ⟨b, 0, none⟩ (.int .i64 t.kind)).setCell ⟨b, 1, none⟩ (.int .u16 t.mode)).setCell ⟨b, 2, none⟩ (.int .u16 t.links)).setCell ⟨b, 3, none⟩ (.int .u32 t.size)).setCell ⟨b, 4, none⟩ (.int .u64 t.time)).setCell ⟨b, 5, none⟩ (.int .i64 t.depth)).setCell ⟨b, 6, none⟩ (.int .u32 t.m.a)).setCell ⟨b, 7, none⟩ (.int .u32 t.m.b)).setCell ⟨b, 8, none⟩ (.int .u32 t.m.c)).setCell ⟨b, 9, none⟩ (.int .u32 t.m.d)).setCell ⟨b, 10, none⟩ (.int .u32 t.m.e)).setCell ⟨b, 11, none⟩ (.int .u32 t.m.f)).heap[b]? = some (.cells #[.int .i64 t.kind, .int .u16 t.mode, .int .u16 t.links, .int .u32 t.size, .int .u64 t.time, .int .i64 t.depth, .int .u32 t.m.a, .int .u32 t.m.b, .int .u32 t.m.c, .int .u32 t.m.d, .int .u32 t.m.e, .int .u32 t.m.f] 41 (0, 0)) := heap_setCell_same _ b 11 _ _ (.int .u32 t.m.f) h10
  exact ⟨h11, (((((((((((((Below.refl b W).setCell (p := ⟨b, 0, none⟩) (Nat.le_refl _) _).setCell (p := ⟨b, 1, none⟩) (Nat.le_refl _) _).setCell (p := ⟨b, 2, none⟩) (Nat.le_refl _) _).setCell (p := ⟨b, 3, none⟩) (Nat.le_refl _) _).setCell (p := ⟨b, 4, none⟩) (Nat.le_refl _) _).setCell (p := ⟨b, 5, none⟩) (Nat.le_refl _) _).setCell (p := ⟨b, 6, none⟩) (Nat.le_refl _) _).setCell (p := ⟨b, 7, none⟩) (Nat.le_refl _) _).setCell (p := ⟨b, 8, none⟩) (Nat.le_refl _) _).setCell (p := ⟨b, 9, none⟩) (Nat.le_refl _) _).setCell (p := ⟨b, 10, none⟩) (Nat.le_refl _) _).setCell (p := ⟨b, 11, none⟩) (Nat.le_refl _) _)⟩
set_option maxRecDepth 100000 in
theorem results_inode {fn : Func} {r e : Tmp} (h : fn.results = #[.cell r 41, .tmp e]) (tmps : Array Value) (w : World) {b : Nat} {n : I} (hp : tmps.getD r undef = .pointer (some ⟨b, 0, none⟩)) (hA : At w b n) :
    (results fn tmps).run Try.prog w = .ok (.tuple #[n.val, tmps.getD e undef]) w := by
  obtain ⟨c0, c1, c2, c3, c4, c5, c6, c7, c8, c9, c10, c11⟩ := hA.c
  rw [Array.getD_eq_getD_getElem?] at hp
  simp [results, h, hp, go_sem, c0, c1, c2, c3, c4, c5, c6, c7, c8, c9, c10, c11]
  rfl
/-- the cells of an inode that is free, as they are typed -/
theorem At.zc {W : World} {b : Nat} (h : At W b I.zero) : W.cell? ⟨b, 0, none⟩ = some (.int .i64 0) ∧ W.cell? ⟨b, 1, none⟩ = some (.int .u16 0) ∧ W.cell? ⟨b, 2, none⟩ = some (.int .u16 0) ∧ W.cell? ⟨b, 3, none⟩ = some (.int .u32 0) ∧ W.cell? ⟨b, 4, none⟩ = some (.int .u64 0) ∧ W.cell? ⟨b, 5, none⟩ = some (.int .i64 0) ∧ W.cell? ⟨b, 6, none⟩ = some (.int .u32 0) ∧ W.cell? ⟨b, 7, none⟩ = some (.int .u32 0) ∧ W.cell? ⟨b, 8, none⟩ = some (.int .u32 0) ∧ W.cell? ⟨b, 9, none⟩ = some (.int .u32 0) ∧ W.cell? ⟨b, 10, none⟩ = some (.int .u32 0) ∧ W.cell? ⟨b, 11, none⟩ = some (.int .u32 0) := by
  obtain ⟨c0, c1, c2, c3, c4, c5, c6, c7, c8, c9, c10, c11⟩ := h.c
  exact ⟨c0, c1, c2, c3, c4, c5, c6, c7, c8, c9, c10, c11⟩
theorem At.putZ {W : World} {b : Nat} {n : I} (h : At W b n) : At ((((((((((((W.setCell ⟨b, 0, none⟩ (.int .i64 0)).setCell ⟨b, 1, none⟩ (.int .u16 0)).setCell ⟨b, 2, none⟩ (.int .u16 0)).setCell ⟨b, 3, none⟩ (.int .u32 0)).setCell ⟨b, 4, none⟩ (.int .u64 0)).setCell ⟨b, 5, none⟩ (.int .i64 0)).setCell ⟨b, 6, none⟩ (.int .u32 0)).setCell ⟨b, 7, none⟩ (.int .u32 0)).setCell ⟨b, 8, none⟩ (.int .u32 0)).setCell ⟨b, 9, none⟩ (.int .u32 0)).setCell ⟨b, 10, none⟩ (.int .u32 0)).setCell ⟨b, 11, none⟩ (.int .u32 0)) b I.zero ∧ Below b W ((((((((((((W.setCell ⟨b, 0, none⟩ (.int .i64 0)).setCell ⟨b, 1, none⟩ (.int .u16 0)).setCell ⟨b, 2, none⟩ (.int .u16 0)).setCell ⟨b, 3, none⟩ (.int .u32 0)).setCell ⟨b, 4, none⟩ (.int .u64 0)).setCell ⟨b, 5, none⟩ (.int .i64 0)).setCell ⟨b, 6, none⟩ (.int .u32 0)).setCell ⟨b, 7, none⟩ (.int .u32 0)).setCell ⟨b, 8, none⟩ (.int .u32 0)).setCell ⟨b, 9, none⟩ (.int .u32 0)).setCell ⟨b, 10, none⟩ (.int .u32 0)).setCell ⟨b, 11, none⟩ (.int .u32 0)) := h.put12 I.zero
section
set_option maxRecDepth 100000
set_option maxHeartbeats 8000000
theorem decode_any (s : ByteArray) (w : World) (hs : s.size ≤ 281474976710656) : Calls Try.prog 76 #[.string s] w (Ans w (.tuple #[(decV s).val, .int .i64 (decE s)])) := by
  have hN := decN_ok s
  have T0 := Lib.hid (fun W => itake_any s 0 1 W hs (by omega) (by omega) (by omega))
  have T1 := Lib.hid (fun W => itake_any s 1 2 W hs (by omega) (by omega) (by omega))
  have T2 := Lib.hid (fun W => itake_any s 3 2 W hs (by omega) (by omega) (by omega))
  have T3 := Lib.hid (fun W => itake_any s 5 4 W hs (by omega) (by omega) (by omega))
  have T4 := Lib.hid (fun W => itake_any s 9 6 W hs (by omega) (by omega) (by omega))
  have T5 := Lib.hid (fun W => itake_any s 15 1 W hs (by omega) (by omega) (by omega))
  have TM := Lib.hid (fun W => takeMap_any s W hs)
  have hE := fun W => encode_any (decN s) hN W
  obtain ⟨D, hD⟩ : ∃ D, decM s = D := ⟨_, rfl⟩
  obtain ⟨x0, hx0⟩ : ∃ x, tk s 0 1 = x := ⟨_, rfl⟩
  have l0 := tk_lt s 0 1
  obtain ⟨x1, hx1⟩ : ∃ x, tk s 1 2 = x := ⟨_, rfl⟩
  have l1 := tk_lt s 1 2
  obtain ⟨x2, hx2⟩ : ∃ x, tk s 3 2 = x := ⟨_, rfl⟩
  have l2 := tk_lt s 3 2
  obtain ⟨x3, hx3⟩ : ∃ x, tk s 5 4 = x := ⟨_, rfl⟩
  have l3 := tk_lt s 5 4
  obtain ⟨x4, hx4⟩ : ∃ x, tk s 9 6 = x := ⟨_, rfl⟩
  have l4 := tk_lt s 9 6
  obtain ⟨x5, hx5⟩ : ∃ x, tk s 15 1 = x := ⟨_, rfl⟩
  have l5 := tk_lt s 15 1
  have hNN : decN s = ⟨x0, x1, x2, x3, x4, x5, D⟩ := by unfold decN; rw [hx0, hx1, hx2, hx3, hx4, hx5, hD]
  rw [hNN] at hE
  simp only [hx0, hx1, hx2, hx3, hx4, hx5, hD] at T0 T1 T2 T3 T4 T5 TM l0 l1 l2 l3 l4 l5
  rw [show (256 : Nat) ^ 1 = 256 by decide] at l0 l5
  rw [show (256 : Nat) ^ 2 = 65536 by decide] at l1 l2
  rw [show (256 : Nat) ^ 4 = 4294967296 by decide] at l3
  have v0 : IntKind.i64.wrap (x0 : Int) = x0 := by rw [IntKind.wrap_i64]; omega
  have v1 : IntKind.u16.wrap (x1 : Int) = x1 := by rw [IntKind.wrap_u16]; omega
  have v2 : IntKind.u16.wrap (x2 : Int) = x2 := by rw [IntKind.wrap_u16]; omega
  have v3 : IntKind.u32.wrap (x3 : Int) = x3 := by rw [IntKind.wrap_u32]; omega
  have v5 : IntKind.i64.wrap (x5 : Int) = x5 := by rw [IntKind.wrap_i64]; omega
  unfold I.val at hE
  unfold M.val at TM
  dsimp only at hE TM
  have HW : Hid (∀ w0 w1 w2 w3 w4 w5 w6 w7, Below (w.alloc (.cells #[.int .i64 0, .int .u16 0, .int .u16 0, .int .u32 0, .int .u64 0, .int .i64 0, .int .u32 0, .int .u32 0, .int .u32 0, .int .u32 0, .int .u32 0, .int .u32 0] 41)).heap.size (w.alloc (.cells #[.int .i64 0, .int .u16 0, .int .u16 0, .int .u32 0, .int .u64 0, .int .i64 0, .int .u32 0, .int .u32 0, .int .u32 0, .int .u32 0, .int .u32 0, .int .u32 0] 41)) w0 → Below w0.heap.size w0 w1 → Below w1.heap.size w1 w2 → Below w2.heap.size w2 w3 → Below w3.heap.size w3 w4 → Below w4.heap.size w4 w5 → Below w5.heap.size w5 w6 → Below (w6.alloc (.cells #[.int .i64 x0, .int .u16 x1, .int .u16 x2, .int .u32 x3, .int .u64 x4, .int .i64 x5, .int .u32 D.a, .int .u32 D.b, .int .u32 D.c, .int .u32 D.d, .int .u32 D.e, .int .u32 D.f] 41)).heap.size (w6.alloc (.cells #[.int .i64 x0, .int .u16 x1, .int .u16 x2, .int .u32 x3, .int .u64 x4, .int .i64 x5, .int .u32 D.a, .int .u32 D.b, .int .u32 D.c, .int .u32 D.d, .int .u32 D.e, .int .u32 D.f] 41)) w7 →
      Hid (At w7 w.heap.size I.zero) ∧ Hid (At w7 w6.heap.size ⟨x0, x1, x2, x3, x4, x5, D⟩) ∧ Hid (Below w.heap.size w w7)) := fun w0 w1 w2 w3 w4 w5 w6 w7 h0 h1 h2 h3 h4 h5 h6 h7 => by
    have hz := At.new w I.zero
    have hb := below_new w (boxO I.zero)
    have k6 := below_th (below_th (below_th (below_th (below_th (below_th h0 h1) h2) h3) h4) h5) h6
    have z6 : At w6 w.heap.size I.zero := hz.th k6
    have b6 : Below w.heap.size w w6 := below_th hb k6
    have d6 : At (w6.alloc (.cells #[.int .i64 x0, .int .u16 x1, .int .u16 x2, .int .u32 x3, .int .u64 x4, .int .i64 x5, .int .u32 D.a, .int .u32 D.b, .int .u32 D.c, .int .u32 D.d, .int .u32 D.e, .int .u32 D.f] 41)) w6.heap.size ⟨x0, x1, x2, x3, x4, x5, D⟩ := At.new w6 ⟨x0, x1, x2, x3, x4, x5, D⟩
    have n6 := below_new w6 (.cells #[.int .i64 x0, .int .u16 x1, .int .u16 x2, .int .u32 x3, .int .u64 x4, .int .i64 x5, .int .u32 D.a, .int .u32 D.b, .int .u32 D.c, .int .u32 D.d, .int .u32 D.e, .int .u32 D.f] 41)
    exact ⟨(z6.th n6).th h7, d6.th h7, below_th (below_th b6 n6) h7⟩
  by_cases h : RightP (decN s)
  · rw [hNN] at h
    rw [encS_yes h, encE_yes h] at hE
    by_cases hb : bytes (decN s) = s
    · have HV : Hid (decV s = ⟨x0, x1, x2, x3, x4, x5, D⟩ ∧ decE s = 0) := by
        have hok : decOk s := ⟨by rw [hNN]; exact h, hb⟩
        exact ⟨by rw [decV_yes hok, hNN], decE_yes hok⟩
      rw [hNN] at hb
      rw [hb] at hE
      have hcmp := beq_yes (rfl : s = s)
      have HE := Lib.hid hE
      clear hE hx0 hx1 hx2 hx3 hx4 hx5 hD hNN hN hs l0 l1 l2 l3 l4 l5 h hb
      go_enter Try.func76, Try.ntmps76
      go_wp2_with (first
        | (go_at_call 80; (with_reducible refine Calls.mono (T0.out _) ?_); rintro e w0 ⟨rfl, hB0⟩)
        | (go_at_call 80; (with_reducible refine Calls.mono (T1.out _) ?_); rintro e w1 ⟨rfl, hB1⟩)
        | (go_at_call 80; (with_reducible refine Calls.mono (T2.out _) ?_); rintro e w2 ⟨rfl, hB2⟩)
        | (go_at_call 80; (with_reducible refine Calls.mono (T3.out _) ?_); rintro e w3 ⟨rfl, hB3⟩)
        | (go_at_call 80; (with_reducible refine Calls.mono (T4.out _) ?_); rintro e w4 ⟨rfl, hB4⟩)
        | (go_at_call 80; (with_reducible refine Calls.mono (T5.out _) ?_); rintro e w5 ⟨rfl, hB5⟩)
        | (go_at_call 81; (with_reducible refine Calls.mono (TM.out _) ?_); rintro e w6 ⟨rfl, hB6⟩)
        | (go_at_call 74; (with_reducible refine Calls.mono (HE.out _) ?_); rintro e w7 ⟨rfl, hB7⟩; obtain ⟨HZ, HD, HB⟩ := HW.out _ _ _ _ _ _ _ _ hB0 hB1 hB2 hB3 hB4 hB5 hB6 hB7; obtain ⟨z0, z1, z2, z3, z4, z5, z6, z7, z8, z9, z10, z11⟩ := HZ.out.zc; obtain ⟨d0, d1, d2, d3, d4, d5, d6, d7, d8, d9, d10, d11⟩ := HD.out.c; dsimp only at d0 d1 d2 d3 d4 d5 d6 d7 d8 d9 d10 d11; have g0 := HZ.out.f 0; have g1 := HZ.out.f 1; have g2 := HZ.out.f 2; have g3 := HZ.out.f 3; have g4 := HZ.out.f 4; have g5 := HZ.out.f 5; have g6 := HZ.out.f 6; have g7 := HZ.out.f 7; have g8 := HZ.out.f 8; have g9 := HZ.out.f 9; have g10 := HZ.out.f 10; have g11 := HZ.out.f 11))
      obtain ⟨hAp, hBp⟩ := HZ.out.put12 ⟨x0, x1, x2, x3, x4, x5, D⟩
      have HAp := Lib.hid hAp
      have HBp := Lib.hid hBp
      clear hAp hBp
      go_wp2
      refine bodyPost_ret (results_inode rfl _ _ rfl HAp.out) rfl ?_
      exact ⟨by rw [HV.out.1, HV.out.2]; rfl, HB.out.trans HBp.out⟩
    · have HV : Hid (decV s = I.zero ∧ decE s = 100) := by
        have hno : ¬ decOk s := fun hh => hb hh.2
        exact ⟨decV_no hno, decE_no hno⟩
      rw [hNN] at hb
      have hcmp := beq_no hb
      obtain ⟨E, hEe⟩ : ∃ E, bytes ⟨x0, x1, x2, x3, x4, x5, D⟩ = E := ⟨_, rfl⟩
      rw [hEe] at hE hcmp
      have HE := Lib.hid hE
      clear hE hx0 hx1 hx2 hx3 hx4 hx5 hD hNN hN hs l0 l1 l2 l3 l4 l5 h hb hEe
      go_enter Try.func76, Try.ntmps76
      go_wp2_with (first
        | (go_at_call 80; (with_reducible refine Calls.mono (T0.out _) ?_); rintro e w0 ⟨rfl, hB0⟩)
        | (go_at_call 80; (with_reducible refine Calls.mono (T1.out _) ?_); rintro e w1 ⟨rfl, hB1⟩)
        | (go_at_call 80; (with_reducible refine Calls.mono (T2.out _) ?_); rintro e w2 ⟨rfl, hB2⟩)
        | (go_at_call 80; (with_reducible refine Calls.mono (T3.out _) ?_); rintro e w3 ⟨rfl, hB3⟩)
        | (go_at_call 80; (with_reducible refine Calls.mono (T4.out _) ?_); rintro e w4 ⟨rfl, hB4⟩)
        | (go_at_call 80; (with_reducible refine Calls.mono (T5.out _) ?_); rintro e w5 ⟨rfl, hB5⟩)
        | (go_at_call 81; (with_reducible refine Calls.mono (TM.out _) ?_); rintro e w6 ⟨rfl, hB6⟩)
        | (go_at_call 74; (with_reducible refine Calls.mono (HE.out _) ?_); rintro e w7 ⟨rfl, hB7⟩; obtain ⟨HZ, HD, HB⟩ := HW.out _ _ _ _ _ _ _ _ hB0 hB1 hB2 hB3 hB4 hB5 hB6 hB7; obtain ⟨z0, z1, z2, z3, z4, z5, z6, z7, z8, z9, z10, z11⟩ := HZ.out.zc; obtain ⟨d0, d1, d2, d3, d4, d5, d6, d7, d8, d9, d10, d11⟩ := HD.out.c; dsimp only at d0 d1 d2 d3 d4 d5 d6 d7 d8 d9 d10 d11; have g0 := HZ.out.f 0; have g1 := HZ.out.f 1; have g2 := HZ.out.f 2; have g3 := HZ.out.f 3; have g4 := HZ.out.f 4; have g5 := HZ.out.f 5; have g6 := HZ.out.f 6; have g7 := HZ.out.f 7; have g8 := HZ.out.f 8; have g9 := HZ.out.f 9; have g10 := HZ.out.f 10; have g11 := HZ.out.f 11))
      obtain ⟨hAp, hBp⟩ := HZ.out.putZ
      have HAp := Lib.hid hAp
      have HBp := Lib.hid hBp
      clear hAp hBp
      go_wp2
      refine bodyPost_ret (results_inode rfl _ _ rfl HAp.out) rfl ?_
      exact ⟨by rw [HV.out.1, HV.out.2]; rfl, HB.out.trans HBp.out⟩
  · have HV : Hid (decV s = I.zero ∧ decE s = 100) := by
      have hno : ¬ decOk s := fun hh => h hh.1
      exact ⟨decV_no hno, decE_no hno⟩
    rw [hNN] at h
    rw [encS_no h, encE_no h] at hE
    have HE := Lib.hid hE
    clear hE hx0 hx1 hx2 hx3 hx4 hx5 hD hNN hN hs l0 l1 l2 l3 l4 l5 h
    go_enter Try.func76, Try.ntmps76
    go_wp2_with (first
      | (go_at_call 80; (with_reducible refine Calls.mono (T0.out _) ?_); rintro e w0 ⟨rfl, hB0⟩)
      | (go_at_call 80; (with_reducible refine Calls.mono (T1.out _) ?_); rintro e w1 ⟨rfl, hB1⟩)
      | (go_at_call 80; (with_reducible refine Calls.mono (T2.out _) ?_); rintro e w2 ⟨rfl, hB2⟩)
      | (go_at_call 80; (with_reducible refine Calls.mono (T3.out _) ?_); rintro e w3 ⟨rfl, hB3⟩)
      | (go_at_call 80; (with_reducible refine Calls.mono (T4.out _) ?_); rintro e w4 ⟨rfl, hB4⟩)
      | (go_at_call 80; (with_reducible refine Calls.mono (T5.out _) ?_); rintro e w5 ⟨rfl, hB5⟩)
      | (go_at_call 81; (with_reducible refine Calls.mono (TM.out _) ?_); rintro e w6 ⟨rfl, hB6⟩)
      | (go_at_call 74; (with_reducible refine Calls.mono (HE.out _) ?_); rintro e w7 ⟨rfl, hB7⟩; obtain ⟨HZ, HD, HB⟩ := HW.out _ _ _ _ _ _ _ _ hB0 hB1 hB2 hB3 hB4 hB5 hB6 hB7; obtain ⟨z0, z1, z2, z3, z4, z5, z6, z7, z8, z9, z10, z11⟩ := HZ.out.zc; obtain ⟨d0, d1, d2, d3, d4, d5, d6, d7, d8, d9, d10, d11⟩ := HD.out.c; dsimp only at d0 d1 d2 d3 d4 d5 d6 d7 d8 d9 d10 d11; have g0 := HZ.out.f 0; have g1 := HZ.out.f 1; have g2 := HZ.out.f 2; have g3 := HZ.out.f 3; have g4 := HZ.out.f 4; have g5 := HZ.out.f 5; have g6 := HZ.out.f 6; have g7 := HZ.out.f 7; have g8 := HZ.out.f 8; have g9 := HZ.out.f 9; have g10 := HZ.out.f 10; have g11 := HZ.out.f 11))
    obtain ⟨hAp, hBp⟩ := HZ.out.putZ
    have HAp := Lib.hid hAp
    have HBp := Lib.hid hBp
    clear hAp hBp
    go_wp2
    refine bodyPost_ret (results_inode rfl _ _ rfl HAp.out) rfl ?_
    exact ⟨by rw [HV.out.1, HV.out.2]; rfl, HB.out.trans HBp.out⟩
end
end Go.Proofs.Yteopcjfakhmifaa.Ino
/- The document's Node. -/
namespace Go.Proofs.Yteopcjfakhmifaa.Vol
open Go.RowKit
open Ino (I M RightP IOk dpN UsedP)
open Pln (Nd nd)
attribute [local go_sem] Oper.semAt_some
set_option linter.unusedVariables false
set_option linter.unusedSimpArgs false
namespace R
section
set_option maxRecDepth 100000
set_option maxHeartbeats 2000000
theorem node_any (x : I) (hx : IOk x) (d : ByteArray) (hd : d.size ≤ 281474976710656) (w : World) : Calls Try.prog 23 #[x.val, .string d] w (Ans w (.tuple #[(ndV x d).val, .int .i64 (ndE x d)])) := by
  have hr := fun W => Ino.R.right_any x hx W
  have hA := Ino.At.new w x
  have hB1 := below_new w (Ino.boxO x)
  obtain ⟨O, hO⟩ : ∃ O : Obj, O = .cells #[.int .i64 0, .int .u16 0, .int .u16 0, .int .u64 0, .string ⟨#[]⟩] 38 := ⟨_, rfl⟩
  have hZ : Pln.At ((w.alloc (Ino.boxO x)).alloc O) (w.alloc (Ino.boxO x)).heap.size Nd.zero := by rw [hO]; exact Pln.At.new (w.alloc (Ino.boxO x)) Nd.zero
  have hB2 := below_new (w.alloc (Ino.boxO x)) O
  have hA2 := hA.th hB2
  have hB := below_th hB1 hB2
  rw [World.size_alloc] at hZ
  obtain ⟨hl1, hl2⟩ : x.size < 4294967296 ∧ True := ⟨hx.size, trivial⟩
  have hw1 : IntKind.u64.wrap (d.size : Int) = (d.size : Int) := by rw [IntKind.wrap_u64]; omega
  have hw2 : IntKind.u64.wrap (x.size : Int) = (x.size : Int) := by rw [IntKind.wrap_u64]; omega
  have HY : Hid (ndP x d → ndV x d = ndOf x d ∧ ndE x d = 0) := nd_yes
  have HN : Hid (¬ ndP x d → ndV x d = Nd.zero ∧ ndE x d = 154) := nd_no
  obtain ⟨W1, hW1⟩ : ∃ W1, (w.alloc (Ino.boxO x)).alloc O = W1 := ⟨_, rfl⟩
  have hc := hA2.c
  rw [hW1] at hA2 hB hZ hc
  rw [hO] at hW1
  unfold Ino.boxO at hW1
  have HA := Lib.hid hA2
  have HZ := Lib.hid hZ
  have HB := Lib.hid hB
  obtain ⟨a0, a1, a2, a3, a4, a5, a6, a7, a8, a9, a10, a11⟩ := hc
  clear hA hB1 hB2 hA2 hZ hB
  by_cases h1 : RightP x
  · rw [Ino.rightB_yes h1] at hr
    unfold Ino.I.val at hr ⊢
    by_cases h2 : d.size = x.size
    · obtain ⟨e1, e2⟩ := HY.out ⟨h1, h2⟩
      have HE := Lib.hid (show Value.tuple #[(ndOf x d).val, .int .i64 0] = .tuple #[(ndV x d).val, .int .i64 (ndE x d)] by rw [e1, e2])
      have g1 : ((d.size : Int) != (x.size : Int)) = false := by simp [h2]
      clear h1 HY HN e1 e2 hx
      go_enter Try.func23, Try.ntmps23
      go_wp2_with (go_at_call 47; (refine (hr _).mono ?_; rintro e w2 ⟨rfl, hb⟩; obtain ⟨c0, c1, c2, c3, c4, c5, c6, c7, c8, c9, c10, c11⟩ := (HA.out.th hb).c; obtain ⟨z0, z1, z2, z3, z4⟩ := zcN (HZ.out.th hb); have HZ2 := Lib.hid (HZ.out.th hb); have f0 := HZ2.out.f 0; have f1 := HZ2.out.f 1; have f2 := HZ2.out.f 2; have f3 := HZ2.out.f 3; have f4 := HZ2.out.f 4; obtain ⟨hAp, hBp⟩ := HZ2.out.put5 (ndOf x d); have HAp := Lib.hid hAp; have HBp := Lib.hid hBp; have HB2 := Lib.hid (below_th HB.out hb); clear hAp hBp hb))
      refine bodyPost_ret (results_node rfl _ _ rfl HAp.out) rfl ?_
      exact Ans.eq HE.out ⟨rfl, HB2.out.trans (HBp.out.mono (by omega))⟩
    · obtain ⟨e1, e2⟩ := HN.out (fun h => h2 h.2)
      have HE := Lib.hid (show Value.tuple #[Nd.zero.val, .int .i64 154] = .tuple #[(ndV x d).val, .int .i64 (ndE x d)] by rw [e1, e2])
      have g1 : ((d.size : Int) != (x.size : Int)) = true := bne_iff_ne.2 (by omega)
      clear h1 HY HN e1 e2 hx
      go_enter Try.func23, Try.ntmps23
      go_wp2_with (go_at_call 47; (refine (hr _).mono ?_; rintro e w2 ⟨rfl, hb⟩; obtain ⟨c0, c1, c2, c3, c4, c5, c6, c7, c8, c9, c10, c11⟩ := (HA.out.th hb).c; obtain ⟨z0, z1, z2, z3, z4⟩ := zcN (HZ.out.th hb); have HZ2 := Lib.hid (HZ.out.th hb); have f0 := HZ2.out.f 0; have f1 := HZ2.out.f 1; have f2 := HZ2.out.f 2; have f3 := HZ2.out.f 3; have f4 := HZ2.out.f 4; obtain ⟨hAp, hBp⟩ := putZN HZ2.out; have HAp := Lib.hid hAp; have HBp := Lib.hid hBp; have HB2 := Lib.hid (below_th HB.out hb); clear hAp hBp hb))
      refine bodyPost_ret (results_node rfl _ _ rfl HAp.out) rfl ?_
      exact Ans.eq HE.out ⟨rfl, HB2.out.trans (HBp.out.mono (by omega))⟩
  · rw [Ino.rightB_no h1] at hr
    unfold Ino.I.val at hr ⊢
    obtain ⟨e1, e2⟩ := HN.out (fun h => h1 h.1)
    have HE := Lib.hid (show Value.tuple #[Nd.zero.val, .int .i64 154] = .tuple #[(ndV x d).val, .int .i64 (ndE x d)] by rw [e1, e2])
    clear h1 HY HN e1 e2 hx
    go_enter Try.func23, Try.ntmps23
    go_wp2_with (go_at_call 47; (refine (hr _).mono ?_; rintro e w2 ⟨rfl, hb⟩; obtain ⟨c0, c1, c2, c3, c4, c5, c6, c7, c8, c9, c10, c11⟩ := (HA.out.th hb).c; obtain ⟨z0, z1, z2, z3, z4⟩ := zcN (HZ.out.th hb); have HZ2 := Lib.hid (HZ.out.th hb); have f0 := HZ2.out.f 0; have f1 := HZ2.out.f 1; have f2 := HZ2.out.f 2; have f3 := HZ2.out.f 3; have f4 := HZ2.out.f 4; obtain ⟨hAp, hBp⟩ := putZN HZ2.out; have HAp := Lib.hid hAp; have HBp := Lib.hid hBp; have HB2 := Lib.hid (below_th HB.out hb); clear hAp hBp hb))
    refine bodyPost_ret (results_node rfl _ _ rfl HAp.out) rfl ?_
    exact Ans.eq HE.out ⟨rfl, HB2.out.trans (HBp.out.mono (by omega))⟩
end
end R
end Go.Proofs.Yteopcjfakhmifaa.Vol
