/- Inodes in memory: one, its map; when two are the same. -/
import Derived.StillTailTactics
import Derived.Deep.RegionWith
import Derived.Deep.RegionHeld3
import Derived.BigQuiet
import Derived.Handy
import Derived.Laws.StructEq
import Derived.ChangeKeysEq
import Derived.Lib.Strings
import Derived.Test.YtdakfdecfpebcaaRow
import Derived.Test.YtdakfdecfpebcaaInoMath
namespace Go.Proofs.Ytdakfdecfpebcaa.Ino
open Go.RowKit
attribute [local go_sem] Oper.semAt_some
set_option linter.unusedVariables false
set_option linter.unusedSimpArgs false

def M.cells (m : M) : List Value := [.int .u32 m.a, .int .u32 m.b, .int .u32 m.c, .int .u32 m.d, .int .u32 m.e, .int .u32 m.f]
def M.val (m : M) : Value := .agg #[.int .u32 m.a, .int .u32 m.b, .int .u32 m.c, .int .u32 m.d, .int .u32 m.e, .int .u32 m.f]
def I.val (n : I) : Value := .agg #[.int .i64 n.kind, .int .u16 n.mode, .int .u16 n.links, .int .u32 n.size, .int .u64 n.time, .int .i64 n.depth, .int .u32 n.m.a, .int .u32 n.m.b, .int .u32 n.m.c, .int .u32 n.m.d, .int .u32 n.m.e, .int .u32 n.m.f]
/-- an inode's cells -/
def boxO (n : I) : Obj := .cells #[.int .i64 n.kind, .int .u16 n.mode, .int .u16 n.links, .int .u32 n.size, .int .u64 n.time, .int .i64 n.depth, .int .u32 n.m.a, .int .u32 n.m.b, .int .u32 n.m.c, .int .u32 n.m.d, .int .u32 n.m.e, .int .u32 n.m.f] 74
/-- a map's cells -/
def boxM (m : M) : Obj := .cells #[.int .u32 m.a, .int .u32 m.b, .int .u32 m.c, .int .u32 m.d, .int .u32 m.e, .int .u32 m.f] 32

/-- a map lies at block b -/
def AtM (W : World) (b : Nat) (m : M) : Prop := W.heap[b]? = some (.cells #[.int .u32 m.a, .int .u32 m.b, .int .u32 m.c, .int .u32 m.d, .int .u32 m.e, .int .u32 m.f] 32 (0, 0))
theorem AtM.c {W : World} {b : Nat} {m : M} (h : AtM W b m) : W.cell? ⟨b, 0, none⟩ = some (.int .u32 m.a) ∧ W.cell? ⟨b, 1, none⟩ = some (.int .u32 m.b) ∧ W.cell? ⟨b, 2, none⟩ = some (.int .u32 m.c) ∧ W.cell? ⟨b, 3, none⟩ = some (.int .u32 m.d) ∧ W.cell? ⟨b, 4, none⟩ = some (.int .u32 m.e) ∧ W.cell? ⟨b, 5, none⟩ = some (.int .u32 m.f) := by
  unfold AtM at h
  simp only [World.cell?, h]
  exact ⟨rfl, rfl, rfl, rfl, rfl, rfl⟩
theorem AtM.cell {W : World} {b : Nat} {m : M} (h : AtM W b m) {i : Nat} (hi : i < 6) : W.cell? ⟨b, i, none⟩ = some (.int .u32 (m.at' i)) := by
  obtain ⟨c0, c1, c2, c3, c4, c5⟩ := h.c
  match i, hi with
  | 0, _ => exact c0
  | 1, _ => exact c1
  | 2, _ => exact c2
  | 3, _ => exact c3
  | 4, _ => exact c4
  | 5, _ => exact c5
theorem AtM.f {W : World} {b : Nat} {m : M} (h : AtM W b m) (i : Nat) : W.frozen? ⟨b, i, none⟩ = false := by
  unfold AtM at h
  simp [World.frozen?, h]
theorem AtM.below {W W' : World} {b n : Nat} {m : M} (h : AtM W b m) (hB : Below n W W') (hb : b < n) : AtM W' b m := (hB.block b hb).trans h
theorem AtM.new (w : World) (m : M) : AtM (w.alloc (boxM m)) w.heap.size m := World.alloc_heap_new w _
theorem AtM.lt {W : World} {b : Nat} {m : M} (h : AtM W b m) : b < W.heap.size := (Array.getElem?_eq_some_iff.1 h).1
theorem AtM.th {W W' : World} {b : Nat} {m : M} (h : AtM W b m) (hB : Below W.heap.size W W') : AtM W' b m := h.below hB h.lt
theorem AtM.of_heap {W W' : World} {b : Nat} {m : M} (h : AtM W b m) (hb : W'.heap[b]? = W.heap[b]?) : AtM W' b m := hb.trans h
theorem AtM.drew {W : World} {b : Nat} {m : M} (h : AtM W b m) : AtM W.drew b m := h
/-- a number laid over another one -/
def M.set (m : M) (i v : Nat) : M := ⟨if i = 0 then v else m.a, if i = 1 then v else m.b, if i = 2 then v else m.c, if i = 3 then v else m.d, if i = 4 then v else m.e, if i = 5 then v else m.f⟩
theorem M.set_at (m : M) (i v j : Nat) (hj : j < 6) : (m.set i v).at' j = if i = j then v else m.at' j := by
  match j, hj with
  | 0, _ => rfl
  | 1, _ => rfl
  | 2, _ => rfl
  | 3, _ => rfl
  | 4, _ => rfl
  | 5, _ => rfl
theorem AtM.put {W : World} {b : Nat} {m : M} (h : AtM W b m) {i : Nat} (hi : i < 6) (v : Nat) : AtM (W.setCell ⟨b, i, none⟩ (.int .u32 v)) b (m.set i v) ∧ Below b W (W.setCell ⟨b, i, none⟩ (.int .u32 v)) := by
  unfold AtM at h
  refine ⟨?_, (Below.refl b W).setCell (p := ⟨b, i, none⟩) (Nat.le_refl _) _⟩
  have := heap_setCell_same W b i _ _ (.int .u32 v) h
  match i, hi with
  | 0, _ => exact this
  | 1, _ => exact this
  | 2, _ => exact this
  | 3, _ => exact this
  | 4, _ => exact this
  | 5, _ => exact this

/-- an inode lies at block b -/
def At (W : World) (b : Nat) (n : I) : Prop := W.heap[b]? = some (.cells #[.int .i64 n.kind, .int .u16 n.mode, .int .u16 n.links, .int .u32 n.size, .int .u64 n.time, .int .i64 n.depth, .int .u32 n.m.a, .int .u32 n.m.b, .int .u32 n.m.c, .int .u32 n.m.d, .int .u32 n.m.e, .int .u32 n.m.f] 74 (0, 0))
/-- its cells -/
structure Reads (W : World) (b : Nat) (n : I) : Prop where
  c0 : W.cell? ⟨b, 0, none⟩ = some (.int .i64 n.kind)
  c1 : W.cell? ⟨b, 1, none⟩ = some (.int .u16 n.mode)
  c2 : W.cell? ⟨b, 2, none⟩ = some (.int .u16 n.links)
  c3 : W.cell? ⟨b, 3, none⟩ = some (.int .u32 n.size)
  c4 : W.cell? ⟨b, 4, none⟩ = some (.int .u64 n.time)
  c5 : W.cell? ⟨b, 5, none⟩ = some (.int .i64 n.depth)
  c6 : W.cell? ⟨b, 6, none⟩ = some (.int .u32 n.m.a)
  c7 : W.cell? ⟨b, 7, none⟩ = some (.int .u32 n.m.b)
  c8 : W.cell? ⟨b, 8, none⟩ = some (.int .u32 n.m.c)
  c9 : W.cell? ⟨b, 9, none⟩ = some (.int .u32 n.m.d)
  c10 : W.cell? ⟨b, 10, none⟩ = some (.int .u32 n.m.e)
  c11 : W.cell? ⟨b, 11, none⟩ = some (.int .u32 n.m.f)
theorem At.c {W : World} {b : Nat} {n : I} (h : At W b n) : Reads W b n := by
  unfold At at h
  constructor <;> (simp only [World.cell?, h]; rfl)
theorem At.cellM {W : World} {b : Nat} {n : I} (h : At W b n) {i : Nat} (hi : i < 6) : W.cell? ⟨b, 6 + i, none⟩ = some (.int .u32 (n.m.at' i)) := by
  obtain ⟨_, _, _, _, _, _, c0, c1, c2, c3, c4, c5⟩ := h.c
  match i, hi with
  | 0, _ => exact c0
  | 1, _ => exact c1
  | 2, _ => exact c2
  | 3, _ => exact c3
  | 4, _ => exact c4
  | 5, _ => exact c5
theorem At.f {W : World} {b : Nat} {n : I} (h : At W b n) (i : Nat) : W.frozen? ⟨b, i, none⟩ = false := by
  unfold At at h
  simp [World.frozen?, h]
theorem At.below {W W' : World} {b k : Nat} {n : I} (h : At W b n) (hB : Below k W W') (hb : b < k) : At W' b n := (hB.block b hb).trans h
theorem At.new (w : World) (n : I) : At (w.alloc (boxO n)) w.heap.size n := World.alloc_heap_new w _
theorem At.lt {W : World} {b : Nat} {n : I} (h : At W b n) : b < W.heap.size := (Array.getElem?_eq_some_iff.1 h).1
theorem At.th {W W' : World} {b : Nat} {n : I} (h : At W b n) (hB : Below W.heap.size W W') : At W' b n := h.below hB h.lt
theorem At.of_heap {W W' : World} {b : Nat} {n : I} (h : At W b n) (hb : W'.heap[b]? = W.heap[b]?) : At W' b n := hb.trans h
theorem At.drew {W : World} {b : Nat} {n : I} (h : At W b n) : At W.drew b n := h
theorem At.putM {W : World} {b : Nat} {n : I} (h : At W b n) {i : Nat} (hi : i < 6) (v : Nat) : At (W.setCell ⟨b, 6 + i, none⟩ (.int .u32 v)) b { n with m := n.m.set i v } ∧ Below b W (W.setCell ⟨b, 6 + i, none⟩ (.int .u32 v)) := by
  unfold At at h
  refine ⟨?_, (Below.refl b W).setCell (p := ⟨b, 6 + i, none⟩) (Nat.le_refl _) _⟩
  have := heap_setCell_same W b (6 + i) _ _ (.int .u32 v) h
  match i, hi with
  | 0, _ => exact this
  | 1, _ => exact this
  | 2, _ => exact this
  | 3, _ => exact this
  | 4, _ => exact this
  | 5, _ => exact this
theorem below_al {w W : World} (h : Below w.heap.size w W) (o : Obj) : Below w.heap.size w (W.alloc o) := h.alloc h.size _
theorem below_new (w : World) (o : Obj) : Below w.heap.size w (w.alloc o) := (Below.refl _ _).alloc (Nat.le_refl _) _

theorem below_drewN {B : Nat} {w W : World} (h : Below B w W) (n : Nat) : Below B w (W.drewN n) := ⟨h.1, h.2, h.3, h.4, h.5⟩

/-- what asks answers: only what is new is written -/
def Ans (w : World) (v : Value) (e : Ending) (w' : World) : Prop := e = .returned v ∧ Below w.heap.size w w'
theorem Ans.eq {w w' : World} {e : Ending} {v u : Value} (h : v = u) (k : Ans w v e w') : Ans w u e w' := h ▸ k

theorem infoM : (Try.prog.info? 22).isSome = true := by kernel_rfl
theorem infoI : (Try.prog.info? 74).map (fun i => (i.zero, i.size)) = some (some (.agg #[.int .i64 0, .int .u16 0, .int .u16 0, .int .u32 0, .int .u64 0, .int .i64 0, .int .u32 0, .int .u32 0, .int .u32 0, .int .u32 0, .int .u32 0, .int .u32 0]), 12) := by kernel_rfl
theorem cellsU : Try.prog.cellsOf 22 = 1 := by kernel_rfl
theorem run_eqM (d : Nat) (a b : M) (w : World) : (Op.equalIn (d + 2) 32 a.val b.val).run Try.prog w = .ok (decide (a = b)) w := by
  obtain ⟨i, hi⟩ := Option.isSome_iff_exists.1 infoM
  unfold M.val
  rw [run_equalIn_array w (d + 1) _ _ Try.underlying32 hi, cellsU]
  obtain ⟨a0, a1, a2, a3, a4, a5⟩ := a
  obtain ⟨b0, b1, b2, b3, b4, b5⟩ := b
  simp only [M.mk.injEq, show List.range 6 = [0, 1, 2, 3, 4, 5] from rfl]
  by_cases h0 : a0 = b0
  · by_cases h1 : a1 = b1
    · by_cases h2 : a2 = b2
      · by_cases h3 : a3 = b3
        · by_cases h4 : a4 = b4
          · by_cases h5 : a5 = b5
            · simp [go_sem, Op.eqItems, h0, h1, h2, h3, h4, h5]
            · have h' : ¬ (a5 : Int) = b5 := by omega
              simp [go_sem, Op.eqItems, h0, h1, h2, h3, h4, h5, h']
          · have h' : ¬ (a4 : Int) = b4 := by omega
            simp [go_sem, Op.eqItems, h0, h1, h2, h3, h4, h']
        · have h' : ¬ (a3 : Int) = b3 := by omega
          simp [go_sem, Op.eqItems, h0, h1, h2, h3, h']
      · have h' : ¬ (a2 : Int) = b2 := by omega
        simp [go_sem, Op.eqItems, h0, h1, h2, h']
    · have h' : ¬ (a1 : Int) = b1 := by omega
      simp [go_sem, Op.eqItems, h0, h1, h']
  · have h' : ¬ (a0 : Int) = b0 := by omega
    simp [go_sem, Op.eqItems, h0, h']
theorem eqlM (a b : M) (w : World) : (binOp .eql 32 a.val b.val).run Try.prog w = .ok (.bool (decide (a = b))) w := by
  have h := run_eqM 9998 a b w
  unfold M.val at h ⊢
  rw [run_eql_struct, h]
  rfl
theorem run_eqI (d : Nat) (a b : I) (w : World) : (Op.equalIn (d + 3) 74 a.val b.val).run Try.prog w = .ok (decide (a = b)) w := by
  unfold I.val
  rw [run_equalIn_agg w (d + 2) 74 _ _ (by kernel_rfl) (by kernel_rfl)]
  obtain ⟨a0, a1, a2, a3, a4, a5, am⟩ := a
  obtain ⟨b0, b1, b2, b3, b4, b5, bm⟩ := b
  have hM := run_eqM d am bm w
  unfold M.val at hM
  simp only [I.mk.injEq]
  by_cases h0 : a0 = b0
  · by_cases h1 : a1 = b1
    · by_cases h2 : a2 = b2
      · by_cases h3 : a3 = b3
        · by_cases h4 : a4 = b4
          · by_cases h5 : a5 = b5
            · simp [go_sem, h0, h1, h2, h3, h4, h5, hM]
              by_cases h6 : am = bm
              · rw [if_pos h6, decide_eq_true h6]
              · rw [if_neg h6, decide_eq_false h6]
            · simp [go_sem, h0, h1, h2, h3, h4, h5]
          · have h' : ¬ (a4 : Int) = b4 := by omega
            simp [go_sem, h0, h1, h2, h3, h4, h']
        · have h' : ¬ (a3 : Int) = b3 := by omega
          simp [go_sem, h0, h1, h2, h3, h']
      · have h' : ¬ (a2 : Int) = b2 := by omega
        simp [go_sem, h0, h1, h2, h']
    · have h' : ¬ (a1 : Int) = b1 := by omega
      simp [go_sem, h0, h1, h']
  · simp [go_sem, h0]
theorem eqlI (a b : I) (w : World) : (binOp .eql 74 a.val b.val).run Try.prog w = .ok (.bool (decide (a = b))) w := by
  have h := run_eqI 9997 a b w
  unfold I.val at h ⊢
  rw [run_eql_struct, h]
  rfl
theorem neqI (a b : I) (w : World) : (binOp .neq 74 a.val b.val).run Try.prog w = .ok (.bool (!decide (a = b))) w := by
  have h := run_eqI 9997 a b w
  unfold I.val at h ⊢
  rw [run_neq_struct, h]
  rfl
end Go.Proofs.Ytdakfdecfpebcaa.Ino
