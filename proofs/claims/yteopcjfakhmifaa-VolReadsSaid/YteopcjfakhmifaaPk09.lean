/- Several texts in one, each under its own heading. -/
import Derived.StillTailTactics
import Derived.Deep.RegionWith
import Derived.Deep.RegionHeld3
import Derived.BigQuiet
import Derived.Handy
import Derived.Laws.StructEq
import Derived.ChangeKeysEq
import Derived.Lib.Strings
import Derived.Test.YteopcjfakhmifaaPk01
import Derived.Test.YteopcjfakhmifaaPk07
import Derived.Test.YteopcjfakhmifaaPk08
/- Inodes in memory: one, its map; when two are the same. -/
namespace Go.Proofs.Yteopcjfakhmifaa.Ino
open Go.RowKit
attribute [local go_sem] Oper.semAt_some
set_option linter.unusedVariables false
set_option linter.unusedSimpArgs false

def M.cells (m : M) : List Value := [.int .u32 m.a, .int .u32 m.b, .int .u32 m.c, .int .u32 m.d, .int .u32 m.e, .int .u32 m.f]
def M.val (m : M) : Value := .agg #[.int .u32 m.a, .int .u32 m.b, .int .u32 m.c, .int .u32 m.d, .int .u32 m.e, .int .u32 m.f]
def I.val (n : I) : Value := .agg #[.int .i64 n.kind, .int .u16 n.mode, .int .u16 n.links, .int .u32 n.size, .int .u64 n.time, .int .i64 n.depth, .int .u32 n.m.a, .int .u32 n.m.b, .int .u32 n.m.c, .int .u32 n.m.d, .int .u32 n.m.e, .int .u32 n.m.f]
/-- an inode's cells -/
def boxO (n : I) : Obj := .cells #[.int .i64 n.kind, .int .u16 n.mode, .int .u16 n.links, .int .u32 n.size, .int .u64 n.time, .int .i64 n.depth, .int .u32 n.m.a, .int .u32 n.m.b, .int .u32 n.m.c, .int .u32 n.m.d, .int .u32 n.m.e, .int .u32 n.m.f] 41
/-- a map's cells -/
def boxM (m : M) : Obj := .cells #[.int .u32 m.a, .int .u32 m.b, .int .u32 m.c, .int .u32 m.d, .int .u32 m.e, .int .u32 m.f] 39

/-- a map lies at block b -/
def AtM (W : World) (b : Nat) (m : M) : Prop := W.heap[b]? = some (.cells #[.int .u32 m.a, .int .u32 m.b, .int .u32 m.c, .int .u32 m.d, .int .u32 m.e, .int .u32 m.f] 39 (0, 0))
theorem AtM.c {W : World} {b : Nat} {m : M} (h : AtM W b m) : W.cell? ⟨b, 0, none⟩ = some (.int .u32 m.a) ∧ W.cell? ⟨b, 1, none⟩ = some (.int .u32 m.b) ∧ W.cell? ⟨b, 2, none⟩ = some (.int .u32 m.c) ∧ W.cell? ⟨b, 3, none⟩ = some (.int .u32 m.d) ∧ W.cell? ⟨b, 4, none⟩ = some (.int .u32 m.e) ∧ W.cell? ⟨b, 5, none⟩ = some (.int .u32 m.f) := by
  unfold AtM at h
  simp only [World.cell?, h]
  exact ⟨rfl, rfl, rfl, rfl, rfl, rfl⟩
theorem AtM.cell {W : World} {b : Nat} {m : M} (h : AtM W b m) {i : Nat} (hi : i < 6) : W.cell? ⟨b, i, none⟩ = some (.int .u32 (m.at' i)) := by
  obtain ⟨c0, c1, c2, c3, c4, c5⟩ := h.c
  match i, hi with
  | 0, _ => exact c0
  | 1, _ => exact c1
  | 2, _ => exact c2
  | 3, _ => exact c3
  | 4, _ => exact c4
  | 5, _ => exact c5
theorem AtM.f {W : World} {b : Nat} {m : M} (h : AtM W b m) (i : Nat) : W.frozen? ⟨b, i, none⟩ = false := by
  unfold AtM at h
  simp [World.frozen?, h]
theorem AtM.below {W W' : World} {b n : Nat} {m : M} (h : AtM W b m) (hB : Below n W W') (hb : b < n) : AtM W' b m := (hB.block b hb).trans h
theorem AtM.new (w : World) (m : M) : AtM (w.alloc (boxM m)) w.heap.size m := World.alloc_heap_new w _
theorem AtM.lt {W : World} {b : Nat} {m : M} (h : AtM W b m) : b < W.heap.size := (Array.getElem?_eq_some_iff.1 h).1
theorem AtM.th {W W' : World} {b : Nat} {m : M} (h : AtM W b m) (hB : Below W.heap.size W W') : AtM W' b m := h.below hB h.lt
theorem AtM.of_heap {W W' : World} {b : Nat} {m : M} (h : AtM W b m) (hb : W'.heap[b]? = W.heap[b]?) : AtM W' b m := hb.trans h
theorem AtM.drew {W : World} {b : Nat} {m : M} (h : AtM W b m) : AtM W.drew b m := h
/-- a number laid over another one -/
def M.set (m : M) (i v : Nat) : M := ⟨if i = 0 then v else m.a, if i = 1 then v else m.b, if i = 2 then v else m.c, if i = 3 then v else m.d, if i = 4 then v else m.e, if i = 5 then v else m.f⟩
theorem M.set_at (m : M) (i v j : Nat) (hj : j < 6) : (m.set i v).at' j = if i = j then v else m.at' j := by
  match j, hj with
  | 0, _ => rfl
  | 1, _ => rfl
  | 2, _ => rfl
  | 3, _ => rfl
  | 4, _ => rfl
  | 5, _ => rfl
theorem AtM.put {W : World} {b : Nat} {m : M} (h : AtM W b m) {i : Nat} (hi : i < 6) (v : Nat) : AtM (W.setCell ⟨b, i, none⟩ (.int .u32 v)) b (m.set i v) ∧ Below b W (W.setCell ⟨b, i, none⟩ (.int .u32 v)) := by
  unfold AtM at h
  refine ⟨?_, (Below.refl b W).setCell (p := ⟨b, i, none⟩) (Nat.le_refl _) _⟩
  have := heap_setCell_same W b i _ _ (.int .u32 v) h
  match i, hi with
  | 0, _ => exact this
  | 1, _ => exact this
  | 2, _ => exact this
  | 3, _ => exact this
  | 4, _ => exact this
  | 5, _ => exact this

/-- an inode lies at block b -/
def At (W : World) (b : Nat) (n : I) : Prop := W.heap[b]? = some (.cells #[.int .i64 n.kind, .int .u16 n.mode, .int .u16 n.links, .int .u32 n.size, .int .u64 n.time, .int .i64 n.depth, .int .u32 n.m.a, .int .u32 n.m.b, .int .u32 n.m.c, .int .u32 n.m.d, .int .u32 n.m.e, .int .u32 n.m.f] 41 (0, 0))
/-- its cells -/
structure Reads (W : World) (b : Nat) (n : I) : Prop where
  c0 : W.cell? ⟨b, 0, none⟩ = some (.int .i64 n.kind)
  c1 : W.cell? ⟨b, 1, none⟩ = some (.int .u16 n.mode)
  c2 : W.cell? ⟨b, 2, none⟩ = some (.int .u16 n.links)
  c3 : W.cell? ⟨b, 3, none⟩ = some (.int .u32 n.size)
  c4 : W.cell? ⟨b, 4, none⟩ = some (.int .u64 n.time)
  c5 : W.cell? ⟨b, 5, none⟩ = some (.int .i64 n.depth)
  c6 : W.cell? ⟨b, 6, none⟩ = some (.int .u32 n.m.a)
  c7 : W.cell? ⟨b, 7, none⟩ = some (.int .u32 n.m.b)
  c8 : W.cell? ⟨b, 8, none⟩ = some (.int .u32 n.m.c)
  c9 : W.cell? ⟨b, 9, none⟩ = some (.int .u32 n.m.d)
  c10 : W.cell? ⟨b, 10, none⟩ = some (.int .u32 n.m.e)
  c11 : W.cell? ⟨b, 11, none⟩ = some (.int .u32 n.m.f)
theorem At.c {W : World} {b : Nat} {n : I} (h : At W b n) : Reads W b n := by
  unfold At at h
  constructor <;> (simp only [World.cell?, h]; rfl)
theorem At.cellM {W : World} {b : Nat} {n : I} (h : At W b n) {i : Nat} (hi : i < 6) : W.cell? ⟨b, 6 + i, none⟩ = some (.int .u32 (n.m.at' i)) := by
  obtain ⟨_, _, _, _, _, _, c0, c1, c2, c3, c4, c5⟩ := h.c
  match i, hi with
  | 0, _ => exact c0
  | 1, _ => exact c1
  | 2, _ => exact c2
  | 3, _ => exact c3
  | 4, _ => exact c4
  | 5, _ => exact c5
theorem At.f {W : World} {b : Nat} {n : I} (h : At W b n) (i : Nat) : W.frozen? ⟨b, i, none⟩ = false := by
  unfold At at h
  simp [World.frozen?, h]
theorem At.below {W W' : World} {b k : Nat} {n : I} (h : At W b n) (hB : Below k W W') (hb : b < k) : At W' b n := (hB.block b hb).trans h
theorem At.new (w : World) (n : I) : At (w.alloc (boxO n)) w.heap.size n := World.alloc_heap_new w _
theorem At.lt {W : World} {b : Nat} {n : I} (h : At W b n) : b < W.heap.size := (Array.getElem?_eq_some_iff.1 h).1
theorem At.th {W W' : World} {b : Nat} {n : I} (h : At W b n) (hB : Below W.heap.size W W') : At W' b n := h.below hB h.lt
theorem At.of_heap {W W' : World} {b : Nat} {n : I} (h : At W b n) (hb : W'.heap[b]? = W.heap[b]?) : At W' b n := hb.trans h
theorem At.drew {W : World} {b : Nat} {n : I} (h : At W b n) : At W.drew b n := h
theorem At.putM {W : World} {b : Nat} {n : I} (h : At W b n) {i : Nat} (hi : i < 6) (v : Nat) : At (W.setCell ⟨b, 6 + i, none⟩ (.int .u32 v)) b { n with m := n.m.set i v } ∧ Below b W (W.setCell ⟨b, 6 + i, none⟩ (.int .u32 v)) := by
  unfold At at h
  refine ⟨?_, (Below.refl b W).setCell (p := ⟨b, 6 + i, none⟩) (Nat.le_refl _) _⟩
  have := heap_setCell_same W b (6 + i) _ _ (.int .u32 v) h
  match i, hi with
  | 0, _ => exact this
  | 1, _ => exact this
  | 2, _ => exact this
  | 3, _ => exact this
  | 4, _ => exact this
  | 5, _ => exact this
theorem below_al {w W : World} (h : Below w.heap.size w W) (o : Obj) : Below w.heap.size w (W.alloc o) := h.alloc h.size _
theorem below_new (w : World) (o : Obj) : Below w.heap.size w (w.alloc o) := (Below.refl _ _).alloc (Nat.le_refl _) _

theorem below_drewN {B : Nat} {w W : World} (h : Below B w W) (n : Nat) : Below B w (W.drewN n) := ⟨h.1, h.2, h.3, h.4, h.5⟩

/-- what asks answers: only what is new is written -/
def Ans (w : World) (v : Value) (e : Ending) (w' : World) : Prop := e = .returned v ∧ Below w.heap.size w w'
theorem Ans.eq {w w' : World} {e : Ending} {v u : Value} (h : v = u) (k : Ans w v e w') : Ans w u e w' := h ▸ k

theorem infoM : (Try.prog.info? 23).isSome = true := by kernel_rfl
theorem infoI : (Try.prog.info? 41).map (fun i => (i.zero, i.size)) = some (some (.agg #[.int .i64 0, .int .u16 0, .int .u16 0, .int .u32 0, .int .u64 0, .int .i64 0, .int .u32 0, .int .u32 0, .int .u32 0, .int .u32 0, .int .u32 0, .int .u32 0]), 12) := by kernel_rfl
theorem cellsU : Try.prog.cellsOf 23 = 1 := by kernel_rfl
theorem run_eqM (d : Nat) (a b : M) (w : World) : (Op.equalIn (d + 2) 39 a.val b.val).run Try.prog w = .ok (decide (a = b)) w := by
  obtain ⟨i, hi⟩ := Option.isSome_iff_exists.1 infoM
  unfold M.val
  rw [run_equalIn_array w (d + 1) _ _ Try.underlying39 hi, cellsU]
  obtain ⟨a0, a1, a2, a3, a4, a5⟩ := a
  obtain ⟨b0, b1, b2, b3, b4, b5⟩ := b
  simp only [M.mk.injEq, show List.range 6 = [0, 1, 2, 3, 4, 5] from rfl]
  by_cases h0 : a0 = b0
  · by_cases h1 : a1 = b1
    · by_cases h2 : a2 = b2
      · by_cases h3 : a3 = b3
        · by_cases h4 : a4 = b4
          · by_cases h5 : a5 = b5
            · simp [go_sem, Op.eqItems, h0, h1, h2, h3, h4, h5]
            · have h' : ¬ (a5 : Int) = b5 := by omega
              simp [go_sem, Op.eqItems, h0, h1, h2, h3, h4, h5, h']
          · have h' : ¬ (a4 : Int) = b4 := by omega
            simp [go_sem, Op.eqItems, h0, h1, h2, h3, h4, h']
        · have h' : ¬ (a3 : Int) = b3 := by omega
          simp [go_sem, Op.eqItems, h0, h1, h2, h3, h']
      · have h' : ¬ (a2 : Int) = b2 := by omega
        simp [go_sem, Op.eqItems, h0, h1, h2, h']
    · have h' : ¬ (a1 : Int) = b1 := by omega
      simp [go_sem, Op.eqItems, h0, h1, h']
  · have h' : ¬ (a0 : Int) = b0 := by omega
    simp [go_sem, Op.eqItems, h0, h']
theorem eqlM (a b : M) (w : World) : (binOp .eql 39 a.val b.val).run Try.prog w = .ok (.bool (decide (a = b))) w := by
  have h := run_eqM 9998 a b w
  unfold M.val at h ⊢
  rw [run_eql_struct, h]
  rfl
theorem run_eqI (d : Nat) (a b : I) (w : World) : (Op.equalIn (d + 3) 41 a.val b.val).run Try.prog w = .ok (decide (a = b)) w := by
  unfold I.val
  rw [run_equalIn_agg w (d + 2) 41 _ _ (by kernel_rfl) (by kernel_rfl)]
  obtain ⟨a0, a1, a2, a3, a4, a5, am⟩ := a
  obtain ⟨b0, b1, b2, b3, b4, b5, bm⟩ := b
  have hM := run_eqM d am bm w
  unfold M.val at hM
  simp only [I.mk.injEq]
  by_cases h0 : a0 = b0
  · by_cases h1 : a1 = b1
    · by_cases h2 : a2 = b2
      · by_cases h3 : a3 = b3
        · by_cases h4 : a4 = b4
          · by_cases h5 : a5 = b5
            · simp [go_sem, h0, h1, h2, h3, h4, h5, hM]
              by_cases h6 : am = bm
              · rw [if_pos h6, decide_eq_true h6]
              · rw [if_neg h6, decide_eq_false h6]
            · simp [go_sem, h0, h1, h2, h3, h4, h5]
          · have h' : ¬ (a4 : Int) = b4 := by omega
            simp [go_sem, h0, h1, h2, h3, h4, h']
        · have h' : ¬ (a3 : Int) = b3 := by omega
          simp [go_sem, h0, h1, h2, h3, h']
      · have h' : ¬ (a2 : Int) = b2 := by omega
        simp [go_sem, h0, h1, h2, h']
    · have h' : ¬ (a1 : Int) = b1 := by omega
      simp [go_sem, h0, h1, h']
  · simp [go_sem, h0]
theorem eqlI (a b : I) (w : World) : (binOp .eql 41 a.val b.val).run Try.prog w = .ok (.bool (decide (a = b))) w := by
  have h := run_eqI 9997 a b w
  unfold I.val at h ⊢
  rw [run_eql_struct, h]
  rfl
theorem neqI (a b : I) (w : World) : (binOp .neq 41 a.val b.val).run Try.prog w = .ok (.bool (!decide (a = b))) w := by
  have h := run_eqI 9997 a b w
  unfold I.val at h ⊢
  rw [run_neq_struct, h]
  rfl
end Go.Proofs.Yteopcjfakhmifaa.Ino
/- Inodes in a slice. -/
namespace Go.Proofs.Yteopcjfakhmifaa.Vol
open Go.RowKit
open Ino (I M)
attribute [local go_sem] Oper.semAt_some
set_option linter.unusedVariables false
set_option linter.unusedSimpArgs false
/-- an inode's cells -/
def cellsI (n : I) : List Value := [.int .i64 n.kind, .int .u16 n.mode, .int .u16 n.links, .int .u32 n.size, .int .u64 n.time, .int .i64 n.depth, .int .u32 n.m.a, .int .u32 n.m.b, .int .u32 n.m.c, .int .u32 n.m.d, .int .u32 n.m.e, .int .u32 n.m.f]
/-- inodes in a slice -/
def Inos (w : World) (v : Value) (L : List I) : Prop := Lies w v L.length 12 (L.flatMap cellsI)
theorem Inos.below {w w' : World} {v : Value} {L : List I} (h : Inos w v L) (hB : Below w.heap.size w w') : Inos w' v L := Lies.below h hB
theorem Inos.nil (w : World) : Inos w (.slice none 0 0) [] := Lies.nil w 12
theorem Inos.parts {w : World} {v : Value} {L : List I} (h : Inos w v L) : ∃ a cap, v = .slice a L.length cap ∧ L.length ≤ cap ∧ cap ≤ 9223372036854775807 := by
  obtain ⟨a, cap, e, _, h1, h2⟩ := Lies.parts h
  exact ⟨a, cap, e, h1, h2⟩
/-- what stands at a place -/
structure ReadsI (w : World) (b o : Nat) (n : I) : Prop where
  c0 : w.cell? ⟨b, o, none⟩ = some (.int .i64 n.kind)
  c1 : w.cell? ⟨b, o + 1, none⟩ = some (.int .u16 n.mode)
  c2 : w.cell? ⟨b, o + 2, none⟩ = some (.int .u16 n.links)
  c3 : w.cell? ⟨b, o + 3, none⟩ = some (.int .u32 n.size)
  c4 : w.cell? ⟨b, o + 4, none⟩ = some (.int .u64 n.time)
  c5 : w.cell? ⟨b, o + 5, none⟩ = some (.int .i64 n.depth)
  c6 : w.cell? ⟨b, o + 6, none⟩ = some (.int .u32 n.m.a)
  c7 : w.cell? ⟨b, o + 7, none⟩ = some (.int .u32 n.m.b)
  c8 : w.cell? ⟨b, o + 8, none⟩ = some (.int .u32 n.m.c)
  c9 : w.cell? ⟨b, o + 9, none⟩ = some (.int .u32 n.m.d)
  c10 : w.cell? ⟨b, o + 10, none⟩ = some (.int .u32 n.m.e)
  c11 : w.cell? ⟨b, o + 11, none⟩ = some (.int .u32 n.m.f)
/-- the inode i of some -/
def ino (L : List I) (i : Nat) : I := L.getD i Ino.I.zero
theorem ino_get {L : List I} {i : Nat} (h : i < L.length) : L[i]? = some (ino L i) := by
  unfold ino
  rw [List.getD_eq_getElem?_getD, List.getElem?_eq_getElem h]
  rfl
theorem Inos.at {w : World} {a : Option Addr} {n cap : Nat} {L : List I} (hn : L.length = n) (h : Inos w (.slice a n cap) L) {k : Nat} (hk : k < n) : ∃ b off, a = some ⟨b, off, none⟩ ∧ ∀ x, x = L.getD k Ino.I.zero → ReadsI w b (off + k * 12) x := by
  subst hn
  obtain ⟨a', cap', e, _, _, _, h5⟩ := h
  cases e
  obtain ⟨b, off, rfl, hc⟩ := h5 (by omega)
  have hf := fun j (hj : j < 12) => flat_at cellsI 12 L (fun o _ => rfl) k j (ino L k) (ino_get hk) hj
  refine ⟨b, off, rfl, fun x hx => ?_⟩
  rw [show x = ino L k from hx]
  have hg : ∀ j u, j < 12 → (cellsI (ino L k))[j]? = some u → w.cell? ⟨b, off + k * 12 + j, none⟩ = some u := fun j u hj hu => by
    have := hc (k * 12 + j) u ((hf j hj).trans hu)
    rwa [← Nat.add_assoc] at this
  exact ⟨hg 0 _ (by omega) rfl, hg 1 _ (by omega) rfl, hg 2 _ (by omega) rfl, hg 3 _ (by omega) rfl, hg 4 _ (by omega) rfl, hg 5 _ (by omega) rfl, hg 6 _ (by omega) rfl, hg 7 _ (by omega) rfl, hg 8 _ (by omega) rfl, hg 9 _ (by omega) rfl, hg 10 _ (by omega) rfl, hg 11 _ (by omega) rfl⟩
/-- the same, of a slice that is known by its parts -/
theorem Inos.get {w : World} {b off n cap : Nat} {L : List I} (hn : L.length = n) (h : Inos w (.slice (some ⟨b, off, none⟩) n cap) L) {k : Nat} (hk : k < n) {x : I} (hx : x = L.getD k Ino.I.zero) : ReadsI w b (off + k * 12) x := by
  obtain ⟨b2, off2, e, hc⟩ := h.at hn hk
  cases e
  exact hc x hx
theorem Inos.lt {W : World} {b off n cap : Nat} {L : List I} (hl : L.length = n) (h : Inos W (.slice (some ⟨b, off, none⟩) n cap) L) (hn : 0 < n) : b < W.heap.size := World.block_lt_of_cell? _ _ (h.get hl hn rfl).c0
/-- what stands ahead -/
theorem Inos.cut {w : World} {a : Option Addr} {n cap : Nat} {L : List I} (hn : L.length = n) (h : Inos w (.slice a n cap) L) (m : Nat) (hm : m ≤ n) : Inos w (.slice a m cap) (L.take m) := by
  subst hn
  obtain ⟨a1, cap1, e, h2, h3, h4, h5⟩ := h
  cases e
  have hl : (L.take m).length = m := by rw [List.length_take]; omega
  have hcells : ∀ (L : List I) (m : Nat), (L.take m).flatMap cellsI = (L.flatMap cellsI).take (m * 12) := fun L => by
    induction L with
    | nil => intro m; simp
    | cons x L ih =>
      intro m
      cases m with
      | zero => simp
      | succ m => rw [List.take_succ_cons, List.flatMap_cons, List.flatMap_cons, ih m, show (m + 1) * 12 = (cellsI x).length + m * 12 by show _ = 12 + _; omega, List.take_length_add_append]
  refine ⟨a, cap, by rw [hl], by omega, h3, by rw [hl, hcells, List.length_take, h4]; omega, fun hn => ?_⟩
  obtain ⟨b, off, e2, hc⟩ := h5 (by omega)
  refine ⟨b, off, e2, fun j u hj => hc j u ?_⟩
  rw [hcells, List.getElem?_take] at hj
  split at hj
  · exact hj
  · cases hj
def cellsIs (L : List I) : List Value := L.flatMap cellsI
theorem cellsIs_length (L : List I) : (cellsIs L).length = L.length * 12 := flat_length cellsI 12 L (fun _ _ => rfl)
theorem cellsIs_one (L : List I) : ∀ u ∈ cellsIs L, u.oneCell' = true := fun u hu => by
  obtain ⟨s, _, hs⟩ := List.mem_flatMap.1 hu
  simp only [cellsI, List.mem_cons, List.not_mem_nil, or_false] at hs
  rcases hs with rfl | rfl | rfl | rfl | rfl | rfl | rfl | rfl | rfl | rfl | rfl | rfl <;> rfl
theorem cellsIs_snoc (L : List I) (x : I) : cellsIs (L ++ [x]) = cellsIs L ++ cellsI x := by
  unfold cellsIs
  rw [List.flatMap_append]
  simp
theorem Inos.own {w : World} {base : Nat} {v : Value} {L : List I} (h : w.ownsRow base 41 12 v L.length (cellsIs L)) : Inos w v L := Lies.own h
theorem Inos.one {W : World} {b : Nat} {x : I} {ty : TypeId} (h : W.heap[b]? = some (.cells (cellsI x).toArray ty (0, 0))) : Inos W (.slice (some ⟨b, 0, none⟩) 1 1) [x] := by
  refine ⟨_, 1, rfl, Nat.le_refl _, ⟨by unfold maxLen; decide, fun e => by cases e⟩, rfl, fun _ => ⟨b, 0, rfl, fun j u hj => ?_⟩⟩
  rw [Nat.zero_add]
  simp only [World.cell?, h]
  rw [show ([x] : List I).flatMap cellsI = cellsI x by simp] at hj
  rw [List.getElem?_toArray]
  exact hj
theorem infoInos : (Try.prog.info? 41).map (fun i => (i.zero, i.size, i.bytes)) = some (some (.agg #[.int .i64 0, .int .u16 0, .int .u16 0, .int .u32 0, .int .u64 0, .int .i64 0, .int .u32 0, .int .u32 0, .int .u32 0, .int .u32 0, .int .u32 0, .int .u32 0]), 12, 56) := by kernel_rfl
/-- the cells of a slice that is not nil, wherever it is laid -/
theorem Inos.news {w : World} {a : Addr} {n cap : Nat} {L : List I} (h : Inos w (.slice (some a) n cap) L) : ∀ j u, (cellsIs L)[j]? = some u → w.cell? (a.add j) = some u := fun j u hj => by
  obtain ⟨a', cap', e, _, _, h4, h5⟩ := h
  cases e
  have hl := (List.getElem?_eq_some_iff.1 hj).1
  rw [cellsIs_length] at hl
  obtain ⟨b, off, e2, hc⟩ := h5 (by omega)
  cases e2
  rw [add_plain]
  exact hc j u hj
theorem run_append_inos (w : World) (base : Nat) (v : Value) (n : Nat) (xs : List Value) (hown : w.ownsRow base 41 12 v n xs) (vL : Value) (L : List I) (hL : Inos w vL L) (h1 : n + L.length ≤ 100000) (hb : base ≤ w.heap.size) :
    ∃ v' w', (Builtin.append_ #[50, 50] 50 #[v, vL]).run Try.prog w = .ok v' w' ∧ w'.ownsRow base 41 12 v' (n + L.length) (xs ++ cellsIs L) ∧ w.grownBy w' v.ownBlock := by
  obtain ⟨i0, hi, hz0, hz1, hz2⟩ := info_parts infoInos
  obtain ⟨a, cap, rfl, hc1, hc2⟩ := hL.parts
  cases a with
  | none =>
    have hc0 : cap = 0 := Lies.none_cap hL
    have hl0 : L = [] := List.eq_nil_of_length_eq_zero (by omega)
    subst hl0
    subst hc0
    refine ⟨v, w, run_append_owned_none (P := Try.prog) w base 50 50 41 i0 12 Try.underlying50 hi v n xs hown, ?_, ⟨rfl, rfl, rfl, Nat.le_refl _, fun _ _ _ => rfl⟩⟩
    simpa [cellsIs] using hown
  | some ad =>
    obtain ⟨v', w', hr, h2, h3, _⟩ := run_append_own (P := Try.prog) w base 50 50 41 i0 (.agg #[.int .i64 0, .int .u16 0, .int .u16 0, .int .u32 0, .int .u64 0, .int .i64 0, .int .u32 0, .int .u32 0, .int .u32 0, .int .u32 0, .int .u32 0, .int .u32 0]) 12 56 Try.underlying50 hi hz0 hz1 hz2 rfl (by decide) v n xs hown ad L.length cap (cellsIs L) (cellsIs_length L) hL.news (cellsIs_one L) (by unfold maxLen; omega) (by omega) hb
    exact ⟨v', w', hr, h2, h3⟩
theorem wp_append_inos {w : World} {o : Oper} {a : Act} {K : Act → World → Prop} {Q : Exit → Act → World → Prop} (s x : Operand)
    (ho : o.op = .call { callee := .builtin .append, args := #[s, x], argTypes := #[50, 50] }) (hty : o.type = 50)
    (base : Nat) (v : Value) (n : Nat) (xs : List Value) (hs : a.eval s = v) (hown : w.ownsRow base 41 12 v n xs) (vL : Value) (L : List I) (hx : a.eval x = vL) (hL : Inos w vL L) (h1 : n + L.length ≤ 100000) (hb : base ≤ w.heap.size)
    (h : ∀ v' w', w'.ownsRow base 41 12 v' (n + L.length) (xs ++ cellsIs L) → w.grownBy w' v.ownBlock → K (a.put o.dst v') w') : o.wp Try.prog a w K Q := by
  obtain ⟨v', w', hr, h2, h3⟩ := run_append_inos w base v n xs hown vL L hL h1 hb
  unfold Oper.wp execOp
  simp only [ho, hty, resolve, invoke, builtin, Sem.run_bind, Sem.run_pure, Result.andThen_ok, List.map_toArray, List.map_cons, List.map_nil, hs, hx, hr]
  exact h v' w' h2 h3
theorem wpList_append_inos {w : World} {ops : Array Oper} {rest : List Oper} {o : Oper} {a : Act} {Q : Exit → Act → World → Prop} (hgd : o.guard = none) (s x : Operand)
    (ho : o.op = .call { callee := .builtin .append, args := #[s, x], argTypes := #[50, 50] }) (hty : o.type = 50)
    (base : Nat) (v : Value) (n : Nat) (xs : List Value) (hs : a.eval s = v) (hown : w.ownsRow base 41 12 v n xs) (vL : Value) (L : List I) (hx : a.eval x = vL) (hL : Inos w vL L) (h1 : n + L.length ≤ 100000) (hb : base ≤ w.heap.size)
    (h : ∀ v' w', w'.ownsRow base 41 12 v' (n + L.length) (xs ++ cellsIs L) → w.grownBy w' v.ownBlock → wpList Try.prog ops Q rest (a.put o.dst v') w') : wpList Try.prog ops Q (o :: rest) a w :=
  wpList_plain hgd fun _ hK => wp_append_inos s x ho hty base v n xs hs hown vL L hx hL h1 hb fun v' w' h2 h3 => hK _ _ (h v' w' h2 h3)
theorem step_append_inos {w : World} {ops : Array Oper} {o : Oper} {a : Act} {K : Act → World → Prop} {Q : Exit → Act → World → Prop} {E : Prop} (hgd : o.guard = none) (s x : Operand)
    (ho : o.op = .call { callee := .builtin .append, args := #[s, x], argTypes := #[50, 50] }) (hty : o.type = 50)
    (base : Nat) (v : Value) (n : Nat) (xs : List Value) (hs : a.eval s = v) (hown : w.ownsRow base 41 12 v n xs) (vL : Value) (L : List I) (hx : a.eval x = vL) (hL : Inos w vL L) (h1 : n + L.length ≤ 100000) (hb : base ≤ w.heap.size)
    (h : ∀ v' w', w'.ownsRow base 41 12 v' (n + L.length) (xs ++ cellsIs L) → w.grownBy w' v.ownBlock → K (a.put o.dst v') w') :
    if Region.wanted o (yielded ops a.tmps) = true then Oper.wp Try.prog o a w K Q else E := by
  have hw : Region.wanted o (yielded ops a.tmps) = true := by simp [Region.wanted, hgd]
  rw [if_pos hw]
  exact wp_append_inos s x ho hty base v n xs hs hown vL L hx hL h1 hb h
end Go.Proofs.Yteopcjfakhmifaa.Vol
