/- Several texts in one, each under its own heading. -/
import Derived.StillTailTactics
import Derived.Deep.RegionWith
import Derived.Deep.RegionHeld3
import Derived.BigQuiet
import Derived.Handy
import Derived.Laws.StructEq
import Derived.Laws.AppendOwnNone
import Derived.Deep.AppendLies
import Derived.Lib.SliceRun
import Derived.Lib.Strings
import Derived.Test.YteopcjfakhmifaaPk01
import Derived.Test.YteopcjfakhmifaaPk14
import Derived.Test.YteopcjfakhmifaaPk09
/- Nodes in memory: one, and a slice of them; when two are the same. -/
namespace Go.Proofs.Yteopcjfakhmifaa.Pln
open Go.RowKit
attribute [local go_sem] Oper.semAt_some
set_option linter.unusedVariables false
set_option linter.unusedSimpArgs false

def Nd.cells (s : Nd) : List Value := [.int .i64 s.kind, .int .u16 s.mode, .int .u16 s.links, .int .u64 s.time, .string s.data]
def Nd.val (s : Nd) : Value := .agg #[.int .i64 s.kind, .int .u16 s.mode, .int .u16 s.links, .int .u64 s.time, .string s.data]
/-- a node's cells -/
def boxO (s : Nd) : Obj := .cells #[.int .i64 s.kind, .int .u16 s.mode, .int .u16 s.links, .int .u64 s.time, .string s.data] 38

/-- a node lies at block b -/
def At (W : World) (b : Nat) (s : Nd) : Prop := W.heap[b]? = some (.cells #[.int .i64 s.kind, .int .u16 s.mode, .int .u16 s.links, .int .u64 s.time, .string s.data] 38 (0, 0))
theorem At.c {W : World} {b : Nat} {s : Nd} (h : At W b s) : W.cell? ⟨b, 0, none⟩ = some (.int .i64 s.kind) ∧ W.cell? ⟨b, 1, none⟩ = some (.int .u16 s.mode) ∧ W.cell? ⟨b, 2, none⟩ = some (.int .u16 s.links) ∧ W.cell? ⟨b, 3, none⟩ = some (.int .u64 s.time) ∧ W.cell? ⟨b, 4, none⟩ = some (.string s.data) := by
  unfold At at h
  simp only [World.cell?, h]
  exact ⟨rfl, rfl, rfl, rfl, rfl⟩
theorem At.f {W : World} {b : Nat} {s : Nd} (h : At W b s) (i : Nat) : W.frozen? ⟨b, i, none⟩ = false := by
  unfold At at h
  simp [World.frozen?, h]
theorem At.below {W W' : World} {b n : Nat} {s : Nd} (h : At W b s) (hB : Below n W W') (hb : b < n) : At W' b s := (hB.block b hb).trans h
theorem At.new (w : World) (s : Nd) : At (w.alloc (boxO s)) w.heap.size s := World.alloc_heap_new w _
theorem At.lt {W : World} {b : Nat} {s : Nd} (h : At W b s) : b < W.heap.size := (Array.getElem?_eq_some_iff.1 h).1
theorem At.th {W W' : World} {b : Nat} {s : Nd} (h : At W b s) (hB : Below W.heap.size W W') : At W' b s := h.below hB h.lt
theorem At.of_heap {W W' : World} {b : Nat} {s : Nd} (h : At W b s) (hb : W'.heap[b]? = W.heap[b]?) : At W' b s := hb.trans h
theorem At.drew {W : World} {b : Nat} {s : Nd} (h : At W b s) : At W.drew b s := h
/-- one part alone is laid over -/
theorem At.put_mode {W : World} {b : Nat} {s : Nd} (h : At W b s) (n : Nat) : At (W.setCell ⟨b, 1, none⟩ (.int .u16 n)) b { s with mode := n } ∧ Below b W (W.setCell ⟨b, 1, none⟩ (.int .u16 n)) := by
  unfold At at h
  exact ⟨heap_setCell_same W b 1 _ _ (.int .u16 n) h, (Below.refl b W).setCell (p := ⟨b, 1, none⟩) (Nat.le_refl _) _⟩
theorem At.put_links {W : World} {b : Nat} {s : Nd} (h : At W b s) (n : Nat) : At (W.setCell ⟨b, 2, none⟩ (.int .u16 n)) b { s with links := n } ∧ Below b W (W.setCell ⟨b, 2, none⟩ (.int .u16 n)) := by
  unfold At at h
  exact ⟨heap_setCell_same W b 2 _ _ (.int .u16 n) h, (Below.refl b W).setCell (p := ⟨b, 2, none⟩) (Nat.le_refl _) _⟩
theorem At.put_time {W : World} {b : Nat} {s : Nd} (h : At W b s) (n : Nat) : At (W.setCell ⟨b, 3, none⟩ (.int .u64 n)) b { s with time := n } ∧ Below b W (W.setCell ⟨b, 3, none⟩ (.int .u64 n)) := by
  unfold At at h
  exact ⟨heap_setCell_same W b 3 _ _ (.int .u64 n) h, (Below.refl b W).setCell (p := ⟨b, 3, none⟩) (Nat.le_refl _) _⟩
theorem At.put_data {W : World} {b : Nat} {s : Nd} (h : At W b s) (r : ByteArray) : At (W.setCell ⟨b, 4, none⟩ (.string r)) b { s with data := r } ∧ Below b W (W.setCell ⟨b, 4, none⟩ (.string r)) := by
  unfold At at h
  exact ⟨heap_setCell_same W b 4 _ _ (.string r) h, (Below.refl b W).setCell (p := ⟨b, 4, none⟩) (Nat.le_refl _) _⟩
/-- a node is laid over another one, part by part -/
theorem At.put5 {W : World} {b : Nat} {s : Nd} (h : At W b s) (t : Nd) :
    At (((((W.setCell ⟨b, 0, none⟩ (.int .i64 t.kind)).setCell ⟨b, 1, none⟩ (.int .u16 t.mode)).setCell ⟨b, 2, none⟩ (.int .u16 t.links)).setCell ⟨b, 3, none⟩ (.int .u64 t.time)).setCell ⟨b, 4, none⟩ (.string t.data)) b t ∧
    Below b W (((((W.setCell ⟨b, 0, none⟩ (.int .i64 t.kind)).setCell ⟨b, 1, none⟩ (.int .u16 t.mode)).setCell ⟨b, 2, none⟩ (.int .u16 t.links)).setCell ⟨b, 3, none⟩ (.int .u64 t.time)).setCell ⟨b, 4, none⟩ (.string t.data)) := by
  unfold At at h
  have h0 := heap_setCell_same W b 0 _ _ (.int .i64 t.kind) h
  have h1 := heap_setCell_same _ b 1 _ _ (.int .u16 t.mode) h0
  have h2 := heap_setCell_same _ b 2 _ _ (.int .u16 t.links) h1
  have h3 := heap_setCell_same _ b 3 _ _ (.int .u64 t.time) h2
  have h4 := heap_setCell_same _ b 4 _ _ (.string t.data) h3
  refine ⟨h4, ?_⟩
  exact (((((Below.refl b W).setCell (p := ⟨b, 0, none⟩) (Nat.le_refl _) _).setCell (p := ⟨b, 1, none⟩) (Nat.le_refl _) _).setCell (p := ⟨b, 2, none⟩) (Nat.le_refl _) _).setCell (p := ⟨b, 3, none⟩) (Nat.le_refl _) _).setCell (p := ⟨b, 4, none⟩) (Nat.le_refl _) _
theorem nd_get {l : List Nd} {i : Nat} (h : i < l.length) : l[i]? = some (nd l i) := by
  unfold nd
  rw [List.getD_eq_getElem?_getD, List.getElem?_eq_getElem h]
  rfl
theorem below_drewN {B : Nat} {w W : World} (h : Below B w W) (n : Nat) : Below B w (W.drewN n) := ⟨h.1, h.2, h.3, h.4, h.5⟩
theorem below_al {w W : World} (h : Below w.heap.size w W) (o : Obj) : Below w.heap.size w (W.alloc o) := h.alloc h.size _
theorem below_new (w : World) (o : Obj) : Below w.heap.size w (w.alloc o) := (Below.refl _ _).alloc (Nat.le_refl _) _

/-- the files -/
def Nodes (w : World) (v : Value) (L : List Nd) : Prop := Lies w v L.length 5 (L.flatMap Nd.cells)
theorem Nodes.below {w w' : World} {v : Value} {L : List Nd} (h : Nodes w v L) (hB : Below w.heap.size w w') : Nodes w' v L := Lies.below h hB
theorem Nodes.nil (w : World) : Nodes w (.slice none 0 0) [] := Lies.nil w 5
theorem Nodes.parts {w : World} {v : Value} {L : List Nd} (h : Nodes w v L) : ∃ a cap, v = .slice a L.length cap ∧ L.length ≤ cap ∧ cap ≤ 9223372036854775807 := by
  obtain ⟨a, cap, e, _, h1, h2⟩ := Lies.parts h
  exact ⟨a, cap, e, h1, h2⟩
/-- what stands at a place -/
def Reads (w : World) (b o : Nat) (c : Nd) : Prop := w.cell? ⟨b, o, none⟩ = some (.int .i64 c.kind) ∧ w.cell? ⟨b, o + 1, none⟩ = some (.int .u16 c.mode) ∧ w.cell? ⟨b, o + 2, none⟩ = some (.int .u16 c.links) ∧ w.cell? ⟨b, o + 3, none⟩ = some (.int .u64 c.time) ∧ w.cell? ⟨b, o + 4, none⟩ = some (.string c.data)
theorem Nodes.at {w : World} {v : Value} {L : List Nd} (h : Nodes w v L) {k : Nat} (hk : k < L.length) :
    ∃ b off cap, v = .slice (some ⟨b, off, none⟩) L.length cap ∧ Reads w b (off + k * 5) (nd L k) := by
  obtain ⟨a, cap, rfl, _, _, _, h5⟩ := h
  obtain ⟨b, off, rfl, hc⟩ := h5 (by omega)
  have hf := fun j (hj : j < 5) => flat_at Nd.cells 5 L (fun o _ => rfl) k j (nd L k) (nd_get hk) hj
  refine ⟨b, off, cap, rfl, ?_, ?_, ?_, ?_, ?_⟩
  · exact hc (k * 5) _ (hf 0 (by omega))
  · have := hc _ _ (hf 1 (by omega)); rwa [← Nat.add_assoc] at this
  · have := hc _ _ (hf 2 (by omega)); rwa [← Nat.add_assoc] at this
  · have := hc _ _ (hf 3 (by omega)); rwa [← Nat.add_assoc] at this
  · have := hc _ _ (hf 4 (by omega)); rwa [← Nat.add_assoc] at this
/-- the same, of a slice that is known by its parts -/
theorem Nodes.get {w : World} {b off n cap : Nat} {L : List Nd} (hn : L.length = n) (h : Nodes w (.slice (some ⟨b, off, none⟩) n cap) L) {k : Nat} (hk : k < n) : Reads w b (off + k * 5) (nd L k) := by
  obtain ⟨b2, off2, cap2, e, h1⟩ := h.at (hn ▸ hk)
  cases e
  exact h1
/-- the first one -/
theorem Nodes.get0 {w : World} {b off n cap : Nat} {L : List Nd} (hn : L.length = n) (h : Nodes w (.slice (some ⟨b, off, none⟩) n cap) L) (hk : 0 < n) : Reads w b off (nd L 0) := by
  have := h.get hn hk
  simpa using this
/-- a slice stands where its block does -/
theorem Nodes.keep {W W' : World} {v : Value} {L : List Nd} (h : Nodes W v L) (hk : ∀ g o k c, v = .slice (some ⟨g, o, none⟩) k c → 0 < k → W'.heap[g]? = W.heap[g]?) : Nodes W' v L := by
  obtain ⟨a, cap, rfl, h2, h3, h4, h5⟩ := h
  refine ⟨a, cap, rfl, h2, h3, h4, fun hn => ?_⟩
  obtain ⟨b, off, rfl, hc⟩ := h5 hn
  refine ⟨b, off, rfl, fun j u hj => ?_⟩
  have he : W'.cell? ⟨b, off + j, none⟩ = W.cell? ⟨b, off + j, none⟩ := World.cell?_of_block (w := W) (hk b off _ _ rfl hn)
  exact he.trans (hc j u hj)
/-- a slice, taken apart: none at all, or an address -/
theorem Nodes.open {w : World} {v : Value} {L : List Nd} (h : Nodes w v L) : (∃ a cap, v = .slice a 0 cap ∧ L = []) ∨ ∃ b off cap, v = .slice (some ⟨b, off, none⟩) L.length cap ∧ 0 < L.length ∧ L.length ≤ cap ∧ cap ≤ 9223372036854775807 := by
  obtain ⟨a, cap, rfl, h1, h2⟩ := h.parts
  rcases Nat.eq_zero_or_pos L.length with hz | hz
  · exact .inl ⟨a, cap, by rw [hz], List.eq_nil_of_length_eq_zero hz⟩
  · obtain ⟨b, off, cap2, e, _⟩ := h.at hz
    cases e
    exact .inr ⟨b, off, cap, rfl, hz, h1, h2⟩
theorem Nodes.lt {W : World} {b off n cap : Nat} {L : List Nd} (h : Nodes W (.slice (some ⟨b, off, none⟩) n cap) L) (hn : 0 < L.length) : b < W.heap.size := by
  obtain ⟨b2, off2, cap2, e, h1, _⟩ := h.at hn
  cases e
  exact World.block_lt_of_cell? _ _ h1
/-- what stands ahead in the files -/
theorem Nodes.cut {w : World} {a : Option Addr} {n cap : Nat} {L : List Nd} (h : Nodes w (.slice a n cap) L) (m : Nat) (hm : m ≤ L.length) : Nodes w (.slice a m cap) (L.take m) := by
  obtain ⟨a1, cap1, e, h2, h3, h4, h5⟩ := h
  cases e
  have hl : (L.take m).length = m := by rw [List.length_take]; omega
  have hcells : ∀ (L : List Nd) (m : Nat), (L.take m).flatMap Nd.cells = (L.flatMap Nd.cells).take (m * 5) := fun L => by
    induction L with
    | nil => intro m; simp
    | cons x L ih =>
      intro m
      cases m with
      | zero => simp
      | succ m => rw [List.take_succ_cons, List.flatMap_cons, List.flatMap_cons, ih m, show (m + 1) * 5 = (Nd.cells x).length + m * 5 by show _ = 5 + _; omega, List.take_length_add_append]
  refine ⟨a, cap, by rw [hl], by omega, h3, by rw [hl, hcells, List.length_take, h4]; omega, fun hn => ?_⟩
  obtain ⟨b, off, e2, hc⟩ := h5 (by omega)
  refine ⟨b, off, e2, fun j u hj => hc j u ?_⟩
  rw [hcells, List.getElem?_take] at hj
  split at hj
  · exact hj
  · cases hj
def cellsL (L : List Nd) : List Value := L.flatMap Nd.cells
theorem cellsL_length (L : List Nd) : (cellsL L).length = L.length * 5 := flat_length Nd.cells 5 L (fun _ _ => rfl)
theorem cellsL_one (L : List Nd) : ∀ u ∈ cellsL L, u.oneCell' = true := fun u hu => by
  obtain ⟨s, _, hs⟩ := List.mem_flatMap.1 hu
  simp only [Nd.cells, List.mem_cons, List.not_mem_nil, or_false] at hs
  rcases hs with rfl | rfl | rfl | rfl | rfl <;> rfl
theorem cellsL_snoc (L : List Nd) (s : Nd) : cellsL (L ++ [s]) = cellsL L ++ s.cells := by
  unfold cellsL
  rw [List.flatMap_append]
  simp
theorem cellsL_set (s : Nd) : ∀ (L : List Nd) (k : Nat), k < L.length → (((((cellsL L).set (k * 5) (.int .i64 s.kind)).set (k * 5 + 1) (.int .u16 s.mode)).set (k * 5 + 2) (.int .u16 s.links)).set (k * 5 + 3) (.int .u64 s.time)).set (k * 5 + 4) (.string s.data) = cellsL (L.set k s)
  | [], _, h => by simp at h
  | x :: L, 0, _ => rfl
  | x :: L, k + 1, h => by
    have ih := cellsL_set s L k (by simpa using h)
    have e : cellsL (x :: L) = .int .i64 x.kind :: .int .u16 x.mode :: .int .u16 x.links :: .int .u64 x.time :: .string x.data :: cellsL L := rfl
    have e2 : cellsL ((x :: L).set (k + 1) s) = .int .i64 x.kind :: .int .u16 x.mode :: .int .u16 x.links :: .int .u64 x.time :: .string x.data :: cellsL (L.set k s) := rfl
    rw [e, e2, show (k + 1) * 5 = k * 5 + 1 + 1 + 1 + 1 + 1 by omega]
    simp only [List.set_cons_succ]
    rw [← ih]
/-- one part of one -/
theorem cellsL_mode (s : Nat) : ∀ (L : List Nd) (k : Nat), k < L.length → (cellsL L).set (k * 5 + 1) (.int .u16 s) = cellsL (L.set k { nd L k with mode := s })
  | [], _, h => by simp at h
  | x :: L, 0, _ => rfl
  | x :: L, k + 1, h => by
    have ih := cellsL_mode s L k (by simpa using h)
    have e : cellsL (x :: L) = .int .i64 x.kind :: .int .u16 x.mode :: .int .u16 x.links :: .int .u64 x.time :: .string x.data :: cellsL L := rfl
    have e2 : cellsL ((x :: L).set (k + 1) { nd (x :: L) (k + 1) with mode := s }) = .int .i64 x.kind :: .int .u16 x.mode :: .int .u16 x.links :: .int .u64 x.time :: .string x.data :: cellsL (L.set k { nd L k with mode := s }) := rfl
    rw [e, e2, show (k + 1) * 5 + 1 = (k * 5 + 1) + 1 + 1 + 1 + 1 + 1 by omega]
    simp only [List.set_cons_succ]
    rw [← ih]
theorem cellsL_links (s : Nat) : ∀ (L : List Nd) (k : Nat), k < L.length → (cellsL L).set (k * 5 + 2) (.int .u16 s) = cellsL (L.set k { nd L k with links := s })
  | [], _, h => by simp at h
  | x :: L, 0, _ => rfl
  | x :: L, k + 1, h => by
    have ih := cellsL_links s L k (by simpa using h)
    have e : cellsL (x :: L) = .int .i64 x.kind :: .int .u16 x.mode :: .int .u16 x.links :: .int .u64 x.time :: .string x.data :: cellsL L := rfl
    have e2 : cellsL ((x :: L).set (k + 1) { nd (x :: L) (k + 1) with links := s }) = .int .i64 x.kind :: .int .u16 x.mode :: .int .u16 x.links :: .int .u64 x.time :: .string x.data :: cellsL (L.set k { nd L k with links := s }) := rfl
    rw [e, e2, show (k + 1) * 5 + 2 = (k * 5 + 2) + 1 + 1 + 1 + 1 + 1 by omega]
    simp only [List.set_cons_succ]
    rw [← ih]
theorem cellsL_time (s : Nat) : ∀ (L : List Nd) (k : Nat), k < L.length → (cellsL L).set (k * 5 + 3) (.int .u64 s) = cellsL (L.set k { nd L k with time := s })
  | [], _, h => by simp at h
  | x :: L, 0, _ => rfl
  | x :: L, k + 1, h => by
    have ih := cellsL_time s L k (by simpa using h)
    have e : cellsL (x :: L) = .int .i64 x.kind :: .int .u16 x.mode :: .int .u16 x.links :: .int .u64 x.time :: .string x.data :: cellsL L := rfl
    have e2 : cellsL ((x :: L).set (k + 1) { nd (x :: L) (k + 1) with time := s }) = .int .i64 x.kind :: .int .u16 x.mode :: .int .u16 x.links :: .int .u64 x.time :: .string x.data :: cellsL (L.set k { nd L k with time := s }) := rfl
    rw [e, e2, show (k + 1) * 5 + 3 = (k * 5 + 3) + 1 + 1 + 1 + 1 + 1 by omega]
    simp only [List.set_cons_succ]
    rw [← ih]
theorem cellsL_data (s : ByteArray) : ∀ (L : List Nd) (k : Nat), k < L.length → (cellsL L).set (k * 5 + 4) (.string s) = cellsL (L.set k { nd L k with data := s })
  | [], _, h => by simp at h
  | x :: L, 0, _ => rfl
  | x :: L, k + 1, h => by
    have ih := cellsL_data s L k (by simpa using h)
    have e : cellsL (x :: L) = .int .i64 x.kind :: .int .u16 x.mode :: .int .u16 x.links :: .int .u64 x.time :: .string x.data :: cellsL L := rfl
    have e2 : cellsL ((x :: L).set (k + 1) { nd (x :: L) (k + 1) with data := s }) = .int .i64 x.kind :: .int .u16 x.mode :: .int .u16 x.links :: .int .u64 x.time :: .string x.data :: cellsL (L.set k { nd L k with data := s }) := rfl
    rw [e, e2, show (k + 1) * 5 + 4 = (k * 5 + 4) + 1 + 1 + 1 + 1 + 1 by omega]
    simp only [List.set_cons_succ]
    rw [← ih]
theorem infoNd : (Try.prog.info? 38).map (fun i => (i.zero, i.size, i.bytes)) = some (some (.agg #[.int .i64 0, .int .u16 0, .int .u16 0, .int .u64 0, .string ⟨#[]⟩]), 5, 40) := by kernel_rfl
/-- a row of one's own, as nodes -/
theorem Nodes.own {w : World} {base : Nat} {v : Value} {L : List Nd} (h : w.ownsRow base 38 5 v L.length (cellsL L)) : Nodes w v L := Lies.own h
/-- the cells of a slice that is not nil, wherever it is laid -/
theorem Nodes.news {w : World} {a : Addr} {n cap : Nat} {L : List Nd} (h : Nodes w (.slice (some a) n cap) L) : ∀ j u, (cellsL L)[j]? = some u → w.cell? (a.add j) = some u := fun j u hj => by
  obtain ⟨a', cap', e, _, _, h4, h5⟩ := h
  cases e
  have hl := (List.getElem?_eq_some_iff.1 hj).1
  rw [cellsL_length] at hl
  obtain ⟨b, off, e2, hc⟩ := h5 (by omega)
  cases e2
  rw [add_plain]
  exact hc j u hj
theorem own_open {w : World} {base n : Nat} {v : Value} {xs : List Value} (h : w.ownsRow base 38 5 v n xs) (hn : 0 < n) : ∃ g cap, v = .slice (some ⟨g, 0, none⟩) n cap ∧ base ≤ g ∧ n ≤ cap ∧ cap ≤ 9223372036854775807 := by
  rcases h.2 with ⟨rfl, rfl⟩ | ⟨g, cap, cur, rfl, hb, hg, hn, hm, hs, ht⟩
  · omega
  · exact ⟨g, cap, rfl, hb, hn, by unfold maxLen at hm; omega⟩
/-- one part of one is laid into a row of one's own -/
theorem own_mode {w : World} {base n cap g k : Nat} {L : List Nd} (hn : L.length = n) (h : w.ownsRow base 38 5 (.slice (some ⟨g, 0, none⟩) n cap) n (cellsL L)) (hk : k < n) (s : Nat) :
    (∃ u, w.cell? ⟨g, k * 5 + 1, none⟩ = some u) ∧ w.frozen? ⟨g, k * 5 + 1, none⟩ = false ∧
    (w.setCell ⟨g, k * 5 + 1, none⟩ (.int .u16 s)).ownsRow base 38 5 (.slice (some ⟨g, 0, none⟩) n cap) n (cellsL (L.set k { nd L k with mode := s })) ∧
    Below g w (w.setCell ⟨g, k * 5 + 1, none⟩ (.int .u16 s)) := by
  have hl := cellsL_length L
  have h1 := (h.stored (k * 5 + 1) (.int .u16 s)).1
  rw [cellsL_mode s L k (by omega)] at h1
  exact ⟨⟨_, (h.cellAt (k * 5 + 1) (by omega)).trans (List.getElem?_eq_getElem (by omega))⟩, h.frozenAt _, h1, (Below.refl g w).setCell (p := ⟨g, k * 5 + 1, none⟩) (Nat.le_refl _) _⟩
theorem own_links {w : World} {base n cap g k : Nat} {L : List Nd} (hn : L.length = n) (h : w.ownsRow base 38 5 (.slice (some ⟨g, 0, none⟩) n cap) n (cellsL L)) (hk : k < n) (s : Nat) :
    (∃ u, w.cell? ⟨g, k * 5 + 2, none⟩ = some u) ∧ w.frozen? ⟨g, k * 5 + 2, none⟩ = false ∧
    (w.setCell ⟨g, k * 5 + 2, none⟩ (.int .u16 s)).ownsRow base 38 5 (.slice (some ⟨g, 0, none⟩) n cap) n (cellsL (L.set k { nd L k with links := s })) ∧
    Below g w (w.setCell ⟨g, k * 5 + 2, none⟩ (.int .u16 s)) := by
  have hl := cellsL_length L
  have h1 := (h.stored (k * 5 + 2) (.int .u16 s)).1
  rw [cellsL_links s L k (by omega)] at h1
  exact ⟨⟨_, (h.cellAt (k * 5 + 2) (by omega)).trans (List.getElem?_eq_getElem (by omega))⟩, h.frozenAt _, h1, (Below.refl g w).setCell (p := ⟨g, k * 5 + 2, none⟩) (Nat.le_refl _) _⟩
theorem own_time {w : World} {base n cap g k : Nat} {L : List Nd} (hn : L.length = n) (h : w.ownsRow base 38 5 (.slice (some ⟨g, 0, none⟩) n cap) n (cellsL L)) (hk : k < n) (s : Nat) :
    (∃ u, w.cell? ⟨g, k * 5 + 3, none⟩ = some u) ∧ w.frozen? ⟨g, k * 5 + 3, none⟩ = false ∧
    (w.setCell ⟨g, k * 5 + 3, none⟩ (.int .u64 s)).ownsRow base 38 5 (.slice (some ⟨g, 0, none⟩) n cap) n (cellsL (L.set k { nd L k with time := s })) ∧
    Below g w (w.setCell ⟨g, k * 5 + 3, none⟩ (.int .u64 s)) := by
  have hl := cellsL_length L
  have h1 := (h.stored (k * 5 + 3) (.int .u64 s)).1
  rw [cellsL_time s L k (by omega)] at h1
  exact ⟨⟨_, (h.cellAt (k * 5 + 3) (by omega)).trans (List.getElem?_eq_getElem (by omega))⟩, h.frozenAt _, h1, (Below.refl g w).setCell (p := ⟨g, k * 5 + 3, none⟩) (Nat.le_refl _) _⟩
theorem own_data {w : World} {base n cap g k : Nat} {L : List Nd} (hn : L.length = n) (h : w.ownsRow base 38 5 (.slice (some ⟨g, 0, none⟩) n cap) n (cellsL L)) (hk : k < n) (s : ByteArray) :
    (∃ u, w.cell? ⟨g, k * 5 + 4, none⟩ = some u) ∧ w.frozen? ⟨g, k * 5 + 4, none⟩ = false ∧
    (w.setCell ⟨g, k * 5 + 4, none⟩ (.string s)).ownsRow base 38 5 (.slice (some ⟨g, 0, none⟩) n cap) n (cellsL (L.set k { nd L k with data := s })) ∧
    Below g w (w.setCell ⟨g, k * 5 + 4, none⟩ (.string s)) := by
  have hl := cellsL_length L
  have h1 := (h.stored (k * 5 + 4) (.string s)).1
  rw [cellsL_data s L k (by omega)] at h1
  exact ⟨⟨_, (h.cellAt (k * 5 + 4) (by omega)).trans (List.getElem?_eq_getElem (by omega))⟩, h.frozenAt _, h1, (Below.refl g w).setCell (p := ⟨g, k * 5 + 4, none⟩) (Nat.le_refl _) _⟩

/-- what asks answers: only what is new is written -/
def Ans (w : World) (v : Value) (e : Ending) (w' : World) : Prop := e = .returned v ∧ Below w.heap.size w w'
theorem Ans.eq {w w' : World} {e : Ending} {v u : Value} (h : v = u) (k : Ans w v e w') : Ans w u e w' := h ▸ k

/-- are two nodes the same -/
theorem eqlN (a b : Nd) (w : World) : (binOp .eql 38 a.val b.val).run Try.prog w = .ok (.bool (decide (a = b))) w := by
  obtain ⟨k1, m1, l1, t1, d1⟩ := a
  obtain ⟨k2, m2, l2, t2, d2⟩ := b
  have he : (Op.equalIn 10000 38 (.agg #[.int .i64 k1, .int .u16 m1, .int .u16 l1, .int .u64 t1, .string d1]) (.agg #[.int .i64 k2, .int .u16 m2, .int .u16 l2, .int .u64 t2, .string d2])).run Try.prog w = .ok (decide ((⟨k1, m1, l1, t1, d1⟩ : Nd) = ⟨k2, m2, l2, t2, d2⟩)) w := by
    rw [run_equalIn_agg w 9999 38 _ _ (by kernel_rfl) (by kernel_rfl)]
    simp only [Nd.mk.injEq]
    by_cases h1 : k1 = k2
    · by_cases h2 : m1 = m2
      · by_cases h3 : l1 = l2
        · by_cases h4 : t1 = t2
          · by_cases h5 : d1 = d2
            · simp [go_sem, h1, h2, h3, h4, h5]
            · have h5' : ¬ d1.toList = d2.toList := fun he => h5 (ByteArray.ext (Array.toList_inj.1 (by rw [← Lib.toList_data, ← Lib.toList_data]; exact he)))
              simp [go_sem, h1, h2, h3, h4, h5, h5']
          · have h4' : ¬ (t1 : Int) = t2 := by omega
            simp [go_sem, h1, h2, h3, h4, h4']
        · have h3' : ¬ (l1 : Int) = l2 := by omega
          simp [go_sem, h1, h2, h3, h3']
      · have h2' : ¬ (m1 : Int) = m2 := by omega
        simp [go_sem, h1, h2, h2']
    · simp [go_sem, h1]
  unfold Nd.val
  dsimp only
  rw [run_eql_struct, he]
  rfl
theorem neqN (a b : Nd) (w : World) : (binOp .neq 38 a.val b.val).run Try.prog w = .ok (.bool (!decide (a = b))) w := by
  have h := eqlN a b w
  unfold Nd.val at h ⊢
  rw [run_eql_struct] at h
  rw [run_neq_struct]
  revert h
  generalize (Op.equalIn 10000 38 (.agg #[.int .i64 a.kind, .int .u16 a.mode, .int .u16 a.links, .int .u64 a.time, .string a.data]) (.agg #[.int .i64 b.kind, .int .u16 b.mode, .int .u16 b.links, .int .u64 b.time, .string b.data])).run Try.prog w = r
  intro h
  cases r with
  | ok x w1 =>
    simp only [Result.andThen] at h ⊢
    injection h with h1 h2
    injection h1 with h3
    rw [h3, h2]
  | halt x w1 => simp [Result.andThen] at h
end Go.Proofs.Yteopcjfakhmifaa.Pln
/- A file's inode, an inode's file, files trimmed: as data; a node that is answered in a cell. -/
namespace Go.Proofs.Yteopcjfakhmifaa.Vol
open Go.RowKit
open Ino (I M RightP IOk dpN UsedP)
open Pln (Nd nd)
attribute [local go_sem] Oper.semAt_some
set_option linter.unusedVariables false
set_option linter.unusedSimpArgs false
/-! ### one file -/
def inoOf (n : Nd) (m : M) : I := ⟨n.kind, n.mode, n.links, n.data.size, n.time, dpN n.data.size, m⟩
theorem inoOf_zero {n : Nd} {m : M} (h : inoOf n m = I.zero) : n = Nd.zero := by
  obtain ⟨k, mo, li, t, d⟩ := n
  unfold inoOf I.zero at h
  simp only [I.mk.injEq] at h
  obtain ⟨h1, h2, h3, h4, h5, _⟩ := h
  unfold Nd.zero
  simp only [Nd.mk.injEq]
  refine ⟨h1, h2, h3, h5, ba_ext ?_⟩
  exact List.eq_nil_of_length_eq_zero (by rw [len_list]; exact h4)
def inP (n : Nd) (m : M) : Prop := if n = Nd.zero then m = M.zero else RightP (inoOf n m)
instance (n : Nd) (m : M) : Decidable (inP n m) := by unfold inP; infer_instance
def inV (n : Nd) (m : M) : I := if n = Nd.zero then I.zero else if RightP (inoOf n m) then inoOf n m else I.zero
def inE (n : Nd) (m : M) : Int := if inP n m then 0 else 154
theorem inP_zero (m : M) : inP Nd.zero m ↔ m = M.zero := by unfold inP; rw [if_pos rfl]
theorem inP_other {n : Nd} {m : M} (hn : ¬ n = Nd.zero) : inP n m ↔ RightP (inoOf n m) := by unfold inP; rw [if_neg hn]
theorem inE_yes {n : Nd} {m : M} (h : inP n m) : inE n m = 0 := if_pos h
theorem inE_no {n : Nd} {m : M} (h : ¬ inP n m) : inE n m = 154 := if_neg h
theorem in_zero (m : M) : inV Nd.zero m = I.zero ∧ (m = M.zero → inE Nd.zero m = 0) ∧ (¬ m = M.zero → inE Nd.zero m = 154) :=
  ⟨if_pos rfl, fun h => inE_yes ((inP_zero m).2 h), fun h => inE_no (fun k => h ((inP_zero m).1 k))⟩
theorem in_yes {n : Nd} {m : M} (hn : ¬ n = Nd.zero) (h : RightP (inoOf n m)) : inV n m = inoOf n m ∧ inE n m = 0 :=
  ⟨by unfold inV; rw [if_neg hn, if_pos h], inE_yes ((inP_other hn).2 h)⟩
theorem in_no {n : Nd} {m : M} (hn : ¬ n = Nd.zero) (h : ¬ RightP (inoOf n m)) : inV n m = I.zero ∧ inE n m = 154 :=
  ⟨by unfold inV; rw [if_neg hn, if_neg h], inE_no (fun k => h ((inP_other hn).1 k))⟩
def ndP (x : I) (d : ByteArray) : Prop := RightP x ∧ d.size = x.size
instance (x : I) (d : ByteArray) : Decidable (ndP x d) := by unfold ndP; infer_instance
def ndOf (x : I) (d : ByteArray) : Nd := ⟨x.kind, x.mode, x.links, x.time, d⟩
def ndV (x : I) (d : ByteArray) : Nd := if ndP x d then ndOf x d else Nd.zero
def ndE (x : I) (d : ByteArray) : Int := if ndP x d then 0 else 154
theorem nd_yes {x : I} {d : ByteArray} (h : ndP x d) : ndV x d = ndOf x d ∧ ndE x d = 0 := ⟨if_pos h, if_pos h⟩
theorem nd_no {x : I} {d : ByteArray} (h : ¬ ndP x d) : ndV x d = Nd.zero ∧ ndE x d = 154 := ⟨if_neg h, if_neg h⟩
/-- a file, and its inode, are one to one -/
theorem in_back {n : Nd} {m : M} (h : inE n m = 0) : ndE (inV n m) n.data = 0 ∧ ndV (inV n m) n.data = n := by
  have hp : inP n m := Decidable.byContradiction fun hn => by rw [inE_no hn] at h; exact absurd h (by decide)
  by_cases hz : n = Nd.zero
  · subst hz
    rw [(in_zero m).1]
    have : ndP I.zero Nd.zero.data := ⟨.inl rfl, rfl⟩
    rw [(nd_yes this).1, (nd_yes this).2]
    exact ⟨rfl, rfl⟩
  · have hr : RightP (inoOf n m) := (inP_other hz).1 hp
    rw [(in_yes hz hr).1]
    have : ndP (inoOf n m) n.data := ⟨hr, rfl⟩
    rw [(nd_yes this).1, (nd_yes this).2]
    exact ⟨rfl, rfl⟩
/-! ### trimmed -/
/-- how many of the first n are left -/
def trimN (l : List Nd) : Nat → Nat
  | 0 => 0
  | n + 1 => if 3 < n + 1 ∧ nd l n = Nd.zero then trimN l n else n + 1
theorem trimN_go {l : List Nd} {n : Nat} (h : 3 < n + 1) (h2 : nd l n = Nd.zero) : trimN l (n + 1) = trimN l n := by
  conv => lhs; unfold trimN
  rw [if_pos ⟨h, h2⟩]
theorem trimN_stop {l : List Nd} {n : Nat} (h : ¬ (3 < n + 1 ∧ nd l n = Nd.zero)) : trimN l (n + 1) = n + 1 := by
  conv => lhs; unfold trimN
  rw [if_neg h]
theorem trimN_small {l : List Nd} {n : Nat} (h : n ≤ 3) : trimN l n = n := by
  cases n with
  | zero => rfl
  | succ n => exact trimN_stop (by omega)
theorem trimN_le (l : List Nd) : ∀ n, trimN l n ≤ n
  | 0 => Nat.le_refl _
  | n + 1 => by
    unfold trimN
    split
    · exact Nat.le_succ_of_le (trimN_le l n)
    · exact Nat.le_refl _
theorem trimN_zero (l : List Nd) : ∀ n i, trimN l n ≤ i → i < n → nd l i = Nd.zero
  | 0, i, _, h => absurd h (Nat.not_lt_zero _)
  | n + 1, i, h1, h2 => by
    by_cases h : 3 < n + 1 ∧ nd l n = Nd.zero
    · rw [trimN_go h.1 h.2] at h1
      by_cases hi : i = n
      · rw [hi]; exact h.2
      · exact trimN_zero l n i h1 (by omega)
    · rw [trimN_stop h] at h1
      omega
theorem trimN_end (l : List Nd) : ∀ n, ¬ (3 < trimN l n ∧ nd l (trimN l n - 1) = Nd.zero)
  | 0 => fun h => absurd h.1 (by show ¬ 3 < 0; omega)
  | n + 1 => by
    by_cases h : 3 < n + 1 ∧ nd l n = Nd.zero
    · rw [trimN_go h.1 h.2]; exact trimN_end l n
    · rw [trimN_stop h, Nat.add_sub_cancel]; exact h
/-- files, trimmed -/
def trm (l : List Nd) : List Nd := l.take (trimN l l.length)
theorem trm_len (l : List Nd) : (trm l).length = trimN l l.length := by
  unfold trm
  rw [List.length_take]
  have := trimN_le l l.length
  omega
theorem nd_take {l : List Nd} {n i : Nat} (h : i < n) : nd (l.take n) i = nd l i := by
  unfold nd
  rw [List.getD_eq_getElem?_getD, List.getD_eq_getElem?_getD, List.getElem?_take_of_lt h]
theorem trm_twice (l : List Nd) : trm (trm l) = trm l := by
  have h1 : trimN (trm l) (trm l).length = (trm l).length := by
    have he := trimN_end l l.length
    have hl := trm_len l
    cases hk : (trm l).length with
    | zero => rfl
    | succ k =>
      refine trimN_stop fun h => he ?_
      rw [← hl, hk, Nat.add_sub_cancel]
      have hn : nd (trm l) k = nd l k := by unfold trm; exact nd_take (by rw [← hl, hk]; omega)
      exact ⟨h.1, by rw [← hn]; exact h.2⟩
  conv => lhs; unfold trm
  rw [show trimN (l.take (trimN l l.length)) (l.take (trimN l l.length)).length = (trm l).length from h1]
  exact List.take_length
/-! ### a node that is answered in a cell -/
set_option maxRecDepth 100000 in
theorem results_node {fn : Func} {r e : Tmp} (h : fn.results = #[.cell r 38, .tmp e]) (tmps : Array Value) (w : World) {b : Nat} {n : Nd} (hp : tmps.getD r undef = .pointer (some ⟨b, 0, none⟩)) (hA : Pln.At w b n) :
    (results fn tmps).run Try.prog w = .ok (.tuple #[n.val, tmps.getD e undef]) w := by
  obtain ⟨c0, c1, c2, c3, c4⟩ := hA.c
  rw [Array.getD_eq_getD_getElem?] at hp
  simp [results, h, hp, go_sem, c0, c1, c2, c3, c4]
  rfl
/-- the cells of a node that is none, as they are typed -/
theorem zcN {W : World} {b : Nat} (h : Pln.At W b Nd.zero) : W.cell? ⟨b, 0, none⟩ = some (.int .i64 0) ∧ W.cell? ⟨b, 1, none⟩ = some (.int .u16 0) ∧ W.cell? ⟨b, 2, none⟩ = some (.int .u16 0) ∧ W.cell? ⟨b, 3, none⟩ = some (.int .u64 0) ∧ W.cell? ⟨b, 4, none⟩ = some (.string ⟨#[]⟩) := h.c
theorem putZN {W : World} {b : Nat} {s : Nd} (h : Pln.At W b s) :
    Pln.At (((((W.setCell ⟨b, 0, none⟩ (.int .i64 0)).setCell ⟨b, 1, none⟩ (.int .u16 0)).setCell ⟨b, 2, none⟩ (.int .u16 0)).setCell ⟨b, 3, none⟩ (.int .u64 0)).setCell ⟨b, 4, none⟩ (.string ⟨#[]⟩)) b Nd.zero ∧
    Below b W (((((W.setCell ⟨b, 0, none⟩ (.int .i64 0)).setCell ⟨b, 1, none⟩ (.int .u16 0)).setCell ⟨b, 2, none⟩ (.int .u16 0)).setCell ⟨b, 3, none⟩ (.int .u64 0)).setCell ⟨b, 4, none⟩ (.string ⟨#[]⟩)) := h.put5 Nd.zero
end Go.Proofs.Yteopcjfakhmifaa.Vol
