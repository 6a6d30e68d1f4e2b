/- Several texts in one, each under its own heading. -/
import Derived.StillTailTactics
import Derived.Deep.RegionWith
import Derived.Deep.RegionHeld3
import Derived.BigQuiet
import Derived.Handy
import Derived.Laws.StructEq
import Derived.Laws.AppendOwnNone
import Derived.Deep.AppendLies
import Derived.Lib.SliceRun
import Derived.Lib.Strings
import Derived.Test.YtkipkcmcolomcaaGreatPk01
import Derived.Test.YtkipkcmcolomcaaGreatPk05
import Derived.Test.YtkipkcmcolomcaaGreatPk04
import Derived.Test.YtkipkcmcolomcaaGreatPk07
/- Nodes in memory: one, and a slice of them; when two are the same. -/
namespace Go.Proofs.YtkipkcmcolomcaaGreat.Pln
open Go.RowKit
attribute [local go_sem] Oper.semAt_some
set_option linter.unusedVariables false
set_option linter.unusedSimpArgs false

def Nd.cells (s : Nd) : List Value := [.int .i64 s.kind, .int .u16 s.mode, .int .u16 s.links, .int .u64 s.time, .string s.data]
def Nd.val (s : Nd) : Value := .agg #[.int .i64 s.kind, .int .u16 s.mode, .int .u16 s.links, .int .u64 s.time, .string s.data]
/-- a node's cells -/
def boxO (s : Nd) : Obj := .cells #[.int .i64 s.kind, .int .u16 s.mode, .int .u16 s.links, .int .u64 s.time, .string s.data] 46

/-- a node lies at block b -/
def At (W : World) (b : Nat) (s : Nd) : Prop := W.heap[b]? = some (.cells #[.int .i64 s.kind, .int .u16 s.mode, .int .u16 s.links, .int .u64 s.time, .string s.data] 46 (0, 0))
theorem At.c {W : World} {b : Nat} {s : Nd} (h : At W b s) : W.cell? ⟨b, 0, none⟩ = some (.int .i64 s.kind) ∧ W.cell? ⟨b, 1, none⟩ = some (.int .u16 s.mode) ∧ W.cell? ⟨b, 2, none⟩ = some (.int .u16 s.links) ∧ W.cell? ⟨b, 3, none⟩ = some (.int .u64 s.time) ∧ W.cell? ⟨b, 4, none⟩ = some (.string s.data) := by
  unfold At at h
  simp only [World.cell?, h]
  exact ⟨rfl, rfl, rfl, rfl, rfl⟩
theorem At.f {W : World} {b : Nat} {s : Nd} (h : At W b s) (i : Nat) : W.frozen? ⟨b, i, none⟩ = false := by
  unfold At at h
  simp [World.frozen?, h]
theorem At.below {W W' : World} {b n : Nat} {s : Nd} (h : At W b s) (hB : Below n W W') (hb : b < n) : At W' b s := (hB.block b hb).trans h
theorem At.new (w : World) (s : Nd) : At (w.alloc (boxO s)) w.heap.size s := World.alloc_heap_new w _
theorem At.lt {W : World} {b : Nat} {s : Nd} (h : At W b s) : b < W.heap.size := (Array.getElem?_eq_some_iff.1 h).1
theorem At.th {W W' : World} {b : Nat} {s : Nd} (h : At W b s) (hB : Below W.heap.size W W') : At W' b s := h.below hB h.lt
theorem At.of_heap {W W' : World} {b : Nat} {s : Nd} (h : At W b s) (hb : W'.heap[b]? = W.heap[b]?) : At W' b s := hb.trans h
theorem At.drew {W : World} {b : Nat} {s : Nd} (h : At W b s) : At W.drew b s := h
/-- one part alone is laid over -/
theorem At.put_mode {W : World} {b : Nat} {s : Nd} (h : At W b s) (n : Nat) : At (W.setCell ⟨b, 1, none⟩ (.int .u16 n)) b { s with mode := n } ∧ Below b W (W.setCell ⟨b, 1, none⟩ (.int .u16 n)) := by
  unfold At at h
  exact ⟨heap_setCell_same W b 1 _ _ (.int .u16 n) h, (Below.refl b W).setCell (p := ⟨b, 1, none⟩) (Nat.le_refl _) _⟩
theorem At.put_links {W : World} {b : Nat} {s : Nd} (h : At W b s) (n : Nat) : At (W.setCell ⟨b, 2, none⟩ (.int .u16 n)) b { s with links := n } ∧ Below b W (W.setCell ⟨b, 2, none⟩ (.int .u16 n)) := by
  unfold At at h
  exact ⟨heap_setCell_same W b 2 _ _ (.int .u16 n) h, (Below.refl b W).setCell (p := ⟨b, 2, none⟩) (Nat.le_refl _) _⟩
theorem At.put_time {W : World} {b : Nat} {s : Nd} (h : At W b s) (n : Nat) : At (W.setCell ⟨b, 3, none⟩ (.int .u64 n)) b { s with time := n } ∧ Below b W (W.setCell ⟨b, 3, none⟩ (.int .u64 n)) := by
  unfold At at h
  exact ⟨heap_setCell_same W b 3 _ _ (.int .u64 n) h, (Below.refl b W).setCell (p := ⟨b, 3, none⟩) (Nat.le_refl _) _⟩
theorem At.put_data {W : World} {b : Nat} {s : Nd} (h : At W b s) (r : ByteArray) : At (W.setCell ⟨b, 4, none⟩ (.string r)) b { s with data := r } ∧ Below b W (W.setCell ⟨b, 4, none⟩ (.string r)) := by
  unfold At at h
  exact ⟨heap_setCell_same W b 4 _ _ (.string r) h, (Below.refl b W).setCell (p := ⟨b, 4, none⟩) (Nat.le_refl _) _⟩
/-- a node is laid over another one, part by part -/
theorem At.put5 {W : World} {b : Nat} {s : Nd} (h : At W b s) (t : Nd) :
    At (((((W.setCell ⟨b, 0, none⟩ (.int .i64 t.kind)).setCell ⟨b, 1, none⟩ (.int .u16 t.mode)).setCell ⟨b, 2, none⟩ (.int .u16 t.links)).setCell ⟨b, 3, none⟩ (.int .u64 t.time)).setCell ⟨b, 4, none⟩ (.string t.data)) b t ∧
    Below b W (((((W.setCell ⟨b, 0, none⟩ (.int .i64 t.kind)).setCell ⟨b, 1, none⟩ (.int .u16 t.mode)).setCell ⟨b, 2, none⟩ (.int .u16 t.links)).setCell ⟨b, 3, none⟩ (.int .u64 t.time)).setCell ⟨b, 4, none⟩ (.string t.data)) := by
  unfold At at h
  have h0 := heap_setCell_same W b 0 _ _ (.int .i64 t.kind) h
  have h1 := heap_setCell_same _ b 1 _ _ (.int .u16 t.mode) h0
  have h2 := heap_setCell_same _ b 2 _ _ (.int .u16 t.links) h1
  have h3 := heap_setCell_same _ b 3 _ _ (.int .u64 t.time) h2
  have h4 := heap_setCell_same _ b 4 _ _ (.string t.data) h3
  refine ⟨h4, ?_⟩
  exact (((((Below.refl b W).setCell (p := ⟨b, 0, none⟩) (Nat.le_refl _) _).setCell (p := ⟨b, 1, none⟩) (Nat.le_refl _) _).setCell (p := ⟨b, 2, none⟩) (Nat.le_refl _) _).setCell (p := ⟨b, 3, none⟩) (Nat.le_refl _) _).setCell (p := ⟨b, 4, none⟩) (Nat.le_refl _) _
theorem nd_get {l : List Nd} {i : Nat} (h : i < l.length) : l[i]? = some (nd l i) := by
  unfold nd
  rw [List.getD_eq_getElem?_getD, List.getElem?_eq_getElem h]
  rfl
theorem below_drewN {B : Nat} {w W : World} (h : Below B w W) (n : Nat) : Below B w (W.drewN n) := ⟨h.1, h.2, h.3, h.4, h.5⟩
theorem below_al {w W : World} (h : Below w.heap.size w W) (o : Obj) : Below w.heap.size w (W.alloc o) := h.alloc h.size _
theorem below_new (w : World) (o : Obj) : Below w.heap.size w (w.alloc o) := (Below.refl _ _).alloc (Nat.le_refl _) _

/-- the files -/
def Nodes (w : World) (v : Value) (L : List Nd) : Prop := Lies w v L.length 5 (L.flatMap Nd.cells)
theorem Nodes.below {w w' : World} {v : Value} {L : List Nd} (h : Nodes w v L) (hB : Below w.heap.size w w') : Nodes w' v L := Lies.below h hB
theorem Nodes.nil (w : World) : Nodes w (.slice none 0 0) [] := Lies.nil w 5
theorem Nodes.parts {w : World} {v : Value} {L : List Nd} (h : Nodes w v L) : ∃ a cap, v = .slice a L.length cap ∧ L.length ≤ cap ∧ cap ≤ 9223372036854775807 := by
  obtain ⟨a, cap, e, _, h1, h2⟩ := Lies.parts h
  exact ⟨a, cap, e, h1, h2⟩
/-- what stands at a place -/
def Reads (w : World) (b o : Nat) (c : Nd) : Prop := w.cell? ⟨b, o, none⟩ = some (.int .i64 c.kind) ∧ w.cell? ⟨b, o + 1, none⟩ = some (.int .u16 c.mode) ∧ w.cell? ⟨b, o + 2, none⟩ = some (.int .u16 c.links) ∧ w.cell? ⟨b, o + 3, none⟩ = some (.int .u64 c.time) ∧ w.cell? ⟨b, o + 4, none⟩ = some (.string c.data)
theorem Nodes.at {w : World} {v : Value} {L : List Nd} (h : Nodes w v L) {k : Nat} (hk : k < L.length) :
    ∃ b off cap, v = .slice (some ⟨b, off, none⟩) L.length cap ∧ Reads w b (off + k * 5) (nd L k) := by
  obtain ⟨a, cap, rfl, _, _, _, h5⟩ := h
  obtain ⟨b, off, rfl, hc⟩ := h5 (by omega)
  have hf := fun j (hj : j < 5) => flat_at Nd.cells 5 L (fun o _ => rfl) k j (nd L k) (nd_get hk) hj
  refine ⟨b, off, cap, rfl, ?_, ?_, ?_, ?_, ?_⟩
  · exact hc (k * 5) _ (hf 0 (by omega))
  · have := hc _ _ (hf 1 (by omega)); rwa [← Nat.add_assoc] at this
  · have := hc _ _ (hf 2 (by omega)); rwa [← Nat.add_assoc] at this
  · have := hc _ _ (hf 3 (by omega)); rwa [← Nat.add_assoc] at this
  · have := hc _ _ (hf 4 (by omega)); rwa [← Nat.add_assoc] at this
/-- the same, of a slice that is known by its parts -/
theorem Nodes.get {w : World} {b off n cap : Nat} {L : List Nd} (hn : L.length = n) (h : Nodes w (.slice (some ⟨b, off, none⟩) n cap) L) {k : Nat} (hk : k < n) : Reads w b (off + k * 5) (nd L k) := by
  obtain ⟨b2, off2, cap2, e, h1⟩ := h.at (hn ▸ hk)
  cases e
  exact h1
/-- the first one -/
theorem Nodes.get0 {w : World} {b off n cap : Nat} {L : List Nd} (hn : L.length = n) (h : Nodes w (.slice (some ⟨b, off, none⟩) n cap) L) (hk : 0 < n) : Reads w b off (nd L 0) := by
  have := h.get hn hk
  simpa using this
/-- a slice stands where its block does -/
theorem Nodes.keep {W W' : World} {v : Value} {L : List Nd} (h : Nodes W v L) (hk : ∀ g o k c, v = .slice (some ⟨g, o, none⟩) k c → 0 < k → W'.heap[g]? = W.heap[g]?) : Nodes W' v L := by
  obtain ⟨a, cap, rfl, h2, h3, h4, h5⟩ := h
  refine ⟨a, cap, rfl, h2, h3, h4, fun hn => ?_⟩
  obtain ⟨b, off, rfl, hc⟩ := h5 hn
  refine ⟨b, off, rfl, fun j u hj => ?_⟩
  have he : W'.cell? ⟨b, off + j, none⟩ = W.cell? ⟨b, off + j, none⟩ := World.cell?_of_block (w := W) (hk b off _ _ rfl hn)
  exact he.trans (hc j u hj)
/-- a slice, taken apart: none at all, or an address -/
theorem Nodes.open {w : World} {v : Value} {L : List Nd} (h : Nodes w v L) : (∃ a cap, v = .slice a 0 cap ∧ L = []) ∨ ∃ b off cap, v = .slice (some ⟨b, off, none⟩) L.length cap ∧ 0 < L.length ∧ L.length ≤ cap ∧ cap ≤ 9223372036854775807 := by
  obtain ⟨a, cap, rfl, h1, h2⟩ := h.parts
  rcases Nat.eq_zero_or_pos L.length with hz | hz
  · exact .inl ⟨a, cap, by rw [hz], List.eq_nil_of_length_eq_zero hz⟩
  · obtain ⟨b, off, cap2, e, _⟩ := h.at hz
    cases e
    exact .inr ⟨b, off, cap, rfl, hz, h1, h2⟩
theorem Nodes.lt {W : World} {b off n cap : Nat} {L : List Nd} (h : Nodes W (.slice (some ⟨b, off, none⟩) n cap) L) (hn : 0 < L.length) : b < W.heap.size := by
  obtain ⟨b2, off2, cap2, e, h1, _⟩ := h.at hn
  cases e
  exact World.block_lt_of_cell? _ _ h1
/-- what stands ahead in the files -/
theorem Nodes.cut {w : World} {a : Option Addr} {n cap : Nat} {L : List Nd} (h : Nodes w (.slice a n cap) L) (m : Nat) (hm : m ≤ L.length) : Nodes w (.slice a m cap) (L.take m) := by
  obtain ⟨a1, cap1, e, h2, h3, h4, h5⟩ := h
  cases e
  have hl : (L.take m).length = m := by rw [List.length_take]; omega
  have hcells : ∀ (L : List Nd) (m : Nat), (L.take m).flatMap Nd.cells = (L.flatMap Nd.cells).take (m * 5) := fun L => by
    induction L with
    | nil => intro m; simp
    | cons x L ih =>
      intro m
      cases m with
      | zero => simp
      | succ m => rw [List.take_succ_cons, List.flatMap_cons, List.flatMap_cons, ih m, show (m + 1) * 5 = (Nd.cells x).length + m * 5 by show _ = 5 + _; omega, List.take_length_add_append]
  refine ⟨a, cap, by rw [hl], by omega, h3, by rw [hl, hcells, List.length_take, h4]; omega, fun hn => ?_⟩
  obtain ⟨b, off, e2, hc⟩ := h5 (by omega)
  refine ⟨b, off, e2, fun j u hj => hc j u ?_⟩
  rw [hcells, List.getElem?_take] at hj
  split at hj
  · exact hj
  · cases hj
def cellsL (L : List Nd) : List Value := L.flatMap Nd.cells
theorem cellsL_length (L : List Nd) : (cellsL L).length = L.length * 5 := flat_length Nd.cells 5 L (fun _ _ => rfl)
theorem cellsL_one (L : List Nd) : ∀ u ∈ cellsL L, u.oneCell' = true := fun u hu => by
  obtain ⟨s, _, hs⟩ := List.mem_flatMap.1 hu
  simp only [Nd.cells, List.mem_cons, List.not_mem_nil, or_false] at hs
  rcases hs with rfl | rfl | rfl | rfl | rfl <;> rfl
theorem cellsL_snoc (L : List Nd) (s : Nd) : cellsL (L ++ [s]) = cellsL L ++ s.cells := by
  unfold cellsL
  rw [List.flatMap_append]
  simp
theorem cellsL_set (s : Nd) : ∀ (L : List Nd) (k : Nat), k < L.length → (((((cellsL L).set (k * 5) (.int .i64 s.kind)).set (k * 5 + 1) (.int .u16 s.mode)).set (k * 5 + 2) (.int .u16 s.links)).set (k * 5 + 3) (.int .u64 s.time)).set (k * 5 + 4) (.string s.data) = cellsL (L.set k s)
  | [], _, h => by simp at h
  | x :: L, 0, _ => rfl
  | x :: L, k + 1, h => by
    have ih := cellsL_set s L k (by simpa using h)
    have e : cellsL (x :: L) = .int .i64 x.kind :: .int .u16 x.mode :: .int .u16 x.links :: .int .u64 x.time :: .string x.data :: cellsL L := rfl
    have e2 : cellsL ((x :: L).set (k + 1) s) = .int .i64 x.kind :: .int .u16 x.mode :: .int .u16 x.links :: .int .u64 x.time :: .string x.data :: cellsL (L.set k s) := rfl
    rw [e, e2, show (k + 1) * 5 = k * 5 + 1 + 1 + 1 + 1 + 1 by omega]
    simp only [List.set_cons_succ]
    rw [← ih]
/-- one part of one -/
theorem cellsL_mode (s : Nat) : ∀ (L : List Nd) (k : Nat), k < L.length → (cellsL L).set (k * 5 + 1) (.int .u16 s) = cellsL (L.set k { nd L k with mode := s })
  | [], _, h => by simp at h
  | x :: L, 0, _ => rfl
  | x :: L, k + 1, h => by
    have ih := cellsL_mode s L k (by simpa using h)
    have e : cellsL (x :: L) = .int .i64 x.kind :: .int .u16 x.mode :: .int .u16 x.links :: .int .u64 x.time :: .string x.data :: cellsL L := rfl
    have e2 : cellsL ((x :: L).set (k + 1) { nd (x :: L) (k + 1) with mode := s }) = .int .i64 x.kind :: .int .u16 x.mode :: .int .u16 x.links :: .int .u64 x.time :: .string x.data :: cellsL (L.set k { nd L k with mode := s }) := rfl
    rw [e, e2, show (k + 1) * 5 + 1 = (k * 5 + 1) + 1 + 1 + 1 + 1 + 1 by omega]
    simp only [List.set_cons_succ]
    rw [← ih]
theorem cellsL_links (s : Nat) : ∀ (L : List Nd) (k : Nat), k < L.length → (cellsL L).set (k * 5 + 2) (.int .u16 s) = cellsL (L.set k { nd L k with links := s })
  | [], _, h => by simp at h
  | x :: L, 0, _ => rfl
  | x :: L, k + 1, h => by
    have ih := cellsL_links s L k (by simpa using h)
    have e : cellsL (x :: L) = .int .i64 x.kind :: .int .u16 x.mode :: .int .u16 x.links :: .int .u64 x.time :: .string x.data :: cellsL L := rfl
    have e2 : cellsL ((x :: L).set (k + 1) { nd (x :: L) (k + 1) with links := s }) = .int .i64 x.kind :: .int .u16 x.mode :: .int .u16 x.links :: .int .u64 x.time :: .string x.data :: cellsL (L.set k { nd L k with links := s }) := rfl
    rw [e, e2, show (k + 1) * 5 + 2 = (k * 5 + 2) + 1 + 1 + 1 + 1 + 1 by omega]
    simp only [List.set_cons_succ]
    rw [← ih]
theorem cellsL_time (s : Nat) : ∀ (L : List Nd) (k : Nat), k < L.length → (cellsL L).set (k * 5 + 3) (.int .u64 s) = cellsL (L.set k { nd L k with time := s })
  | [], _, h => by simp at h
  | x :: L, 0, _ => rfl
  | x :: L, k + 1, h => by
    have ih := cellsL_time s L k (by simpa using h)
    have e : cellsL (x :: L) = .int .i64 x.kind :: .int .u16 x.mode :: .int .u16 x.links :: .int .u64 x.time :: .string x.data :: cellsL L := rfl
    have e2 : cellsL ((x :: L).set (k + 1) { nd (x :: L) (k + 1) with time := s }) = .int .i64 x.kind :: .int .u16 x.mode :: .int .u16 x.links :: .int .u64 x.time :: .string x.data :: cellsL (L.set k { nd L k with time := s }) := rfl
    rw [e, e2, show (k + 1) * 5 + 3 = (k * 5 + 3) + 1 + 1 + 1 + 1 + 1 by omega]
    simp only [List.set_cons_succ]
    rw [← ih]
theorem cellsL_data (s : ByteArray) : ∀ (L : List Nd) (k : Nat), k < L.length → (cellsL L).set (k * 5 + 4) (.string s) = cellsL (L.set k { nd L k with data := s })
  | [], _, h => by simp at h
  | x :: L, 0, _ => rfl
  | x :: L, k + 1, h => by
    have ih := cellsL_data s L k (by simpa using h)
    have e : cellsL (x :: L) = .int .i64 x.kind :: .int .u16 x.mode :: .int .u16 x.links :: .int .u64 x.time :: .string x.data :: cellsL L := rfl
    have e2 : cellsL ((x :: L).set (k + 1) { nd (x :: L) (k + 1) with data := s }) = .int .i64 x.kind :: .int .u16 x.mode :: .int .u16 x.links :: .int .u64 x.time :: .string x.data :: cellsL (L.set k { nd L k with data := s }) := rfl
    rw [e, e2, show (k + 1) * 5 + 4 = (k * 5 + 4) + 1 + 1 + 1 + 1 + 1 by omega]
    simp only [List.set_cons_succ]
    rw [← ih]
theorem infoNd : (Tryz.prog.info? 46).map (fun i => (i.zero, i.size, i.bytes)) = some (some (.agg #[.int .i64 0, .int .u16 0, .int .u16 0, .int .u64 0, .string ⟨#[]⟩]), 5, 40) := by kernel_rfl
/-- a row of one's own, as nodes -/
theorem Nodes.own {w : World} {base : Nat} {v : Value} {L : List Nd} (h : w.ownsRow base 46 5 v L.length (cellsL L)) : Nodes w v L := Lies.own h
/-- the cells of a slice that is not nil, wherever it is laid -/
theorem Nodes.news {w : World} {a : Addr} {n cap : Nat} {L : List Nd} (h : Nodes w (.slice (some a) n cap) L) : ∀ j u, (cellsL L)[j]? = some u → w.cell? (a.add j) = some u := fun j u hj => by
  obtain ⟨a', cap', e, _, _, h4, h5⟩ := h
  cases e
  have hl := (List.getElem?_eq_some_iff.1 hj).1
  rw [cellsL_length] at hl
  obtain ⟨b, off, e2, hc⟩ := h5 (by omega)
  cases e2
  rw [add_plain]
  exact hc j u hj
theorem own_open {w : World} {base n : Nat} {v : Value} {xs : List Value} (h : w.ownsRow base 46 5 v n xs) (hn : 0 < n) : ∃ g cap, v = .slice (some ⟨g, 0, none⟩) n cap ∧ base ≤ g ∧ n ≤ cap ∧ cap ≤ 9223372036854775807 := by
  rcases h.2 with ⟨rfl, rfl⟩ | ⟨g, cap, cur, rfl, hb, hg, hn, hm, hs, ht⟩
  · omega
  · exact ⟨g, cap, rfl, hb, hn, by unfold maxLen at hm; omega⟩
/-- one part of one is laid into a row of one's own -/
theorem own_mode {w : World} {base n cap g k : Nat} {L : List Nd} (hn : L.length = n) (h : w.ownsRow base 46 5 (.slice (some ⟨g, 0, none⟩) n cap) n (cellsL L)) (hk : k < n) (s : Nat) :
    (∃ u, w.cell? ⟨g, k * 5 + 1, none⟩ = some u) ∧ w.frozen? ⟨g, k * 5 + 1, none⟩ = false ∧
    (w.setCell ⟨g, k * 5 + 1, none⟩ (.int .u16 s)).ownsRow base 46 5 (.slice (some ⟨g, 0, none⟩) n cap) n (cellsL (L.set k { nd L k with mode := s })) ∧
    Below g w (w.setCell ⟨g, k * 5 + 1, none⟩ (.int .u16 s)) := by
  have hl := cellsL_length L
  have h1 := (h.stored (k * 5 + 1) (.int .u16 s)).1
  rw [cellsL_mode s L k (by omega)] at h1
  exact ⟨⟨_, (h.cellAt (k * 5 + 1) (by omega)).trans (List.getElem?_eq_getElem (by omega))⟩, h.frozenAt _, h1, (Below.refl g w).setCell (p := ⟨g, k * 5 + 1, none⟩) (Nat.le_refl _) _⟩
theorem own_links {w : World} {base n cap g k : Nat} {L : List Nd} (hn : L.length = n) (h : w.ownsRow base 46 5 (.slice (some ⟨g, 0, none⟩) n cap) n (cellsL L)) (hk : k < n) (s : Nat) :
    (∃ u, w.cell? ⟨g, k * 5 + 2, none⟩ = some u) ∧ w.frozen? ⟨g, k * 5 + 2, none⟩ = false ∧
    (w.setCell ⟨g, k * 5 + 2, none⟩ (.int .u16 s)).ownsRow base 46 5 (.slice (some ⟨g, 0, none⟩) n cap) n (cellsL (L.set k { nd L k with links := s })) ∧
    Below g w (w.setCell ⟨g, k * 5 + 2, none⟩ (.int .u16 s)) := by
  have hl := cellsL_length L
  have h1 := (h.stored (k * 5 + 2) (.int .u16 s)).1
  rw [cellsL_links s L k (by omega)] at h1
  exact ⟨⟨_, (h.cellAt (k * 5 + 2) (by omega)).trans (List.getElem?_eq_getElem (by omega))⟩, h.frozenAt _, h1, (Below.refl g w).setCell (p := ⟨g, k * 5 + 2, none⟩) (Nat.le_refl _) _⟩
theorem own_time {w : World} {base n cap g k : Nat} {L : List Nd} (hn : L.length = n) (h : w.ownsRow base 46 5 (.slice (some ⟨g, 0, none⟩) n cap) n (cellsL L)) (hk : k < n) (s : Nat) :
    (∃ u, w.cell? ⟨g, k * 5 + 3, none⟩ = some u) ∧ w.frozen? ⟨g, k * 5 + 3, none⟩ = false ∧
    (w.setCell ⟨g, k * 5 + 3, none⟩ (.int .u64 s)).ownsRow base 46 5 (.slice (some ⟨g, 0, none⟩) n cap) n (cellsL (L.set k { nd L k with time := s })) ∧
    Below g w (w.setCell ⟨g, k * 5 + 3, none⟩ (.int .u64 s)) := by
  have hl := cellsL_length L
  have h1 := (h.stored (k * 5 + 3) (.int .u64 s)).1
  rw [cellsL_time s L k (by omega)] at h1
  exact ⟨⟨_, (h.cellAt (k * 5 + 3) (by omega)).trans (List.getElem?_eq_getElem (by omega))⟩, h.frozenAt _, h1, (Below.refl g w).setCell (p := ⟨g, k * 5 + 3, none⟩) (Nat.le_refl _) _⟩
theorem own_data {w : World} {base n cap g k : Nat} {L : List Nd} (hn : L.length = n) (h : w.ownsRow base 46 5 (.slice (some ⟨g, 0, none⟩) n cap) n (cellsL L)) (hk : k < n) (s : ByteArray) :
    (∃ u, w.cell? ⟨g, k * 5 + 4, none⟩ = some u) ∧ w.frozen? ⟨g, k * 5 + 4, none⟩ = false ∧
    (w.setCell ⟨g, k * 5 + 4, none⟩ (.string s)).ownsRow base 46 5 (.slice (some ⟨g, 0, none⟩) n cap) n (cellsL (L.set k { nd L k with data := s })) ∧
    Below g w (w.setCell ⟨g, k * 5 + 4, none⟩ (.string s)) := by
  have hl := cellsL_length L
  have h1 := (h.stored (k * 5 + 4) (.string s)).1
  rw [cellsL_data s L k (by omega)] at h1
  exact ⟨⟨_, (h.cellAt (k * 5 + 4) (by omega)).trans (List.getElem?_eq_getElem (by omega))⟩, h.frozenAt _, h1, (Below.refl g w).setCell (p := ⟨g, k * 5 + 4, none⟩) (Nat.le_refl _) _⟩

/-- what asks answers: only what is new is written -/
def Ans (w : World) (v : Value) (e : Ending) (w' : World) : Prop := e = .returned v ∧ Below w.heap.size w w'
theorem Ans.eq {w w' : World} {e : Ending} {v u : Value} (h : v = u) (k : Ans w v e w') : Ans w u e w' := h ▸ k

/-- are two nodes the same -/
theorem eqlN (a b : Nd) (w : World) : (binOp .eql 46 a.val b.val).run Tryz.prog w = .ok (.bool (decide (a = b))) w := by
  obtain ⟨k1, m1, l1, t1, d1⟩ := a
  obtain ⟨k2, m2, l2, t2, d2⟩ := b
  have he : (Op.equalIn 10000 46 (.agg #[.int .i64 k1, .int .u16 m1, .int .u16 l1, .int .u64 t1, .string d1]) (.agg #[.int .i64 k2, .int .u16 m2, .int .u16 l2, .int .u64 t2, .string d2])).run Tryz.prog w = .ok (decide ((⟨k1, m1, l1, t1, d1⟩ : Nd) = ⟨k2, m2, l2, t2, d2⟩)) w := by
    rw [run_equalIn_agg w 9999 46 _ _ (by kernel_rfl) (by kernel_rfl)]
    simp only [Nd.mk.injEq]
    by_cases h1 : k1 = k2
    · by_cases h2 : m1 = m2
      · by_cases h3 : l1 = l2
        · by_cases h4 : t1 = t2
          · by_cases h5 : d1 = d2
            · simp [go_sem, h1, h2, h3, h4, h5]
            · have h5' : ¬ d1.toList = d2.toList := fun he => h5 (ByteArray.ext (Array.toList_inj.1 (by rw [← Lib.toList_data, ← Lib.toList_data]; exact he)))
              simp [go_sem, h1, h2, h3, h4, h5, h5']
          · have h4' : ¬ (t1 : Int) = t2 := by omega
            simp [go_sem, h1, h2, h3, h4, h4']
        · have h3' : ¬ (l1 : Int) = l2 := by omega
          simp [go_sem, h1, h2, h3, h3']
      · have h2' : ¬ (m1 : Int) = m2 := by omega
        simp [go_sem, h1, h2, h2']
    · simp [go_sem, h1]
  unfold Nd.val
  dsimp only
  rw [run_eql_struct, he]
  rfl
theorem neqN (a b : Nd) (w : World) : (binOp .neq 46 a.val b.val).run Tryz.prog w = .ok (.bool (!decide (a = b))) w := by
  have h := eqlN a b w
  unfold Nd.val at h ⊢
  rw [run_eql_struct] at h
  rw [run_neq_struct]
  revert h
  generalize (Op.equalIn 10000 46 (.agg #[.int .i64 a.kind, .int .u16 a.mode, .int .u16 a.links, .int .u64 a.time, .string a.data]) (.agg #[.int .i64 b.kind, .int .u16 b.mode, .int .u16 b.links, .int .u64 b.time, .string b.data])).run Tryz.prog w = r
  intro h
  cases r with
  | ok x w1 =>
    simp only [Result.andThen] at h ⊢
    injection h with h1 h2
    injection h1 with h3
    rw [h3, h2]
  | halt x w1 => simp [Result.andThen] at h
end Go.Proofs.YtkipkcmcolomcaaGreat.Pln
/- When two lists of files are the same, by the document; which ones the laws take (few). -/
namespace Go.Proofs.YtkipkcmcolomcaaGreat.Pln
open Go.RowKit
attribute [local go_sem] Oper.semAt_some
set_option linter.unusedVariables false
set_option linter.unusedSimpArgs false
theorem nd_ext {A B : List Nd} (hl : A.length = B.length) (h : ∀ j, j < A.length → nd A j = nd B j) : A = B := by
  apply List.ext_getElem? 
  intro i
  by_cases hi : i < A.length
  · rw [nd_get hi, nd_get (hl ▸ hi), h i hi]
  · rw [List.getElem?_eq_none (by omega), List.getElem?_eq_none (by omega)]
/-- what the laws take: sixty numbers, directories of two thousand bytes -/
def fewP (l : List Nd) : Prop := (∀ i, i < l.length → ¬ ((nd l i).kind = 2 ∧ 2000 < (nd l i).data.size)) ∧ l.length ≤ 60
instance (l : List Nd) : Decidable (fewP l) := by unfold fewP; exact @instDecidableAnd _ _ (Nat.decidableBallLT _ _) _
section
set_option maxRecDepth 100000
set_option maxHeartbeats 2000000
theorem same_any (v1 v2 : Value) (A B : List Nd) (w : World) (h1 : Nodes w v1 A) (h2 : Nodes w v2 B) : Calls Tryz.prog 17 #[v1, v2] w (Ans w (.bool (decide (A = B)))) := by
  obtain ⟨a1, cap1, rfl, hn1, hm1⟩ := h1.parts
  obtain ⟨a2, cap2, rfl, hn2, hm2⟩ := h2.parts
  by_cases hl : A.length = B.length
  · have hq : ((A.length : Int) != (B.length : Int)) = false := by simp [hl]
    obtain ⟨N, hN⟩ : ∃ N, A.length = N := ⟨_, rfl⟩
    have H1 := Lib.hid h1
    have H2 := Lib.hid h2
    have HEQ : Hid ((∀ j, j < N → nd A j = nd B j) → A = B) := fun h => nd_ext hl (fun j hj => h j (by omega))
    have HNE : Hid (∀ j, nd A j ≠ nd B j → ¬ A = B) := fun j h e => h (by rw [e])
    rw [← hl] at H2 hn2 hq ⊢
    have hBN : B.length = N := by omega
    rw [hN] at H1 H2 hn1 hn2 hq ⊢
    have HN1 := Lib.hid hN
    have HN2 := Lib.hid hBN
    clear h1 h2 hN hBN hl
    obtain ⟨W0, rfl⟩ : ∃ W0 : World, W0 = w := ⟨_, rfl⟩
    go_enter Tryz.func17, Tryz.ntmps17
    go_wp2
    go_loopw [5] (fun i wr => ∃ k : Nat, k ≤ N ∧ i = .int .i64 (k : Int) ∧ Hid (∀ j, j < k → nd A j = nd B j) ∧ Below W0.heap.size W0 wr) (fun i _ => N - (intOf i).toNat)
    case atStart => exact ⟨0, by omega, rfl, fun j hj => by omega, Below.refl _ _⟩
    case round =>
      obtain ⟨k, hk, rfl, HU, hB⟩ := hrel
      by_cases hlt : k < N
      · obtain ⟨b1, off1, cap3, e1, c0, c1, c2, c3, c4⟩ := (H1.out.below hB).at (k := k) (by rw [HN1.out]; exact hlt)
        obtain ⟨b2, off2, cap4, e2, d0, d1, d2, d3, d4⟩ := (H2.out.below hB).at (k := k) (by rw [HN2.out]; exact hlt)
        rw [HN1.out] at e1
        rw [HN2.out] at e2
        cases e1
        cases e2
        have HBq := Lib.hid hB
        have hq := fun W => neqN (nd A k) (nd B k) W
        unfold Nd.val at hq
        by_cases hx : nd A k = nd B k
        · rw [decide_eq_true hx] at hq
          have hq1 : ∀ W, (binOp .neq 46 (.agg #[.int .i64 (nd A k).kind, .int .u16 (nd A k).mode, .int .u16 (nd A k).links, .int .u64 (nd A k).time, .string (nd A k).data]) (.agg #[.int .i64 (nd B k).kind, .int .u16 (nd B k).mode, .int .u16 (nd B k).links, .int .u64 (nd B k).time, .string (nd B k).data])).run Tryz.prog W = .ok (.bool false) W := hq
          have HX := Lib.hid hx
          clear hx hq
          go_wp2
          go_quiet (fail)
          go_wp2
          go_roundw
          case rel => exact ⟨k + 1, by omega, by go_num, fun j hj => (by rcases Nat.lt_succ_iff_lt_or_eq.1 hj with h | h; exact HU.out j h; rw [h]; exact HX.out), below_drewN HBq.out _⟩
          case measure => simp [intOf]; omega
        · rw [decide_eq_false hx] at hq
          have hq1 : ∀ W, (binOp .neq 46 (.agg #[.int .i64 (nd A k).kind, .int .u16 (nd A k).mode, .int .u16 (nd A k).links, .int .u64 (nd A k).time, .string (nd A k).data]) (.agg #[.int .i64 (nd B k).kind, .int .u16 (nd B k).mode, .int .u16 (nd B k).links, .int .u64 (nd B k).time, .string (nd B k).data])).run Tryz.prog W = .ok (.bool true) W := hq
          have HX := Lib.hid (HNE.out k hx)
          clear hx hq
          go_wp2
          go_quiet (fail)
          go_wp2
          go_ret
          exact ⟨by rw [decide_eq_false HX.out]; rfl, below_drewN HBq.out _⟩
      · obtain rfl : k = N := by omega
        have HA := Lib.hid (HEQ.out HU.out)
        go_wp2
        go_ret
        exact ⟨by rw [decide_eq_true HA.out]; rfl, hB⟩
  · have hq : ((A.length : Int) != (B.length : Int)) = true := by simp; omega
    have HA : Hid (¬ A = B) := fun e => hl (by rw [e])
    clear h1 h2
    go_enter Tryz.func17, Tryz.ntmps17
    go_wp2
    go_ret
    exact ⟨by rw [decide_eq_false HA.out]; rfl, Below.refl _ _⟩
theorem few_any (v1 : Value) (A : List Nd) (w : World) (h1 : Nodes w v1 A) : Calls Tryz.prog 20 #[v1] w (Ans w (.bool (decide (fewP A)))) := by
  obtain ⟨a1, cap1, rfl, hn1, hm1⟩ := h1.parts
  obtain ⟨N, hN⟩ : ∃ N, A.length = N := ⟨_, rfl⟩
  have H1 := Lib.hid h1
  have HY : Hid ((∀ j, j < N → ¬ ((nd A j).kind = 2 ∧ 2000 < (nd A j).data.size)) → decide (fewP A) = decide (N ≤ 60)) := fun h => by
    refine decide_eq_decide.2 ?_
    unfold fewP
    rw [hN]
    exact ⟨fun x => x.2, fun x => ⟨h, x⟩⟩
  have HNO : Hid (∀ j, j < N → (nd A j).kind = 2 → 2000 < (nd A j).data.size → decide (fewP A) = false) := fun j hj h1 h2 => decide_eq_false (fun h => h.1 j (by omega) ⟨h1, h2⟩)
  rw [hN] at H1 hn1 ⊢
  have HN1 := Lib.hid hN
  clear h1 hN
  obtain ⟨W0, rfl⟩ : ∃ W0 : World, W0 = w := ⟨_, rfl⟩
  go_enter Tryz.func20, Tryz.ntmps20
  go_wp2
  go_loopw [3] (fun i wr => ∃ k : Nat, k ≤ N ∧ i = .int .i64 (k : Int) ∧ Hid (∀ j, j < k → ¬ ((nd A j).kind = 2 ∧ 2000 < (nd A j).data.size)) ∧ Below W0.heap.size W0 wr) (fun i _ => N - (intOf i).toNat)
  case atStart => exact ⟨0, by omega, rfl, fun j hj => by omega, Below.refl _ _⟩
  case round =>
    obtain ⟨k, hk, rfl, HU, hB⟩ := hrel
    by_cases hlt : k < N
    · obtain ⟨b1, off1, cap3, e1, c0, c1, c2, c3, c4⟩ := (H1.out.below hB).at (k := k) (by rw [HN1.out]; exact hlt)
      rw [HN1.out] at e1
      cases e1
      have HBq := Lib.hid hB
      by_cases hx : (nd A k).kind = 2
      · have g1 : ((nd A k).kind == 2) = true := by simp [hx]
        by_cases hy : 2000 < (nd A k).data.size
        · have g2 : (2000 : Int) < (nd A k).data.size := by omega
          have HX := Lib.hid (HNO.out k hlt hx hy)
          clear hx hy
          go_wp2
          go_ret
          exact ⟨by rw [HX.out]; rfl, HBq.out⟩
        · have g2 : decide ((2000 : Int) < (nd A k).data.size) = false := decide_eq_false (by omega)
          have HX := Lib.hid hy
          clear hx hy
          go_wp2
          go_roundw
          case rel => exact ⟨k + 1, by omega, by go_num, fun j hj => (by rcases Nat.lt_succ_iff_lt_or_eq.1 hj with h | h; exact HU.out j h; rw [h]; exact fun h2 => HX.out h2.2), HBq.out⟩
          case measure => simp [intOf]; omega
      · have g1 : ((nd A k).kind == 2) = false := by simp [hx]
        have HX := Lib.hid hx
        clear hx
        go_wp2
        go_roundw
        case rel => exact ⟨k + 1, by omega, by go_num, fun j hj => (by rcases Nat.lt_succ_iff_lt_or_eq.1 hj with h | h; exact HU.out j h; rw [h]; exact fun h2 => HX.out h2.1), HBq.out⟩
        case measure => simp [intOf]; omega
    · have hkN : k = N := by omega
      have HV : Hid (decide (fewP A) = decide ((N : Int) ≤ 60)) := by
        unfold Hid
        rw [HY.out (fun j hj => HU.out j (by omega))]
        exact decide_eq_decide.2 ⟨fun h => by omega, fun h => by omega⟩
      have HBq := Lib.hid hB
      clear HU HY HNO
      go_wp2
      go_ret
      exact ⟨by rw [HV.out]; rfl, HBq.out⟩
end
end Go.Proofs.YtkipkcmcolomcaaGreat.Pln
/- What a call does, as a function of the files alone; calls and replies as values; what the program's functions are to answer. -/
namespace Go.Proofs.YtkipkcmcolomcaaGreat.Pln
open Go.RowKit
open Dir (N nm Up SortP Fine ltB)
attribute [local go_sem] Oper.semAt_some
set_option linter.unusedVariables false
set_option linter.unusedSimpArgs false
/-! ### sorted names -/
def leN (a b : N) : Bool := !ltB b.name a.name
def srt (L : List N) : List N := L.mergeSort leN
theorem srt_perm (L : List N) : (srt L).Perm L := List.mergeSort_perm _ _
theorem srt_up {L : List N} (hf : Fine L) : SortP L (srt L) := by
  refine ⟨srt_perm L, ?_⟩
  have h1 : (srt L).Pairwise fun a b => leN a b = true := by
    refine List.pairwise_mergeSort ?_ ?_ L
    · intro a b c h g
      unfold leN at h g ⊢
      rw [Bool.not_eq_true'] at h g ⊢
      rcases Dir.ltB_total c.name a.name with k | k | k
      · rcases Dir.ltB_total b.name a.name with k2 | k2 | k2
        · rw [k2] at h; cases h
        · rw [k2] at g; rw [k] at g; cases g
        · have := Dir.ltB_trans k k2; rw [this] at g; cases g
      · rw [k]; exact Dir.ltB_irr _
      · exact Dir.ltB_asym k
    · intro a b
      unfold leN
      rcases Dir.ltB_total a.name b.name with k | k | k
      · rw [Dir.ltB_asym k]; rfl
      · rw [k, Dir.ltB_irr]; rfl
      · rw [Dir.ltB_asym k]; simp
  have h2 : Fine (srt L) := hf.perm (srt_perm L).symm
  exact (List.pairwise_iff_getElem.2 fun i j hi hj hij => by
    have a1 := List.pairwise_iff_getElem.1 h1 i j hi hj hij
    unfold leN at a1
    rw [Bool.not_eq_true'] at a1
    rcases Dir.ltB_total (srt L)[i].name (srt L)[j].name with k | k | k
    · exact k
    · exact absurd k (fun e => by
        rw [Dir.nm_elem, Dir.nm_elem] at e
        have := h2.2 i j hi hj e
        omega)
    · rw [k] at a1; cases a1)
/-! ### what a call does with any files -/
/-- are files right -/
def RightL (l : List Nd) : Prop := ∃ D, RightD l D
noncomputable instance (l : List Nd) : Decidable (RightL l) := Classical.propDecidable _
noncomputable def jof (D : List (List N)) : Nat → Nat → Bool := (desc_tells D).choose
theorem jof_is (D : List (List N)) : ∀ x b, jof D x b = true ↔ Desc D x b := (desc_tells D).choose_spec
noncomputable def outD (l : List Nd) (D : List (List N)) (c : Cl) (now : Nat) : Out := doD (jof D) srt l D c now
noncomputable def doV (l : List Nd) (c : Cl) (now : Nat) : List Nd := if h : RightL l then (outD l h.choose c now).l else l
noncomputable def doR (l : List Nd) (c : Cl) (now : Nat) : Rp := if h : RightL l then (outD l h.choose c now).r else rpE 139
theorem doV_right {l : List Nd} {D : List (List N)} (h : RightD l D) (c : Cl) (now : Nat) : doV l c now = (outD l D c now).l := by
  have hr : RightL l := ⟨D, h⟩
  unfold doV
  rw [dif_pos hr, right_unique hr.choose_spec h]
theorem doR_right {l : List Nd} {D : List (List N)} (h : RightD l D) (c : Cl) (now : Nat) : doR l c now = (outD l D c now).r := by
  have hr : RightL l := ⟨D, h⟩
  unfold doR
  rw [dif_pos hr, right_unique hr.choose_spec h]
theorem doV_wrong {l : List Nd} (h : ¬ RightL l) (c : Cl) (now : Nat) : doV l c now = l := dif_neg h
theorem doR_wrong {l : List Nd} (h : ¬ RightL l) (c : Cl) (now : Nat) : doR l c now = rpE 139 := dif_neg h
/-- what is right stays right; an error leaves all as it was -/
theorem do_right {l : List Nd} (h : RightL l) (c : Cl) (now : Nat) : RightL (doV l c now) ∧ l.length ≤ (doV l c now).length := by
  obtain ⟨D, hD⟩ := h
  have hg := do_good (jof D) (jof_is D) srt hD c now
  rw [doV_right hD]
  exact ⟨⟨_, hg.1⟩, hg.2.1⟩
theorem do_err {l : List Nd} {c : Cl} {now : Nat} (h : ¬ (doR l c now).code = 0) : doV l c now = l := by
  by_cases hr : RightL l
  · obtain ⟨D, hD⟩ := hr
    rw [doR_right hD] at h
    rw [doV_right hD]
    exact ((do_good (jof D) (jof_is D) srt hD c now).2.2 h).1
  · exact doV_wrong hr c now
theorem do_asksV {l : List Nd} {c : Cl} (hc : c.op = 4 ∨ c.op = 11 ∨ c.op = 12 ∨ c.op = 13) (now : Nat) : doV l c now = l := by
  by_cases hr : RightL l
  · obtain ⟨D, hD⟩ := hr
    rw [doV_right hD]
    exact (do_asks (jof D) srt hc now).1
  · exact doV_wrong hr c now
/-- an answer of a call on files that can't be is none -/
theorem do_ok {l : List Nd} {c : Cl} {now : Nat} (h : (doR l c now).code = 0) : ∃ D, RightD l D := by
  by_cases hr : RightL l
  · exact hr
  · rw [doR_wrong hr] at h
    exact absurd h (by decide)
/-! ### calls and replies as values -/
def Cl.val (c : Cl) : Value := .agg #[.int .i64 c.op, .string c.path, .string c.to_, .string c.data, .int .i64 c.off, .int .i64 c.n, .int .i64 c.mode]
def St.val (s : St) : Value := .agg #[.int .i64 s.kind, .int .u16 s.mode, .int .u16 s.links, .int .i64 s.size, .int .u64 s.time]
def Rp.val (r : Rp) (v : Value) : Value := .agg #[.int .i64 r.code, .string r.data, v, .int .i64 r.stat.kind, .int .u16 r.stat.mode, .int .u16 r.stat.links, .int .i64 r.stat.size, .int .u64 r.stat.time]
/-- the numbers are of their types -/
def Nd.Ok (n : Nd) : Prop := -9223372036854775808 ≤ n.kind ∧ n.kind ≤ 9223372036854775807 ∧ n.mode < 65536 ∧ n.links < 65536 ∧ n.time < 18446744073709551616
def Cl.Ok (c : Cl) : Prop := (-9223372036854775808 ≤ c.op ∧ c.op ≤ 9223372036854775807) ∧ (-9223372036854775808 ≤ c.off ∧ c.off ≤ 9223372036854775807) ∧ (-9223372036854775808 ≤ c.n ∧ c.n ≤ 9223372036854775807) ∧ (-9223372036854775808 ≤ c.mode ∧ c.mode ≤ 9223372036854775807)
instance (c : Cl) : Decidable c.Ok := by unfold Cl.Ok; infer_instance
/-- a reply lies at block b, its names at u -/
def RpAt (W : World) (b : Nat) (r : Rp) (u : Value) : Prop := W.heap[b]? = some (.cells #[.int .i64 r.code, .string r.data, u, .int .i64 r.stat.kind, .int .u16 r.stat.mode, .int .u16 r.stat.links, .int .i64 r.stat.size, .int .u64 r.stat.time] 36 (0, 0))
theorem RpAt.c {W : World} {b : Nat} {r : Rp} {u : Value} (h : RpAt W b r u) : W.cell? ⟨b, 0, none⟩ = some (.int .i64 r.code) ∧ W.cell? ⟨b, 1, none⟩ = some (.string r.data) ∧ W.cell? ⟨b, 2, none⟩ = some u ∧ W.cell? ⟨b, 3, none⟩ = some (.int .i64 r.stat.kind) ∧ W.cell? ⟨b, 4, none⟩ = some (.int .u16 r.stat.mode) ∧ W.cell? ⟨b, 5, none⟩ = some (.int .u16 r.stat.links) ∧ W.cell? ⟨b, 6, none⟩ = some (.int .i64 r.stat.size) ∧ W.cell? ⟨b, 7, none⟩ = some (.int .u64 r.stat.time) := by
  unfold RpAt at h
  simp only [World.cell?, h]
  exact ⟨rfl, rfl, rfl, rfl, rfl, rfl, rfl, rfl⟩
/-- a reply's cells -/
def rpBox (r : Rp) (u : Value) : Obj := .cells #[.int .i64 r.code, .string r.data, u, .int .i64 r.stat.kind, .int .u16 r.stat.mode, .int .u16 r.stat.links, .int .i64 r.stat.size, .int .u64 r.stat.time] 36
theorem RpAt.new (w : World) (r : Rp) (u : Value) : RpAt (w.alloc (rpBox r u)) w.heap.size r u := World.alloc_heap_new w _
theorem RpAt.f {W : World} {b : Nat} {r : Rp} {u : Value} (h : RpAt W b r u) (i : Nat) : W.frozen? ⟨b, i, none⟩ = false := by
  unfold RpAt at h
  simp [World.frozen?, h]
theorem RpAt.lt {W : World} {b : Nat} {r : Rp} {u : Value} (h : RpAt W b r u) : b < W.heap.size := (Array.getElem?_eq_some_iff.1 h).1
theorem RpAt.th {W W' : World} {b : Nat} {r : Rp} {u : Value} (h : RpAt W b r u) (hB : Below W.heap.size W W') : RpAt W' b r u := (hB.block b h.lt).trans h
/-- what the program is asked with: files that are right, or few -/
def Able (l : List Nd) : Prop := (∀ n ∈ l, n.Ok) ∧ (RightL l ∨ fewP l)
/-- what a call leaves and answers -/
def DoPost (w : World) (m : List Nd) (r : Rp) (e : Ending) (w' : World) : Prop := ∃ v u, e = .returned (.tuple #[v, r.val u]) ∧ Nodes w' v m ∧ Dir.Nms w' u r.names ∧ Below w.heap.size w w'
/-- the same, in parts -/
theorem DoPost.open {w : World} {m : List Nd} {r : Rp} {e : Ending} {w' : World} (h : DoPost w m r e w') : ∃ v a cap, e = .returned (.tuple #[v, .agg #[.int .i64 r.code, .string r.data, .slice a r.names.length cap, .int .i64 r.stat.kind, .int .u16 r.stat.mode, .int .u16 r.stat.links, .int .i64 r.stat.size, .int .u64 r.stat.time]]) ∧ Nodes w' v m ∧ Dir.Nms w' (.slice a r.names.length cap) r.names ∧ Below w.heap.size w w' := by
  obtain ⟨v, u, rfl, h1, h2, h3⟩ := h
  obtain ⟨a, cap, rfl, _⟩ := h2.parts
  exact ⟨v, a, cap, rfl, h1, h2, h3⟩
def NewPost (w : World) (m : List Nd) (e : Ending) (w' : World) : Prop := ∃ v, e = .returned v ∧ Nodes w' v m ∧ Below w.heap.size w w'
theorem oneP_ok {n : Nd} (h : oneP n) : n.Ok := by
  rcases h with h | ⟨h1, h2, h3, h4, h5⟩
  · subst h
    exact ⟨by decide, by decide, by decide, by decide, by decide⟩
  · have hk : n.kind = 1 ∨ n.kind = 3 ∨ n.kind = 2 := by
      rcases h5 with h5 | h5 | h5
      · exact .inl h5.1
      · exact .inr (.inl h5.1)
      · exact .inr (.inr h5)
    exact ⟨by omega, by omega, by omega, by omega, by omega⟩
theorem able_right {l : List Nd} (h : RightL l) : Able l := by
  refine ⟨fun n hn => ?_, .inl h⟩
  obtain ⟨D, hD⟩ := h
  obtain ⟨i, hi⟩ := List.getElem?_of_mem hn
  have hl := (List.getElem?_eq_some_iff.1 hi).1
  have := hD.one i hl
  rw [nd_get hl] at hi
  injection hi with hi
  rw [hi] at this
  exact oneP_ok this
theorem able_do {l : List Nd} (h : Able l) (c : Cl) (now : Nat) : Able (doV l c now) := by
  by_cases hr : RightL l
  · exact able_right (do_right hr c now).1
  · rw [doV_wrong hr]
    exact h
end Go.Proofs.YtkipkcmcolomcaaGreat.Pln
/- What the laws ask, of calls on any files: a file cut and read, written and read. -/
namespace Go.Proofs.YtkipkcmcolomcaaGreat.Pln
open Go.RowKit
open Dir (N)
set_option linter.unusedVariables false
set_option linter.unusedSimpArgs false
def rdC (path : ByteArray) (off n : Int) : Cl := ⟨4, path, none0, none0, off, n, 0⟩
def cutC (path : ByteArray) (n : Int) : Cl := ⟨5, path, none0, none0, 0, n, 0⟩
def wrC (path data : ByteArray) (off : Int) : Cl := ⟨3, path, none0, data, off, 0, 0⟩
/-- a file read, on files that are right -/
theorem rd_is {l : List Nd} {D : List (List N)} (h : RightD l D) {path : ByteArray} {off n : Int} {now x : Nat} (ht : now < 281474976710656) (hf : fileD l D path = .ok x) (h0 : 0 ≤ off) (h1 : 0 ≤ n) : doR l (rdC path off n) now = ⟨0, readOf (nd l x).data off.toNat n.toNat, [], St.zero⟩ := by
  rw [doR_right h]
  unfold outD
  rw [do_read ht rfl]
  exact read_is (c := rdC path off n) hf h0 h1
/-- a file cut -/
theorem cut_law {l : List Nd} {path : ByteArray} {n : Int} {now : Nat} (hc : (doR l (cutC path n) now).code = 0) :
    0 ≤ n ∧ n ≤ 200000 ∧ ∃ s : ByteArray, doR l (rdC path 0 200000) now = ⟨0, s, [], St.zero⟩ ∧ doR (doV l (cutC path n) now) (rdC path 0 200000) now = ⟨0, (stood s n.toNat ⟨#[]⟩).extract 0 n.toNat, [], St.zero⟩ := by
  obtain ⟨D, hD⟩ := do_ok hc
  rw [doR_right hD] at hc
  have ho : (cutC path n).op = 5 := rfl
  obtain ⟨x, hf, h1, h2, h3, e⟩ := trunc_is hD ho hc
  obtain ⟨f1, f2, f3⟩ := trunc_read hD ho hc hf
  have hg := do_good (jof D) (jof_is D) srt hD (cutC path n) now
  obtain ⟨z1, z2⟩ := file_data hD hf
  refine ⟨h1, h2, (nd l x).data, ?_, ?_⟩
  · rw [rd_is (path := path) hD h3 hf (by omega) (by omega), show ((0 : Int).toNat) = 0 from rfl, readOf_all (by omega)]
  · have hr := hg.1
    rw [f3] at hr
    rw [doV_right hD]
    unfold outD
    rw [rd_is (D := D) (x := x) (path := path) hr h3 f1 (by omega) (by omega), show ((0 : Int).toNat) = 0 from rfl, f2, readOf_all (by rw [cut_size]; omega)]
    rfl
end Go.Proofs.YtkipkcmcolomcaaGreat.Pln
