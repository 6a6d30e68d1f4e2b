/- Names of a directory in memory: a slice of them. -/
import Derived.StillTailTactics
import Derived.Deep.RegionWith
import Derived.Deep.RegionHeld3
import Derived.BigQuiet
import Derived.Handy
import Derived.Laws.StructEq
import Derived.Laws.AppendOwnNone
import Derived.Deep.AppendLies
import Derived.Lib.SliceRun
import Derived.Lib.Strings
import Derived.Test.YtafbkagoajcmeaaRow
import Derived.Test.YtafbkagoajcmeaaFlat
import Derived.Test.YtafbkagoajcmeaaNumTakeRef
import Derived.Test.YtafbkagoajcmeaaNumRef
import Derived.Test.YtafbkagoajcmeaaNumTok
import Derived.Test.YtafbkagoajcmeaaDirMath
namespace Go.Proofs.Ytafbkagoajcmeaa.Dir
open Go.RowKit
attribute [local go_sem] Oper.semAt_some
set_option linter.unusedVariables false
set_option linter.unusedSimpArgs false

theorem beq_yes {A B : ByteArray} (h : A = B) : (A.toList == B.toList) = true := by rw [h]; simp
theorem beq_no {A B : ByteArray} (h : ¬ A = B) : (A.toList == B.toList) = false := by
  rw [beq_eq_false_iff_ne]
  exact fun he => h (ByteArray.ext (Array.toList_inj.1 (by rw [← Lib.toList_data, ← Lib.toList_data]; exact he)))
def N.cells (e : N) : List Value := [.string e.name, .int .u32 e.ino]
def N.val (e : N) : Value := .agg #[.string e.name, .int .u32 e.ino]
/-- a name's cells -/
def boxO (e : N) : Obj := .cells #[.string e.name, .int .u32 e.ino] 40
def At (W : World) (b : Nat) (e : N) : Prop := W.heap[b]? = some (.cells #[.string e.name, .int .u32 e.ino] 40 (0, 0))
theorem At.c {W : World} {b : Nat} {e : N} (h : At W b e) : W.cell? ⟨b, 0, none⟩ = some (.string e.name) ∧ W.cell? ⟨b, 1, none⟩ = some (.int .u32 e.ino) := by
  unfold At at h
  simp only [World.cell?, h]
  exact ⟨rfl, rfl⟩
theorem At.new (w : World) (e : N) : At (w.alloc (boxO e)) w.heap.size e := World.alloc_heap_new w _
theorem At.lt {W : World} {b : Nat} {e : N} (h : At W b e) : b < W.heap.size := (Array.getElem?_eq_some_iff.1 h).1
theorem At.th {W W' : World} {b : Nat} {e : N} (h : At W b e) (hB : Below W.heap.size W W') : At W' b e := (hB.block b h.lt).trans h
theorem below_al {w W : World} (h : Below w.heap.size w W) (o : Obj) : Below w.heap.size w (W.alloc o) := h.alloc h.size _
theorem below_new (w : World) (o : Obj) : Below w.heap.size w (w.alloc o) := (Below.refl _ _).alloc (Nat.le_refl _) _
theorem below_drewN {B : Nat} {w W : World} (h : Below B w W) (n : Nat) : Below B w (W.drewN n) := ⟨h.1, h.2, h.3, h.4, h.5⟩

/-- names -/
def cellsL (L : List N) : List Value := L.flatMap N.cells
theorem cellsL_length (L : List N) : (cellsL L).length = L.length * 2 := flat_length N.cells 2 L (fun _ _ => rfl)
theorem cellsL_one (L : List N) : ∀ u ∈ cellsL L, u.oneCell' = true := fun u hu => by
  obtain ⟨s, _, hs⟩ := List.mem_flatMap.1 hu
  simp only [N.cells, List.mem_cons, List.not_mem_nil, or_false] at hs
  rcases hs with rfl | rfl <;> rfl
theorem cellsL_snoc (L : List N) (e : N) : cellsL (L ++ [e]) = cellsL L ++ e.cells := by
  unfold cellsL
  rw [List.flatMap_append]
  simp
theorem cellsL_set (e : N) : ∀ (L : List N) (k : Nat), k < L.length → ((cellsL L).set (k * 2) (.string e.name)).set (k * 2 + 1) (.int .u32 e.ino) = cellsL (L.set k e)
  | [], _, h => by simp at h
  | x :: L, 0, _ => rfl
  | x :: L, k + 1, h => by
    have ih := cellsL_set e L k (by simpa using h)
    have e1 : cellsL (x :: L) = .string x.name :: .int .u32 x.ino :: cellsL L := rfl
    have e2 : cellsL ((x :: L).set (k + 1) e) = .string x.name :: .int .u32 x.ino :: cellsL (L.set k e) := rfl
    rw [e1, e2, show (k + 1) * 2 = k * 2 + 1 + 1 by omega]
    simp only [List.set_cons_succ]
    rw [← ih]
theorem cellsL_ino (v : Nat) : ∀ (L : List N) (k : Nat), k < L.length → (cellsL L).set (k * 2 + 1) (.int .u32 v) = cellsL (L.set k ⟨(nm L k).name, v⟩)
  | [], _, h => by simp at h
  | x :: L, 0, _ => rfl
  | x :: L, k + 1, h => by
    have ih := cellsL_ino v L k (by simpa using h)
    have e1 : cellsL (x :: L) = .string x.name :: .int .u32 x.ino :: cellsL L := rfl
    have e2 : cellsL ((x :: L).set (k + 1) ⟨(nm (x :: L) (k + 1)).name, v⟩) = .string x.name :: .int .u32 x.ino :: cellsL (L.set k ⟨(nm L k).name, v⟩) := rfl
    rw [e1, e2, show (k + 1) * 2 + 1 = (k * 2 + 1) + 1 + 1 by omega]
    simp only [List.set_cons_succ]
    rw [← ih]
def Nms (w : World) (v : Value) (L : List N) : Prop := Lies w v L.length 2 (L.flatMap N.cells)
theorem Nms.below {w w' : World} {v : Value} {L : List N} (h : Nms w v L) (hB : Below w.heap.size w w') : Nms w' v L := Lies.below h hB
theorem Nms.nil (w : World) : Nms w (.slice none 0 0) [] := Lies.nil w 2
theorem Nms.parts {w : World} {v : Value} {L : List N} (h : Nms w v L) : ∃ a cap, v = .slice a L.length cap ∧ L.length ≤ cap ∧ cap ≤ 9223372036854775807 := by
  obtain ⟨a, cap, e, _, h1, h2⟩ := Lies.parts h
  exact ⟨a, cap, e, h1, h2⟩
/-- what stands at a place -/
def Reads (w : World) (b o : Nat) (e : N) : Prop := w.cell? ⟨b, o, none⟩ = some (.string e.name) ∧ w.cell? ⟨b, o + 1, none⟩ = some (.int .u32 e.ino)
theorem Nms.at {w : World} {v : Value} {L : List N} (h : Nms w v L) {k : Nat} (hk : k < L.length) :
    ∃ b off cap, v = .slice (some ⟨b, off, none⟩) L.length cap ∧ Reads w b (off + k * 2) (nm L k) := by
  obtain ⟨a, cap, rfl, _, _, _, h5⟩ := h
  obtain ⟨b, off, rfl, hc⟩ := h5 (by omega)
  have hf := fun j (hj : j < 2) => flat_at N.cells 2 L (fun o _ => rfl) k j (nm L k) (nm_get hk) hj
  refine ⟨b, off, cap, rfl, ?_, ?_⟩
  · exact hc (k * 2) _ (hf 0 (by omega))
  · have := hc _ _ (hf 1 (by omega)); rwa [← Nat.add_assoc] at this
theorem Nms.get {w : World} {b off n cap : Nat} {L : List N} (hn : L.length = n) (h : Nms w (.slice (some ⟨b, off, none⟩) n cap) L) {k : Nat} (hk : k < n) : Reads w b (off + k * 2) (nm L k) := by
  obtain ⟨b2, off2, cap2, e, h1⟩ := h.at (hn ▸ hk)
  cases e
  exact h1
theorem Nms.keep {W W' : World} {v : Value} {L : List N} (h : Nms W v L) (hk : ∀ g o k c, v = .slice (some ⟨g, o, none⟩) k c → 0 < k → W'.heap[g]? = W.heap[g]?) : Nms W' v L := by
  obtain ⟨a, cap, rfl, h2, h3, h4, h5⟩ := h
  refine ⟨a, cap, rfl, h2, h3, h4, fun hn => ?_⟩
  obtain ⟨b, off, rfl, hc⟩ := h5 hn
  refine ⟨b, off, rfl, fun j u hj => ?_⟩
  have he : W'.cell? ⟨b, off + j, none⟩ = W.cell? ⟨b, off + j, none⟩ := World.cell?_of_block (w := W) (hk b off _ _ rfl hn)
  exact he.trans (hc j u hj)
theorem Nms.lt {W : World} {b off n cap : Nat} {L : List N} (h : Nms W (.slice (some ⟨b, off, none⟩) n cap) L) (hn : 0 < L.length) : b < W.heap.size := by
  obtain ⟨b2, off2, cap2, e, h1, _⟩ := h.at hn
  cases e
  exact World.block_lt_of_cell? _ _ h1
theorem Nms.open {w : World} {v : Value} {L : List N} (h : Nms w v L) : (∃ a cap, v = .slice a 0 cap ∧ L = []) ∨ ∃ b off cap, v = .slice (some ⟨b, off, none⟩) L.length cap ∧ 0 < L.length ∧ L.length ≤ cap ∧ cap ≤ 9223372036854775807 := by
  obtain ⟨a, cap, rfl, h1, h2⟩ := h.parts
  rcases Nat.eq_zero_or_pos L.length with hz | hz
  · exact .inl ⟨a, cap, by rw [hz], List.eq_nil_of_length_eq_zero hz⟩
  · obtain ⟨b, off, cap2, e, _⟩ := h.at hz
    cases e
    exact .inr ⟨b, off, cap, rfl, hz, h1, h2⟩
theorem infoNm : (Try.prog.info? 40).map (fun i => (i.zero, i.size, i.bytes)) = some (some (.agg #[.string ⟨#[]⟩, .int .u32 0]), 2, 24) := by kernel_rfl
/-- a row of one's own, as names -/
theorem Nms.own {w : World} {base : Nat} {v : Value} {L : List N} (h : w.ownsRow base 40 2 v L.length (cellsL L)) : Nms w v L := Lies.own h
theorem own_open {w : World} {base n : Nat} {v : Value} {xs : List Value} (h : w.ownsRow base 40 2 v n xs) (hn : 0 < n) : ∃ g cap, v = .slice (some ⟨g, 0, none⟩) n cap ∧ base ≤ g ∧ n ≤ cap ∧ cap ≤ 9223372036854775807 := by
  rcases h.2 with ⟨rfl, rfl⟩ | ⟨g, cap, cur, rfl, hb, hg, hn, hm, hs, ht⟩
  · omega
  · exact ⟨g, cap, rfl, hb, hn, by unfold maxLen at hm; omega⟩
theorem own_parts {w : World} {base n : Nat} {v : Value} {xs : List Value} (h : w.ownsRow base 40 2 v n xs) : ∃ a cap, v = .slice a n cap ∧ n ≤ cap ∧ cap ≤ 9223372036854775807 := by
  rcases h.2 with ⟨rfl, rfl⟩ | ⟨g, cap, cur, rfl, hb, hg, hn, hm, hs, ht⟩
  · exact ⟨none, 0, rfl, by omega, by omega⟩
  · exact ⟨_, cap, rfl, hn, by unfold maxLen at hm; omega⟩
/-- a number is laid into a row of one's own -/
theorem own_ino {w : World} {base n cap g k : Nat} {L : List N} (hn : L.length = n) (h : w.ownsRow base 40 2 (.slice (some ⟨g, 0, none⟩) n cap) n (cellsL L)) (hk : k < n) (v : Nat) :
    (∃ u, w.cell? ⟨g, k * 2 + 1, none⟩ = some u) ∧ w.frozen? ⟨g, k * 2 + 1, none⟩ = false ∧
    (w.setCell ⟨g, k * 2 + 1, none⟩ (.int .u32 v)).ownsRow base 40 2 (.slice (some ⟨g, 0, none⟩) n cap) n (cellsL (L.set k ⟨(nm L k).name, v⟩)) ∧
    Below g w (w.setCell ⟨g, k * 2 + 1, none⟩ (.int .u32 v)) := by
  have hl := cellsL_length L
  have h1 := (h.stored (k * 2 + 1) (.int .u32 v)).1
  rw [cellsL_ino v L k (by omega)] at h1
  exact ⟨⟨_, (h.cellAt (k * 2 + 1) (by omega)).trans (List.getElem?_eq_getElem (by omega))⟩, h.frozenAt _, h1, (Below.refl g w).setCell (p := ⟨g, k * 2 + 1, none⟩) (Nat.le_refl _) _⟩
/-- a name is laid into a row of one's own -/
theorem own_set {w : World} {base n cap g k : Nat} {L : List N} (hn : L.length = n) (h : w.ownsRow base 40 2 (.slice (some ⟨g, 0, none⟩) n cap) n (cellsL L)) (hk : k < n) (e : N) :
    (∃ u, w.cell? ⟨g, k * 2, none⟩ = some u) ∧ (∃ u, w.cell? ⟨g, k * 2 + 1, none⟩ = some u) ∧ (∀ i, w.frozen? ⟨g, i, none⟩ = false) ∧
    ((w.setCell ⟨g, k * 2, none⟩ (.string e.name)).setCell ⟨g, k * 2 + 1, none⟩ (.int .u32 e.ino)).ownsRow base 40 2 (.slice (some ⟨g, 0, none⟩) n cap) n (cellsL (L.set k e)) ∧
    Below g w ((w.setCell ⟨g, k * 2, none⟩ (.string e.name)).setCell ⟨g, k * 2 + 1, none⟩ (.int .u32 e.ino)) := by
  have hl := cellsL_length L
  have h1 := (h.stored (k * 2) (.string e.name)).1
  have h2 := (h1.stored (k * 2 + 1) (.int .u32 e.ino)).1
  rw [cellsL_set e L k (by omega)] at h2
  exact ⟨⟨_, (h.cellAt (k * 2) (by omega)).trans (List.getElem?_eq_getElem (by omega))⟩, ⟨_, (h.cellAt (k * 2 + 1) (by omega)).trans (List.getElem?_eq_getElem (by omega))⟩, fun i => h.frozenAt _, h2,
    ((Below.refl g w).setCell (p := ⟨g, k * 2, none⟩) (Nat.le_refl _) _).setCell (p := ⟨g, k * 2 + 1, none⟩) (Nat.le_refl _) _⟩
/-- what asks answers: only what is new is written -/
def Ans (w : World) (v : Value) (e : Ending) (w' : World) : Prop := e = .returned v ∧ Below w.heap.size w w'
end Go.Proofs.Ytafbkagoajcmeaa.Dir
