/- Places of a table in memory: one, and a slice of them; which ones are free, which may stand. -/
import Derived.StillTailTactics
import Derived.Deep.RegionWith
import Derived.Deep.RegionHeld3
import Derived.BigQuiet
import Derived.Handy
import Derived.Laws.StructEq
import Derived.Laws.AppendOwnNone
import Derived.Deep.AppendLies
import Derived.Lib.SliceRun
import Derived.Test.YthfcjbfldokanaaRow
import Derived.Test.YthfcjbfldokanaaFlat
import Derived.Test.YthfcjbfldokanaaDatMath
namespace Go.Proofs.Ythfcjbfldokanaa.Dat
open Go.RowKit
attribute [local go_sem] Oper.semAt_some
set_option linter.unusedVariables false

def T.cells (s : T) : List Value := [.int .u32 s.phys, .int .u64 s.start, .int .u64 s.fin]
def T.val (s : T) : Value := .agg #[.int .u32 s.phys, .int .u64 s.start, .int .u64 s.fin]
/-- a place's cells -/
def boxO (s : T) : Obj := .cells #[.int .u32 s.phys, .int .u64 s.start, .int .u64 s.fin] 40

/-- a place lies at block b -/
def At (W : World) (b : Nat) (s : T) : Prop := W.heap[b]? = some (.cells #[.int .u32 s.phys, .int .u64 s.start, .int .u64 s.fin] 40 (0, 0))
theorem At.c {W : World} {b : Nat} {s : T} (h : At W b s) : W.cell? ⟨b, 0, none⟩ = some (.int .u32 s.phys) ∧ W.cell? ⟨b, 1, none⟩ = some (.int .u64 s.start) ∧ W.cell? ⟨b, 2, none⟩ = some (.int .u64 s.fin) := by
  unfold At at h
  simp only [World.cell?, h]
  exact ⟨rfl, rfl, rfl⟩
theorem At.f {W : World} {b : Nat} {s : T} (h : At W b s) (i : Nat) : W.frozen? ⟨b, i, none⟩ = false := by
  unfold At at h
  simp [World.frozen?, h]
theorem At.below {W W' : World} {b n : Nat} {s : T} (h : At W b s) (hB : Below n W W') (hb : b < n) : At W' b s := (hB.block b hb).trans h
theorem At.new (w : World) (s : T) : At (w.alloc (boxO s)) w.heap.size s := World.alloc_heap_new w _
theorem At.lt {W : World} {b : Nat} {s : T} (h : At W b s) : b < W.heap.size := (Array.getElem?_eq_some_iff.1 h).1
theorem At.th {W W' : World} {b : Nat} {s : T} (h : At W b s) (hB : Below W.heap.size W W') : At W' b s := h.below hB h.lt
theorem At.of_heap {W W' : World} {b : Nat} {s : T} (h : At W b s) (hb : W'.heap[b]? = W.heap[b]?) : At W' b s := hb.trans h
theorem At.drew {W : World} {b : Nat} {s : T} (h : At W b s) : At W.drew b s := h
/-- a place is laid over another one, part by part -/
theorem At.put3 {W : World} {b : Nat} {s : T} (h : At W b s) (t : T) :
    At (((W.setCell ⟨b, 0, none⟩ (.int .u32 t.phys)).setCell ⟨b, 1, none⟩ (.int .u64 t.start)).setCell ⟨b, 2, none⟩ (.int .u64 t.fin)) b t ∧
    Below b W (((W.setCell ⟨b, 0, none⟩ (.int .u32 t.phys)).setCell ⟨b, 1, none⟩ (.int .u64 t.start)).setCell ⟨b, 2, none⟩ (.int .u64 t.fin)) := by
  unfold At at h
  have h0 := heap_setCell_same W b 0 _ _ (.int .u32 t.phys) h
  have h1 := heap_setCell_same _ b 1 _ _ (.int .u64 t.start) h0
  have h2 := heap_setCell_same _ b 2 _ _ (.int .u64 t.fin) h1
  refine ⟨h2, ?_⟩
  exact (((Below.refl b W).setCell (p := ⟨b, 0, none⟩) (Nat.le_refl _) _).setCell (p := ⟨b, 1, none⟩) (Nat.le_refl _) _).setCell (p := ⟨b, 2, none⟩) (Nat.le_refl _) _
/-- one part alone is laid over -/
theorem At.put_phys {W : World} {b : Nat} {s : T} (h : At W b s) (n : Nat) : At (W.setCell ⟨b, 0, none⟩ (.int .u32 n)) b ⟨n, s.start, s.fin⟩ ∧ Below b W (W.setCell ⟨b, 0, none⟩ (.int .u32 n)) := by
  unfold At at h
  exact ⟨heap_setCell_same W b 0 _ _ (.int .u32 n) h, (Below.refl b W).setCell (p := ⟨b, 0, none⟩) (Nat.le_refl _) _⟩
theorem At.put_fin {W : World} {b : Nat} {s : T} (h : At W b s) (n : Nat) : At (W.setCell ⟨b, 2, none⟩ (.int .u64 n)) b ⟨s.phys, s.start, n⟩ ∧ Below b W (W.setCell ⟨b, 2, none⟩ (.int .u64 n)) := by
  unfold At at h
  exact ⟨heap_setCell_same W b 2 _ _ (.int .u64 n) h, (Below.refl b W).setCell (p := ⟨b, 2, none⟩) (Nat.le_refl _) _⟩
theorem below_al {w W : World} (h : Below w.heap.size w W) (o : Obj) : Below w.heap.size w (W.alloc o) := h.alloc h.size _
theorem below_new (w : World) (o : Obj) : Below w.heap.size w (w.alloc o) := (Below.refl _ _).alloc (Nat.le_refl _) _

/-- a table -/
def Trs (w : World) (v : Value) (L : List T) : Prop := Lies w v L.length 3 (L.flatMap T.cells)
theorem Trs.below {w w' : World} {v : Value} {L : List T} (h : Trs w v L) (hB : Below w.heap.size w w') : Trs w' v L := Lies.below h hB
theorem Trs.nil (w : World) : Trs w (.slice none 0 0) [] := Lies.nil w 3
theorem Trs.parts {w : World} {v : Value} {L : List T} (h : Trs w v L) : ∃ a cap, v = .slice a L.length cap ∧ L.length ≤ cap ∧ cap ≤ 9223372036854775807 := by
  obtain ⟨a, cap, e, _, h1, h2⟩ := Lies.parts h
  exact ⟨a, cap, e, h1, h2⟩
theorem Trs.at {w : World} {v : Value} {L : List T} (h : Trs w v L) {k : Nat} (hk : k < L.length) :
    ∃ b off cap, v = .slice (some ⟨b, off, none⟩) L.length cap ∧ w.cell? ⟨b, off + k * 3, none⟩ = some (.int .u32 (tr L k).phys) ∧ w.cell? ⟨b, off + k * 3 + 1, none⟩ = some (.int .u64 (tr L k).start) ∧ w.cell? ⟨b, off + k * 3 + 2, none⟩ = some (.int .u64 (tr L k).fin) := by
  obtain ⟨a, cap, rfl, _, _, _, h5⟩ := h
  obtain ⟨b, off, rfl, hc⟩ := h5 (by omega)
  have hf := fun j (hj : j < 3) => flat_at T.cells 3 L (fun o _ => rfl) k j (tr L k) (tr_get hk) hj
  refine ⟨b, off, cap, rfl, ?_, ?_, ?_⟩
  · exact hc (k * 3) _ (hf 0 (by omega))
  · have := hc _ _ (hf 1 (by omega)); rwa [← Nat.add_assoc] at this
  · have := hc _ _ (hf 2 (by omega)); rwa [← Nat.add_assoc] at this
/-- the same, of a slice that is known by its parts -/
theorem Trs.get {w : World} {b off n cap : Nat} {L : List T} (hn : L.length = n) (h : Trs w (.slice (some ⟨b, off, none⟩) n cap) L) {k : Nat} (hk : k < n) :
    w.cell? ⟨b, off + k * 3, none⟩ = some (.int .u32 (tr L k).phys) ∧ w.cell? ⟨b, off + k * 3 + 1, none⟩ = some (.int .u64 (tr L k).start) ∧ w.cell? ⟨b, off + k * 3 + 2, none⟩ = some (.int .u64 (tr L k).fin) := by
  obtain ⟨b2, off2, cap2, e, h1⟩ := h.at (hn ▸ hk)
  cases e
  exact h1
/-- the first one -/
theorem Trs.get0 {w : World} {b off n cap : Nat} {L : List T} (hn : L.length = n) (h : Trs w (.slice (some ⟨b, off, none⟩) n cap) L) (hk : 0 < n) :
    w.cell? ⟨b, off, none⟩ = some (.int .u32 (tr L 0).phys) ∧ w.cell? ⟨b, off + 1, none⟩ = some (.int .u64 (tr L 0).start) ∧ w.cell? ⟨b, off + 2, none⟩ = some (.int .u64 (tr L 0).fin) := by
  have := h.get hn hk
  simpa using this
/-- a slice stands where its block does -/
theorem Trs.keep {W W' : World} {v : Value} {L : List T} (h : Trs W v L) (hk : ∀ g o k c, v = .slice (some ⟨g, o, none⟩) k c → 0 < k → W'.heap[g]? = W.heap[g]?) : Trs W' v L := by
  obtain ⟨a, cap, rfl, h2, h3, h4, h5⟩ := h
  refine ⟨a, cap, rfl, h2, h3, h4, fun hn => ?_⟩
  obtain ⟨b, off, rfl, hc⟩ := h5 hn
  refine ⟨b, off, rfl, fun j u hj => ?_⟩
  have he : W'.cell? ⟨b, off + j, none⟩ = W.cell? ⟨b, off + j, none⟩ := World.cell?_of_block (w := W) (hk b off _ _ rfl hn)
  exact he.trans (hc j u hj)
/-- a slice, taken apart: none at all, or an address -/
theorem Trs.open {w : World} {v : Value} {L : List T} (h : Trs w v L) : (∃ a cap, v = .slice a 0 cap ∧ L = []) ∨ ∃ b off cap, v = .slice (some ⟨b, off, none⟩) L.length cap ∧ 0 < L.length ∧ L.length ≤ cap ∧ cap ≤ 9223372036854775807 := by
  obtain ⟨a, cap, rfl, h1, h2⟩ := h.parts
  rcases Nat.eq_zero_or_pos L.length with hz | hz
  · exact .inl ⟨a, cap, by rw [hz], List.eq_nil_of_length_eq_zero hz⟩
  · obtain ⟨b, off, cap2, e, _⟩ := h.at hz
    cases e
    exact .inr ⟨b, off, cap, rfl, hz, h1, h2⟩
theorem Trs.lt {W : World} {b off n cap : Nat} {L : List T} (h : Trs W (.slice (some ⟨b, off, none⟩) n cap) L) (hn : 0 < L.length) : b < W.heap.size := by
  obtain ⟨b2, off2, cap2, e, h1, _⟩ := h.at hn
  cases e
  exact World.block_lt_of_cell? _ _ h1
/-- what stands ahead in a table -/
theorem Trs.cut {w : World} {a : Option Addr} {n cap : Nat} {L : List T} (h : Trs w (.slice a n cap) L) (m : Nat) (hm : m ≤ L.length) : Trs w (.slice a m cap) (L.take m) := by
  obtain ⟨a1, cap1, e, h2, h3, h4, h5⟩ := h
  cases e
  have hl : (L.take m).length = m := by rw [List.length_take]; omega
  have hcells : ∀ (L : List T) (m : Nat), (L.take m).flatMap T.cells = (L.flatMap T.cells).take (m * 3) := fun L => by
    induction L with
    | nil => intro m; simp
    | cons x L ih =>
      intro m
      cases m with
      | zero => simp
      | succ m => rw [List.take_succ_cons, List.flatMap_cons, List.flatMap_cons, ih m, show (m + 1) * 3 = (T.cells x).length + m * 3 by show _ = 3 + _; omega, List.take_length_add_append]
  refine ⟨a, cap, by rw [hl], by omega, h3, by rw [hl, hcells, List.length_take, h4]; omega, fun hn => ?_⟩
  obtain ⟨b, off, e2, hc⟩ := h5 (by omega)
  refine ⟨b, off, e2, fun j u hj => hc j u ?_⟩
  rw [hcells, List.getElem?_take] at hj
  split at hj
  · exact hj
  · cases hj
def cellsL (L : List T) : List Value := L.flatMap T.cells
theorem cellsL_length (L : List T) : (cellsL L).length = L.length * 3 := flat_length T.cells 3 L (fun _ _ => rfl)
theorem cellsL_one (L : List T) : ∀ u ∈ cellsL L, u.oneCell' = true := fun u hu => by
  obtain ⟨s, _, hs⟩ := List.mem_flatMap.1 hu
  simp only [T.cells, List.mem_cons, List.not_mem_nil, or_false] at hs
  rcases hs with rfl | rfl | rfl <;> rfl
theorem cellsL_set (s : T) : ∀ (L : List T) (k : Nat), k < L.length → (((cellsL L).set (k * 3) (.int .u32 s.phys)).set (k * 3 + 1) (.int .u64 s.start)).set (k * 3 + 2) (.int .u64 s.fin) = cellsL (L.set k s)
  | [], _, h => by simp at h
  | x :: L, 0, _ => rfl
  | x :: L, k + 1, h => by
    have ih := cellsL_set s L k (by simpa using h)
    have e : cellsL (x :: L) = .int .u32 x.phys :: .int .u64 x.start :: .int .u64 x.fin :: cellsL L := rfl
    have e2 : cellsL ((x :: L).set (k + 1) s) = .int .u32 x.phys :: .int .u64 x.start :: .int .u64 x.fin :: cellsL (L.set k s) := rfl
    rw [e, e2, show (k + 1) * 3 = k * 3 + 1 + 1 + 1 by omega]
    simp only [List.set_cons_succ]
    rw [← ih]
theorem infoTr : (Try.prog.info? 40).map (fun i => (i.zero, i.size, i.bytes)) = some (some (.agg #[.int .u32 0, .int .u64 0, .int .u64 0]), 3, 24) := by kernel_rfl
/-- a row of one's own, as places -/
theorem Trs.own {w : World} {base : Nat} {v : Value} {L : List T} (h : w.ownsRow base 40 3 v L.length (cellsL L)) : Trs w v L := Lies.own h
/-- the cells of a slice that is not nil, wherever it is laid -/
theorem Trs.news {w : World} {a : Addr} {n cap : Nat} {L : List T} (h : Trs w (.slice (some a) n cap) L) : ∀ j u, (cellsL L)[j]? = some u → w.cell? (a.add j) = some u := fun j u hj => by
  obtain ⟨a', cap', e, _, _, h4, h5⟩ := h
  cases e
  have hl := (List.getElem?_eq_some_iff.1 hj).1
  rw [cellsL_length] at hl
  obtain ⟨b, off, e2, hc⟩ := h5 (by omega)
  cases e2
  rw [add_plain]
  exact hc j u hj
/-- a place is laid into a row of one's own -/
theorem own_set {w : World} {base n cap g k : Nat} {L : List T} (hn : L.length = n) (h : w.ownsRow base 40 3 (.slice (some ⟨g, 0, none⟩) n cap) n (cellsL L)) (hk : k < n) (s : T) :
    (∃ u, w.cell? ⟨g, k * 3, none⟩ = some u) ∧ w.frozen? ⟨g, k * 3, none⟩ = false ∧
    (∃ u, (w.setCell ⟨g, k * 3, none⟩ (.int .u32 s.phys)).cell? ⟨g, k * 3 + 1, none⟩ = some u) ∧ (w.setCell ⟨g, k * 3, none⟩ (.int .u32 s.phys)).frozen? ⟨g, k * 3 + 1, none⟩ = false ∧
    (∃ u, ((w.setCell ⟨g, k * 3, none⟩ (.int .u32 s.phys)).setCell ⟨g, k * 3 + 1, none⟩ (.int .u64 s.start)).cell? ⟨g, k * 3 + 2, none⟩ = some u) ∧ ((w.setCell ⟨g, k * 3, none⟩ (.int .u32 s.phys)).setCell ⟨g, k * 3 + 1, none⟩ (.int .u64 s.start)).frozen? ⟨g, k * 3 + 2, none⟩ = false ∧
    (((w.setCell ⟨g, k * 3, none⟩ (.int .u32 s.phys)).setCell ⟨g, k * 3 + 1, none⟩ (.int .u64 s.start)).setCell ⟨g, k * 3 + 2, none⟩ (.int .u64 s.fin)).ownsRow base 40 3 (.slice (some ⟨g, 0, none⟩) n cap) n (cellsL (L.set k s)) ∧
    Below g w (((w.setCell ⟨g, k * 3, none⟩ (.int .u32 s.phys)).setCell ⟨g, k * 3 + 1, none⟩ (.int .u64 s.start)).setCell ⟨g, k * 3 + 2, none⟩ (.int .u64 s.fin)) := by
  have hl := cellsL_length L
  have h1 := (h.stored (k * 3) (.int .u32 s.phys)).1
  have h2 := (h1.stored (k * 3 + 1) (.int .u64 s.start)).1
  have h3 := (h2.stored (k * 3 + 2) (.int .u64 s.fin)).1
  rw [cellsL_set s L k (by omega)] at h3
  refine ⟨⟨_, (h.cellAt (k * 3) (by omega)).trans (List.getElem?_eq_getElem (by omega))⟩, h.frozenAt _, ⟨_, (h1.cellAt (k * 3 + 1) (by omega)).trans (List.getElem?_eq_getElem (by simp; omega))⟩, h1.frozenAt _, ⟨_, (h2.cellAt (k * 3 + 2) (by omega)).trans (List.getElem?_eq_getElem (by simp; omega))⟩, h2.frozenAt _, h3, ?_⟩
  exact (((Below.refl g w).setCell (p := ⟨g, k * 3, none⟩) (Nat.le_refl _) _).setCell (p := ⟨g, k * 3 + 1, none⟩) (Nat.le_refl _) _).setCell (p := ⟨g, k * 3 + 2, none⟩) (Nat.le_refl _) _
theorem own_open {w : World} {base n : Nat} {v : Value} {xs : List Value} (h : w.ownsRow base 40 3 v n xs) (hn : 0 < n) : ∃ g cap, v = .slice (some ⟨g, 0, none⟩) n cap ∧ base ≤ g ∧ n ≤ cap ∧ cap ≤ 9223372036854775807 := by
  rcases h.2 with ⟨rfl, rfl⟩ | ⟨g, cap, cur, rfl, hb, hg, hn, hm, hs, ht⟩
  · omega
  · exact ⟨g, cap, rfl, hb, hn, by unfold maxLen at hm; omega⟩

/-- what asks answers: only what is new is written -/
def Ans (w : World) (v : Value) (e : Ending) (w' : World) : Prop := e = .returned v ∧ Below w.heap.size w w'
theorem Ans.eq {w w' : World} {e : Ending} {v u : Value} (h : v = u) (k : Ans w v e w') : Ans w u e w' := h ▸ k

theorem eqlT (a b : T) (w : World) : (binOp .eql 40 a.val b.val).run Try.prog w = .ok (.bool (decide (a = b))) w := by
  obtain ⟨l1, b1, s1⟩ := a
  obtain ⟨l2, b2, s2⟩ := b
  have he : (Op.equalIn 10000 40 (.agg #[.int .u32 l1, .int .u64 b1, .int .u64 s1]) (.agg #[.int .u32 l2, .int .u64 b2, .int .u64 s2])).run Try.prog w = .ok (decide ((⟨l1, b1, s1⟩ : T) = ⟨l2, b2, s2⟩)) w := by
    rw [run_equalIn_agg w 9999 40 _ _ (by kernel_rfl) (by kernel_rfl)]
    simp only [T.mk.injEq]
    by_cases h1 : l1 = l2
    · by_cases h2 : b1 = b2
      · by_cases h3 : s1 = s2
        · simp [go_sem, h1, h2, h3]
        · have h3' : ¬ (s1 : Int) = s2 := by omega
          simp [go_sem, h1, h2, h3, h3']
      · have h2' : ¬ (b1 : Int) = b2 := by omega
        simp [go_sem, h1, h2, h2']
    · have h1' : ¬ (l1 : Int) = l2 := by omega
      simp [go_sem, h1, h1']
  unfold T.val
  dsimp only
  rw [run_eql_struct, he]
  rfl
theorem neqT (a b : T) (w : World) : (binOp .neq 40 a.val b.val).run Try.prog w = .ok (.bool (!decide (a = b))) w := by
  have h := eqlT a b w
  unfold T.val at h ⊢
  rw [run_eql_struct] at h
  rw [run_neq_struct]
  revert h
  generalize (Op.equalIn 10000 40 (.agg #[.int .u32 a.phys, .int .u64 a.start, .int .u64 a.fin]) (.agg #[.int .u32 b.phys, .int .u64 b.start, .int .u64 b.fin])).run Try.prog w = r
  intro h
  cases r with
  | ok x w1 =>
    simp only [Result.andThen] at h ⊢
    injection h with h1 h2
    injection h1 with h3
    rw [h3, h2]
  | halt x w1 => simp [Result.andThen] at h
def freeB (t : T) : Bool := decide (t = T.zero)
theorem eqlZ (ph st fi : Nat) (w : World) : (binOp .eql 40 (.agg #[.int .u32 ph, .int .u64 st, .int .u64 fi]) (.agg #[.int .u32 0, .int .u64 0, .int .u64 0])).run Try.prog w = .ok (.bool (freeB ⟨ph, st, fi⟩)) w := eqlT ⟨ph, st, fi⟩ T.zero w
theorem neqZ (ph st fi : Nat) (w : World) : (binOp .neq 40 (.agg #[.int .u32 ph, .int .u64 st, .int .u64 fi]) (.agg #[.int .u32 0, .int .u64 0, .int .u64 0])).run Try.prog w = .ok (.bool (!freeB ⟨ph, st, fi⟩)) w := neqT ⟨ph, st, fi⟩ T.zero w

def cpB (n : Nat) : Bool := decide (isCpP n)
def standsB (t : T) : Bool := decide (standsP t)
def oneB (t : T) : Bool := decide (oneP t)
theorem standsB_split (ph st fi : Nat) : standsB ⟨ph, st, fi⟩ = (decide (16 ≤ ph) && (decide (ph < 4096) && (cpB st && (decide (fi = 0) || (decide (st < fi) && cpB fi))))) := by
  unfold standsB cpB
  rw [Bool.eq_iff_iff, decide_eq_true_iff]
  simp [standsP, and_assoc]
theorem oneB_split (t : T) : oneB t = (freeB t || standsB t) := by
  unfold oneB freeB standsB
  rw [Bool.eq_iff_iff, decide_eq_true_iff]
  simp [oneP]
section
set_option maxRecDepth 100000
theorem isFree_any (t : T) (w : World) : Calls Try.prog 37 #[t.val] w (Ans w (.bool (freeB t))) := by
  obtain ⟨ph, st, fi⟩ := t
  have HB := below_new w (boxO ⟨ph, st, fi⟩)
  have hq := fun W => eqlZ ph st fi W
  unfold T.val
  unfold boxO at HB
  dsimp only at HB ⊢
  obtain ⟨x, hx⟩ : ∃ x, freeB ⟨ph, st, fi⟩ = x := ⟨_, rfl⟩
  rw [hx] at hq ⊢
  clear hx
  go_enter Try.func37, Try.ntmps37
  go_wp2
  go_ret
  exact ⟨rfl, HB⟩
theorem free_any (t : T) (w : World) : Calls Try.prog 33 #[t.val] w (Ans w (.bool (freeB t))) := by
  obtain ⟨ph, st, fi⟩ := t
  have HB := below_new w (boxO ⟨ph, st, fi⟩)
  have hq := fun W => eqlZ ph st fi W
  unfold T.val
  unfold boxO at HB
  dsimp only at HB ⊢
  obtain ⟨x, hx⟩ : ∃ x, freeB ⟨ph, st, fi⟩ = x := ⟨_, rfl⟩
  rw [hx] at hq ⊢
  clear hx
  go_enter Try.func33, Try.ntmps33
  go_wp2
  go_ret
  exact ⟨rfl, HB⟩
theorem isCp_any (n : Nat) (w : World) : Calls Try.prog 50 #[.int .u64 n] w fun e w' => e = .returned (.bool (cpB n)) ∧ w = w' := by
  by_cases h1 : 1 ≤ n
  · by_cases h2 : n < 281474976710656
    · have HD : Hid (cpB n = true) := by unfold Hid cpB isCpP; simp [*]
      have g1 : (1 : Int) ≤ n := by omega
      have g2 : (n : Int) < 281474976710656 := by omega
      go_enter Try.func50, Try.ntmps50
      go_wp2
      go_ret
      exact ⟨by rw [HD.out]; rfl, rfl⟩
    · have HD : Hid (cpB n = false) := by unfold Hid cpB isCpP; simp [*]
      have g1 : (1 : Int) ≤ n := by omega
      have g2 : ¬ (n : Int) < 281474976710656 := by omega
      go_enter Try.func50, Try.ntmps50
      go_wp2
      go_ret
      exact ⟨by rw [HD.out]; rfl, rfl⟩
  · have HD : Hid (cpB n = false) := by unfold Hid cpB isCpP; simp [*]
    have g1 : ¬ (1 : Int) ≤ n := by omega
    go_enter Try.func50, Try.ntmps50
    go_wp2
    go_ret
    exact ⟨by rw [HD.out]; rfl, rfl⟩
theorem stands_any (t : T) (w : World) : Calls Try.prog 31 #[t.val] w (Ans w (.bool (standsB t))) := by
  obtain ⟨ph, st, fi⟩ := t
  have HB := below_new w (boxO ⟨ph, st, fi⟩)
  have HS := Lib.hid (standsB_split ph st fi)
  unfold T.val
  unfold boxO at HB
  dsimp only at HB ⊢
  have go : ∀ (x : Bool), Hid (standsB ⟨ph, st, fi⟩ = x) → Calls Try.prog 31 #[.agg #[.int .u32 ph, .int .u64 st, .int .u64 fi]] w (Ans w (.bool x)) → Calls Try.prog 31 #[.agg #[.int .u32 ph, .int .u64 st, .int .u64 fi]] w (Ans w (.bool (standsB ⟨ph, st, fi⟩))) := fun x hb hc => by rw [hb.out]; exact hc
  have hc1 := isCp_any st
  have hc2 := isCp_any fi
  obtain ⟨x1, hx1⟩ : ∃ x, cpB st = x := ⟨_, rfl⟩
  obtain ⟨x2, hx2⟩ : ∃ x, cpB fi = x := ⟨_, rfl⟩
  rw [hx1] at hc1 HS
  rw [hx2] at hc2 HS
  by_cases h1 : 16 ≤ ph
  · have g1 : (16 : Int) ≤ ph := by omega
    by_cases h2 : ph < 4096
    · have g2 : (ph : Int) < 4096 := by omega
      cases x1 with
      | true =>
        by_cases h4 : fi = 0
        · have g4 : ((fi : Int) == 0) = true := by simp [h4]
          have HV : Hid (standsB ⟨ph, st, fi⟩ = true) := by unfold Hid; rw [HS.out]; simp [h1, h2, h4]
          refine go true HV ?_
          have HC1 := Lib.hid hc1
          have HC2 := Lib.hid hc2
          clear hc1 hc2 hx1 hx2 go HS HV h1 h2 h4
          go_enter Try.func31, Try.ntmps31
          go_wp2_with (first | (go_at_call 50; (with_reducible refine Calls.mono (HC1.out _) ?_); rintro e w1 ⟨rfl, rfl⟩) | (go_at_call 50; (with_reducible refine Calls.mono (HC2.out _) ?_); rintro e w1 ⟨rfl, rfl⟩))
          go_ret
          exact ⟨rfl, HB⟩
        · have g4 : ((fi : Int) == 0) = false := by simp [h4]
          by_cases h5 : st < fi
          · have g5 : (st : Int) < fi := by omega
            cases x2 with
            | true =>
              have HV : Hid (standsB ⟨ph, st, fi⟩ = true) := by unfold Hid; rw [HS.out]; simp [h1, h2, h4, h5]
              refine go true HV ?_
              have HC1 := Lib.hid hc1
              have HC2 := Lib.hid hc2
              clear hc1 hc2 hx1 hx2 go HS HV h1 h2 h4 h5
              go_enter Try.func31, Try.ntmps31
              go_wp2_with (first | (go_at_call 50; (with_reducible refine Calls.mono (HC1.out _) ?_); rintro e w1 ⟨rfl, rfl⟩) | (go_at_call 50; (with_reducible refine Calls.mono (HC2.out _) ?_); rintro e w1 ⟨rfl, rfl⟩))
              go_ret
              exact ⟨rfl, HB⟩
            | false =>
              have HV : Hid (standsB ⟨ph, st, fi⟩ = false) := by unfold Hid; rw [HS.out]; simp [h1, h2, h4, h5]
              refine go false HV ?_
              have HC1 := Lib.hid hc1
              have HC2 := Lib.hid hc2
              clear hc1 hc2 hx1 hx2 go HS HV h1 h2 h4 h5
              go_enter Try.func31, Try.ntmps31
              go_wp2_with (first | (go_at_call 50; (with_reducible refine Calls.mono (HC1.out _) ?_); rintro e w1 ⟨rfl, rfl⟩) | (go_at_call 50; (with_reducible refine Calls.mono (HC2.out _) ?_); rintro e w1 ⟨rfl, rfl⟩))
              go_ret
              exact ⟨rfl, HB⟩
          · have g5 : ¬ (st : Int) < fi := by omega
            have HV : Hid (standsB ⟨ph, st, fi⟩ = false) := by unfold Hid; rw [HS.out]; simp [h1, h2, h4, h5]
            refine go false HV ?_
            have HC1 := Lib.hid hc1
            have HC2 := Lib.hid hc2
            clear hc1 hc2 hx1 hx2 go HS HV h1 h2 h4 h5
            go_enter Try.func31, Try.ntmps31
            go_wp2_with (first | (go_at_call 50; (with_reducible refine Calls.mono (HC1.out _) ?_); rintro e w1 ⟨rfl, rfl⟩) | (go_at_call 50; (with_reducible refine Calls.mono (HC2.out _) ?_); rintro e w1 ⟨rfl, rfl⟩))
            go_ret
            exact ⟨rfl, HB⟩
      | false =>
        have HV : Hid (standsB ⟨ph, st, fi⟩ = false) := by unfold Hid; rw [HS.out]; simp [h1, h2]
        refine go false HV ?_
        have HC1 := Lib.hid hc1
        have HC2 := Lib.hid hc2
        clear hc1 hc2 hx1 hx2 go HS HV h1 h2
        go_enter Try.func31, Try.ntmps31
        go_wp2_with (first | (go_at_call 50; (with_reducible refine Calls.mono (HC1.out _) ?_); rintro e w1 ⟨rfl, rfl⟩) | (go_at_call 50; (with_reducible refine Calls.mono (HC2.out _) ?_); rintro e w1 ⟨rfl, rfl⟩))
        go_ret
        exact ⟨rfl, HB⟩
    · have g2 : ¬ (ph : Int) < 4096 := by omega
      have HV : Hid (standsB ⟨ph, st, fi⟩ = false) := by unfold Hid; rw [HS.out]; simp [h1, h2]
      refine go false HV ?_
      have HC1 := Lib.hid hc1
      have HC2 := Lib.hid hc2
      clear hc1 hc2 hx1 hx2 go HS HV h1 h2
      go_enter Try.func31, Try.ntmps31
      go_wp2_with (first | (go_at_call 50; (with_reducible refine Calls.mono (HC1.out _) ?_); rintro e w1 ⟨rfl, rfl⟩) | (go_at_call 50; (with_reducible refine Calls.mono (HC2.out _) ?_); rintro e w1 ⟨rfl, rfl⟩))
      go_ret
      exact ⟨rfl, HB⟩
  · have g1 : ¬ (16 : Int) ≤ ph := by omega
    have HV : Hid (standsB ⟨ph, st, fi⟩ = false) := by unfold Hid; rw [HS.out]; simp [h1]
    refine go false HV ?_
    have HC1 := Lib.hid hc1
    have HC2 := Lib.hid hc2
    clear hc1 hc2 hx1 hx2 go HS HV h1
    go_enter Try.func31, Try.ntmps31
    go_wp2_with (first | (go_at_call 50; (with_reducible refine Calls.mono (HC1.out _) ?_); rintro e w1 ⟨rfl, rfl⟩) | (go_at_call 50; (with_reducible refine Calls.mono (HC2.out _) ?_); rintro e w1 ⟨rfl, rfl⟩))
    go_ret
    exact ⟨rfl, HB⟩
theorem isWrong_any (t : T) (w : World) : Calls Try.prog 39 #[t.val] w (Ans w (.bool (!oneB t))) := by
  obtain ⟨ph, st, fi⟩ := t
  have HB := below_new w (boxO ⟨ph, st, fi⟩)
  have hA := At.new w ⟨ph, st, fi⟩
  obtain ⟨c0, c1, c2⟩ := hA.c
  have HX : Hid (∀ W, Below (w.alloc (boxO ⟨ph, st, fi⟩)).heap.size (w.alloc (boxO ⟨ph, st, fi⟩)) W → _) := fun W h => (hA.th h).c
  have HS := Lib.hid (oneB_split ⟨ph, st, fi⟩)
  have hf := fun W => isFree_any ⟨ph, st, fi⟩ W
  have hs := fun W => stands_any ⟨ph, st, fi⟩ W
  obtain ⟨x1, hx1⟩ : ∃ x, freeB ⟨ph, st, fi⟩ = x := ⟨_, rfl⟩
  obtain ⟨x2, hx2⟩ : ∃ x, standsB ⟨ph, st, fi⟩ = x := ⟨_, rfl⟩
  obtain ⟨x3, hx3⟩ : ∃ x, oneB ⟨ph, st, fi⟩ = x := ⟨_, rfl⟩
  rw [hx1] at hf HS
  rw [hx2] at hs HS
  rw [hx3] at HS ⊢
  have HW1 := Lib.hid HB
  unfold T.val at hf hs ⊢
  unfold boxO at HX HW1
  dsimp only at hf hs HX HW1 c0 c1 c2 ⊢
  have HF := Lib.hid hf
  have HT := Lib.hid hs
  clear hA hf hs hx1 hx2 hx3 HB
  cases x1 with
  | true =>
    have e := HS.out
    simp only [Bool.true_or] at e
    subst e
    clear HS
    go_enter Try.func39, Try.ntmps39
    go_wp2_with (first
      | (go_at_call 37; (with_reducible refine Calls.mono (HF.out _) ?_); rintro e w1 ⟨rfl, hB1⟩))
    go_ret
    exact ⟨rfl, below_th HW1.out hB1⟩
  | false =>
    have e := HS.out
    simp only [Bool.false_or] at e
    subst e
    clear HS
    go_enter Try.func39, Try.ntmps39
    go_wp2_with (first
      | (go_at_call 37; (with_reducible refine Calls.mono (HF.out _) ?_); rintro e w1 ⟨rfl, hB1⟩; obtain ⟨d0, d1, d2⟩ := HX.out _ hB1)
      | (go_at_call 31; (with_reducible refine Calls.mono (HT.out _) ?_); rintro e w2 ⟨rfl, hB2⟩))
    go_ret
    exact ⟨rfl, below_th HW1.out (below_th hB1 hB2)⟩
end
end Go.Proofs.Ythfcjbfldokanaa.Dat
