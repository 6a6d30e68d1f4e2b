/- Checkpoints of a table in memory: one, and a slice of them; when two are the same. -/
import Derived.StillTailTactics
import Derived.Deep.RegionWith
import Derived.Deep.RegionHeld3
import Derived.BigQuiet
import Derived.Handy
import Derived.Laws.StructEq
import Derived.Laws.AppendOwnNone
import Derived.Deep.AppendLies
import Derived.Lib.SliceRun
import Derived.Lib.Strings
import Derived.Test.YtoedjemelblpaaaRow
import Derived.Test.YtoedjemelblpaaaFlat
import Derived.Test.YtoedjemelblpaaaCpsMath
namespace Go.Proofs.Ytoedjemelblpaaa.Cps
open Go.RowKit
attribute [local go_sem] Oper.semAt_some
set_option linter.unusedVariables false
set_option linter.unusedSimpArgs false

def C.cells (s : C) : List Value := [.int .u64 s.cp, .int .u64 s.tick, .bool s.snap, .string s.root]
def C.val (s : C) : Value := .agg #[.int .u64 s.cp, .int .u64 s.tick, .bool s.snap, .string s.root]
/-- a checkpoint's cells -/
def boxO (s : C) : Obj := .cells #[.int .u64 s.cp, .int .u64 s.tick, .bool s.snap, .string s.root] 25

/-- a checkpoint lies at block b -/
def At (W : World) (b : Nat) (s : C) : Prop := W.heap[b]? = some (.cells #[.int .u64 s.cp, .int .u64 s.tick, .bool s.snap, .string s.root] 25 (0, 0))
theorem At.c {W : World} {b : Nat} {s : C} (h : At W b s) : W.cell? ⟨b, 0, none⟩ = some (.int .u64 s.cp) ∧ W.cell? ⟨b, 1, none⟩ = some (.int .u64 s.tick) ∧ W.cell? ⟨b, 2, none⟩ = some (.bool s.snap) ∧ W.cell? ⟨b, 3, none⟩ = some (.string s.root) := by
  unfold At at h
  simp only [World.cell?, h]
  exact ⟨rfl, rfl, rfl, rfl⟩
theorem At.f {W : World} {b : Nat} {s : C} (h : At W b s) (i : Nat) : W.frozen? ⟨b, i, none⟩ = false := by
  unfold At at h
  simp [World.frozen?, h]
theorem At.below {W W' : World} {b n : Nat} {s : C} (h : At W b s) (hB : Below n W W') (hb : b < n) : At W' b s := (hB.block b hb).trans h
theorem At.new (w : World) (s : C) : At (w.alloc (boxO s)) w.heap.size s := World.alloc_heap_new w _
theorem At.lt {W : World} {b : Nat} {s : C} (h : At W b s) : b < W.heap.size := (Array.getElem?_eq_some_iff.1 h).1
theorem At.th {W W' : World} {b : Nat} {s : C} (h : At W b s) (hB : Below W.heap.size W W') : At W' b s := h.below hB h.lt
theorem At.of_heap {W W' : World} {b : Nat} {s : C} (h : At W b s) (hb : W'.heap[b]? = W.heap[b]?) : At W' b s := hb.trans h
theorem At.drew {W : World} {b : Nat} {s : C} (h : At W b s) : At W.drew b s := h
/-- one part alone is laid over -/
theorem At.put_cp {W : World} {b : Nat} {s : C} (h : At W b s) (n : Nat) : At (W.setCell ⟨b, 0, none⟩ (.int .u64 n)) b ⟨n, s.tick, s.snap, s.root⟩ ∧ Below b W (W.setCell ⟨b, 0, none⟩ (.int .u64 n)) := by
  unfold At at h
  exact ⟨heap_setCell_same W b 0 _ _ (.int .u64 n) h, (Below.refl b W).setCell (p := ⟨b, 0, none⟩) (Nat.le_refl _) _⟩
theorem At.put_root {W : World} {b : Nat} {s : C} (h : At W b s) (r : ByteArray) : At (W.setCell ⟨b, 3, none⟩ (.string r)) b ⟨s.cp, s.tick, s.snap, r⟩ ∧ Below b W (W.setCell ⟨b, 3, none⟩ (.string r)) := by
  unfold At at h
  exact ⟨heap_setCell_same W b 3 _ _ (.string r) h, (Below.refl b W).setCell (p := ⟨b, 3, none⟩) (Nat.le_refl _) _⟩
/-- a checkpoint is laid over another one, part by part -/
theorem At.put4 {W : World} {b : Nat} {s : C} (h : At W b s) (t : C) :
    At ((((W.setCell ⟨b, 0, none⟩ (.int .u64 t.cp)).setCell ⟨b, 1, none⟩ (.int .u64 t.tick)).setCell ⟨b, 2, none⟩ (.bool t.snap)).setCell ⟨b, 3, none⟩ (.string t.root)) b t ∧
    Below b W ((((W.setCell ⟨b, 0, none⟩ (.int .u64 t.cp)).setCell ⟨b, 1, none⟩ (.int .u64 t.tick)).setCell ⟨b, 2, none⟩ (.bool t.snap)).setCell ⟨b, 3, none⟩ (.string t.root)) := by
  unfold At at h
  have h0 := heap_setCell_same W b 0 _ _ (.int .u64 t.cp) h
  have h1 := heap_setCell_same _ b 1 _ _ (.int .u64 t.tick) h0
  have h2 := heap_setCell_same _ b 2 _ _ (.bool t.snap) h1
  have h3 := heap_setCell_same _ b 3 _ _ (.string t.root) h2
  refine ⟨h3, ?_⟩
  exact ((((Below.refl b W).setCell (p := ⟨b, 0, none⟩) (Nat.le_refl _) _).setCell (p := ⟨b, 1, none⟩) (Nat.le_refl _) _).setCell (p := ⟨b, 2, none⟩) (Nat.le_refl _) _).setCell (p := ⟨b, 3, none⟩) (Nat.le_refl _) _
theorem below_al {w W : World} (h : Below w.heap.size w W) (o : Obj) : Below w.heap.size w (W.alloc o) := h.alloc h.size _
theorem below_new (w : World) (o : Obj) : Below w.heap.size w (w.alloc o) := (Below.refl _ _).alloc (Nat.le_refl _) _

/-- a table -/
def Chs (w : World) (v : Value) (L : List C) : Prop := Lies w v L.length 4 (L.flatMap C.cells)
theorem Chs.below {w w' : World} {v : Value} {L : List C} (h : Chs w v L) (hB : Below w.heap.size w w') : Chs w' v L := Lies.below h hB
theorem Chs.nil (w : World) : Chs w (.slice none 0 0) [] := Lies.nil w 4
theorem Chs.parts {w : World} {v : Value} {L : List C} (h : Chs w v L) : ∃ a cap, v = .slice a L.length cap ∧ L.length ≤ cap ∧ cap ≤ 9223372036854775807 := by
  obtain ⟨a, cap, e, _, h1, h2⟩ := Lies.parts h
  exact ⟨a, cap, e, h1, h2⟩
/-- what stands at a place -/
def Reads (w : World) (b o : Nat) (c : C) : Prop := w.cell? ⟨b, o, none⟩ = some (.int .u64 c.cp) ∧ w.cell? ⟨b, o + 1, none⟩ = some (.int .u64 c.tick) ∧ w.cell? ⟨b, o + 2, none⟩ = some (.bool c.snap) ∧ w.cell? ⟨b, o + 3, none⟩ = some (.string c.root)
theorem Chs.at {w : World} {v : Value} {L : List C} (h : Chs w v L) {k : Nat} (hk : k < L.length) :
    ∃ b off cap, v = .slice (some ⟨b, off, none⟩) L.length cap ∧ Reads w b (off + k * 4) (ck L k) := by
  obtain ⟨a, cap, rfl, _, _, _, h5⟩ := h
  obtain ⟨b, off, rfl, hc⟩ := h5 (by omega)
  have hf := fun j (hj : j < 4) => flat_at C.cells 4 L (fun o _ => rfl) k j (ck L k) (ck_get hk) hj
  refine ⟨b, off, cap, rfl, ?_, ?_, ?_, ?_⟩
  · exact hc (k * 4) _ (hf 0 (by omega))
  · have := hc _ _ (hf 1 (by omega)); rwa [← Nat.add_assoc] at this
  · have := hc _ _ (hf 2 (by omega)); rwa [← Nat.add_assoc] at this
  · have := hc _ _ (hf 3 (by omega)); rwa [← Nat.add_assoc] at this
/-- the same, of a slice that is known by its parts -/
theorem Chs.get {w : World} {b off n cap : Nat} {L : List C} (hn : L.length = n) (h : Chs w (.slice (some ⟨b, off, none⟩) n cap) L) {k : Nat} (hk : k < n) : Reads w b (off + k * 4) (ck L k) := by
  obtain ⟨b2, off2, cap2, e, h1⟩ := h.at (hn ▸ hk)
  cases e
  exact h1
/-- the first one -/
theorem Chs.get0 {w : World} {b off n cap : Nat} {L : List C} (hn : L.length = n) (h : Chs w (.slice (some ⟨b, off, none⟩) n cap) L) (hk : 0 < n) : Reads w b off (ck L 0) := by
  have := h.get hn hk
  simpa using this
/-- a slice stands where its block does -/
theorem Chs.keep {W W' : World} {v : Value} {L : List C} (h : Chs W v L) (hk : ∀ g o k c, v = .slice (some ⟨g, o, none⟩) k c → 0 < k → W'.heap[g]? = W.heap[g]?) : Chs W' v L := by
  obtain ⟨a, cap, rfl, h2, h3, h4, h5⟩ := h
  refine ⟨a, cap, rfl, h2, h3, h4, fun hn => ?_⟩
  obtain ⟨b, off, rfl, hc⟩ := h5 hn
  refine ⟨b, off, rfl, fun j u hj => ?_⟩
  have he : W'.cell? ⟨b, off + j, none⟩ = W.cell? ⟨b, off + j, none⟩ := World.cell?_of_block (w := W) (hk b off _ _ rfl hn)
  exact he.trans (hc j u hj)
/-- a slice, taken apart: none at all, or an address -/
theorem Chs.open {w : World} {v : Value} {L : List C} (h : Chs w v L) : (∃ a cap, v = .slice a 0 cap ∧ L = []) ∨ ∃ b off cap, v = .slice (some ⟨b, off, none⟩) L.length cap ∧ 0 < L.length ∧ L.length ≤ cap ∧ cap ≤ 9223372036854775807 := by
  obtain ⟨a, cap, rfl, h1, h2⟩ := h.parts
  rcases Nat.eq_zero_or_pos L.length with hz | hz
  · exact .inl ⟨a, cap, by rw [hz], List.eq_nil_of_length_eq_zero hz⟩
  · obtain ⟨b, off, cap2, e, _⟩ := h.at hz
    cases e
    exact .inr ⟨b, off, cap, rfl, hz, h1, h2⟩
theorem Chs.lt {W : World} {b off n cap : Nat} {L : List C} (h : Chs W (.slice (some ⟨b, off, none⟩) n cap) L) (hn : 0 < L.length) : b < W.heap.size := by
  obtain ⟨b2, off2, cap2, e, h1, _⟩ := h.at hn
  cases e
  exact World.block_lt_of_cell? _ _ h1
/-- what stands ahead in a table -/
theorem Chs.cut {w : World} {a : Option Addr} {n cap : Nat} {L : List C} (h : Chs w (.slice a n cap) L) (m : Nat) (hm : m ≤ L.length) : Chs w (.slice a m cap) (L.take m) := by
  obtain ⟨a1, cap1, e, h2, h3, h4, h5⟩ := h
  cases e
  have hl : (L.take m).length = m := by rw [List.length_take]; omega
  have hcells : ∀ (L : List C) (m : Nat), (L.take m).flatMap C.cells = (L.flatMap C.cells).take (m * 4) := fun L => by
    induction L with
    | nil => intro m; simp
    | cons x L ih =>
      intro m
      cases m with
      | zero => simp
      | succ m => rw [List.take_succ_cons, List.flatMap_cons, List.flatMap_cons, ih m, show (m + 1) * 4 = (C.cells x).length + m * 4 by show _ = 4 + _; omega, List.take_length_add_append]
  refine ⟨a, cap, by rw [hl], by omega, h3, by rw [hl, hcells, List.length_take, h4]; omega, fun hn => ?_⟩
  obtain ⟨b, off, e2, hc⟩ := h5 (by omega)
  refine ⟨b, off, e2, fun j u hj => hc j u ?_⟩
  rw [hcells, List.getElem?_take] at hj
  split at hj
  · exact hj
  · cases hj
def cellsL (L : List C) : List Value := L.flatMap C.cells
theorem cellsL_length (L : List C) : (cellsL L).length = L.length * 4 := flat_length C.cells 4 L (fun _ _ => rfl)
theorem cellsL_one (L : List C) : ∀ u ∈ cellsL L, u.oneCell' = true := fun u hu => by
  obtain ⟨s, _, hs⟩ := List.mem_flatMap.1 hu
  simp only [C.cells, List.mem_cons, List.not_mem_nil, or_false] at hs
  rcases hs with rfl | rfl | rfl | rfl <;> rfl
theorem cellsL_snoc (L : List C) (s : C) : cellsL (L ++ [s]) = cellsL L ++ s.cells := by
  unfold cellsL
  rw [List.flatMap_append]
  simp
theorem cellsL_set (s : C) : ∀ (L : List C) (k : Nat), k < L.length → ((((cellsL L).set (k * 4) (.int .u64 s.cp)).set (k * 4 + 1) (.int .u64 s.tick)).set (k * 4 + 2) (.bool s.snap)).set (k * 4 + 3) (.string s.root) = cellsL (L.set k s)
  | [], _, h => by simp at h
  | x :: L, 0, _ => rfl
  | x :: L, k + 1, h => by
    have ih := cellsL_set s L k (by simpa using h)
    have e : cellsL (x :: L) = .int .u64 x.cp :: .int .u64 x.tick :: .bool x.snap :: .string x.root :: cellsL L := rfl
    have e2 : cellsL ((x :: L).set (k + 1) s) = .int .u64 x.cp :: .int .u64 x.tick :: .bool x.snap :: .string x.root :: cellsL (L.set k s) := rfl
    rw [e, e2, show (k + 1) * 4 = k * 4 + 1 + 1 + 1 + 1 by omega]
    simp only [List.set_cons_succ]
    rw [← ih]
/-- one part of one -/
theorem cellsL_snap (s : Bool) : ∀ (L : List C) (k : Nat), k < L.length → (cellsL L).set (k * 4 + 2) (.bool s) = cellsL (L.set k (markC (ck L k) s))
  | [], _, h => by simp at h
  | x :: L, 0, _ => rfl
  | x :: L, k + 1, h => by
    have ih := cellsL_snap s L k (by simpa using h)
    have e : cellsL (x :: L) = .int .u64 x.cp :: .int .u64 x.tick :: .bool x.snap :: .string x.root :: cellsL L := rfl
    have e2 : cellsL ((x :: L).set (k + 1) (markC (ck (x :: L) (k + 1)) s)) = .int .u64 x.cp :: .int .u64 x.tick :: .bool x.snap :: .string x.root :: cellsL (L.set k (markC (ck L k) s)) := rfl
    rw [e, e2, show (k + 1) * 4 + 2 = (k * 4 + 2) + 1 + 1 + 1 + 1 by omega]
    simp only [List.set_cons_succ]
    rw [← ih]
theorem infoCh : (Try.prog.info? 25).map (fun i => (i.zero, i.size, i.bytes)) = some (some (.agg #[.int .u64 0, .int .u64 0, .bool false, .string ⟨#[]⟩]), 4, 40) := by kernel_rfl
/-- a row of one's own, as checkpoints -/
theorem Chs.own {w : World} {base : Nat} {v : Value} {L : List C} (h : w.ownsRow base 25 4 v L.length (cellsL L)) : Chs w v L := Lies.own h
/-- the cells of a slice that is not nil, wherever it is laid -/
theorem Chs.news {w : World} {a : Addr} {n cap : Nat} {L : List C} (h : Chs w (.slice (some a) n cap) L) : ∀ j u, (cellsL L)[j]? = some u → w.cell? (a.add j) = some u := fun j u hj => by
  obtain ⟨a', cap', e, _, _, h4, h5⟩ := h
  cases e
  have hl := (List.getElem?_eq_some_iff.1 hj).1
  rw [cellsL_length] at hl
  obtain ⟨b, off, e2, hc⟩ := h5 (by omega)
  cases e2
  rw [add_plain]
  exact hc j u hj
theorem own_open {w : World} {base n : Nat} {v : Value} {xs : List Value} (h : w.ownsRow base 25 4 v n xs) (hn : 0 < n) : ∃ g cap, v = .slice (some ⟨g, 0, none⟩) n cap ∧ base ≤ g ∧ n ≤ cap ∧ cap ≤ 9223372036854775807 := by
  rcases h.2 with ⟨rfl, rfl⟩ | ⟨g, cap, cur, rfl, hb, hg, hn, hm, hs, ht⟩
  · omega
  · exact ⟨g, cap, rfl, hb, hn, by unfold maxLen at hm; omega⟩
/-- a mark is laid into a row of one's own -/
theorem own_snap {w : World} {base n cap g k : Nat} {L : List C} (hn : L.length = n) (h : w.ownsRow base 25 4 (.slice (some ⟨g, 0, none⟩) n cap) n (cellsL L)) (hk : k < n) (s : Bool) :
    (∃ u, w.cell? ⟨g, k * 4 + 2, none⟩ = some u) ∧ w.frozen? ⟨g, k * 4 + 2, none⟩ = false ∧
    (w.setCell ⟨g, k * 4 + 2, none⟩ (.bool s)).ownsRow base 25 4 (.slice (some ⟨g, 0, none⟩) n cap) n (cellsL (L.set k (markC (ck L k) s))) ∧
    Below g w (w.setCell ⟨g, k * 4 + 2, none⟩ (.bool s)) := by
  have hl := cellsL_length L
  have h1 := (h.stored (k * 4 + 2) (.bool s)).1
  rw [cellsL_snap s L k (by omega)] at h1
  exact ⟨⟨_, (h.cellAt (k * 4 + 2) (by omega)).trans (List.getElem?_eq_getElem (by omega))⟩, h.frozenAt _, h1, (Below.refl g w).setCell (p := ⟨g, k * 4 + 2, none⟩) (Nat.le_refl _) _⟩

/-- what asks answers: only what is new is written -/
def Ans (w : World) (v : Value) (e : Ending) (w' : World) : Prop := e = .returned v ∧ Below w.heap.size w w'
theorem Ans.eq {w w' : World} {e : Ending} {v u : Value} (h : v = u) (k : Ans w v e w') : Ans w u e w' := h ▸ k

theorem eqlC (a b : C) (w : World) : (binOp .eql 25 a.val b.val).run Try.prog w = .ok (.bool (decide (a = b))) w := by
  obtain ⟨l1, b1, s1, r1⟩ := a
  obtain ⟨l2, b2, s2, r2⟩ := b
  have he : (Op.equalIn 10000 25 (.agg #[.int .u64 l1, .int .u64 b1, .bool s1, .string r1]) (.agg #[.int .u64 l2, .int .u64 b2, .bool s2, .string r2])).run Try.prog w = .ok (decide ((⟨l1, b1, s1, r1⟩ : C) = ⟨l2, b2, s2, r2⟩)) w := by
    rw [run_equalIn_agg w 9999 25 _ _ (by kernel_rfl) (by kernel_rfl)]
    simp only [C.mk.injEq]
    by_cases h1 : l1 = l2
    · by_cases h2 : b1 = b2
      · by_cases h3 : s1 = s2
        · by_cases h4 : r1 = r2
          · simp [go_sem, h1, h2, h3, h4]
          · have h4' : ¬ r1.toList = r2.toList := fun he => h4 (ByteArray.ext (Array.toList_inj.1 (by rw [← Lib.toList_data, ← Lib.toList_data]; exact he)))
            simp [go_sem, h1, h2, h3, h4, h4']
        · simp [go_sem, h1, h2, h3]
      · have h2' : ¬ (b1 : Int) = b2 := by omega
        simp [go_sem, h1, h2, h2']
    · have h1' : ¬ (l1 : Int) = l2 := by omega
      simp [go_sem, h1, h1']
  unfold C.val
  dsimp only
  rw [run_eql_struct, he]
  rfl
theorem neqC (a b : C) (w : World) : (binOp .neq 25 a.val b.val).run Try.prog w = .ok (.bool (!decide (a = b))) w := by
  have h := eqlC a b w
  unfold C.val at h ⊢
  rw [run_eql_struct] at h
  rw [run_neq_struct]
  revert h
  generalize (Op.equalIn 10000 25 (.agg #[.int .u64 a.cp, .int .u64 a.tick, .bool a.snap, .string a.root]) (.agg #[.int .u64 b.cp, .int .u64 b.tick, .bool b.snap, .string b.root])).run Try.prog w = r
  intro h
  cases r with
  | ok x w1 =>
    simp only [Result.andThen] at h ⊢
    injection h with h1 h2
    injection h1 with h3
    rw [h3, h2]
  | halt x w1 => simp [Result.andThen] at h
end Go.Proofs.Ytoedjemelblpaaa.Cps
