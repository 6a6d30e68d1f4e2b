/- The nodes of a bag (of values of one type) as they lie in memory, and the three functions that go down one step or ask for the top. -/
import Derived.Deep.QuietTactic
import Derived.BigQuiet
import Derived.WalkSpells
import Derived.WalkLawsBesides
import Derived.Outline
import Derived.Deep.DeepFit
import Derived.Test.YtbelgkccfajjoaaRows
import Derived.Test.YtbelgkccfajjoaaBagPure
namespace Go.Proofs.Ytbelgkccfajjoaa.S
open Go.RowKit
set_option linter.unusedVariables false

abbrev It := Int × ByteArray
def itemV (x : It) : Value := .agg #[.int .i64 x.1, .string x.2]
def cellsI (l : List It) : List Value := l.flatMap fun x => [.int .i64 x.1, .string x.2]

theorem cellsI_length (l : List It) : (cellsI l).length = l.length * 2 := by
  induction l with
  | nil => rfl
  | cons x l ih => simp only [cellsI, List.flatMap_cons, List.length_append, List.length_cons, List.length_nil] at ih ⊢; omega
theorem cellsI_append (a b : List It) : cellsI (a ++ b) = cellsI a ++ cellsI b := by simp [cellsI]
theorem cellsI_at (l : List It) (k : Nat) (x : It) (h : l[k]? = some x) : (cellsI l)[k * 2]? = some (.int .i64 x.1) ∧ (cellsI l)[k * 2 + 1]? = some (.string x.2) := by
  induction l generalizing k with
  | nil => simp at h
  | cons y l ih =>
    cases k with
    | zero => obtain rfl : y = x := by simpa using h
              exact ⟨rfl, rfl⟩
    | succ k =>
      have := ih k (by simpa using h)
      rw [show (k + 1) * 2 = k * 2 + 2 from by omega]
      exact this
theorem cellsI_take (l : List It) (k : Nat) : cellsI (l.take k) = (cellsI l).take (k * 2) := by
  induction l generalizing k with
  | nil => simp [cellsI]
  | cons y l ih =>
    cases k with
    | zero => simp [cellsI]
    | succ k =>
      rw [show (k + 1) * 2 = k * 2 + 1 + 1 from by omega, List.take_succ_cons]
      show _ :: _ :: cellsI (l.take k) = _ :: _ :: (cellsI l).take (k * 2)
      rw [ih k]
theorem cellsI_drop (l : List It) (k : Nat) : cellsI (l.drop k) = (cellsI l).drop (k * 2) := by
  induction l generalizing k with
  | nil => simp [cellsI]
  | cons y l ih =>
    cases k with
    | zero => simp [cellsI]
    | succ k =>
      rw [show (k + 1) * 2 = k * 2 + 1 + 1 from by omega, List.drop_succ_cons]
      show cellsI (l.drop k) = (cellsI l).drop (k * 2)
      exact ih k

/-- the node lies in W -/
structure Ok (w : World) (r : Rec ByteArray) : Prop where
  node : w.heap[r.b]? = some (.cells #[r.iv, r.kvv] 66 (0, 0))
  irow : w.ownsRow 0 97 2 r.iv r.items.length (cellsI r.items)
  krow : w.ownsRow 0 51 1 r.kvv r.kids.length (cellsP r.kids)

theorem Ok.blk {w : World} {r : Rec ByteArray} (h : Ok w r) : ∀ k, k ∈ r.blocks → k < w.heap.size := by
  intro k hk
  simp only [Rec.blocks, List.mem_cons] at hk
  rcases hk with rfl | rfl | hk
  · exact (Array.getElem?_eq_some_iff.1 h.node).1
  · exact (h.irow.lt _ rfl).2
  · cases hv : r.kv with
    | none => rw [hv] at hk; simp at hk
    | some p =>
      rw [hv] at hk
      obtain rfl : k = p.1 := by simpa using hk
      exact (h.krow.lt _ (by simp [Rec.kvv, hv, Value.ownBlock])).2
theorem Ok.kept {w w' : World} {r : Rec ByteArray} (h : Ok w r) (hk : ∀ k, k ∈ r.blocks → w'.heap[k]? = w.heap[k]?) : Ok w' r := by
  refine ⟨(hk _ (by simp [Rec.blocks])).trans h.node, ?_, ?_⟩
  · refine ⟨h.irow.1, ?_⟩
    rcases h.irow.2 with hn | ⟨g, cap, cur, hv, hb, hg, rest⟩
    · exact .inl hn
    · refine .inr ⟨g, cap, cur, hv, hb, ?_, rest⟩
      obtain rfl : r.g = g := by simp [Rec.iv] at hv; exact hv.1
      exact (hk _ (by simp [Rec.blocks])).trans hg
  · refine ⟨h.krow.1, ?_⟩
    rcases h.krow.2 with hn | ⟨g, cap, cur, hv, hb, hg, rest⟩
    · exact .inl hn
    · refine .inr ⟨g, cap, cur, hv, hb, ?_, rest⟩
      cases hkv : r.kv with
      | none => simp [Rec.kvv, hkv] at hv
      | some p =>
        obtain ⟨p1, p2⟩ := p
        simp [Rec.kvv, hkv] at hv
        obtain rfl : p1 = g := hv.1
        exact (hk _ (by simp [Rec.blocks, hkv])).trans hg
theorem Ok.only {S : Nat → Prop} {w w' : World} {r : Rec ByteArray} (h : Ok w r) (ho : Only S w w') (hs : ∀ k, k ∈ r.blocks → ¬ S k) : Ok w' r :=
  h.kept fun k hk => ho.block k (h.blk k hk) (hs k hk)
theorem Ok.below {w w' : World} {r : Rec ByteArray} (h : Ok w r) (hb : Below w.heap.size w w') : Ok w' r := h.kept fun k hk => hb.block k (h.blk k hk)
theorem Ok.drew {w : World} {r : Rec ByteArray} (h : Ok w r) : Ok w.drew r := h.kept fun _ _ => rfl
theorem Ok.c0 {w : World} {r : Rec ByteArray} (h : Ok w r) : w.cell? ⟨r.b, 0, none⟩ = some r.iv := by rw [cell_of_row w _ 0 _ _ _ h.node]; rfl
theorem Ok.c1 {w : World} {r : Rec ByteArray} (h : Ok w r) : w.cell? ⟨r.b, 1, none⟩ = some r.kvv := by rw [cell_of_row w _ 1 _ _ _ h.node]; rfl
theorem Ok.f {w : World} {r : Rec ByteArray} (h : Ok w r) (i : Nat) : w.frozen? ⟨r.b, i, none⟩ = false := by simp [World.frozen?, h.node]
theorem Ok.item {w : World} {r : Rec ByteArray} (h : Ok w r) {k : Nat} {x : It} (hx : r.items[k]? = some x) : w.cell? ⟨r.g, k * 2, none⟩ = some (.int .i64 x.1) ∧ w.cell? ⟨r.g, k * 2 + 1, none⟩ = some (.string x.2) := by
  have hlt : k < r.items.length := (List.getElem?_eq_some_iff.1 hx).1
  have h2 := cellsI_at _ _ _ hx
  exact ⟨(h.irow.cellAt (k * 2) (by omega)).trans h2.1, (h.irow.cellAt (k * 2 + 1) (by omega)).trans h2.2⟩
theorem Ok.itemF {w : World} {r : Rec ByteArray} (h : Ok w r) (i : Nat) : w.frozen? ⟨r.g, i, none⟩ = false := h.irow.frozenAt i
theorem Ok.kid {w : World} {r : Rec ByteArray} (h : Ok w r) {p : Nat × Nat} (hp : r.kv = some p) {k : Nat} {x : Nat} (hx : r.kids[k]? = some x) : w.cell? ⟨p.1, k, none⟩ = some (ptrV x) := by
  have hlt : k < r.kids.length := (List.getElem?_eq_some_iff.1 hx).1
  have h0 := h.krow
  simp only [Rec.kvv, hp] at h0
  rw [h0.cellAt k (by omega)]
  simp [cellsP, hx]
theorem Ok.ilen {w : World} {r : Rec ByteArray} (h : Ok w r) : r.items.length ≤ r.cap ∧ r.cap ≤ 9223372036854775807 := by
  rcases h.irow.2 with ⟨hn, _⟩ | ⟨g, cap, cur, hv, _, _, h1, h2, _⟩
  · simp [Rec.iv] at hn
  · simp [Rec.iv] at hv
    unfold maxLen at h2
    rw [hv.2]
    exact ⟨h1, h2⟩
theorem Ok.klen {w : World} {r : Rec ByteArray} (h : Ok w r) {p : Nat × Nat} (hp : r.kv = some p) : r.kids.length ≤ p.2 ∧ p.2 ≤ 9223372036854775807 := by
  rcases h.krow.2 with ⟨hn, _⟩ | ⟨g, cap, cur, hv, _, _, h1, h2, _⟩
  · simp [Rec.kvv, hp] at hn
  · simp [Rec.kvv, hp] at hv
    unfold maxLen at h2
    rw [hv.2]
    exact ⟨h1, h2⟩

theorem eqlN (a : Option Addr) (n c : Nat) (w : World) : (binOp .eql 63 (.slice a n c) (.slice none 0 0)).run Try.prog w = .ok (.bool a.isNone) w :=
  Lib.run_eql_slice_nil w _ _ a n c 0 0 Try.underlying63

/-- the node below at a place -/
theorem under_none (r : Rec ByteArray) (p : Int) (w : World) (h : Ok w r) (hn : r.kv = none) :
    Calls Try.prog 63 #[ptrV r.b, .int .i64 p] w fun e w' => e = .returned (.pointer none) ∧ w = w' := by
  have c1 := h.c1
  simp only [Rec.kvv, hn] at c1
  have hq := eqlN none 0 0
  clear hn h
  unfold ptrV
  go_enter Try.func63, Try.ntmps63
  go_wp2
  go_ret
  exact ⟨rfl, rfl⟩

theorem under_some (r : Rec ByteArray) (p : Nat) (q : Nat × Nat) (x : Nat) (w : World) (h : Ok w r) (hn : r.kv = some q) (hx : r.kids[p]? = some x) :
    Calls Try.prog 63 #[ptrV r.b, .int .i64 p] w fun e w' => e = .returned (ptrV x) ∧ w = w' := by
  obtain ⟨g, c⟩ := q
  have c1 := h.c1
  have c2 := h.kid hn hx
  have hlt : p < r.kids.length := (List.getElem?_eq_some_iff.1 hx).1
  have hkl := h.klen hn
  simp only [Rec.kvv, hn] at c1
  simp only [ptrV] at c2
  have hq := eqlN (some ⟨g, 0, none⟩) r.kids.length c
  clear hn h hx
  unfold ptrV
  go_enter Try.func63, Try.ntmps63
  go_wp2
  go_ret
  exact ⟨rfl, rfl⟩

/-- a bag as it lies in memory: its top and its count -/
def BagAt (w : World) (a : Nat) (top : Option Nat) (n : Int) : Prop := w.heap[a]? = some (.cells #[.pointer (top.map fun b => ⟨b, 0, none⟩), .int .i64 n] 53 (0, 0))

theorem highest_nil (w : World) : Calls Try.prog 34 #[.pointer none] w fun e w' => e = .returned (.pointer none) ∧ w = w' := by
  go_enter Try.func34, Try.ntmps34
  go_wp2
  go_ret
  exact ⟨rfl, rfl⟩
theorem highest_some (a : Nat) (top : Option Nat) (n : Int) (w : World) (h : BagAt w a top n) :
    Calls Try.prog 34 #[ptrV a] w fun e w' => e = .returned (.pointer (top.map fun b => ⟨b, 0, none⟩)) ∧ w = w' := by
  have c0 : w.cell? ⟨a, 0, none⟩ = some (.pointer (top.map fun b => ⟨b, 0, none⟩)) := by rw [cell_of_row w _ 0 _ _ _ h]; rfl
  obtain ⟨q, hq⟩ : ∃ q, (top.map fun b => (⟨b, 0, none⟩ : Addr)) = q := ⟨_, rfl⟩
  rw [hq] at c0 ⊢
  clear hq h
  unfold ptrV
  go_enter Try.func34, Try.ntmps34
  go_wp2
  go_ret
  exact ⟨rfl, rfl⟩

end Go.Proofs.Ytbelgkccfajjoaa.S
