/- Several texts in one, each under its own heading. -/
import Derived.RangeFuncBound
import Derived.RangeFuncCalls
import Derived.RangeFuncLeaves
import Derived.OwnWalkIn
import Derived.TacticsInMore
import Derived.LoopNIn
import Derived.LoopIn
import Derived.Shelf.Abstract
import Derived.Test.YtdniakoedgohkaaPk07
import Derived.Test.YtdniakoedgohkaaPk10
import Derived.Test.YtdniakoedgohkaaPk09
/- The library's Values hands out a table's checkpoints. -/
namespace Go.Proofs.Ytdniakoedgohkaa.Cps
open Go.RowKit
attribute [local go_sem] Oper.semAt_some
set_option linter.unusedVariables false
set_option linter.unusedSimpArgs false

/-- the blocks below n lie as they lay -/
def Kept (n : Nat) (W W' : World) : Prop := (∀ b, b < n → W'.heap[b]? = W.heap[b]?) ∧ W.heap.size ≤ W'.heap.size
theorem Kept.refl (n : Nat) (W : World) : Kept n W W := ⟨fun _ _ => rfl, Nat.le_refl _⟩
theorem Kept.trans {n : Nat} {A B C : World} (h : Kept n A B) (k : Kept n B C) : Kept n A C := ⟨fun b hb => (k.1 b hb).trans (h.1 b hb), Nat.le_trans h.2 k.2⟩
theorem Kept.below {n : Nat} {W W' : World} (h : Below W.heap.size W W') (hn : n ≤ W.heap.size) : Kept n W W' := ⟨fun b hb => h.block b (by omega), h.size⟩
theorem Kept.cell {n : Nat} {W W' : World} (h : Kept n W W') {p : Addr} (hp : p.block < n) : W'.cell? p = W.cell? p := World.cell?_of_block (w := W) (h.1 p.block hp)
theorem Kept.cell_some {w W' : World} (h : Kept w.heap.size w W') {p : Addr} {u : Value} (hc : w.cell? p = some u) : W'.cell? p = some u := (h.cell (World.block_lt_of_cell? _ _ hc)).trans hc
theorem kept_t {n : Nat} {A B C : World} (h : Kept n A B) (k : Kept n B C) : Kept n A C := h.trans k
theorem kept_b {n : Nat} {w : World} (hn : n ≤ w.heap.size) (W : World) (l : Nat) (o o' : Obj) (hl : w.heap.size ≤ l) (_ : W.heap[l]? = some o) (_ : o.isCells = false) (_ : o.isWalk = false) : Kept n W (W.putObj l o') :=
  ⟨fun b hb => World.putObj_heap_other (by omega), by simp [World.putObj]⟩
theorem Chs.kept {w W' : World} {v : Value} {L : List C} (h : Chs w v L) (hk : Kept w.heap.size w W') : Chs W' v L := h.keep fun g o k c e hk0 => hk.1 g (by
  subst e
  obtain ⟨a, cap, e, _⟩ := h.parts
  cases e
  exact h.lt hk0)
theorem At.kept {W W' : World} {b : Nat} {s : C} (h : At W b s) (hk : Kept W.heap.size W W') : At W' b s := (hk.1 b h.lt).trans h
theorem grown_of_below {W W' : World} (h : Below W.heap.size W W') : W.grownBy W' none := ⟨h.1, h.2, h.3, h.4, fun k hk _ => h.5 k hk⟩

/-- what the k-th round is handed -/
def encL (L : List C) (k : Nat) : Array Value := #[(ck L k).val]

section
set_option maxRecDepth 100000
set_option maxHeartbeats 4000000
/-- an iterator, as what tableOf is handed -/
def IterOf (gf : Nat) (lb : Array Value) (M : List C) (m : Nat) (W0 : World) : Prop := SeqSteps Fence.wide 8 Try.prog gf lb (encL M) (Kept m) M.length W0
end
end Go.Proofs.Ytdniakoedgohkaa.Cps
/- A table of checkpoints that it shares no memory with, of the program: what an iterator hands out. -/
namespace Go.Proofs.Ytdniakoedgohkaa.Cps
open Go.RowKit Go.Shelf
attribute [local go_sem] Oper.semAt_some
set_option linter.unusedVariables false
set_option linter.unusedSimpArgs false

/-- one value lies at block q -/
def CellAt (W : World) (q : Nat) (t : TypeId) (v : Value) : Prop := W.heap[q]? = some (.cells #[v] t (0, 0))
theorem CellAt.c {W : World} {q : Nat} {t : TypeId} {v : Value} (h : CellAt W q t v) : W.cell? ⟨q, 0, none⟩ = some v := by unfold CellAt at h; simp only [World.cell?, h]; rfl
theorem CellAt.f {W : World} {q : Nat} {t : TypeId} {v : Value} (h : CellAt W q t v) : W.frozen? ⟨q, 0, none⟩ = false := by unfold CellAt at h; simp [World.frozen?, h]
theorem CellAt.put {W : World} {q : Nat} {t : TypeId} {v : Value} (h : CellAt W q t v) (u : Value) : CellAt (W.setCell ⟨q, 0, none⟩ u) q t u := by unfold CellAt at h ⊢; rw [heap_setCell_same W q 0 _ _ u h]; rfl
theorem CellAt.lt {W : World} {q : Nat} {t : TypeId} {v : Value} (h : CellAt W q t v) : q < W.heap.size := (Array.getElem?_eq_some_iff.1 h).1
theorem CellAt.of_heap {W W' : World} {q : Nat} {t : TypeId} {v : Value} (h : CellAt W q t v) (hb : W'.heap[q]? = W.heap[q]?) : CellAt W' q t v := hb.trans h
theorem CellAt.th {W W' : World} {q : Nat} {t : TypeId} {v : Value} (h : CellAt W q t v) (hB : Below W.heap.size W W') : CellAt W' q t v := h.of_heap (hB.block q h.lt)
theorem CellAt.new (w : World) (t : TypeId) (v : Value) : CellAt (w.alloc (.cells #[v] t)) w.heap.size t v := World.alloc_heap_new w _
/-- a region's plain walk holds in a round, too -/
theorem wpIn_round_any {P : Program} {ops : Array Oper} {Q : Exit → Act → World → Prop} {id l0 nF : Nat} {a : Act} {w : World} (hm : P.follows .mixedOrders = true) (hd : noDefer ops = true) (hQ : ¬ LetsOut Q)
    (h : wpAny P .any ops Q ops.size (Array.replicate ops.size false) a w.drew) : (Code.region id ops true).wpIn (Fence.wide.inRound l0) nF P Q a w := wpIn_region_any hm (anyIn_of_any hd hQ _ _ _ _ h)
theorem results_tmpc {fn : Func} {r : Tmp} (h : fn.results = #[.tmp r]) (tmps : Array Value) (w : World) : (results fn tmps).run Try.prog w = .ok (tmps.getD r undef) w := by
  simp [results, h, go_sem]
theorem own_put {w : World} {base e size n D : Nat} {v : Value} {xs : List Value} {o : Obj} (h : w.ownsRow base e size v n xs) (hD : w.heap[D]? = some (.deferred (some []))) : (w.putObj D o).ownsRow base e size v n xs := h.kept (row := some D) ⟨rfl, rfl, rfl, by simp [World.putObj], fun j _ hj => World.putObj_heap_other (fun e => hj (by rw [e]))⟩ (by
  cases hv : v.ownBlock with
  | none => exact .inl rfl
  | some g =>
    right
    intro e1
    cases e1
    rcases h.2 with ⟨e1, _⟩ | ⟨g2, cap, cur, e1, _, hgg, _⟩
    · rw [e1] at hv; cases hv
    · rw [e1] at hv
      have e2 : g2 = D := by simpa [Value.ownBlock] using hv
      rw [e2, hD] at hgg
      cases hgg)
theorem below_putObj {n : Nat} {w W : World} (h : Below n w W) (D : Nat) (hD : n ≤ D) (o : Obj) : Below n w (W.putObj D o) := ⟨h.1, h.2, h.3, by simpa [World.putObj] using h.4, fun k hk => (World.putObj_heap_other (by omega)).trans (h.5 k hk)⟩
/-- what has come behind k rounds -/
def TabI (W0 : World) (M : List C) (s : Nat) (k : Nat) (W : World) : Prop :=
  Only (fun i => i = s) W0 W ∧ ∃ v, CellAt W s 37 v ∧ W.ownsRow W0.heap.size 85 4 v k (cellsL (M.take k))
theorem tabI_own {W0 : World} {M : List C} {s : Nat} : OwnFrom W0.heap.size (TabI W0 M s) := fun k W W' row hI hg hr => by
  obtain ⟨h1, v, h2, h3⟩ := hI
  refine ⟨h1.grown hg (fun r e => .inl (hr r e).1), v, kept_cells h2 hg hr, h3.kept hg ?_⟩
  cases hv : v.ownBlock with
  | none => exact .inl rfl
  | some g =>
    right
    intro e
    obtain ⟨_, o, ho, hc⟩ := hr g e.symm
    rcases h3.2 with ⟨e1, _⟩ | ⟨g2, cap, cur, e1, _, hgg, _⟩
    · rw [e1] at hv; cases hv
    · rw [e1] at hv
      have e2 : g2 = g := by simpa [Value.ownBlock] using hv
      rw [e2, ho] at hgg
      cases hgg
      cases hc
def TabA (tmps : Nat → Nat → Array Value) (W0 : World) (M : List C) (k : Nat) (a' : Act) (W : World) : Prop :=
  ∃ Bx, W0.heap.size ≤ Bx ∧ At W Bx (ck M k) ∧ a' = { tmps := tmps k Bx, defers := [] }
theorem tabA_own {tmps : Nat → Nat → Array Value} {W0 : World} {M : List C} {B : Nat} (k : Nat) (a' : Act) : OwnFrom B (fun (_ : Unit) W => TabA tmps W0 M k a' W) := fun _ W W' row hI hg hr => by
  obtain ⟨Bx, h1, h2, h3⟩ := hI
  exact ⟨Bx, h1, kept_cells h2 hg hr, h3⟩
section
set_option maxRecDepth 100000
set_option maxHeartbeats 4000000
end
end Go.Proofs.Ytdniakoedgohkaa.Cps
/- Which checkpoints are dropped: the program's closures. -/
namespace Go.Proofs.Ytdniakoedgohkaa.Cps
open Go.RowKit
attribute [local go_sem] Oper.semAt_some
set_option linter.unusedVariables false
set_option linter.unusedSimpArgs false
section
set_option maxRecDepth 100000
set_option maxHeartbeats 2000000
end
end Go.Proofs.Ytdniakoedgohkaa.Cps
