/- The iterator over a disk's loose writes hands out each, with its number, to any loop body that leaves their block alone. -/
import Derived.RangeFuncBound
import Derived.RangeFuncCalls
import Derived.RangeFuncLeaves
import Derived.OwnWalkIn
import Derived.TacticsInMore
import Derived.LoopNIn
import Derived.LoopIn
import Derived.Test.YtbidhiefgbddeaaBagSeq
import Derived.Test.YtbidhiefgbddeaaDiskWrite
namespace Go.Proofs.Ytbidhiefgbddeaa.Disk
open Go.RowKit Go.Shelf
attribute [local go_sem] Oper.semAt_some
set_option linter.unusedVariables false

/-- a slice's block lies as it lay -/
def SameO (v : Value) (W W' : World) : Prop := ∀ b, v.ownBlock = some b → W'.heap[b]? = W.heap[b]?
theorem SameO.refl (v : Value) (W : World) : SameO v W W := fun _ _ => rfl
theorem SameO.trans {v : Value} {A B C : World} (h : SameO v A B) (k : SameO v B C) : SameO v A C := fun b hb => (k b hb).trans (h b hb)
/-- what the k-th round is handed -/
def looseEnc (L : List Wr) (k : Nat) : Array Value := #[.int .i64 (k : Int), .agg #[.int .i64 ((L.getD k (0, ByteArray.empty)).1 : Int), .string (L.getD k (0, ByteArray.empty)).2]]

set_option maxRecDepth 100000 in
set_option maxHeartbeats 2000000 in
theorem loose1_in (n : Nat) (hn : 1 ≤ n) (l Bs p : Nat) (L : List Wr) (v : Value) (hL : L.length ≤ 4611686018427387904) (J Jx : Nat → World → Prop) (B0 : Nat) (hJ : AbidesFrom B0 J)
    (hY : ∀ k W, J k W → k < L.length → YieldAt Fence.wide (n - 1) Try.prog l (looseEnc L k) W fun e W' => (e = .returned (.bool true) ∧ J (k + 1) W' ∧ SameO v W W') ∨ (e = .returned (.bool false) ∧ Jx k W'))
    (W : World) (hBs : W.cell? ⟨Bs, 0, none⟩ = some (.pointer (some ⟨p, 0, none⟩))) (c2 : W.cell? ⟨p, 2, none⟩ = some v) (hrow : W.ownsRow 0 78 2 v L.length (cellsW L)) (h0 : J 0 W) :
    CallsIn Fence.wide n Try.prog 53 #[.func (.yield l) #[] #[], .pointer (some ⟨Bs, 0, none⟩)] W fun e W' => (∃ v, e = .returned v) ∧ (J L.length W' ∨ ∃ k, k < L.length ∧ Jx k W') := by
  obtain ⟨A, c, rfl⟩ : ∃ A c, v = .slice A L.length c := by
    rcases hrow.2 with ⟨rfl, h⟩ | ⟨g, cap, _, rfl, _⟩
    · exact ⟨_, _, by rw [h]⟩
    · exact ⟨_, _, rfl⟩
  refine callsIn_of_wp Try.func53 rfl trivial ?_ rfl
  simp only [Try.ntmps53, List.size_toArray, List.length_cons, List.length_nil, Nat.reduceAdd, Nat.reduceSub, Array.replicate_succ, Array.replicate_zero, List.push_toArray, List.append_toArray, List.nil_append, List.cons_append]
  gi_wp2
  gi_loopw [10] (fun i wr => ∃ k : Nat, k ≤ L.length ∧ i = .int .i64 k ∧ J k wr ∧ SameO (.slice A L.length c) W wr) (fun i _ => L.length - (intOf i).toNat)
  case atStart => exact ⟨0, Nat.zero_le _, rfl, h0, SameO.refl _ _⟩
  case round =>
    obtain ⟨k, hk, rfl, hJk, hS⟩ := hrel
    have hrx := own_same hrow (fun g hg => hS g hg)
    by_cases hlt : k < L.length
    · obtain ⟨x, hx⟩ : ∃ x, L[k]? = some x := ⟨_, List.getElem?_eq_getElem hlt⟩
      have hget : L.getD k (0, ByteArray.empty) = x := by rw [List.getD_eq_getElem?_getD, hx]; rfl
      have hc := cellsW_at L k x hx
      obtain ⟨g, cap, hv, _, _⟩ := hrx.form (by omega)
      obtain ⟨rfl, rfl⟩ : A = some ⟨g, 0, none⟩ ∧ c = cap := by simpa using hv
      have d0 := (hrx.cellAt (k * 2) (by omega)).trans hc.1
      have d1 := (hrx.cellAt (k * 2 + 1) (by omega)).trans hc.2
      have hY' := hY k
      unfold looseEnc at hY'
      rw [hget] at hY'
      have hJa : J k (wr.alloc (.cells #[.int .i64 (x.1 : Int), .string x.2] 78)) := hJ _ _ _ none hJk (World.grownBy_alloc wr _ _) (fun r e => by cases e)
      have hSa : SameO (.slice (some ⟨g, 0, none⟩) L.length c) W (wr.alloc (.cells #[.int .i64 (x.1 : Int), .string x.2] 78)) := hS.trans (fun b hb => Below.heap_alloc wr _ b (hrx.lt b hb).2)
      obtain ⟨fn, tmps, assign, body, hy, hR⟩ := hY' _ hJa hlt
      clear hY hY' hc hx hget hv hrx hJa hJk hS
      gi_wp2
      refine hR.mono ?_
      rintro e W3 (⟨rfl, hJ3, hk3⟩ | ⟨rfl, hJx3⟩)
      · gi_wp2
        go_roundw
        case rel => exact ⟨k + 1, by omega, by go_num, hJ3, hSa.trans hk3⟩
        case measure => simp [intOf]; omega
      · gi_wp2
        refine bodyPost_ret (results_none rfl _ _ _) rfl ?_
        exact ⟨⟨_, rfl⟩, .inr ⟨k, hlt, hJx3⟩⟩
    · obtain rfl : L.length = k := by omega
      gi_wp2
      go_end0
      exact ⟨⟨_, rfl⟩, .inl hJk⟩

theorem loose_steps (n : Nat) (hn : 1 ≤ n) (Bs p : Nat) (L : List Wr) (v : Value) (hL : L.length ≤ 4611686018427387904) (w : World)
    (hBs : w.cell? ⟨Bs, 0, none⟩ = some (.pointer (some ⟨p, 0, none⟩))) (c2 : w.cell? ⟨p, 2, none⟩ = some v) (hrow : w.ownsRow 0 78 2 v L.length (cellsW L)) :
    SeqSteps Fence.wide n Try.prog 53 #[.pointer (some ⟨Bs, 0, none⟩)] (looseEnc L) (SameO v) L.length w := fun l J Jx W hW hJ _ hY h0 => by
  have h1 := (hW.cell (p := ⟨Bs, 0, none⟩) (World.block_lt_of_cell? _ _ hBs)).trans hBs
  have h2 := (hW.cell (p := ⟨p, 2, none⟩) (World.block_lt_of_cell? _ _ c2)).trans c2
  exact loose1_in n hn l Bs p L v hL J Jx _ hJ hY W h1 h2 (own_same hrow fun g hg => hW.block g (hrow.lt g hg).2) h0

theorem loose_in (n p : Nat) (w : World) :
    CallsIn Fence.wide n Try.prog 45 #[.pointer (some ⟨p, 0, none⟩)] w fun e w' => e = .returned (.func (.func 53) #[] #[.pointer (some ⟨w.heap.size, 0, none⟩)]) ∧ w.alloc (.cells #[.pointer (some ⟨p, 0, none⟩)] 24) = w' := by
  refine callsIn_of_wp Try.func45 rfl trivial ?_ rfl
  simp only [Try.ntmps45, List.size_toArray, List.length_cons, List.length_nil, Nat.reduceAdd, Nat.reduceSub, Array.replicate_succ, Array.replicate_zero, List.push_toArray, List.append_toArray, List.nil_append, List.cons_append]
  gi_wp2
  go_ret
  exact ⟨rfl, rfl⟩
end Go.Proofs.Ytbidhiefgbddeaa.Disk
