/- The library's iterator over a slice from its end on, at the steps of a way: it hands out each step, the last one first, to any loop body that leaves the slice alone. -/
import Derived.RangeFuncBound
import Derived.RangeFuncCalls
import Derived.RangeFuncLeaves
import Derived.Shelf.Abstract
import Derived.Shelf.RegionOpen
import Derived.OwnWalkIn
import Derived.TacticsInMore
import Derived.LoopNIn
import Derived.LoopIn
import Derived.Test.YtbelgkccfajjoaaBagSeq
import Derived.Test.YtbelgkccfajjoaaBagWayS
namespace Go.Proofs.Ytbelgkccfajjoaa.S
open Go.RowKit Go.Shelf
attribute [local go_sem] Oper.semAt_some
set_option linter.unusedVariables false

/-- the box and the row of a slice lie as they lay -/
def SameV (Bs : Nat) (v : Value) (W W' : World) : Prop := ∀ b, b = Bs ∨ v.ownBlock = some b → W'.heap[b]? = W.heap[b]?
theorem SameV.refl (Bs : Nat) (v : Value) (W : World) : SameV Bs v W W := fun _ _ => rfl
theorem SameV.trans {Bs : Nat} {v : Value} {A B C : World} (h : SameV Bs v A B) (k : SameV Bs v B C) : SameV Bs v A C := fun b hb => (k b hb).trans (h b hb)
theorem SameV.row {Bs : Nat} {v : Value} {A B : World} {base e size n : Nat} {xs : List Value} (h : SameV Bs v A B) (hr : A.ownsRow base e size v n xs) : B.ownsRow base e size v n xs := by
  refine ⟨hr.1, ?_⟩
  rcases hr.2 with hn | ⟨g, cap, cur, rfl, hb, hg, rest⟩
  · exact .inl hn
  · exact .inr ⟨g, cap, cur, rfl, hb, (h g (.inr rfl)).trans hg, rest⟩
theorem SameV.cell {Bs : Nat} {v u : Value} {A B : World} (h : SameV Bs v A B) (hc : A.cell? ⟨Bs, 0, none⟩ = some u) : B.cell? ⟨Bs, 0, none⟩ = some u := (World.cell?_of_block (w := A) (h Bs (.inl rfl))).trans hc

def stepV (s : Nat × Nat) : Value := .agg #[ptrV s.1, .int .i64 (s.2 : Int)]
/-- what the k-th round is handed -/
def backEnc (L : List (Nat × Nat)) (k : Nat) : Array Value := #[.int .i64 ((L.length : Int) - 1 - k), stepV (L.reverse.getD k (0, 0))]
theorem cellsS_at (l : List (Nat × Nat)) (k : Nat) (x : Nat × Nat) (h : l[k]? = some x) : (cellsS l)[k * 2]? = some (ptrV x.1) ∧ (cellsS l)[k * 2 + 1]? = some (.int .i64 (x.2 : Int)) := by
  induction l generalizing k with
  | nil => simp at h
  | cons y l ih =>
    cases k with
    | zero => obtain rfl : y = x := by simpa using h
              exact ⟨rfl, rfl⟩
    | succ k =>
      have := ih k (by simpa using h)
      rw [show (k + 1) * 2 = k * 2 + 2 from by omega]
      exact this

def BackAt (L : List (Nat × Nat)) (k : Nat) (i : Value) : Prop := (∃ m : Nat, i = .int .i64 (m : Int) ∧ m + 1 + k = L.length) ∨ (i = .int .i64 (-1) ∧ k = L.length)
theorem backAt_start (L : List (Nat × Nat)) : BackAt L 0 (.int .i64 ((L.length : Int) - 1)) := by
  cases L with
  | nil => exact .inr ⟨rfl, rfl⟩
  | cons x l => exact .inl ⟨l.length, by simp, by simp⟩

set_option maxRecDepth 100000 in
set_option maxHeartbeats 2000000 in
theorem back1_in (F : Fence) (n : Nat) (h7 : F.fn 80) (hro : F.round = none) (hn : 1 ≤ n) (l Bs : Nat) (L : List (Nat × Nat)) (v : Value) (base : Nat) (hL : L.length ≤ 2000) (J Jx : Nat → World → Prop)
    (hY : ∀ k W, J k W → k < L.length → YieldAt F (n - 1) Try.prog l (backEnc L k) W fun e W' => (e = .returned (.bool true) ∧ J (k + 1) W' ∧ SameV Bs v W W') ∨ (e = .returned (.bool false) ∧ Jx k W'))
    (W : World) (hBs : W.cell? ⟨Bs, 0, none⟩ = some v) (hrow : W.ownsRow base 95 2 v L.length (cellsS L)) (h0 : J 0 W) :
    CallsIn F n Try.prog 80 #[.func (.yield l) #[] #[], .pointer (some ⟨Bs, 0, none⟩)] W fun e W' => (∃ v, e = .returned v) ∧ (J L.length W' ∨ ∃ k, k < L.length ∧ Jx k W') := by
  obtain ⟨A, c, rfl⟩ : ∃ A c, v = .slice A L.length c := by
    rcases hrow.2 with ⟨rfl, h⟩ | ⟨g, cap, _, rfl, _⟩
    · exact ⟨_, _, by rw [h]⟩
    · exact ⟨_, _, rfl⟩
  have HB := Lib.hid (backAt_start L)
  refine callsIn_of_wp Try.func80 rfl h7 ?_ hro
  simp only [Try.ntmps80, List.size_toArray, List.length_cons, List.length_nil, Nat.reduceAdd, Nat.reduceSub, Array.replicate_succ, Array.replicate_zero, List.push_toArray, List.append_toArray, List.nil_append, List.cons_append]
  gi_wp2
  gi_loopw [3] (fun i wr => ∃ k : Nat, BackAt L k i ∧ J k wr ∧ SameV Bs (.slice A L.length c) W wr) (fun i _ => (intOf i + 1).toNat)
  case atStart => exact ⟨0, HB.out, h0, SameV.refl _ _ _⟩
  case round =>
    obtain ⟨k, hba, hJ, hS⟩ := hrel
    have hcx := hS.cell hBs
    have hrx := hS.row hrow
    rcases hba with ⟨m, rfl, hm⟩ | ⟨rfl, hk⟩
    · obtain ⟨s, hs⟩ : ∃ s, L[m]? = some s := ⟨_, List.getElem?_eq_getElem (by omega)⟩
      have hrev : L.reverse.getD k (0, 0) = s := by
        rw [List.getD_eq_getElem?_getD, List.getElem?_reverse (by omega), show L.length - 1 - k = m from by omega, hs]; rfl
      have hc := cellsS_at L m s hs
      obtain ⟨g, cap, hv, _, _⟩ := hrx.form (by omega)
      obtain ⟨rfl, rfl⟩ : A = some ⟨g, 0, none⟩ ∧ c = cap := by simpa using hv
      have d0 := (hrx.cellAt (m * 2) (by omega)).trans hc.1
      have d1 := (hrx.cellAt (m * 2 + 1) (by omega)).trans hc.2
      obtain ⟨fn, tmps, assign, body, hy, hR⟩ := hY k wr hJ (by omega)
      have hi : ((L.length : Int) - 1 - k) = (m : Int) := by omega
      unfold backEnc at hy
      rw [hrev, hi] at hy
      unfold stepV ptrV at hy
      unfold ptrV at d0
      have hml : m < L.length := by omega
      have HM := Lib.hid hm
      clear hm hc hs hrev hi hv
      gi_wp2
      refine hR.mono ?_
      rintro e W3 (⟨rfl, hJ3, hk3⟩ | ⟨rfl, hJx3⟩)
      · cases m with
        | zero =>
          gi_wp2
          go_roundw
          case rel => exact ⟨k + 1, .inr ⟨rfl, by have := HM.out; omega⟩, hJ3, hS.trans hk3⟩
          case measure => simp [intOf]
        | succ m =>
          gi_wp2
          go_roundw
          case rel => exact ⟨k + 1, .inl ⟨m, by simp, by have := HM.out; omega⟩, hJ3, hS.trans hk3⟩
          case measure => simp [intOf]; omega
      · gi_wp2
        refine bodyPost_ret (results_none rfl _ _ _) rfl ?_
        exact ⟨⟨_, rfl⟩, .inr ⟨k, by have := HM.out; omega, hJx3⟩⟩
    · have HK := Lib.hid hk
      clear hk
      gi_wp2
      go_end0
      exact ⟨⟨_, rfl⟩, .inl (by rw [← HK.out]; exact hJ)⟩

theorem back_steps (F : Fence) (n : Nat) (h7 : F.fn 80) (hro : F.round = none) (hn : 1 ≤ n) (Bs : Nat) (L : List (Nat × Nat)) (v : Value) (base : Nat) (hL : L.length ≤ 2000) (w : World)
    (hBs : w.cell? ⟨Bs, 0, none⟩ = some v) (hrow : w.ownsRow base 95 2 v L.length (cellsS L)) :
    SeqSteps F n Try.prog 80 #[.pointer (some ⟨Bs, 0, none⟩)] (backEnc L) (SameV Bs v) L.length w := fun l J Jx W hW _ _ hY h0 => by
  have hlt := World.block_lt_of_cell? _ _ hBs
  have hs : SameV Bs v w W := fun b hb => hW.block b (by
    rcases hb with rfl | hb
    · exact hlt
    · exact (hrow.lt b hb).2)
  exact back1_in F n h7 hro hn l Bs L v base hL J Jx hY W (hs.cell hBs) (hs.row hrow) h0

theorem back_in (F : Fence) (n : Nat) (h7 : F.fn 66) (hro : F.round = none) (v : Value) (hv : ∃ a l c, v = .slice a l c) (w : World) :
    CallsIn F n Try.prog 66 #[v] w fun e w' => e = .returned (.func (.func 80) #[] #[.pointer (some ⟨w.heap.size, 0, none⟩)]) ∧ w.alloc (.cells #[v] 91) = w' := by
  obtain ⟨a, l, c, rfl⟩ := hv
  refine callsIn_of_wp Try.func66 rfl h7 ?_ hro
  simp only [Try.ntmps66, List.size_toArray, List.length_cons, List.length_nil, Nat.reduceAdd, Nat.reduceSub, Array.replicate_succ, Array.replicate_zero, List.push_toArray, List.append_toArray, List.nil_append, List.cons_append]
  gi_wp2
  go_ret
  exact ⟨rfl, rfl⟩

end Go.Proofs.Ytbelgkccfajjoaa.S
