/- The library's Values hands out a table's checkpoints. -/
import Derived.RangeFuncBound
import Derived.RangeFuncCalls
import Derived.RangeFuncLeaves
import Derived.OwnWalkIn
import Derived.TacticsInMore
import Derived.LoopNIn
import Derived.LoopIn
import Derived.Shelf.Abstract
import Derived.Test.YtoedjemelblpaaaBagSeq
import Derived.Test.YtoedjemelblpaaaCpsFind
namespace Go.Proofs.Ytoedjemelblpaaa.Cps
open Go.RowKit
attribute [local go_sem] Oper.semAt_some
set_option linter.unusedVariables false
set_option linter.unusedSimpArgs false

/-- the blocks below n lie as they lay -/
def Kept (n : Nat) (W W' : World) : Prop := (∀ b, b < n → W'.heap[b]? = W.heap[b]?) ∧ W.heap.size ≤ W'.heap.size
theorem Kept.refl (n : Nat) (W : World) : Kept n W W := ⟨fun _ _ => rfl, Nat.le_refl _⟩
theorem Kept.trans {n : Nat} {A B C : World} (h : Kept n A B) (k : Kept n B C) : Kept n A C := ⟨fun b hb => (k.1 b hb).trans (h.1 b hb), Nat.le_trans h.2 k.2⟩
theorem Kept.below {n : Nat} {W W' : World} (h : Below W.heap.size W W') (hn : n ≤ W.heap.size) : Kept n W W' := ⟨fun b hb => h.block b (by omega), h.size⟩
theorem Kept.cell {n : Nat} {W W' : World} (h : Kept n W W') {p : Addr} (hp : p.block < n) : W'.cell? p = W.cell? p := World.cell?_of_block (w := W) (h.1 p.block hp)
theorem Kept.cell_some {w W' : World} (h : Kept w.heap.size w W') {p : Addr} {u : Value} (hc : w.cell? p = some u) : W'.cell? p = some u := (h.cell (World.block_lt_of_cell? _ _ hc)).trans hc
theorem kept_t {n : Nat} {A B C : World} (h : Kept n A B) (k : Kept n B C) : Kept n A C := h.trans k
theorem kept_b {n : Nat} {w : World} (hn : n ≤ w.heap.size) (W : World) (l : Nat) (o o' : Obj) (hl : w.heap.size ≤ l) (_ : W.heap[l]? = some o) (_ : o.isCells = false) (_ : o.isWalk = false) : Kept n W (W.putObj l o') :=
  ⟨fun b hb => World.putObj_heap_other (by omega), by simp [World.putObj]⟩
theorem Chs.kept {w W' : World} {v : Value} {L : List C} (h : Chs w v L) (hk : Kept w.heap.size w W') : Chs W' v L := h.keep fun g o k c e hk0 => hk.1 g (by
  subst e
  obtain ⟨a, cap, e, _⟩ := h.parts
  cases e
  exact h.lt hk0)
theorem At.kept {W W' : World} {b : Nat} {s : C} (h : At W b s) (hk : Kept W.heap.size W W') : At W' b s := (hk.1 b h.lt).trans h
theorem grown_of_below {W W' : World} (h : Below W.heap.size W W') : W.grownBy W' none := ⟨h.1, h.2, h.3, h.4, fun k hk _ => h.5 k hk⟩

/-- what the k-th round is handed -/
def encL (L : List C) (k : Nat) : Array Value := #[(ck L k).val]

section
set_option maxRecDepth 100000
set_option maxHeartbeats 4000000
theorem values1_in (n : Nat) (hn : 1 ≤ n) (l Bx : Nat) (v : Value) (L : List C) (w : World) (J Jx : Nat → World → Prop) (B0 : Nat) (hJ : AbidesFrom B0 J)
    (hY : ∀ k W, J k W → k < L.length → YieldAt Fence.wide (n - 1) Try.prog l (encL L k) W fun e W' => (e = .returned (.bool true) ∧ J (k + 1) W' ∧ Kept w.heap.size W W') ∨ (e = .returned (.bool false) ∧ Jx k W'))
    (W : World) (hk : Kept w.heap.size w W) (hbx : w.cell? ⟨Bx, 0, none⟩ = some v) (hL : Chs w v L) (h0 : J 0 W) :
    CallsIn Fence.wide n Try.prog 57 #[.func (.yield l) #[] #[], .pointer (some ⟨Bx, 0, none⟩)] W fun e W' => (∃ v, e = .returned v) ∧ (J L.length W' ∨ ∃ k, k < L.length ∧ Jx k W') := by
  have hfn : ∀ f, Fence.wide.fn f := fun _ => trivial
  have hJa : ∀ k W1 W2, J k W1 → Below W1.heap.size W1 W2 → J k W2 := fun k W1 W2 h hB => hJ _ _ _ none h (grown_of_below hB) (fun r e => by cases e)
  have HA := Lib.hid hJa
  have HY := Lib.hid hY
  have HL := Lib.hid (fun W' (h : Kept w.heap.size w W') => hL.kept h)
  have hbW := hk.cell_some hbx
  obtain ⟨a, cap, rfl, hcap1, hcap2⟩ := hL.parts
  obtain ⟨N, hN⟩ : ∃ N, L.length = N := ⟨_, rfl⟩
  simp only [hN] at HY HL hcap1 hbW ⊢
  have HN := Lib.hid hN
  clear hJa hY hJ hL hbx hN
  refine callsIn_of_wp Try.func57 rfl trivial ?_ rfl
  simp only [Try.ntmps57, List.size_toArray, List.length_cons, List.length_nil, Nat.reduceAdd, Nat.reduceSub, Array.replicate_succ, Array.replicate_zero, List.push_toArray, List.append_toArray, List.nil_append, List.cons_append]
  gi_wp2
  gi_loopw [4, 7] (fun _ i wr => ∃ k : Nat, k ≤ N ∧ i = .int .i64 (k : Int) ∧ J k wr ∧ Kept w.heap.size w wr) (fun _ i _ => N - (intOf i).toNat)
  case atStart => exact ⟨0, by omega, rfl, h0, hk⟩
  case round =>
    obtain ⟨k, hkN, rfl, hJk, hS⟩ := hrel
    by_cases hltk : k < N
    · obtain ⟨b, off, cap2, e2, c0, c1, c2, c3⟩ := (HL.out _ hS).at (k := k) (by rw [HN.out]; exact hltk)
      rw [HN.out] at e2
      cases e2
      have hAt := At.new wr (ck L k)
      have hB1 := below_new wr (boxO (ck L k))
      have hJ1 := HA.out _ _ _ hJk hB1
      have hS1 := hS.trans (Kept.below hB1 hS.2)
      obtain ⟨fn, tmps, assign, body, hy, hR⟩ := HY.out k _ hJ1 hltk
      unfold encL at hy
      obtain ⟨d0, d1, d2, d3⟩ := hAt.c
      have HS1 := Lib.hid hS1
      obtain ⟨s, hs⟩ : ∃ s, ck L k = s := ⟨_, rfl⟩
      rw [hs] at c0 c1 c2 c3 d0 d1 d2 d3 HS1 hy hR
      clear hs hAt hJk hS hB1 hS1 hJ1
      obtain ⟨ncp, ti, sn, ro⟩ := s
      unfold boxO at HS1 d0 d1 d2 d3 hy hR
      unfold C.val at hy
      dsimp only at c0 c1 c2 c3 HS1 d0 d1 d2 d3 hy hR
      gi_wp2
      refine hR.mono ?_
      rintro e W3 (⟨rfl, hJ3, hk3⟩ | ⟨rfl, hJx3⟩)
      · gi_wp2
        go_roundw
        case rel => exact ⟨k + 1, by omega, by go_num, hJ3, HS1.out.trans hk3⟩
        case measure => simp [intOf]; omega
      · gi_wp2
        refine bodyPost_ret (results_none rfl _ _ _) rfl ?_
        exact ⟨⟨_, rfl⟩, .inr ⟨k, hltk, hJx3⟩⟩
    · obtain rfl : N = k := by omega
      gi_wp2
      go_end0
      exact ⟨⟨_, rfl⟩, .inl hJk⟩
theorem values_any (a : Option Addr) (N cap : Nat) (w : World) :
    Calls Try.prog 37 #[.slice a N cap] w fun e w' => e = .returned (.func (.func 57) #[] #[.pointer (some ⟨w.heap.size, 0, none⟩)]) ∧ w.alloc (.cells #[.slice a N cap] 22) = w' := by
  go_enter Try.func37, Try.ntmps37
  go_wp2
  go_ret
  exact ⟨rfl, rfl⟩
/-- an iterator, as what tableOf is handed -/
def IterOf (gf : Nat) (lb : Array Value) (M : List C) (m : Nat) (W0 : World) : Prop := SeqSteps Fence.wide 8 Try.prog gf lb (encL M) (Kept m) M.length W0
theorem values_iter (Bx : Nat) (v : Value) (L : List C) (w : World) (hbx : w.cell? ⟨Bx, 0, none⟩ = some v) (hL : Chs w v L) (W0 : World) (hB : Below w.heap.size w W0) : IterOf 57 #[.pointer (some ⟨Bx, 0, none⟩)] L w.heap.size W0 := by
  intro l J Jx W' hB' hJ _ hY h0
  exact values1_in 8 (by decide) l Bx v L w J Jx _ hJ hY W' (Kept.below (below_th hB hB') (Nat.le_refl _)) hbx hL h0
end
end Go.Proofs.Ytoedjemelblpaaa.Cps
