/- The iterator of the program's package dat hands out the places that are not free, each with its number. -/
import Derived.RangeFuncBound
import Derived.RangeFuncCalls
import Derived.RangeFuncLeaves
import Derived.OwnWalkIn
import Derived.TacticsInMore
import Derived.LoopNIn
import Derived.LoopIn
import Derived.Shelf.Abstract
import Derived.Test.YthfcjbfldokanaaBagSeq
import Derived.Test.YthfcjbfldokanaaDatRight
namespace Go.Proofs.Ythfcjbfldokanaa.Dat
open Go.RowKit
attribute [local go_sem] Oper.semAt_some
set_option linter.unusedVariables false

/-- the blocks bs lie as they lay -/
def Same (bs : List Nat) (W W' : World) : Prop := ∀ b, b ∈ bs → W'.heap[b]? = W.heap[b]?
theorem Same.refl (bs : List Nat) (W : World) : Same bs W W := fun _ _ => rfl
theorem Same.trans {bs : List Nat} {A B C : World} (h : Same bs A B) (k : Same bs B C) : Same bs A C := fun b hb => (k b hb).trans (h b hb)
theorem Same.below {bs : List Nat} {W W' : World} {n : Nat} (hb : Below n W W') (h : ∀ b, b ∈ bs → b < n) : Same bs W W' := fun b hh => hb.block b (h b hh)
theorem Same.cell {bs : List Nat} {W W' : World} (h : Same bs W W') {p : Addr} (hp : p.block ∈ bs) : W'.cell? p = W.cell? p := World.cell?_of_block (w := W) (h p.block hp)
theorem sameK_t {bs : List Nat} {A B C : World} (h : Same bs A B) (k : Same bs B C) : Same bs A C := h.trans k
theorem sameK_b {bs : List Nat} {w : World} (hn : ∀ b, b ∈ bs → b < w.heap.size) (W : World) (l : Nat) (o o' : Obj) (hl : w.heap.size ≤ l) (_ : W.heap[l]? = some o) (_ : o.isCells = false) (_ : o.isWalk = false) : Same bs W (W.putObj l o') :=
  fun b hb => World.putObj_heap_other (by have := hn b hb; omega)
theorem Trs.same {W W' : World} {b off n cap : Nat} {L : List T} (h : Trs W (.slice (some ⟨b, off, none⟩) n cap) L) (hs : Same [b] W W') : Trs W' (.slice (some ⟨b, off, none⟩) n cap) L := by
  obtain ⟨a1, cap1, e, h2, h3, h4, h5⟩ := h
  refine ⟨a1, cap1, e, h2, h3, h4, fun hn => ?_⟩
  obtain ⟨b2, off2, e2, hc⟩ := h5 hn
  cases e
  cases e2
  exact ⟨_, _, rfl, fun j u hj => (hs.cell (p := ⟨b, off + j, none⟩) (by simp)).trans (hc j u hj)⟩
theorem grown_of_below {W W' : World} (h : Below W.heap.size W W') : W.grownBy W' none := ⟨h.1, h.2, h.3, h.4, fun k hk _ => h.5 k hk⟩

/-- what the k-th round is handed -/
def enc (L : List T) (k : Nat) : Array Value := #[.int .i64 (ix L k : Nat), (tr L (ix L k)).val]
theorem enc_at {L : List T} {k : Nat} (hk : k < L.length) (ho : usedP L k) : enc L (cand L k).length = #[.int .i64 (k : Nat), (tr L k).val] ∧ (cand L k).length < (cnd L).length := by
  obtain ⟨e, h⟩ := ix_at hk ho
  unfold enc
  rw [e]
  exact ⟨rfl, h⟩

section
set_option maxRecDepth 100000
set_option maxHeartbeats 4000000
theorem used1_in (n : Nat) (hn : 1 ≤ n) (l Bx b off cap N : Nat) (L : List T) (hN : L.length = N) (hN0 : 0 < N) (J Jx : Nat → World → Prop) (B0 : Nat) (hJ : AbidesFrom B0 J)
    (hY : ∀ k W, J k W → k < (cnd L).length → YieldAt Fence.wide (n - 1) Try.prog l (enc L k) W fun e W' => (e = .returned (.bool true) ∧ J (k + 1) W' ∧ Same [b] W W') ∨ (e = .returned (.bool false) ∧ Jx k W'))
    (W : World) (hbx : W.cell? ⟨Bx, 0, none⟩ = some (.slice (some ⟨b, off, none⟩) N cap)) (hL : Trs W (.slice (some ⟨b, off, none⟩) N cap) L) (h0 : J 0 W) :
    CallsIn Fence.wide n Try.prog 52 #[.func (.yield l) #[] #[], .pointer (some ⟨Bx, 0, none⟩)] W fun e W' => (∃ v, e = .returned v) ∧ (J (cnd L).length W' ∨ ∃ k, k < (cnd L).length ∧ Jx k W') := by
  have hfn : ∀ f, Fence.wide.fn f := fun _ => trivial
  have hJa : ∀ k W1 W2, J k W1 → Below W1.heap.size W1 W2 → J k W2 := fun k W1 W2 h hB => hJ _ _ _ none h (grown_of_below hB) (fun r e => by cases e)
  have hlt := hL.lt (by omega)
  have HA := Lib.hid hJa
  have HY := Lib.hid hY
  have HL := Lib.hid (fun W' (h : Same [b] W W') k (hk : k < N) => (hL.same h).get hN hk)
  have HE := Lib.hid (fun k (hk : k < N) => enc_at (L := L) (k := k) (by omega))
  have HC := Lib.hid (fun k => cand_succ L k)
  have HD : Hid (cand L N = cnd L) := by unfold Hid cnd; rw [hN]
  have hcap : N ≤ cap ∧ cap ≤ 9223372036854775807 := by
    obtain ⟨a1, cap1, e, h1, h2⟩ := hL.parts
    cases e
    omega
  obtain ⟨hcap1, hcap2⟩ := hcap
  clear hJa hY hJ hL hN
  refine callsIn_of_wp Try.func52 rfl trivial ?_ rfl
  simp only [Try.ntmps52, List.size_toArray, List.length_cons, List.length_nil, Nat.reduceAdd, Nat.reduceSub, Array.replicate_succ, Array.replicate_zero, List.push_toArray, List.append_toArray, List.nil_append, List.cons_append]
  gi_wp2
  gi_loopw [3, 4, 7] (fun _ _ i wr => ∃ k : Nat, k ≤ N ∧ i = .int .i64 (k : Int) ∧ J (cand L k).length wr ∧ Same [b] W wr ∧ b < wr.heap.size) (fun _ _ i _ => N - (intOf i).toNat)
  case atStart => exact ⟨0, by omega, rfl, h0, Same.refl _ _, hlt⟩
  case round =>
    obtain ⟨k, hk, rfl, hJk, hS, hbl⟩ := hrel
    by_cases hltk : k < N
    · obtain ⟨c0, c1, c2⟩ := HL.out _ hS k hltk
      have hAt := At.new wr (tr L k)
      have hJ1 : ∀ W', Below (wr.alloc (boxO (tr L k))).heap.size (wr.alloc (boxO (tr L k))) W' → J (cand L k).length W' := fun W' h => HA.out _ _ _ hJk (below_th (below_new wr (boxO (tr L k))) h)
      have hS1 : ∀ W', Below (wr.alloc (boxO (tr L k))).heap.size (wr.alloc (boxO (tr L k))) W' → Same [b] W W' ∧ b < W'.heap.size := fun W' h => ⟨hS.trans (Same.below (below_th (below_new wr (boxO (tr L k))) h) (by simpa using hbl)), by have := (below_th (below_new wr (boxO (tr L k))) h).size; omega⟩
      obtain ⟨d0, d1, d2⟩ := hAt.c
      have hX : ∀ W', Below (wr.alloc (boxO (tr L k))).heap.size (wr.alloc (boxO (tr L k))) W' → W'.cell? ⟨wr.heap.size, 0, none⟩ = some (.int .u32 (tr L k).phys) ∧ W'.cell? ⟨wr.heap.size, 1, none⟩ = some (.int .u64 (tr L k).start) ∧ W'.cell? ⟨wr.heap.size, 2, none⟩ = some (.int .u64 (tr L k).fin) := fun W' h => (hAt.th h).c
      have hC := HC.out k
      have hE := HE.out k hltk
      have hf := isFree_any (tr L k)
      have hu : usedP L k ↔ ¬ tr L k = T.zero := Iff.rfl
      obtain ⟨s, hs⟩ : ∃ s, tr L k = s := ⟨_, rfl⟩
      rw [hs] at c0 c1 c2 hJ1 hS1 d0 d1 d2 hE hf hu hX
      have HJ1 := Lib.hid hJ1
      have HS1 := Lib.hid hS1
      have HC1 := Lib.hid hC
      have HE1 := Lib.hid hE
      have HU := Lib.hid hu
      have HX := Lib.hid hX
      clear hJ1 hS1 hC hE hu hs hAt hJk hS hX
      obtain ⟨ph, st, fi⟩ := s
      unfold boxO at HJ1 HS1 HX d0 d1 d2
      unfold T.val at HE1 hf
      dsimp only at c0 c1 c2 HJ1 HS1 HX d0 d1 d2 HE1 hf
      by_cases hz : (⟨ph, st, fi⟩ : T) = T.zero
      · have HNO := Lib.hid (show ¬ usedP L k from fun hh => HU.out.1 hh hz)
        rw [show freeB ⟨ph, st, fi⟩ = true from decide_eq_true hz] at hf
        have HF := Lib.hid hf
        clear hz hf
        gi_wp2_with (gi_at_call 37; refine (callsIn_wide.2 (HF.out _)).mono ?_; rintro e w1 ⟨rfl, hB1⟩)
        go_roundw
        case rel => exact ⟨k + 1, by omega, by go_num, by rw [HC1.out, if_neg HNO.out, List.append_nil]; exact HJ1.out _ hB1, (HS1.out _ hB1).1, (HS1.out _ hB1).2⟩
        case measure => simp [intOf]; omega
      · have hyes : usedP L k := HU.out.2 hz
        rw [show freeB ⟨ph, st, fi⟩ = false from decide_eq_false hz] at hf
        have HF := Lib.hid hf
        obtain ⟨he, hlen⟩ := HE1.out hyes
        have HY1 := Lib.hid (fun W' h => HY.out _ W' (HJ1.out W' h) hlen)
        rw [he] at HY1
        have HCC := Lib.hid (show cand L (k + 1) = cand L k ++ [k] by rw [HC1.out, if_pos hyes])
        have HLEN := Lib.hid hlen
        clear hz hf he hlen hyes
        gi_wp2_with (gi_at_call 37; refine (callsIn_wide.2 (HF.out _)).mono ?_; rintro e w1 ⟨rfl, hB1⟩; obtain ⟨e0, e1, e2⟩ := HX.out _ hB1; obtain ⟨fn, tmps, assign, body, hy, hR⟩ := HY1.out _ hB1)
        refine hR.mono ?_
        rintro e W3 (⟨rfl, hJ3, hk3⟩ | ⟨rfl, hJx3⟩)
        · have hb3 : b < W3.heap.size := by
            have h1 := hk3 b (by simp)
            have h2 := (HS1.out _ hB1).2
            rw [Array.getElem?_eq_getElem h2] at h1
            exact (Array.getElem?_eq_some_iff.1 h1).1
          gi_wp2
          go_roundw
          case rel => exact ⟨k + 1, by omega, by go_num, by rw [HCC.out, List.length_append]; exact hJ3, (HS1.out _ hB1).1.trans hk3, hb3⟩
          case measure => simp [intOf]; omega
        · gi_wp2
          refine bodyPost_ret (results_none rfl _ _ _) rfl ?_
          exact ⟨⟨_, rfl⟩, .inr ⟨_, HLEN.out, hJx3⟩⟩
    · obtain rfl : k = N := by omega
      rw [HD.out] at hJk
      gi_wp2
      go_end0
      exact ⟨⟨_, rfl⟩, .inl hJk⟩
theorem used_in (n : Nat) (a : Option Addr) (N cap : Nat) (w : World) :
    CallsIn Fence.wide n Try.prog 42 #[.slice a N cap] w fun e w' => e = .returned (.func (.func 52) #[] #[.pointer (some ⟨w.heap.size, 0, none⟩)]) ∧ w.alloc (.cells #[.slice a N cap] 22) = w' := by
  refine callsIn_of_wp Try.func42 rfl trivial ?_ rfl
  simp only [Try.ntmps42, List.size_toArray, List.length_cons, List.length_nil, Nat.reduceAdd, Nat.reduceSub, Array.replicate_succ, Array.replicate_zero, List.push_toArray, List.append_toArray, List.nil_append, List.cons_append]
  gi_wp2
  go_ret
  exact ⟨rfl, rfl⟩
end
end Go.Proofs.Ythfcjbfldokanaa.Dat
