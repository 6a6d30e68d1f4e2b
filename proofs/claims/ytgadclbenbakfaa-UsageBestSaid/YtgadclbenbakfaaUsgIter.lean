/- The iterator of the program's package usage hands out the segments that a cleaner may take, each with its place. -/
import Derived.RangeFuncBound
import Derived.RangeFuncCalls
import Derived.RangeFuncLeaves
import Derived.OwnWalkIn
import Derived.TacticsInMore
import Derived.LoopNIn
import Derived.LoopIn
import Derived.Test.YtgadclbenbakfaaBagSeq
import Derived.Test.YtgadclbenbakfaaUsgWorth
namespace Go.Proofs.Ytgadclbenbakfaa.Usage
open Go.RowKit
attribute [local go_sem] Oper.semAt_some
set_option linter.unusedVariables false

/-- the blocks bs lie as they lay -/
def Same (bs : List Nat) (W W' : World) : Prop := ∀ b, b ∈ bs → W'.heap[b]? = W.heap[b]?
theorem Same.refl (bs : List Nat) (W : World) : Same bs W W := fun _ _ => rfl
theorem Same.trans {bs : List Nat} {A B C : World} (h : Same bs A B) (k : Same bs B C) : Same bs A C := fun b hb => (k b hb).trans (h b hb)
theorem Same.below {bs : List Nat} {W W' : World} {n : Nat} (hb : Below n W W') (h : ∀ b, b ∈ bs → b < n) : Same bs W W' := fun b hh => hb.block b (h b hh)
theorem Same.cell {bs : List Nat} {W W' : World} (h : Same bs W W') {p : Addr} (hp : p.block ∈ bs) : W'.cell? p = W.cell? p := World.cell?_of_block (w := W) (h p.block hp)
theorem sameK_t {bs : List Nat} {A B C : World} (h : Same bs A B) (k : Same bs B C) : Same bs A C := h.trans k
theorem sameK_b {bs : List Nat} {w : World} (hn : ∀ b, b ∈ bs → b < w.heap.size) (W : World) (l : Nat) (o o' : Obj) (hl : w.heap.size ≤ l) (_ : W.heap[l]? = some o) (_ : o.isCells = false) (_ : o.isWalk = false) : Same bs W (W.putObj l o') :=
  fun b hb => World.putObj_heap_other (by have := hn b hb; omega)
theorem Segs.same {W W' : World} {b off n cap : Nat} {L : List S} (h : Segs W (.slice (some ⟨b, off, none⟩) n cap) L) (hs : Same [b] W W') : Segs W' (.slice (some ⟨b, off, none⟩) n cap) L := by
  obtain ⟨a1, cap1, e, h2, h3, h4, h5⟩ := h
  refine ⟨a1, cap1, e, h2, h3, h4, fun hn => ?_⟩
  obtain ⟨b2, off2, e2, hc⟩ := h5 hn
  cases e
  cases e2
  exact ⟨_, _, rfl, fun j u hj => (hs.cell (p := ⟨b, off + j, none⟩) (by simp)).trans (hc j u hj)⟩
theorem grown_of_below {W W' : World} (h : Below W.heap.size W W') : W.grownBy W' none := ⟨h.1, h.2, h.3, h.4, fun k hk _ => h.5 k hk⟩
theorem Segs.lt {W : World} {b off n cap : Nat} {L : List S} (h : Segs W (.slice (some ⟨b, off, none⟩) n cap) L) (hn : 0 < L.length) : b < W.heap.size := by
  obtain ⟨b2, off2, cap2, e, h1, _⟩ := h.at hn
  cases e
  exact World.block_lt_of_cell? _ _ h1

/-- those that a cleaner may take -/
def cnd (L : List S) : List Nat := cand L L.length
def ix (L : List S) (k : Nat) : Nat := (cnd L).getD k 0
def enc (L : List S) (k : Nat) : Array Value := #[.int .i64 (ix L k : Nat), (seg L (ix L k)).val]
theorem enc_at {L : List S} {k : Nat} (hk : k < L.length) (ho : okS k (seg L k)) : enc L (cand L k).length = #[.int .i64 (k : Nat), (seg L k).val] ∧ (cand L k).length < (cnd L).length := by
  have h := cand_at (L := L) hk ho
  have e : ix L (cand L k).length = k := by
    unfold ix cnd
    rw [List.getD_eq_getElem?_getD, h]
    rfl
  unfold enc
  rw [e]
  exact ⟨rfl, (List.getElem?_eq_some_iff.1 h).1⟩

section
set_option maxRecDepth 100000
set_option maxHeartbeats 4000000
theorem cands_in (n : Nat) (hn : 1 ≤ n) (l Bx b off cap N : Nat) (L : List S) (hN : L.length = N) (hN0 : 0 < N) (J Jx : Nat → World → Prop) (B0 : Nat) (hJ : AbidesFrom B0 J)
    (hY : ∀ k W, J k W → k < (cnd L).length → YieldAt Fence.wide (n - 1) Try.prog l (enc L k) W fun e W' => (e = .returned (.bool true) ∧ J (k + 1) W' ∧ Same [b] W W') ∨ (e = .returned (.bool false) ∧ Jx k W'))
    (W : World) (hbx : W.cell? ⟨Bx, 0, none⟩ = some (.slice (some ⟨b, off, none⟩) N cap)) (hL : Segs W (.slice (some ⟨b, off, none⟩) N cap) L) (h0 : J 0 W) :
    CallsIn Fence.wide n Try.prog 34 #[.func (.yield l) #[] #[], .pointer (some ⟨Bx, 0, none⟩)] W fun e W' => (∃ v, e = .returned v) ∧ (J (cnd L).length W' ∨ ∃ k, k < (cnd L).length ∧ Jx k W') := by
  have hfn : ∀ f, Fence.wide.fn f := fun _ => trivial
  have hJa : ∀ k W1 W2, J k W1 → Below W1.heap.size W1 W2 → J k W2 := fun k W1 W2 h hB => hJ _ _ _ none h (grown_of_below hB) (fun r e => by cases e)
  have hlt := hL.lt (by omega)
  have HA := Lib.hid hJa
  have HY := Lib.hid hY
  have HL := Lib.hid (fun W' (h : Same [b] W W') k (hk : k < N) => (hL.same h).get hN hk)
  have HE := Lib.hid (fun k (hk : k < N) => enc_at (L := L) (k := k) (by omega))
  have HC := Lib.hid (fun k => cand_succ L k)
  have HD : Hid (cand L N = cnd L) := by unfold Hid cnd; rw [hN]
  have hcap : N ≤ cap ∧ cap ≤ 9223372036854775807 := by
    obtain ⟨a1, cap1, e, h1, h2⟩ := hL.parts
    cases e
    omega
  obtain ⟨hcap1, hcap2⟩ := hcap
  clear hJa hY hJ hL hN
  refine callsIn_of_wp Try.func34 rfl trivial ?_ rfl
  simp only [Try.ntmps34, List.size_toArray, List.length_cons, List.length_nil, Nat.reduceAdd, Nat.reduceSub, Array.replicate_succ, Array.replicate_zero, List.push_toArray, List.append_toArray, List.nil_append, List.cons_append]
  gi_wp2
  gi_loopw [3, 4, 7] (fun _ _ i wr => ∃ k : Nat, k ≤ N ∧ i = .int .i64 (k : Int) ∧ J (cand L k).length wr ∧ Same [b] W wr ∧ b < wr.heap.size) (fun _ _ i _ => N - (intOf i).toNat)
  case atStart => exact ⟨0, by omega, rfl, h0, Same.refl _ _, hlt⟩
  case round =>
    obtain ⟨k, hk, rfl, hJk, hS, hbl⟩ := hrel
    by_cases hltk : k < N
    · obtain ⟨c0, c1, c2⟩ := HL.out _ hS k hltk
      have hAt := At.new wr (seg L k)
      have hJ1 := HA.out _ _ _ hJk (below_new wr (boxO (seg L k)))
      have hS1 : Same [b] W (wr.alloc (boxO (seg L k))) := hS.trans (Same.below (below_new wr (boxO (seg L k))) (by simpa using hbl))
      have hb1 : b < (wr.alloc (boxO (seg L k))).heap.size := by rw [World.size_alloc]; omega
      obtain ⟨d0, d1, d2⟩ := hAt.c
      have hC := HC.out k
      have hE := HE.out k hltk
      have hok : okS k (seg L k) ↔ (¬ k = 0 ∧ (seg L k).state = 1 ∧ ¬ (seg L k).live = 16) := Iff.rfl
      obtain ⟨s, hs⟩ : ∃ s, seg L k = s := ⟨_, rfl⟩
      rw [hs] at c0 c1 c2 hJ1 hS1 hb1 d0 d1 d2 hC hE hok
      have HJ1 := Lib.hid hJ1
      have HS1 := Lib.hid (And.intro hS1 hb1)
      have HC1 := Lib.hid hC
      have HE1 := Lib.hid hE
      have HOK := Lib.hid hok
      clear hJ1 hS1 hb1 hC hE hok hs hAt hJk hS
      obtain ⟨lv, bg, st⟩ := s
      unfold boxO at HJ1 HS1 d0 d1 d2
      unfold S.val at HE1
      dsimp only at c0 c1 c2 HJ1 HS1 d0 d1 d2 HE1 HOK
      by_cases hk0 : k = 0
      · have hq : ((k : Int) == 0) = true := by simp [hk0]
        have HNO := Lib.hid (show ¬ okS k ⟨lv, bg, st⟩ from fun hh => (HOK.out.1 hh).1 hk0)
        clear hk0
        gi_wp2
        go_roundw
        case rel => exact ⟨k + 1, by omega, by go_num, by rw [HC1.out, if_neg HNO.out, List.append_nil]; exact HJ1.out, HS1.out.1, HS1.out.2⟩
        case measure => simp [intOf]; omega
      · have hq : ((k : Int) == 0) = false := by simp [hk0]
        by_cases hs1 : st = 1
        · have hq1 : (st != 1) = false := by simp [hs1]
          by_cases hl : lv = 16
          · have hq2 : (lv == 16) = true := by simp [hl]
            have HNO := Lib.hid (show ¬ okS k ⟨lv, bg, st⟩ from fun hh => (HOK.out.1 hh).2.2 hl)
            clear hk0 hs1 hl
            gi_wp2
            go_roundw
            case rel => exact ⟨k + 1, by omega, by go_num, by rw [HC1.out, if_neg HNO.out, List.append_nil]; exact HJ1.out, HS1.out.1, HS1.out.2⟩
            case measure => simp [intOf]; omega
          · have hq2 : (lv == 16) = false := by simp [hl]
            have hyes : okS k ⟨lv, bg, st⟩ := HOK.out.2 ⟨hk0, hs1, hl⟩
            obtain ⟨he, hlen⟩ := HE1.out hyes
            have hY1 := HY.out _ _ HJ1.out hlen
            rw [he] at hY1
            have HCC := Lib.hid (show cand L (k + 1) = cand L k ++ [k] by rw [HC1.out, if_pos hyes])
            obtain ⟨fn, tmps, assign, body, hy, hR⟩ := hY1
            have HLEN := Lib.hid hlen
            clear hk0 hs1 hl he hlen hyes
            gi_wp2
            refine hR.mono ?_
            rintro e W3 (⟨rfl, hJ3, hk3⟩ | ⟨rfl, hJx3⟩)
            · have hb3 : b < W3.heap.size := by
                have h1 := hk3 b (by simp)
                have h2 := HS1.out.2
                rw [Array.getElem?_eq_getElem h2] at h1
                exact (Array.getElem?_eq_some_iff.1 h1).1
              gi_wp2
              go_roundw
              case rel => exact ⟨k + 1, by omega, by go_num, by rw [HCC.out, List.length_append]; exact hJ3, HS1.out.1.trans hk3, hb3⟩
              case measure => simp [intOf]; omega
            · gi_wp2
              refine bodyPost_ret (results_none rfl _ _ _) rfl ?_
              exact ⟨⟨_, rfl⟩, .inr ⟨_, HLEN.out, hJx3⟩⟩
        · have hq1 : (st != 1) = true := by simp [hs1]
          have HNO := Lib.hid (show ¬ okS k ⟨lv, bg, st⟩ from fun hh => hs1 (HOK.out.1 hh).2.1)
          clear hk0 hs1
          gi_wp2
          go_roundw
          case rel => exact ⟨k + 1, by omega, by go_num, by rw [HC1.out, if_neg HNO.out, List.append_nil]; exact HJ1.out, HS1.out.1, HS1.out.2⟩
          case measure => simp [intOf]; omega
    · obtain rfl : k = N := by omega
      rw [HD.out] at hJk
      gi_wp2
      go_end0
      exact ⟨⟨_, rfl⟩, .inl hJk⟩
end
end Go.Proofs.Ytgadclbenbakfaa.Usage
