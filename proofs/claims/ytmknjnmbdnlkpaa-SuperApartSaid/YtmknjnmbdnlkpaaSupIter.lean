/- The iterator of the program's package super hands out the super blocks that two blocks are, of so many blocks, each with which one it is. -/
import Derived.RangeFuncBound
import Derived.RangeFuncCalls
import Derived.RangeFuncLeaves
import Derived.OwnWalkIn
import Derived.TacticsInMore
import Derived.LoopNIn
import Derived.LoopIn
import Derived.Test.YtmknjnmbdnlkpaaBagSeq
import Derived.Test.YtmknjnmbdnlkpaaSupNewR
namespace Go.Proofs.Ytmknjnmbdnlkpaa.Super
open Go.RowKit Go.Shelf
attribute [local go_sem] Oper.semAt_some
set_option linter.unusedVariables false

theorem grown_of_below {W W' : World} (h : Below W.heap.size W W') : W.grownBy W' none := ⟨h.1, h.2, h.3, h.4, fun k hk _ => h.5 k hk⟩

theorem ix0 (a b : Value) (w : World) : (Instr.index 54 (.agg #[a, b]) (.int .i64 0)).run Try.prog w = .ok a w := by kernel_rfl
theorem ix1 (a b : Value) (w : World) : (Instr.index 54 (.agg #[a, b]) (.int .i64 1)).run Try.prog w = .ok b w := by kernel_rfl

section
set_option maxRecDepth 100000
set_option maxHeartbeats 4000000 in
theorem blocks1_in (n : Nat) (hn : 1 ≤ n) (l Ba Bb Bc : Nat) (one two : ByteArray) (nb : Int) (V1 V2 : S) (E1 E2 : Int) (x1 x2 : Bool) (encs : Nat → Array Value) (N c1 : Nat) (J Jx : Nat → World → Prop) (B0 : Nat) (hJ : AbidesFrom B0 J)
    (hd1 : ∀ W, Calls Try.prog 11 #[.string one] W fun e w' => e = .returned (.tuple #[V1.val, .int .i64 E1]) ∧ Below W.heap.size W w')
    (hd2 : ∀ W, Calls Try.prog 11 #[.string two] W fun e w' => e = .returned (.tuple #[V2.val, .int .i64 E2]) ∧ Below W.heap.size W w')
    (H1 : Held V1 E1 nb x1) (H2 : Held V2 E2 nb x2)
    (s1 : (x1 = false → c1 = 0) ∧ (x1 = true → c1 = 1 ∧ 0 < N ∧ encs 0 = #[.int .i64 0, V1.val]))
    (s2 : (x2 = false → N = c1) ∧ (x2 = true → N = c1 + 1 ∧ encs c1 = #[.int .i64 1, V2.val]))
    (hY : ∀ k W, J k W → k < N → YieldAt Fence.wide (n - 1) Try.prog l (encs k) W fun e W' => (e = .returned (.bool true) ∧ J (k + 1) W' ∧ Same [Bc] W W') ∨ (e = .returned (.bool false) ∧ Jx k W'))
    (W : World) (ha : W.cell? ⟨Ba, 0, none⟩ = some (.string one)) (hb : W.cell? ⟨Bb, 0, none⟩ = some (.string two)) (hc : W.cell? ⟨Bc, 0, none⟩ = some (.int .i64 nb)) (h0 : J 0 W) :
    CallsIn Fence.wide n Try.prog 32 #[.func (.yield l) #[] #[], .pointer (some ⟨Ba, 0, none⟩), .pointer (some ⟨Bb, 0, none⟩), .pointer (some ⟨Bc, 0, none⟩)] W fun e W' => (∃ v, e = .returned v) ∧ (J N W' ∨ ∃ k, k < N ∧ Jx k W') := by
  have hfn : ∀ f, Fence.wide.fn f := fun _ => trivial
  have hJa : ∀ k W1 W2, J k W1 → Below W1.heap.size W1 W2 → J k W2 := fun k W1 W2 h hB => hJ _ _ _ none h (grown_of_below hB) (fun r e => by cases e)
  have hlt := World.block_lt_of_cell? _ _ hc
  have j0 := fun W => ix0 (.string one) (.string two) W
  have j1 := fun W => ix1 (.string one) (.string two) W
  have HA := Lib.hid hJa
  have HD1 := Lib.hid hd1
  have HD2 := Lib.hid hd2
  have HY := Lib.hid hY
  clear hJa hd1 hd2 hY hJ
  refine callsIn_of_wp Try.func32 rfl trivial ?_ rfl
  simp only [Try.ntmps32, List.size_toArray, List.length_cons, List.length_nil, Nat.reduceAdd, Nat.reduceSub, Array.replicate_succ, Array.replicate_zero, List.push_toArray, List.append_toArray, List.nil_append, List.cons_append]
  gi_wp2
  gi_loopw [12] (fun i wr => ((i = .int .i64 0 ∧ J 0 wr) ∨ (i = .int .i64 1 ∧ J c1 wr) ∨ (i = .int .i64 2 ∧ J N wr)) ∧ Same [Bc] W wr ∧ Bc < wr.heap.size) (fun i _ => 2 - (intOf i).toNat)
  case atStart => exact ⟨.inl ⟨rfl, h0⟩, Same.refl _ _, hlt⟩
  case round =>
    obtain ⟨hi, hS, hlt⟩ := hrel
    have q0 : wr.cell? ⟨Bc, 0, none⟩ = some (.int .i64 nb) := (hS.cell (p := ⟨Bc, 0, none⟩) (by simp)).trans hc
    rcases hi with ⟨rfl, hJk⟩ | ⟨rfl, hJk⟩ | ⟨rfl, hJk⟩
    · obtain ⟨z1, z2⟩ := s1
      rcases H1 with ⟨rfl, rfl⟩ | ⟨rfl, h1, rfl⟩ | ⟨rfl, h1, rfl⟩
      · have hn := z1 rfl
        have hJ2 : ∀ w1, Below wr.heap.size wr w1 → J c1 (w1.alloc (boxO V1)) := fun w1 hB => by rw [hn]; exact HA.out _ _ _ (HA.out _ _ _ hJk hB) ((Below.refl _ _).alloc (Nat.le_refl _) _)
        have hS2 : ∀ w1, Below wr.heap.size wr w1 → Same [Bc] W (w1.alloc (boxO V1)) ∧ Bc < (w1.alloc (boxO V1)).heap.size ∧ (w1.alloc (boxO V1)).cell? ⟨Bc, 0, none⟩ = some (.int .i64 nb) := fun w1 hB => ⟨hS.trans (Same.below ((hB.alloc hB.size _)) (by simpa using hlt)), by have := hB.size; simp; omega, ((hB.alloc hB.size _).cell (p := ⟨Bc, 0, none⟩) hlt).trans q0⟩
        have HJ2 := Lib.hid hJ2
        have HS2 := Lib.hid hS2
        have HN := Lib.hid hn
        clear hJ2 hS2 hn z1 z2
        obtain ⟨b1, q1, a1, p1⟩ := V1
        have HDD := Lib.hid (HD1.out wr)
        unfold S.val at HDD
        unfold boxO at HJ2 HS2
        dsimp only at HDD HJ2 HS2
        gi_wp2_with (gi_at_call 11; refine (callsIn_wide.2 HDD.out).mono ?_; rintro e w1 ⟨rfl, hB1⟩; obtain ⟨y1, y2, y3⟩ := HS2.out _ hB1)
        go_roundw
        case rel => exact ⟨(.inr (.inl ⟨rfl, HJ2.out _ hB1⟩)), y1, y2⟩
        case measure => simp [intOf]
      · have hn := z1 rfl
        have hJ2 : ∀ w1, Below wr.heap.size wr w1 → J c1 (w1.alloc (boxO V1)) := fun w1 hB => by rw [hn]; exact HA.out _ _ _ (HA.out _ _ _ hJk hB) ((Below.refl _ _).alloc (Nat.le_refl _) _)
        have hS2 : ∀ w1, Below wr.heap.size wr w1 → Same [Bc] W (w1.alloc (boxO V1)) ∧ Bc < (w1.alloc (boxO V1)).heap.size ∧ (w1.alloc (boxO V1)).cell? ⟨Bc, 0, none⟩ = some (.int .i64 nb) := fun w1 hB => ⟨hS.trans (Same.below ((hB.alloc hB.size _)) (by simpa using hlt)), by have := hB.size; simp; omega, ((hB.alloc hB.size _).cell (p := ⟨Bc, 0, none⟩) hlt).trans q0⟩
        have HJ2 := Lib.hid hJ2
        have HS2 := Lib.hid hS2
        have HN := Lib.hid hn
        clear hJ2 hS2 hn z1 z2
        obtain ⟨b1, q1, a1, p1⟩ := V1
        have HDD := Lib.hid (HD1.out wr)
        unfold S.val at HDD
        unfold boxO at HJ2 HS2
        dsimp only at HDD HJ2 HS2 h1
        gi_wp2_with (gi_at_call 11; refine (callsIn_wide.2 HDD.out).mono ?_; rintro e w1 ⟨rfl, hB1⟩; obtain ⟨y1, y2, y3⟩ := HS2.out _ hB1)
        go_roundw
        case rel => exact ⟨(.inr (.inl ⟨rfl, HJ2.out _ hB1⟩)), y1, y2⟩
        case measure => simp [intOf]
      · obtain ⟨hn, hN, he⟩ := z2 rfl
        have hJ2 : ∀ w1, Below wr.heap.size wr w1 → J 0 (w1.alloc (boxO V1)) := fun w1 hB => HA.out _ _ _ (HA.out _ _ _ hJk hB) ((Below.refl _ _).alloc (Nat.le_refl _) _)
        have hS2 : ∀ w1, Below wr.heap.size wr w1 → Same [Bc] W (w1.alloc (boxO V1)) ∧ Bc < (w1.alloc (boxO V1)).heap.size ∧ (w1.alloc (boxO V1)).cell? ⟨Bc, 0, none⟩ = some (.int .i64 nb) := fun w1 hB => ⟨hS.trans (Same.below ((hB.alloc hB.size _)) (by simpa using hlt)), by have := hB.size; simp; omega, ((hB.alloc hB.size _).cell (p := ⟨Bc, 0, none⟩) hlt).trans q0⟩
        have hYY := fun W1 (h : J 0 W1) => HY.out 0 W1 h (by omega)
        rw [he] at hYY
        have HYY := Lib.hid hYY
        have HJ2 := Lib.hid hJ2
        have HS2 := Lib.hid hS2
        have HN := Lib.hid hn
        clear hJ2 hS2 hn hYY he z1 z2
        obtain ⟨b1, q1, a1, p1⟩ := V1
        have HDD := Lib.hid (HD1.out wr)
        unfold S.val at HDD HYY
        unfold boxO at HJ2 HS2
        dsimp only at HDD HJ2 HS2 HYY h1
        gi_wp2_with (gi_at_call 11; refine (callsIn_wide.2 HDD.out).mono ?_; rintro e w1 ⟨rfl, hB1⟩; obtain ⟨y1, y2, y3⟩ := HS2.out _ hB1; obtain ⟨fn, tmps, assign, body, hy, hR⟩ := HYY.out _ (HJ2.out _ hB1))
        refine hR.mono ?_
        rintro e W3 (⟨rfl, hJ3, hk3⟩ | ⟨rfl, hJx3⟩)
        · gi_wp2
          go_roundw
          case rel => exact ⟨(.inr (.inl ⟨rfl, by rw [HN.out]; exact hJ3⟩)), y1.trans hk3, World.block_lt_of_cell? _ _ ((hk3.cell (p := ⟨Bc, 0, none⟩) (by simp)).trans y3)⟩
          case measure => simp [intOf]
        · gi_wp2
          refine bodyPost_ret (results_none rfl _ _ _) rfl ?_
          exact ⟨⟨_, rfl⟩, .inr ⟨0, by have := HN.out; omega, hJx3⟩⟩
    · obtain ⟨z1, z2⟩ := s2
      rcases H2 with ⟨rfl, rfl⟩ | ⟨rfl, h1, rfl⟩ | ⟨rfl, h1, rfl⟩
      · have hn := z1 rfl
        have hJ2 : ∀ w1, Below wr.heap.size wr w1 → J N (w1.alloc (boxO V2)) := fun w1 hB => by rw [hn]; exact HA.out _ _ _ (HA.out _ _ _ hJk hB) ((Below.refl _ _).alloc (Nat.le_refl _) _)
        have hS2 : ∀ w1, Below wr.heap.size wr w1 → Same [Bc] W (w1.alloc (boxO V2)) ∧ Bc < (w1.alloc (boxO V2)).heap.size ∧ (w1.alloc (boxO V2)).cell? ⟨Bc, 0, none⟩ = some (.int .i64 nb) := fun w1 hB => ⟨hS.trans (Same.below ((hB.alloc hB.size _)) (by simpa using hlt)), by have := hB.size; simp; omega, ((hB.alloc hB.size _).cell (p := ⟨Bc, 0, none⟩) hlt).trans q0⟩
        have HJ2 := Lib.hid hJ2
        have HS2 := Lib.hid hS2
        have HN := Lib.hid hn
        clear hJ2 hS2 hn z1 z2
        obtain ⟨b1, q1, a1, p1⟩ := V2
        have HDD := Lib.hid (HD2.out wr)
        unfold S.val at HDD
        unfold boxO at HJ2 HS2
        dsimp only at HDD HJ2 HS2
        gi_wp2_with (gi_at_call 11; refine (callsIn_wide.2 HDD.out).mono ?_; rintro e w1 ⟨rfl, hB1⟩; obtain ⟨y1, y2, y3⟩ := HS2.out _ hB1)
        go_roundw
        case rel => exact ⟨(.inr (.inr ⟨rfl, HJ2.out _ hB1⟩)), y1, y2⟩
        case measure => simp [intOf]
      · have hn := z1 rfl
        have hJ2 : ∀ w1, Below wr.heap.size wr w1 → J N (w1.alloc (boxO V2)) := fun w1 hB => by rw [hn]; exact HA.out _ _ _ (HA.out _ _ _ hJk hB) ((Below.refl _ _).alloc (Nat.le_refl _) _)
        have hS2 : ∀ w1, Below wr.heap.size wr w1 → Same [Bc] W (w1.alloc (boxO V2)) ∧ Bc < (w1.alloc (boxO V2)).heap.size ∧ (w1.alloc (boxO V2)).cell? ⟨Bc, 0, none⟩ = some (.int .i64 nb) := fun w1 hB => ⟨hS.trans (Same.below ((hB.alloc hB.size _)) (by simpa using hlt)), by have := hB.size; simp; omega, ((hB.alloc hB.size _).cell (p := ⟨Bc, 0, none⟩) hlt).trans q0⟩
        have HJ2 := Lib.hid hJ2
        have HS2 := Lib.hid hS2
        have HN := Lib.hid hn
        clear hJ2 hS2 hn z1 z2
        obtain ⟨b1, q1, a1, p1⟩ := V2
        have HDD := Lib.hid (HD2.out wr)
        unfold S.val at HDD
        unfold boxO at HJ2 HS2
        dsimp only at HDD HJ2 HS2 h1
        gi_wp2_with (gi_at_call 11; refine (callsIn_wide.2 HDD.out).mono ?_; rintro e w1 ⟨rfl, hB1⟩; obtain ⟨y1, y2, y3⟩ := HS2.out _ hB1)
        go_roundw
        case rel => exact ⟨(.inr (.inr ⟨rfl, HJ2.out _ hB1⟩)), y1, y2⟩
        case measure => simp [intOf]
      · obtain ⟨hn, he⟩ := z2 rfl
        have hJ2 : ∀ w1, Below wr.heap.size wr w1 → J c1 (w1.alloc (boxO V2)) := fun w1 hB => HA.out _ _ _ (HA.out _ _ _ hJk hB) ((Below.refl _ _).alloc (Nat.le_refl _) _)
        have hS2 : ∀ w1, Below wr.heap.size wr w1 → Same [Bc] W (w1.alloc (boxO V2)) ∧ Bc < (w1.alloc (boxO V2)).heap.size ∧ (w1.alloc (boxO V2)).cell? ⟨Bc, 0, none⟩ = some (.int .i64 nb) := fun w1 hB => ⟨hS.trans (Same.below ((hB.alloc hB.size _)) (by simpa using hlt)), by have := hB.size; simp; omega, ((hB.alloc hB.size _).cell (p := ⟨Bc, 0, none⟩) hlt).trans q0⟩
        have hYY := fun W1 (h : J c1 W1) => HY.out c1 W1 h (by omega)
        rw [he] at hYY
        have HYY := Lib.hid hYY
        have HJ2 := Lib.hid hJ2
        have HS2 := Lib.hid hS2
        have HN := Lib.hid hn
        clear hJ2 hS2 hn hYY he z1 z2
        obtain ⟨b1, q1, a1, p1⟩ := V2
        have HDD := Lib.hid (HD2.out wr)
        unfold S.val at HDD HYY
        unfold boxO at HJ2 HS2
        dsimp only at HDD HJ2 HS2 HYY h1
        gi_wp2_with (gi_at_call 11; refine (callsIn_wide.2 HDD.out).mono ?_; rintro e w1 ⟨rfl, hB1⟩; obtain ⟨y1, y2, y3⟩ := HS2.out _ hB1; obtain ⟨fn, tmps, assign, body, hy, hR⟩ := HYY.out _ (HJ2.out _ hB1))
        refine hR.mono ?_
        rintro e W3 (⟨rfl, hJ3, hk3⟩ | ⟨rfl, hJx3⟩)
        · gi_wp2
          go_roundw
          case rel => exact ⟨(.inr (.inr ⟨rfl, by rw [HN.out]; exact hJ3⟩)), y1.trans hk3, World.block_lt_of_cell? _ _ ((hk3.cell (p := ⟨Bc, 0, none⟩) (by simp)).trans y3)⟩
          case measure => simp [intOf]
        · gi_wp2
          refine bodyPost_ret (results_none rfl _ _ _) rfl ?_
          exact ⟨⟨_, rfl⟩, .inr ⟨c1, by have := HN.out; omega, hJx3⟩⟩
    · gi_wp2
      go_end0
      exact ⟨⟨_, rfl⟩, .inl hJk⟩
end
end Go.Proofs.Ytmknjnmbdnlkpaa.Super
