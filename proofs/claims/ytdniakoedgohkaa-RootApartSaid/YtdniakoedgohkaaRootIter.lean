/- The iterator of the program's package root hands out a root's places one by one: its Dats, its Cps behind them. -/
import Derived.RangeFuncBound
import Derived.RangeFuncCalls
import Derived.RangeFuncLeaves
import Derived.OwnWalkIn
import Derived.TacticsInMore
import Derived.LoopNIn
import Derived.LoopIn
import Derived.Test.YtdniakoedgohkaaBagSeq
import Derived.Test.YtdniakoedgohkaaNumTake
import Derived.Test.YtdniakoedgohkaaRootApp
namespace Go.Proofs.Ytdniakoedgohkaa.Root
open Go.RowKit
attribute [local go_sem] Oper.semAt_some
set_option linter.unusedVariables false
set_option linter.unusedSimpArgs false
theorem ix0 (a b : Value) (w : World) : (Instr.index 112 (.agg #[a, b]) (.int .i64 0)).run Try.prog w = .ok a w := by kernel_rfl
theorem ix1 (a b : Value) (w : World) : (Instr.index 112 (.agg #[a, b]) (.int .i64 1)).run Try.prog w = .ok b w := by kernel_rfl
/-- what the k-th round is handed -/
def encP (r : Q) (k : Nat) : Array Value := #[.int .u32 (nu r.all k : Int)]
theorem nu_left {r : Q} {k : Nat} (h : k < r.dats.length) : nu r.all k = nu r.dats k := by
  unfold nu Q.all
  rw [List.getD_eq_getElem?_getD, List.getD_eq_getElem?_getD, List.getElem?_append_left h]
theorem nu_right {r : Q} {k : Nat} : nu r.all (r.dats.length + k) = nu r.cps k := by
  unfold nu Q.all
  rw [List.getD_eq_getElem?_getD, List.getD_eq_getElem?_getD, List.getElem?_append_right (Nat.le_add_right _ _), Nat.add_sub_cancel_left]
section
set_option maxRecDepth 100000
set_option maxHeartbeats 4000000
theorem places1_in (n : Nat) (hn : 1 ≤ n) (l Bx : Nat) (d c : Value) (r : Q) (w : World) (Kp : World → World → Prop) (J Jx : Nat → World → Prop) (B0 : Nat) (hJ : AbidesFrom B0 J)
    (hKt : ∀ {A B C : World}, Kp A B → Kp B C → Kp A C) (hKb : ∀ A B, Kp w A → Below A.heap.size A B → Kp w B)
    (hY : ∀ k W, J k W → k < r.all.length → YieldAt Fence.wide (n - 1) Try.prog l (encP r k) W fun e W' => (e = .returned (.bool true) ∧ J (k + 1) W' ∧ Kp W W') ∨ (e = .returned (.bool false) ∧ Jx k W'))
    (W : World) (hk : Kp w W) (hA : QAt W Bx r d c) (hD : ∀ W', Kp w W' → Nums W' d r.dats ∧ Nums W' c r.cps) (h0 : J 0 W) :
    CallsIn Fence.wide n Try.prog 60 #[.func (.yield l) #[] #[], .pointer (some ⟨Bx, 0, none⟩)] W fun e W' => (∃ v, e = .returned v) ∧ (J r.all.length W' ∨ ∃ k, k < r.all.length ∧ Jx k W') := by
  have hfn : ∀ f, Fence.wide.fn f := fun _ => trivial
  have hJa : ∀ k W1 W2, J k W1 → Below W1.heap.size W1 W2 → J k W2 := fun k W1 W2 h hB => hJ _ _ _ none h (grown_of_below hB) (fun r e => by cases e)
  have HA := Lib.hid hJa
  have HY := Lib.hid hY
  have HKB := Lib.hid hKb
  have HKT : Hid (∀ A B C : World, Kp A B → Kp B C → Kp A C) := fun A B C h k => hKt h k
  obtain ⟨a1, cap1, e1, h11, h12⟩ := (hD W hk).1.parts
  obtain ⟨a2, cap2, e2, h21, h22⟩ := (hD W hk).2.parts
  obtain ⟨N, hN⟩ : ∃ N, r.all.length = N := ⟨_, rfl⟩
  obtain ⟨n1, hn1⟩ : ∃ n, r.dats.length = n := ⟨_, rfl⟩
  obtain ⟨n2, hn2⟩ : ∃ n, r.cps.length = n := ⟨_, rfl⟩
  rw [hn1] at e1
  rw [hn2] at e2
  subst e1 e2
  obtain ⟨q0, q1, q2, q3⟩ := hA.c
  have HIX0 := Lib.hid (fun W => ix0 (.slice a1 n1 cap1) (.slice a2 n2 cap2) W)
  have HIX1 := Lib.hid (fun W => ix1 (.slice a1 n1 cap1) (.slice a2 n2 cap2) W)
  have hNN : N = n1 + n2 := by rw [← hN, ← hn1, ← hn2]; exact List.length_append
  -- the list of each of the two rounds
  have HS : Hid (∀ i : Nat, i < 2 → ∃ (x : Value) (a : Option Addr) (m cap s : Nat), (∀ W, (Instr.index 112 (.agg #[.slice a1 n1 cap1, .slice a2 n2 cap2]) (.int .i64 (i : Int))).run Try.prog W = .ok x W) ∧ x = .slice a m cap ∧ m ≤ 9223372036854775807 ∧ m ≤ cap ∧
      (i = 0 → s = 0 ∧ m = n1) ∧ (i = 1 → s = n1 ∧ m = n2) ∧ s + m ≤ N ∧
      ∀ k, k < m → ∀ W', Kp w W' → ∃ b off, a = some ⟨b, off, none⟩ ∧ W'.cell? ⟨b, off + k, none⟩ = some (.int .u32 (nu r.all (s + k) : Int))) := fun i hi => by
    rcases (show i = 0 ∨ i = 1 by omega) with rfl | rfl
    · refine ⟨_, a1, n1, cap1, 0, HIX0.out, rfl, by omega, by omega, fun _ => ⟨rfl, rfl⟩, fun h => by omega, by omega, fun k hk2 W' hW => ?_⟩
      have := (hD W' hW).1
      rw [Nat.zero_add, nu_left (by omega)]
      exact this.at hn1 hk2
    · refine ⟨_, a2, n2, cap2, n1, HIX1.out, rfl, by omega, by omega, fun h => by omega, fun _ => ⟨rfl, rfl⟩, by omega, fun k hk2 W' hW => ?_⟩
      have := (hD W' hW).2
      rw [← hn1, nu_right]
      exact this.at hn2 hk2
  simp only [hN] at HY ⊢
  have HNN := Lib.hid hNN
  clear hJa hY hJ hD hKb hKt hN hn1 hn2 h11 h12 h21 h22 hA hNN
  refine callsIn_of_wp Try.func60 rfl trivial ?_ rfl
  simp only [Try.ntmps60, List.size_toArray, List.length_cons, List.length_nil, Nat.reduceAdd, Nat.reduceSub, Array.replicate_succ, Array.replicate_zero, List.push_toArray, List.append_toArray, List.nil_append, List.cons_append]
  gi_wp2
  gi_loopw [4, 6, 12, 17] (fun _ _ i _ wr => ∃ (k s : Nat), k ≤ 2 ∧ i = .int .i64 (k : Int) ∧ J s wr ∧ Kp w wr ∧ (k = 0 → s = 0) ∧ (k = 1 → s = n1) ∧ (k = 2 → s = N)) (fun _ _ i _ _ => 2 - (intOf i).toNat)
  case atStart => exact ⟨0, 0, by omega, rfl, h0, hk, fun _ => rfl, fun h => by omega, fun h => by omega⟩
  case round =>
    obtain ⟨i, s, hi2, rfl, hJi, hS, hs0, hs1, hs2⟩ := hrel
    clear q0 q1 q2 q3
    by_cases hlti : i < 2
    · obtain ⟨x, a, m, cap, s', hix, rfl, hm, hmc, hi0, hi1, hsN, hcells⟩ := HS.out i hlti
      obtain rfl : s = s' := by
        rcases (show i = 0 ∨ i = 1 by omega) with h | h
        · rw [hs0 h, (hi0 h).1]
        · rw [hs1 h, (hi1 h).1]
      have HNX : Hid ((i + 1 = 0 → s + m = 0) ∧ (i + 1 = 1 → s + m = n1) ∧ (i + 1 = 2 → s + m = N)) := by
        have := HNN.out
        refine ⟨fun h => by omega, fun h => ?_, fun h => ?_⟩
        · have := hi0 (by omega); omega
        · have := hi1 (by omega); omega
      have HC := Lib.hid hcells
      have hlt2 : (i : Int) < 2 := by omega
      obtain ⟨WO, rfl⟩ : ∃ WO : World, WO = wr := ⟨_, rfl⟩
      clear hs0 hs1 hs2 hi0 hi1 hcells
      gi_wp2
      gi_loopw [6, 17] (fun _ q wq => ∃ k : Nat, k ≤ m ∧ q = .int .i64 (k : Int) ∧ J (s + k) wq ∧ Kp w wq) (fun _ q _ => m - (intOf q).toNat)
      case atStart => exact ⟨0, by omega, rfl, hJi, hS⟩
      case round =>
        obtain ⟨k, hkm, rfl, hJk, hSk⟩ := hrel
        clear hix
        by_cases hltk : k < m
        · obtain ⟨b, off, e2, c0⟩ := HC.out k hltk _ hSk
          subst e2
          have hyy := HY.out (s + k) wr hJk (by omega)
          unfold encP at hyy
          obtain ⟨y, hy⟩ : ∃ y, nu r.all (s + k) = y := ⟨_, rfl⟩
          rw [hy] at c0 hyy
          have HKw := Lib.hid hSk
          have hlt3 : (k : Int) < (m : Int) := by omega
          clear hJk hSk hy
          obtain ⟨fn, tmps, assign, body, hy, hR⟩ := hyy
          gi_wp2
          refine hR.mono ?_
          rintro e W3 (⟨rfl, hJ3, hk3⟩ | ⟨rfl, hJx3⟩)
          · gi_wp2
            go_roundw
            case rel => exact ⟨k + 1, by omega, by go_num, hJ3, HKT.out _ _ _ HKw.out hk3⟩
            case measure => simp [intOf]; omega
          · gi_wp2
            refine bodyPost_ret (results_none rfl _ _ _) rfl ?_
            exact ⟨⟨_, rfl⟩, .inr ⟨s + k, by omega, hJx3⟩⟩
        · obtain rfl : k = m := by omega
          gi_wp2
          go_roundw
          case rel => exact ⟨i + 1, s + k, by omega, by go_num, hJk, hSk, HNX.out.1, HNX.out.2.1, HNX.out.2.2⟩
          case measure => simp [intOf]; omega
    · obtain rfl : i = 2 := by omega
      have hsN := hs2 rfl
      subst hsN
      gi_wp2
      go_end0
      exact ⟨⟨_, rfl⟩, .inl hJi⟩
theorem places_in (n : Nat) (r : Q) (d c : Value) (w : World) :
    (∃ a k c', d = .slice a k c') → (∃ a k c', c = .slice a k c') → CallsIn Fence.wide n Try.prog 29 #[r.val d c] w fun e w' => e = .returned (.func (.func 60) #[] #[.pointer (some ⟨w.heap.size, 0, none⟩)]) ∧ w.alloc (boxQ r d c) = w' := by
  rintro ⟨a1, k1, c1, rfl⟩ ⟨a2, k2, c2, rfl⟩
  unfold Q.val boxQ
  refine callsIn_of_wp Try.func29 rfl trivial ?_ rfl
  simp only [Try.ntmps29, List.size_toArray, List.length_cons, List.length_nil, Nat.reduceAdd, Nat.reduceSub, Array.replicate_succ, Array.replicate_zero, List.push_toArray, List.append_toArray, List.nil_append, List.cons_append]
  gi_wp2
  go_ret
  exact ⟨rfl, rfl⟩
end
end Go.Proofs.Ytdniakoedgohkaa.Root
