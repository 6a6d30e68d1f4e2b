/- The iterator of the program's package inode hands out the six numbers of a map, each with its place. -/
import Derived.RangeFuncBound
import Derived.RangeFuncCalls
import Derived.RangeFuncLeaves
import Derived.OwnWalkIn
import Derived.TacticsInMore
import Derived.LoopNIn
import Derived.LoopIn
import Derived.Test.YtdakfdecfpebcaaBagSeq
import Derived.Test.YtdakfdecfpebcaaNumPut
import Derived.Test.YtdakfdecfpebcaaInoMem
namespace Go.Proofs.Ytdakfdecfpebcaa.Ino
open Go.RowKit
attribute [local go_sem] Oper.semAt_some
set_option linter.unusedVariables false
set_option linter.unusedSimpArgs false

theorem grown_of_below {W W' : World} (h : Below W.heap.size W W') : W.grownBy W' none := ⟨h.1, h.2, h.3, h.4, fun k hk _ => h.5 k hk⟩
theorem ix0 (a b c d e f : Value) (w : World) : (Instr.index 32 (.agg #[a, b, c, d, e, f]) (.int .i64 0)).run Try.prog w = .ok a w := by kernel_rfl
theorem ix1 (a b c d e f : Value) (w : World) : (Instr.index 32 (.agg #[a, b, c, d, e, f]) (.int .i64 1)).run Try.prog w = .ok b w := by kernel_rfl
theorem ix2 (a b c d e f : Value) (w : World) : (Instr.index 32 (.agg #[a, b, c, d, e, f]) (.int .i64 2)).run Try.prog w = .ok c w := by kernel_rfl
theorem ix3 (a b c d e f : Value) (w : World) : (Instr.index 32 (.agg #[a, b, c, d, e, f]) (.int .i64 3)).run Try.prog w = .ok d w := by kernel_rfl
theorem ix4 (a b c d e f : Value) (w : World) : (Instr.index 32 (.agg #[a, b, c, d, e, f]) (.int .i64 4)).run Try.prog w = .ok e w := by kernel_rfl
theorem ix5 (a b c d e f : Value) (w : World) : (Instr.index 32 (.agg #[a, b, c, d, e, f]) (.int .i64 5)).run Try.prog w = .ok f w := by kernel_rfl
theorem ixM (m : M) (k : Nat) (hk : k < 6) (w : World) : (Instr.index 32 m.val (.int .i64 (k : Int))).run Try.prog w = .ok (.int .u32 (m.at' k)) w := by
  match k, hk with
  | 0, _ => exact ix0 _ _ _ _ _ _ w
  | 1, _ => exact ix1 _ _ _ _ _ _ w
  | 2, _ => exact ix2 _ _ _ _ _ _ w
  | 3, _ => exact ix3 _ _ _ _ _ _ w
  | 4, _ => exact ix4 _ _ _ _ _ _ w
  | 5, _ => exact ix5 _ _ _ _ _ _ w
/-- what the k-th round is handed -/
def encM (m : M) (k : Nat) : Array Value := #[.int .i64 k, .int .u32 (m.at' k)]
def Any (_ _ : World) : Prop := True

section
set_option maxRecDepth 100000
set_option maxHeartbeats 4000000
theorem numbers1_in (n : Nat) (hn : 1 ≤ n) (l Bx : Nat) (m : M) (w : World) (J Jx : Nat → World → Prop) (B0 : Nat) (hJ : AbidesFrom B0 J)
    (hY : ∀ k W, J k W → k < 6 → YieldAt Fence.wide (n - 1) Try.prog l (encM m k) W fun e W' => (e = .returned (.bool true) ∧ J (k + 1) W' ∧ Any W W') ∨ (e = .returned (.bool false) ∧ Jx k W'))
    (W : World) (hM : AtM W Bx m) (h0 : J 0 W) :
    CallsIn Fence.wide n Try.prog 59 #[.func (.yield l) #[] #[], .pointer (some ⟨Bx, 0, none⟩)] W fun e W' => (∃ v, e = .returned v) ∧ (J 6 W' ∨ ∃ k, k < 6 ∧ Jx k W') := by
  have hfn : ∀ f, Fence.wide.fn f := fun _ => trivial
  have hJa : ∀ k W1 W2, J k W1 → Below W1.heap.size W1 W2 → J k W2 := fun k W1 W2 h hB => hJ _ _ _ none h (grown_of_below hB) (fun r e => by cases e)
  have HA := Lib.hid hJa
  have HY := Lib.hid hY
  have HX := Lib.hid (fun k (hk : k < 6) W => ixM m k hk W)
  obtain ⟨c0, c1, c2, c3, c4, c5⟩ := hM.c
  unfold M.val at HX
  clear hJa hY hJ hM
  refine callsIn_of_wp Try.func59 rfl trivial ?_ rfl
  simp only [Try.ntmps59, List.size_toArray, List.length_cons, List.length_nil, Nat.reduceAdd, Nat.reduceSub, Array.replicate_succ, Array.replicate_zero, List.push_toArray, List.append_toArray, List.nil_append, List.cons_append]
  gi_wp2
  gi_loopw [3, 4, 6] (fun _ _ i wr => ∃ k : Nat, k ≤ 6 ∧ i = .int .i64 (k : Int) ∧ J k wr) (fun _ _ i _ => 6 - (intOf i).toNat)
  case atStart => exact ⟨0, by omega, rfl, h0⟩
  case round =>
    obtain ⟨k, hkN, rfl, hJk⟩ := hrel
    clear c0 c1 c2 c3 c4 c5
    by_cases hltk : k < 6
    · have hix := HX.out k hltk
      obtain ⟨fn, tmps, assign, body, hy, hR⟩ := HY.out k _ hJk hltk
      unfold encM at hy
      have hlt2 : (k : Int) < 6 := by omega
      gi_wp2
      refine hR.mono ?_
      rintro e W3 (⟨rfl, hJ3, _⟩ | ⟨rfl, hJx3⟩)
      · gi_wp2
        go_roundw
        case rel => exact ⟨k + 1, by omega, by go_num, hJ3⟩
        case measure => simp [intOf]; omega
      · gi_wp2
        refine bodyPost_ret (results_none rfl _ _ _) rfl ?_
        exact ⟨⟨_, rfl⟩, .inr ⟨k, hltk, hJx3⟩⟩
    · obtain rfl : k = 6 := by omega
      gi_wp2
      go_end0
      exact ⟨⟨_, rfl⟩, .inl hJk⟩
theorem numbers_in (n : Nat) (m : M) (w : World) :
    CallsIn Fence.wide n Try.prog 57 #[m.val] w fun e w' => e = .returned (.func (.func 59) #[] #[.pointer (some ⟨w.heap.size, 0, none⟩)]) ∧ w.alloc (boxM m) = w' := by
  unfold M.val boxM
  refine callsIn_of_wp Try.func57 rfl trivial ?_ rfl
  simp only [Try.ntmps57, List.size_toArray, List.length_cons, List.length_nil, Nat.reduceAdd, Nat.reduceSub, Array.replicate_succ, Array.replicate_zero, List.push_toArray, List.append_toArray, List.nil_append, List.cons_append]
  gi_wp2
  go_ret
  exact ⟨rfl, rfl⟩
theorem numbers_steps (Bx : Nat) (m : M) (w : World) (hM : AtM w Bx m) : SeqSteps Fence.wide 8 Try.prog 59 #[.pointer (some ⟨Bx, 0, none⟩)] (encM m) Any 6 w := by
  intro l J Jx W' hB' hJ _ hY h0
  exact numbers1_in 8 (by decide) l Bx m w J Jx _ hJ hY W' (hM.th hB') h0
theorem any_t {A B C : World} (_ : Any A B) (_ : Any B C) : Any A C := trivial
theorem any_b {w : World} (W : World) (l : Nat) (o o' : Obj) (_ : w.heap.size ≤ l) (_ : W.heap[l]? = some o) (_ : o.isCells = false) (_ : o.isWalk = false) : Any W (W.putObj l o') := trivial
end
end Go.Proofs.Ytdakfdecfpebcaa.Ino
