/- The iterators: all numbers of a block, each with its place; the runs of 127 numbers of a slice. -/
import Derived.RangeFuncBound
import Derived.RangeFuncCalls
import Derived.RangeFuncLeaves
import Derived.OwnWalkIn
import Derived.TacticsInMore
import Derived.LoopNIn
import Derived.LoopIn
import Derived.Test.YtdakfdecfpebcaaBagSeq
import Derived.Test.YtdakfdecfpebcaaNumTake
import Derived.Test.YtdakfdecfpebcaaBmpBo
namespace Go.Proofs.Ytdakfdecfpebcaa.Bmp
open Go.RowKit Ino
attribute [local go_sem] Oper.semAt_some
set_option linter.unusedVariables false
set_option linter.unusedSimpArgs false
/-- the k-th number of a block -/
def nAt (b : ByteArray) (k : Nat) : Nat := takeN b (4 * k) 4
theorem nAt_lt (b : ByteArray) (k : Nat) : nAt b k < 4294967296 := by
  have := takeN_lt b (4 * k) 4
  rwa [show (256 : Nat) ^ 4 = 4294967296 by decide] at this
/-- what the k-th round is handed -/
def encN (b : ByteArray) (k : Nat) : Array Value := #[.int .i64 k, .int .u32 (nAt b k)]
section
set_option maxRecDepth 100000
set_option maxHeartbeats 4000000
theorem take4 (b : ByteArray) (k : Nat) (W : World) (hb : b.size = 508) (hk : k < 127) : Calls Try.prog 51 #[.string b, .int .i64 (4 * (k : Int)), .int .i64 4] W fun e w' => e = .returned (.tuple #[.int .u64 (nAt b k), .int .i64 0]) ∧ Below W.heap.size W w' := by
  have h := take_any b (4 * (k : Int)) 4 W (by omega) (by omega)
  have hok : takeOk b (4 * (k : Int)) 4 := ⟨by omega, by omega, by omega, by omega⟩
  rw [takeV_yes hok, takeE_yes hok, show (4 * (k : Int)).toNat = 4 * k by omega] at h
  exact h
theorem nums1_in (n : Nat) (hn : 1 ≤ n) (l Bx : Nat) (b : ByteArray) (hb : b.size = 508) (J Jx : Nat → World → Prop) (B0 : Nat) (hJ : AbidesFrom B0 J)
    (hY : ∀ k W, J k W → k < 127 → YieldAt Fence.wide (n - 1) Try.prog l (encN b k) W fun e W' => (e = .returned (.bool true) ∧ J (k + 1) W' ∧ Same [Bx] W W') ∨ (e = .returned (.bool false) ∧ Jx k W'))
    (W : World) (hbx : W.cell? ⟨Bx, 0, none⟩ = some (.string b)) (h0 : J 0 W) :
    CallsIn Fence.wide n Try.prog 50 #[.func (.yield l) #[] #[], .pointer (some ⟨Bx, 0, none⟩)] W fun e W' => (∃ v, e = .returned v) ∧ (J 127 W' ∨ ∃ k, k < 127 ∧ Jx k W') := by
  have hfn : ∀ f, Fence.wide.fn f := fun _ => trivial
  have hJa : ∀ k W1 W2, J k W1 → Below W1.heap.size W1 W2 → J k W2 := fun k W1 W2 h hB => hJ _ _ _ none h (grown_of_below hB) (fun r e => by cases e)
  have HA := Lib.hid hJa
  have HY := Lib.hid hY
  have hlt := World.block_lt_of_cell? _ _ hbx
  have HC := Lib.hid (fun W' (h : Same [Bx] W W') => (h.cell (p := ⟨Bx, 0, none⟩) (by simp)).trans hbx)
  have HT := Lib.hid (fun k (hk : k < 127) W => take4 b k W hb hk)
  clear hJa hY hJ hbx hb
  refine callsIn_of_wp Try.func50 rfl trivial ?_ rfl
  simp only [Try.ntmps50, List.size_toArray, List.length_cons, List.length_nil, Nat.reduceAdd, Nat.reduceSub, Array.replicate_succ, Array.replicate_zero, List.push_toArray, List.append_toArray, List.nil_append, List.cons_append]
  gi_wp2
  gi_loopw [6] (fun i wr => ∃ k : Nat, k ≤ 127 ∧ i = .int .i64 (k : Int) ∧ J k wr ∧ Same [Bx] W wr) (fun i _ => 127 - (intOf i).toNat)
  case atStart => exact ⟨0, by omega, rfl, h0, Same.refl _ _⟩
  case round =>
    obtain ⟨k, hkN, rfl, hJk, hS⟩ := hrel
    by_cases hltk : k < 127
    · have c1 := HC.out _ hS
      have HT1 := Lib.hid (fun W => HT.out k hltk W)
      have HYK := Lib.hid (fun W2 (hB : Below wr.heap.size wr W2) => HY.out k W2 (HA.out k wr W2 hJk hB) hltk)
      have hlt3 := World.block_lt_of_cell? _ _ c1
      have HK2 := Lib.hid (fun W2 (hB : Below wr.heap.size wr W2) => hS.trans (Same.below hB (by simpa using hlt3)))
      have hx := nAt_lt b k
      unfold encN at HYK
      obtain ⟨x, hxx⟩ : ∃ x, nAt b k = x := ⟨_, rfl⟩
      simp only [hxx] at HT1 HYK hx
      have wx : IntKind.u32.wrap (x : Int) = x := by rw [IntKind.wrap_u32]; omega
      have w4 : IntKind.i64.wrap ((k : Int) * 4) = 4 * (k : Int) := by rw [IntKind.wrap_i64] <;> omega
      have hlt2 : (k : Int) < 127 := by omega
      clear hxx hx hJk hS
      gi_wp2_with (gi_at_call 51; refine (callsIn_wide.2 (HT1.out _)).mono ?_; rintro e w1 ⟨rfl, hB1⟩; obtain ⟨fn, tmps, assign, body, hy, hR⟩ := HYK.out _ hB1)
      refine hR.mono ?_
      rintro e W3 (⟨rfl, hJ3, hk3⟩ | ⟨rfl, hJx3⟩)
      · have HK3 := Lib.hid ((HK2.out _ hB1).trans hk3)
        gi_wp2
        go_roundw
        case rel => exact ⟨k + 1, by omega, by go_num, hJ3, HK3.out⟩
        case measure => simp [intOf]; omega
      · gi_wp2
        refine bodyPost_ret (results_none rfl _ _ _) rfl ?_
        exact ⟨⟨_, rfl⟩, .inr ⟨k, hltk, hJx3⟩⟩
    · obtain rfl : k = 127 := by omega
      gi_wp2
      go_end0
      exact ⟨⟨_, rfl⟩, .inl hJk⟩
theorem nums_in (n : Nat) (b : ByteArray) (w : World) :
    CallsIn Fence.wide n Try.prog 44 #[.string b] w fun e w' => e = .returned (.func (.func 50) #[] #[.pointer (some ⟨w.heap.size, 0, none⟩)]) ∧ w.alloc (.cells #[.string b] 9) = w' := by
  refine callsIn_of_wp Try.func44 rfl trivial ?_ rfl
  simp only [Try.ntmps44, List.size_toArray, List.length_cons, List.length_nil, Nat.reduceAdd, Nat.reduceSub, Array.replicate_succ, Array.replicate_zero, List.push_toArray, List.append_toArray, List.nil_append, List.cons_append]
  gi_wp2
  go_ret
  exact ⟨rfl, rfl⟩
theorem nums_steps (Bx : Nat) (b : ByteArray) (hb : b.size = 508) (w : World) (hbx : w.cell? ⟨Bx, 0, none⟩ = some (.string b)) : SeqSteps Fence.wide 8 Try.prog 50 #[.pointer (some ⟨Bx, 0, none⟩)] (encN b) (Same [Bx]) 127 w := by
  intro l J Jx W' hB' hJ _ hY h0
  exact nums1_in 8 (by decide) l Bx b hb J Jx _ hJ hY W' ((hB'.cell (p := ⟨Bx, 0, none⟩) (World.block_lt_of_cell? _ _ hbx)).trans hbx) h0
end
end Go.Proofs.Ytdakfdecfpebcaa.Bmp
