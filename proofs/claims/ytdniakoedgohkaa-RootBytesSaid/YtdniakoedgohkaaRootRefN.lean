/- The document's numbers: so many of four bytes from a place on, as far as there are any. -/
import Derived.Test.YtdniakoedgohkaaNumTakeRef
import Derived.Test.YtdniakoedgohkaaRootApp
namespace Go.Proofs.Ytdniakoedgohkaa.Root
/-- how many there are -/
def fitN (s : ByteArray) (a n : Nat) : Nat := min n ((s.size - a) / 4)
theorem fitN_le (s : ByteArray) (a n : Nat) : fitN s a n ≤ n := Nat.min_le_left _ _
theorem fitN_in {s : ByteArray} {a n k : Nat} (h : k < fitN s a n) : a + 4 * k + 4 ≤ s.size := by unfold fitN at h; omega
theorem fitN_out {s : ByteArray} {a n : Nat} (h : fitN s a n < n) : ¬ a + 4 * fitN s a n + 4 ≤ s.size := by unfold fitN at h ⊢; omega
theorem fitN_all {s : ByteArray} {a n : Nat} (h : a + 4 * n ≤ s.size) : fitN s a n = n := by unfold fitN; omega
namespace R
open Go.RowKit
attribute [local go_sem] Oper.semAt_some
set_option linter.unusedVariables false
set_option linter.unusedSimpArgs false
def NumPost (s : ByteArray) (a n : Nat) (w : World) (e : Ending) (w' : World) : Prop := ∃ v, e = .returned v ∧ Nums w' v (nAt s a (fitN s a n)) ∧ Below w.heap.size w w'
section
set_option maxRecDepth 100000
set_option maxHeartbeats 4000000
theorem numbers_any (s : ByteArray) (a n : Nat) (w : World) (hs : s.size ≤ 1000) (ha : a ≤ 10000) (hn : n ≤ 1000) : Calls Try.prog 37 #[.string s, .int .i64 (a : Int), .int .i64 (n : Int)] w (NumPost s a n w) := by
  obtain ⟨i0, hi, hz0, hz1, hz2⟩ := info_parts infoU32
  obtain ⟨M, hM⟩ : ∃ M, fitN s a n = M := ⟨_, rfl⟩
  have hMn : M ≤ n := by rw [← hM]; exact fitN_le _ _ _
  have HIN : Hid (∀ k, k < M → a + 4 * k + 4 ≤ s.size) := fun k h => fitN_in (n := n) (by rw [hM]; exact h)
  have HOUT : Hid (M < n → ¬ a + 4 * M + 4 ≤ s.size) := fun h => by have := fitN_out (s := s) (a := a) (n := n) (by rw [hM]; exact h); rwa [hM] at this
  have HFIN : Hid (∀ (W : World) (v : Value), W.ownsRow w.heap.size 35 1 v M ((nAt s a M).map fun (x : Nat) => Value.int .u32 (x : Int)) → Below w.heap.size w W → NumPost s a n w (.returned v) W) := fun W v h hB => by
    refine ⟨v, rfl, ?_, hB⟩
    rw [hM]
    unfold Nums
    rw [nAt_length]
    exact Lies.own h
  have HT := Lib.hid (fun k W h => take_ref_yes s (a + 4 * k) 4 W (by omega) (by omega) (by omega) h)
  have HTN : Hid (∀ k W, ¬ a + 4 * k + 4 ≤ s.size → k ≤ 1000 → Calls Try.prog 36 #[.string s, .int .i64 ((a : Int) + 4 * (k : Int)), .int .i64 4] W fun e w' => e = .returned (.tuple #[.int .u64 0, .int .i64 2]) ∧ W = w') := fun k W h hk => by
    have h2 : ¬ takeOk s ((a : Int) + 4 * (k : Int)) 4 := fun hh => by
      have := hh.2.2
      unfold hasP at this
      omega
    have := take_ref s ((a : Int) + 4 * (k : Int)) 4 W (by omega) (by omega)
    rw [takeV_no h2, takeE_no h2] at this
    exact this
  clear hM
  go_enter Try.func37, Try.ntmps37
  go_wp2
  go_loopw [7, 8, 9, 10] (fun v i _ _ wr => ∃ k : Nat, k ≤ M ∧ i = .int .i64 (k : Int) ∧ Hid (wr.ownsRow w.heap.size 35 1 v k ((nAt s a k).map fun (x : Nat) => Value.int .u32 (x : Int))) ∧ Hid (Below w.heap.size w wr)) (fun _ i _ _ _ => M - (intOf i).toNat)
  case atStart => exact ⟨0, Nat.zero_le _, rfl, World.ownsRow_nil _ _ _ _, Below.refl _ _⟩
  case round =>
    obtain ⟨k, hk, rfl, HO, HB⟩ := hrel
    have v1 : IntKind.i64.wrap (4 * (k : Int)) = 4 * (k : Int) := by rw [IntKind.wrap_i64]; omega
    have v2 : IntKind.i64.wrap ((a : Int) + 4 * (k : Int)) = (a : Int) + 4 * (k : Int) := by rw [IntKind.wrap_i64]; omega
    by_cases hlt : k < M
    · have hki : (k : Int) < (n : Int) := by omega
      have hk1 := Lib.hid (Nat.succ_le_of_lt hlt)
      have hT := fun W => HT.out k W (HIN.out k hlt)
      have e : ((a + 4 * k : Nat) : Int) = (a : Int) + 4 * (k : Int) := by omega
      rw [e] at hT
      have hx32 := takeN_lt s (a + 4 * k) 4
      have HSN := Lib.hid (nAt_snoc s k a)
      obtain ⟨x, hx⟩ : ∃ x, takeN s (a + 4 * k) 4 = x := ⟨_, rfl⟩
      rw [hx] at HSN
      simp only [hx] at hT hx32
      have HTT := Lib.hid hT
      have vx : IntKind.u32.wrap (x : Int) = (x : Int) := by rw [IntKind.wrap_u32]; omega
      have hown := HO.out
      have hbs := HB.out.size
      clear hT hx e
      go_wp2_with (first
        | (go_at_call 36; (with_reducible refine Calls.mono (HTT.out _) ?_); rintro e w1 ⟨rfl, rfl⟩)
        | (at_builtin; (refine wpList_append_own _ rfl _ _ 23 rfl w.heap.size 35 i0 (.int .u32 0) 1 4 Try.underlying23 hi hz0 hz1 hz2 rfl (by decide) _ k _ rfl (hown.alloc _) ⟨wr.heap.size, 0, none⟩ 1 1 [.int .u32 (x : Int)] rfl rfl (cell_one_new _ _ _) (by simp [Value.oneCell']) (by unfold maxLen; omega) (by omega) (by simp; omega) ?_; intro v' w6 hown' hgrow _; have HO6 := Lib.hid hown'; have HB6 : Hid (Below w.heap.size w w6) := (HB.out.alloc HB.out.size _).grown hgrow (by simp; omega) (fun r e => (HO.out.lt r e).1); clear hown' hgrow hown)))
      go_roundw
      case rel => exact ⟨k + 1, hk1.out, by go_num, by unfold Hid; rw [HSN.out, List.map_append]; exact HO6.out, HB6.out⟩
      case measure => have := hk1.out; simp [intOf]; omega
    · obtain rfl : k = M := by omega
      by_cases hend : k < n
      · have hki : (k : Int) < (n : Int) := by omega
        have hT := Lib.hid (fun W => HTN.out k W (HOUT.out hend) (by omega))
        go_wp2_with (go_at_call 36; (with_reducible refine Calls.mono (hT.out _) ?_); rintro e w1 ⟨rfl, rfl⟩)
        go_ret
        exact HFIN.out _ _ HO.out HB.out
      · have hki : ¬ (k : Int) < (n : Int) := by omega
        go_wp2
        go_ret
        exact HFIN.out _ _ HO.out HB.out
end
end R
end Go.Proofs.Ytdniakoedgohkaa.Root
