/- Right of the program, and what it finds at a number. -/
import Derived.Test.YthfcjbfldokanaaDatMem
namespace Go.Proofs.Ythfcjbfldokanaa.Dat
open Go.RowKit
attribute [local go_sem] Oper.semAt_some
set_option linter.unusedVariables false

def oneUpto (L : List T) (k : Nat) : Prop := ∀ j, j < k → oneB (tr L j) = true
theorem all_one {L : List T} : AllOne L ↔ oneUpto L L.length :=
  ⟨fun h j hj => decide_eq_true (h _ (tr_mem hj)), fun h s hs => by obtain ⟨i, hi, rfl⟩ := mem_tr hs; exact of_decide_eq_true (h i hi)⟩
def rightB (L : List T) : Bool := decide (RightP L)
theorem rightB_yes {L : List T} (h : RightP L) : rightB L = true := decide_eq_true h
theorem rightB_no {L : List T} (h : ¬ RightP L) : rightB L = false := decide_eq_false h
section
set_option maxRecDepth 100000
set_option maxHeartbeats 1000000
theorem indexFunc_any (v : Value) (L : List T) (w : World) (hL : Trs w v L) :
    Calls Try.prog 51 #[v, .func (.func 39) #[] #[]] w fun e w' => ∃ i : Int, e = .returned (.int .i64 i) ∧ Hid (0 ≤ i ↔ ¬ AllOne L) ∧ Below w.heap.size w w' := by
  obtain ⟨a, cap, rfl, hn, hm⟩ := hL.parts
  obtain ⟨N, hN⟩ : ∃ N, L.length = N := ⟨_, rfl⟩
  have HA := Lib.hid (all_one (L := L))
  have HL := Lib.hid hL
  rw [hN] at HL HA hn ⊢
  have HN := Lib.hid hN
  have hx := fun s W => isWrong_any s W
  unfold T.val at hx
  have HX := Lib.hid hx
  clear hL hN hx
  obtain ⟨W0, rfl⟩ : ∃ W0 : World, W0 = w := ⟨_, rfl⟩
  go_enter Try.func51, Try.ntmps51
  go_wp2
  go_loopw [5, 8] (fun _ i wr => ∃ k : Nat, k ≤ N ∧ i = .int .i64 (k : Int) ∧ Hid (oneUpto L k) ∧ Below W0.heap.size W0 wr) (fun _ i _ => N - (intOf i).toNat)
  case atStart => exact ⟨0, by omega, rfl, fun j hj => by omega, Below.refl _ _⟩
  case round =>
    obtain ⟨k, hk, rfl, HW, hB⟩ := hrel
    by_cases hlt : k < N
    · obtain ⟨b, off, cap2, e2, c0, c1, c2⟩ := ((HL.out).below hB).at (k := k) (by rw [HN.out]; exact hlt)
      cases e2
      cases h1 : oneB (tr L k) with
      | true =>
        go_wp2_with (go_at_call 39; refine (HX.out (tr L k) _).mono ?_; rintro e w' ⟨rfl, hB1⟩; simp only [h1, Bool.not_true])
        go_roundw
        case rel => exact ⟨k + 1, by omega, by go_num, fun j hj => (by rcases Nat.lt_succ_iff_lt_or_eq.1 hj with h | h; exact HW.out j h; rw [h]; exact h1), below_th hB hB1⟩
        case measure => simp [intOf]; omega
      | false =>
        go_wp2_with (go_at_call 39; refine (HX.out (tr L k) _).mono ?_; rintro e w' ⟨rfl, hB1⟩; simp only [h1, Bool.not_false])
        go_ret
        exact ⟨_, rfl, ⟨fun _ hh => (by have := HA.out.1 hh k hlt; rw [h1] at this; cases this), fun _ => (by omega)⟩, below_th hB hB1⟩
    · obtain rfl : k = N := by omega
      go_wp2
      go_ret
      exact ⟨_, rfl, ⟨fun hh => by omega, fun hh => absurd (HA.out.2 HW.out) hh⟩, hB⟩
theorem containsFunc_any (v : Value) (L : List T) (w : World) (hL : Trs w v L) :
    Calls Try.prog 38 #[v, .func (.func 39) #[] #[]] w (Ans w (.bool (!decide (AllOne L)))) := by
  have hI := indexFunc_any v L w hL
  obtain ⟨a, cap, rfl, hn, hm⟩ := hL.parts
  clear hL
  go_enter Try.func38, Try.ntmps38
  go_wp2_with (go_at_call 51; refine hI.mono ?_; rintro e w' ⟨i, rfl, HI, hB⟩)
  go_ret
  refine ⟨?_, hB⟩
  by_cases h : AllOne L
  · have : ¬ 0 ≤ i := fun hh => HI.out.1 hh h
    rw [decide_eq_true h]
    simp [this]
  · have : 0 ≤ i := HI.out.2 h
    rw [decide_eq_false h]
    simp [this]
theorem right_any (v : Value) (L : List T) (w : World) (hL : Trs w v L) : Calls Try.prog 15 #[v] w (Ans w (.bool (rightB L))) := by
  have go : ∀ (x : Bool), Hid (rightB L = x) → Calls Try.prog 15 #[v] w (Ans w (.bool x)) → Calls Try.prog 15 #[v] w (Ans w (.bool (rightB L))) := fun x hb hc => by rw [hb.out]; exact hc
  by_cases h8 : 1 ≤ L.length
  · obtain ⟨b, off, cap, rfl, c0, c1, c2⟩ := hL.at (k := 0) (by omega)
    simp only [Nat.zero_mul, Nat.add_zero] at c0 c1 c2
    have hC := fun W (h : Below w.heap.size w W) => containsFunc_any _ L W (hL.below h)
    obtain ⟨N, hN⟩ : ∃ N, L.length = N := ⟨_, rfl⟩
    have g8 : (1 : Int) ≤ N := by omega
    by_cases h256 : L.length ≤ 1860
    · have g256 : (N : Int) ≤ 1860 := by omega
      have hf := isFree_any (tr L 0)
      by_cases hs : tr L 0 = T.zero
      · rw [show freeB (tr L 0) = true from decide_eq_true hs] at hf
        unfold T.val at hf
        by_cases ha : AllOne L
        · refine go true (decide_eq_true ⟨⟨h8, h256⟩, hs, ha⟩) ?_
          rw [decide_eq_true ha] at hC
          rw [hN] at hC ⊢
          have HC := Lib.hid hC
          have HF := Lib.hid hf
          clear hL hC go ha hf hs
          go_enter Try.func15, Try.ntmps15
          go_wp2_with (first | (go_at_call 37; (with_reducible refine Calls.mono (HF.out _) ?_); rintro e w1 ⟨rfl, hB1⟩) | (go_at_call 38; (with_reducible refine Calls.mono (HC.out _ hB1) ?_); rintro e w' ⟨rfl, hB⟩))
          go_ret
          exact ⟨rfl, below_th hB1 hB⟩
        · refine go false (decide_eq_false fun hh => ha hh.2.2) ?_
          rw [decide_eq_false ha] at hC
          rw [hN] at hC ⊢
          have HC := Lib.hid hC
          have HF := Lib.hid hf
          clear hL hC go ha hf hs
          go_enter Try.func15, Try.ntmps15
          go_wp2_with (first | (go_at_call 37; (with_reducible refine Calls.mono (HF.out _) ?_); rintro e w1 ⟨rfl, hB1⟩) | (go_at_call 38; (with_reducible refine Calls.mono (HC.out _ hB1) ?_); rintro e w' ⟨rfl, hB⟩))
          go_ret
          exact ⟨rfl, below_th hB1 hB⟩
      · rw [show freeB (tr L 0) = false from decide_eq_false hs] at hf
        unfold T.val at hf
        refine go false (decide_eq_false fun hh => hs hh.2.1) ?_
        rw [hN]
        have HF := Lib.hid hf
        clear hL hC go hf hs
        go_enter Try.func15, Try.ntmps15
        go_wp2_with (go_at_call 37; (with_reducible refine Calls.mono (HF.out _) ?_); rintro e w1 ⟨rfl, hB1⟩)
        go_ret
        exact ⟨rfl, hB1⟩
    · refine go false (decide_eq_false fun hh => h256 hh.1.2) ?_
      have g256 : ¬ (N : Int) ≤ 1860 := by omega
      rw [hN]
      clear hL hC go
      go_enter Try.func15, Try.ntmps15
      go_wp2
      go_ret
      exact ⟨rfl, Below.refl _ _⟩
  · refine go false (decide_eq_false fun hh => h8 hh.1.1) ?_
    obtain ⟨a, cap, rfl, hn, hm⟩ := hL.parts
    have e : L.length = 0 := by omega
    rw [e]
    clear hL go h8 e hn
    go_enter Try.func15, Try.ntmps15
    go_wp2
    go_ret
    exact ⟨rfl, Below.refl _ _⟩

end
end Go.Proofs.Ythfcjbfldokanaa.Dat
