/- PathChain, walked. -/
import Derived.Test.YtgmpfkhcohlijaaPathShown
namespace Go.Proofs.Ytgmpfkhcohlijaa.Pth
open Go.RowKit Nam
attribute [local go_sem] Oper.semAt_some
set_option linter.unusedVariables false
set_option linter.unusedSimpArgs false
theorem within_self (A : List ByteArray) : withinB A A = true := decide_eq_true (by rw [List.take_length])
theorem within_nil (A : List ByteArray) : withinB [] A = true := decide_eq_true rfl
theorem within_trans {A B C : List ByteArray} (h1 : withinB A B = true) (h2 : withinB B C = true) : withinB A C = true := by
  have e1 := of_decide_eq_true h1
  have e2 := of_decide_eq_true h2
  have hl : A.length ≤ B.length := by
    have := congrArg List.length e1
    rw [List.length_take] at this
    omega
  refine decide_eq_true ?_
  rw [← e2, List.take_take, show min A.length B.length = A.length by omega] at e1
  exact e1
theorem within_both {A B : List ByteArray} : (withinB A B && withinB B A) = decide (A = B) := by
  by_cases h : A = B
  · subst h; rw [within_self]; simp
  · rw [decide_eq_false h]
    cases h1 : withinB A B with
    | false => rfl
    | true =>
      cases h2 : withinB B A with
      | false => rfl
      | true =>
        exfalso
        have e1 := of_decide_eq_true h1
        have e2 := of_decide_eq_true h2
        have l1 := congrArg List.length e1
        have l2 := congrArg List.length e2
        rw [List.length_take] at l1 l2
        have hl : A.length = B.length := by omega
        rw [hl, List.take_length] at e1
        exact h e1.symm
section
set_option maxRecDepth 100000
set_option maxHeartbeats 16000000
theorem PathChain_walk (v1 : Value) (L1 : List ByteArray) (v2 : Value) (L2 : List ByteArray) (v3 : Value) (L3 : List ByteArray) (w : World) (h1 : Strs w v1 L1) (z1 : ∀ p ∈ L1, p.size ≤ maxLen) (h2 : Strs w v2 L2) (z2 : ∀ p ∈ L2, p.size ≤ maxLen) (h3 : Strs w v3 L3) (z3 : ∀ p ∈ L3, p.size ≤ maxLen) : Calls Try.prog 7 #[v1, v2, v3] w fun e w' => e = .returned (.bool true) ∧ Below w.heap.size w w' := by
  clear z1 z2 z3
  obtain ⟨a1, cap1, rfl, hc1, hd1⟩ := h1.parts
  obtain ⟨n1, hn1⟩ : ∃ n, L1.length = n := ⟨_, rfl⟩
  obtain ⟨m1, hm1⟩ : ∃ m, min n1 50 = m := ⟨_, rfl⟩
  have hp1 : (min (n1 : Int) 50) = (m1 : Int) := by omega
  have k1 := h1.cut m1 (by omega)
  rw [hn1] at hc1 ⊢
  have hq1 : m1 ≤ cap1 := by omega
  have hr1 : (m1 : Int) ≤ (cap1 : Int) := by omega
  generalize L1.take m1 = M1 at *
  clear h1 hn1 hm1
  obtain ⟨a2, cap2, rfl, hc2, hd2⟩ := h2.parts
  obtain ⟨n2, hn2⟩ : ∃ n, L2.length = n := ⟨_, rfl⟩
  obtain ⟨m2, hm2⟩ : ∃ m, min n2 50 = m := ⟨_, rfl⟩
  have hp2 : (min (n2 : Int) 50) = (m2 : Int) := by omega
  have k2 := h2.cut m2 (by omega)
  rw [hn2] at hc2 ⊢
  have hq2 : m2 ≤ cap2 := by omega
  have hr2 : (m2 : Int) ≤ (cap2 : Int) := by omega
  generalize L2.take m2 = M2 at *
  clear h2 hn2 hm2
  obtain ⟨a3, cap3, rfl, hc3, hd3⟩ := h3.parts
  obtain ⟨n3, hn3⟩ : ∃ n, L3.length = n := ⟨_, rfl⟩
  obtain ⟨m3, hm3⟩ : ∃ m, min n3 50 = m := ⟨_, rfl⟩
  have hp3 : (min (n3 : Int) 50) = (m3 : Int) := by omega
  have k3 := h3.cut m3 (by omega)
  rw [hn3] at hc3 ⊢
  have hq3 : m3 ≤ cap3 := by omega
  have hr3 : (m3 : Int) ≤ (cap3 : Int) := by omega
  generalize L3.take m3 = M3 at *
  clear h3 hn3 hm3
  have H1 := Lib.hid (fun W (h : Below w.heap.size w W) => within_any _ _ M1 M2 W (k1.below h) (k2.below h))
  have H2 := Lib.hid (fun W (h : Below w.heap.size w W) => within_any _ _ M2 M3 W (k2.below h) (k3.below h))
  have H3 := Lib.hid (fun W (h : Below w.heap.size w W) => within_any _ _ M1 M3 W (k1.below h) (k3.below h))
  have H4 := Lib.hid (fun W (h : Below w.heap.size w W) => within_any _ _ M2 M1 W (k2.below h) (k1.below h))
  have H5 := Lib.hid (fun W (h : Below w.heap.size w W) => within_any _ _ M1 M1 W (k1.below h) (k1.below h))
  have H6 := Lib.hid (fun W (h : Below w.heap.size w W) => within_any _ _ [] M1 W (Strs.nil W) (k1.below h))
  have H7 := Lib.hid (fun W (h : Below w.heap.size w W) => R.same_any _ _ M1 M2 W (k1.below h) (k2.below h))
  rw [within_self] at H5
  rw [within_nil] at H6
  simp only [← within_both] at H7
  have htr := fun h1 h2 => within_trans (A := M1) (B := M2) (C := M3) h1 h2
  clear k1 k2 k3
  generalize withinB M1 M2 = x at *
  generalize withinB M2 M3 = y at *
  generalize withinB M1 M3 = z at *
  generalize withinB M2 M1 = b at *
  cases x with
  | false =>
    clear htr
    simp only [Bool.false_and] at H7
    go_enter Try.func7, Try.ntmps7
    go_wp2_with (first
      | (go_at_call 8; refine (shown_any _).mono ?_; rintro e w1 ⟨rfl, hB1⟩; have HB := Lib.hid hB1; clear hB1)
      | (go_at_call 16; (with_reducible refine Calls.mono (H1.out _ HB.out) ?_); rintro e w2 ⟨rfl, hB2⟩; have HB2 := Lib.hid (below_th HB.out hB2); clear hB2)
      | (go_at_call 16; (with_reducible refine Calls.mono (H2.out _ HB2.out) ?_); rintro e w3 ⟨rfl, hB3⟩; have HB3 := Lib.hid (below_th HB2.out hB3); clear hB3)
      | (go_at_call 16; (with_reducible refine Calls.mono (H3.out _ HB3.out) ?_); rintro e w4 ⟨rfl, hB4⟩; have HB4 := Lib.hid (below_th HB3.out hB4); clear hB4)
      | (go_at_call 16; (with_reducible refine Calls.mono (H4.out _ HB4.out) ?_); rintro e w5 ⟨rfl, hB5⟩; have HB5 := Lib.hid (below_th HB4.out hB5); clear hB5)
      | (go_at_call 16; (with_reducible refine Calls.mono (H5.out _ HB5.out) ?_); rintro e w6 ⟨rfl, hB6⟩; have HB6 := Lib.hid (below_th HB5.out hB6); clear hB6)
      | (go_at_call 16; (with_reducible refine Calls.mono (H6.out _ HB6.out) ?_); rintro e w7 ⟨rfl, hB7⟩; have HB7 := Lib.hid (below_th HB6.out hB7); clear hB7)
      | (go_at_call 13; (with_reducible refine Calls.mono (H7.out _ HB7.out) ?_); rintro e w8 ⟨rfl, hB8⟩; have HB8 := Lib.hid (below_th HB7.out hB8); clear hB8))
    go_ret
    exact ⟨rfl, HB8.out⟩
  | true =>
    simp only [Bool.true_and] at H7
    cases y with
    | false =>
      clear htr
      cases b with
      | false =>
        go_enter Try.func7, Try.ntmps7
        go_wp2_with (first
          | (go_at_call 8; refine (shown_any _).mono ?_; rintro e w1 ⟨rfl, hB1⟩; have HB := Lib.hid hB1; clear hB1)
          | (go_at_call 16; (with_reducible refine Calls.mono (H1.out _ HB.out) ?_); rintro e w2 ⟨rfl, hB2⟩; have HB2 := Lib.hid (below_th HB.out hB2); clear hB2)
          | (go_at_call 16; (with_reducible refine Calls.mono (H2.out _ HB2.out) ?_); rintro e w3 ⟨rfl, hB3⟩; have HB3 := Lib.hid (below_th HB2.out hB3); clear hB3)
          | (go_at_call 16; (with_reducible refine Calls.mono (H3.out _ HB3.out) ?_); rintro e w4 ⟨rfl, hB4⟩; have HB4 := Lib.hid (below_th HB3.out hB4); clear hB4)
          | (go_at_call 16; (with_reducible refine Calls.mono (H4.out _ HB4.out) ?_); rintro e w5 ⟨rfl, hB5⟩; have HB5 := Lib.hid (below_th HB4.out hB5); clear hB5)
          | (go_at_call 16; (with_reducible refine Calls.mono (H5.out _ HB5.out) ?_); rintro e w6 ⟨rfl, hB6⟩; have HB6 := Lib.hid (below_th HB5.out hB6); clear hB6)
          | (go_at_call 16; (with_reducible refine Calls.mono (H6.out _ HB6.out) ?_); rintro e w7 ⟨rfl, hB7⟩; have HB7 := Lib.hid (below_th HB6.out hB7); clear hB7)
          | (go_at_call 13; (with_reducible refine Calls.mono (H7.out _ HB7.out) ?_); rintro e w8 ⟨rfl, hB8⟩; have HB8 := Lib.hid (below_th HB7.out hB8); clear hB8))
        go_ret
        exact ⟨rfl, HB8.out⟩
      | true =>
        go_enter Try.func7, Try.ntmps7
        go_wp2_with (first
          | (go_at_call 8; refine (shown_any _).mono ?_; rintro e w1 ⟨rfl, hB1⟩; have HB := Lib.hid hB1; clear hB1)
          | (go_at_call 16; (with_reducible refine Calls.mono (H1.out _ HB.out) ?_); rintro e w2 ⟨rfl, hB2⟩; have HB2 := Lib.hid (below_th HB.out hB2); clear hB2)
          | (go_at_call 16; (with_reducible refine Calls.mono (H2.out _ HB2.out) ?_); rintro e w3 ⟨rfl, hB3⟩; have HB3 := Lib.hid (below_th HB2.out hB3); clear hB3)
          | (go_at_call 16; (with_reducible refine Calls.mono (H3.out _ HB3.out) ?_); rintro e w4 ⟨rfl, hB4⟩; have HB4 := Lib.hid (below_th HB3.out hB4); clear hB4)
          | (go_at_call 16; (with_reducible refine Calls.mono (H4.out _ HB4.out) ?_); rintro e w5 ⟨rfl, hB5⟩; have HB5 := Lib.hid (below_th HB4.out hB5); clear hB5)
          | (go_at_call 16; (with_reducible refine Calls.mono (H5.out _ HB5.out) ?_); rintro e w6 ⟨rfl, hB6⟩; have HB6 := Lib.hid (below_th HB5.out hB6); clear hB6)
          | (go_at_call 16; (with_reducible refine Calls.mono (H6.out _ HB6.out) ?_); rintro e w7 ⟨rfl, hB7⟩; have HB7 := Lib.hid (below_th HB6.out hB7); clear hB7)
          | (go_at_call 13; (with_reducible refine Calls.mono (H7.out _ HB7.out) ?_); rintro e w8 ⟨rfl, hB8⟩; have HB8 := Lib.hid (below_th HB7.out hB8); clear hB8))
        go_ret
        exact ⟨rfl, HB8.out⟩
    | true =>
      obtain rfl := htr rfl rfl
      clear htr
      cases b with
      | false =>
        go_enter Try.func7, Try.ntmps7
        go_wp2_with (first
          | (go_at_call 8; refine (shown_any _).mono ?_; rintro e w1 ⟨rfl, hB1⟩; have HB := Lib.hid hB1; clear hB1)
          | (go_at_call 16; (with_reducible refine Calls.mono (H1.out _ HB.out) ?_); rintro e w2 ⟨rfl, hB2⟩; have HB2 := Lib.hid (below_th HB.out hB2); clear hB2)
          | (go_at_call 16; (with_reducible refine Calls.mono (H2.out _ HB2.out) ?_); rintro e w3 ⟨rfl, hB3⟩; have HB3 := Lib.hid (below_th HB2.out hB3); clear hB3)
          | (go_at_call 16; (with_reducible refine Calls.mono (H3.out _ HB3.out) ?_); rintro e w4 ⟨rfl, hB4⟩; have HB4 := Lib.hid (below_th HB3.out hB4); clear hB4)
          | (go_at_call 16; (with_reducible refine Calls.mono (H4.out _ HB4.out) ?_); rintro e w5 ⟨rfl, hB5⟩; have HB5 := Lib.hid (below_th HB4.out hB5); clear hB5)
          | (go_at_call 16; (with_reducible refine Calls.mono (H5.out _ HB5.out) ?_); rintro e w6 ⟨rfl, hB6⟩; have HB6 := Lib.hid (below_th HB5.out hB6); clear hB6)
          | (go_at_call 16; (with_reducible refine Calls.mono (H6.out _ HB6.out) ?_); rintro e w7 ⟨rfl, hB7⟩; have HB7 := Lib.hid (below_th HB6.out hB7); clear hB7)
          | (go_at_call 13; (with_reducible refine Calls.mono (H7.out _ HB7.out) ?_); rintro e w8 ⟨rfl, hB8⟩; have HB8 := Lib.hid (below_th HB7.out hB8); clear hB8))
        go_ret
        exact ⟨rfl, HB8.out⟩
      | true =>
        go_enter Try.func7, Try.ntmps7
        go_wp2_with (first
          | (go_at_call 8; refine (shown_any _).mono ?_; rintro e w1 ⟨rfl, hB1⟩; have HB := Lib.hid hB1; clear hB1)
          | (go_at_call 16; (with_reducible refine Calls.mono (H1.out _ HB.out) ?_); rintro e w2 ⟨rfl, hB2⟩; have HB2 := Lib.hid (below_th HB.out hB2); clear hB2)
          | (go_at_call 16; (with_reducible refine Calls.mono (H2.out _ HB2.out) ?_); rintro e w3 ⟨rfl, hB3⟩; have HB3 := Lib.hid (below_th HB2.out hB3); clear hB3)
          | (go_at_call 16; (with_reducible refine Calls.mono (H3.out _ HB3.out) ?_); rintro e w4 ⟨rfl, hB4⟩; have HB4 := Lib.hid (below_th HB3.out hB4); clear hB4)
          | (go_at_call 16; (with_reducible refine Calls.mono (H4.out _ HB4.out) ?_); rintro e w5 ⟨rfl, hB5⟩; have HB5 := Lib.hid (below_th HB4.out hB5); clear hB5)
          | (go_at_call 16; (with_reducible refine Calls.mono (H5.out _ HB5.out) ?_); rintro e w6 ⟨rfl, hB6⟩; have HB6 := Lib.hid (below_th HB5.out hB6); clear hB6)
          | (go_at_call 16; (with_reducible refine Calls.mono (H6.out _ HB6.out) ?_); rintro e w7 ⟨rfl, hB7⟩; have HB7 := Lib.hid (below_th HB6.out hB7); clear hB7)
          | (go_at_call 13; (with_reducible refine Calls.mono (H7.out _ HB7.out) ?_); rintro e w8 ⟨rfl, hB8⟩; have HB8 := Lib.hid (below_th HB7.out hB8); clear hB8))
        go_ret
        exact ⟨rfl, HB8.out⟩
end
end Go.Proofs.Ytgmpfkhcohlijaa.Pth
