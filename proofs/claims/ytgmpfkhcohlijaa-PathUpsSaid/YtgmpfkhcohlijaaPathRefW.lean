/- The document's Within, Same. -/
import Derived.Test.YtgmpfkhcohlijaaPathMem
namespace Go.Proofs.Ytgmpfkhcohlijaa.Pth
open Go.RowKit Nam
attribute [local go_sem] Oper.semAt_some
set_option linter.unusedVariables false
set_option linter.unusedSimpArgs false
theorem nat_beq (n m : Nat) : ((n : Int) == (m : Int)) = decide (n = m) := by
  by_cases h : n = m
  · rw [h]; simp
  · rw [decide_eq_false h]; exact beq_eq_false_iff_ne.2 (by omega)
namespace R
section
set_option maxRecDepth 100000
set_option maxHeartbeats 8000000
theorem within_any (v1 v2 : Value) (X Y : List ByteArray) (w : World) (h1 : Strs w v1 X) (h2 : Strs w v2 Y) : Calls Try.prog 17 #[v1, v2] w (Ans w (.bool (withinB X Y))) := by
  obtain ⟨a1, cap1, rfl, hn1, hm1⟩ := h1.parts
  obtain ⟨a2, cap2, rfl, hn2, hm2⟩ := h2.parts
  by_cases hl : Y.length < X.length
  · have HF := Lib.hid (within_long hl)
    have hq : decide (Y.length < X.length) = true := decide_eq_true hl
    have hq2 : decide ((Y.length : Int) < (X.length : Int)) = true := decide_eq_true (by omega)
    clear h1 h2
    go_enter Try.func17, Try.ntmps17
    go_wp2
    go_ret
    exact ⟨by rw [HF.out]; rfl, Below.refl _ _⟩
  · have HYes := Lib.hid (fun h => within_all (A := X) (B := Y) (by omega) h)
    have HNo := Lib.hid (fun k hk h => within_not (A := X) (B := Y) (k := k) hk h)
    obtain ⟨r, hr⟩ : ∃ r, withinB X Y = r := ⟨_, rfl⟩
    simp only [hr] at HNo HYes
    rw [hr]
    obtain ⟨N, hN⟩ : ∃ N, X.length = N := ⟨_, rfl⟩
    obtain ⟨M, hM⟩ : ∃ M, Y.length = M := ⟨_, rfl⟩
    have hNM : N ≤ M := by omega
    rw [hN] at hn1 ⊢
    rw [hM] at hn2 ⊢
    simp only [hN] at HYes HNo
    rw [hN] at h1
    rw [hM] at h2
    have HX := Lib.hid (fun W (h : Below w.heap.size w W) k (hk : k < N) => (h1.below h).get (k := k) (by rw [hN]; exact hk))
    have HY := Lib.hid (fun W (h : Below w.heap.size w W) k (hk : k < N) => (h2.below h).get (k := k) (by rw [hM]; omega))
    have hq : decide (M < N) = false := decide_eq_false (by omega)
    have hq2 : decide ((M : Int) < (N : Int)) = false := decide_eq_false (by omega)
    clear h1 h2 hl hN hM hr
    obtain ⟨W0, rfl⟩ : ∃ W0 : World, W0 = w := ⟨_, rfl⟩
    go_enter Try.func17, Try.ntmps17
    go_wp2
    go_loopw [5] (fun i wr => ∃ k : Nat, k ≤ N ∧ i = .int .i64 (k : Int) ∧ Hid (∀ j, j < k → X.getD j ⟨#[]⟩ = Y.getD j ⟨#[]⟩) ∧ Below W0.heap.size W0 wr) (fun i _ => N - (intOf i).toNat)
    case atStart => exact ⟨0, by omega, rfl, fun j hj => by omega, Below.refl _ _⟩
    case round =>
      obtain ⟨k, hk, rfl, HW, hB⟩ := hrel
      by_cases hlt : k < N
      · obtain ⟨b1, off1, e1, c1⟩ := HX.out _ hB k hlt
        obtain ⟨b2, off2, e2, c2⟩ := HY.out _ hB k hlt
        subst e1
        subst e2
        have HBq := Lib.hid hB
        have hkM : (k : Int) < (M : Int) := by omega
        by_cases he : X.getD k ⟨#[]⟩ = Y.getD k ⟨#[]⟩
        · have hq := beq_yes he
          have HS : Hid (∀ j, j < k + 1 → X.getD j ⟨#[]⟩ = Y.getD j ⟨#[]⟩) := fun j hj => by
            rcases Nat.lt_succ_iff_lt_or_eq.1 hj with h | h
            · exact HW.out j h
            · rw [h]; exact he
          clear he
          generalize X.getD k ⟨#[]⟩ = s1 at c1 hq
          generalize Y.getD k ⟨#[]⟩ = s2 at c2 hq
          go_wp2
          go_quiet (fail)
          go_wp2
          go_roundw
          case rel => exact ⟨k + 1, by omega, by go_num, HS.out, below_drewN HBq.out _⟩
          case measure => simp [intOf]; omega
        · have hq := beq_no he
          have HF := Lib.hid (HNo.out k hlt he)
          clear he
          generalize X.getD k ⟨#[]⟩ = s1 at c1 hq
          generalize Y.getD k ⟨#[]⟩ = s2 at c2 hq
          go_wp2
          go_quiet (fail)
          go_wp2
          go_ret
          exact ⟨by rw [HF.out]; rfl, below_drewN HBq.out _⟩
      · obtain rfl : k = N := by omega
        have HT := Lib.hid (HYes.out HW.out)
        go_wp2
        go_ret
        exact ⟨by rw [HT.out]; rfl, hB⟩
theorem same_any (v1 v2 : Value) (X Y : List ByteArray) (w : World) (h1 : Strs w v1 X) (h2 : Strs w v2 Y) : Calls Try.prog 13 #[v1, v2] w (Ans w (.bool (decide (X = Y)))) := by
  have hW := Lib.hid (within_any v1 v2 X Y w h1 h2)
  rw [← within_same]
  obtain ⟨a1, cap1, rfl, hn1, hm1⟩ := h1.parts
  obtain ⟨a2, cap2, rfl, hn2, hm2⟩ := h2.parts
  generalize withinB X Y = r at *
  generalize X.length = n at *
  generalize Y.length = m at *
  clear h1 h2 hn1 hn2 hm1 hm2
  cases r with
  | false =>
    go_enter Try.func13, Try.ntmps13
    go_wp2_with (go_at_call 17; (with_reducible refine Calls.mono hW.out ?_); rintro e w1 ⟨rfl, hB⟩)
    go_ret
    exact ⟨rfl, hB⟩
  | true =>
    generalize hd : decide (n = m) = d at *
    go_enter Try.func13, Try.ntmps13
    go_wp2_with (go_at_call 17; (with_reducible refine Calls.mono hW.out ?_); rintro e w1 ⟨rfl, hB⟩)
    go_ret
    exact ⟨by rw [Bool.true_and, ← hd, ← nat_beq]; rfl, hB⟩
end
end R
end Go.Proofs.Ytgmpfkhcohlijaa.Pth
