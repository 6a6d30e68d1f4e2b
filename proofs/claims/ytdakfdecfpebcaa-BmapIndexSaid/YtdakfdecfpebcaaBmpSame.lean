/- The document's Same, SameInts, SameTexts. -/
import Derived.Test.YtdakfdecfpebcaaBmpMem
namespace Go.Proofs.Ytdakfdecfpebcaa.Bmp.R
open Go.RowKit Ino
attribute [local go_sem] Oper.semAt_some
set_option linter.unusedVariables false
set_option linter.unusedSimpArgs false
section
set_option maxRecDepth 100000
set_option maxHeartbeats 4000000
theorem same_any (v1 v2 : Value) (X Y : List Nat) (w : World) (h1 : U32s w v1 X) (h2 : U32s w v2 Y) : Calls Try.prog 19 #[v1, v2] w (Ans w (.bool (decide (X = Y)))) := by
  obtain ⟨a1, cap1, rfl, hn1, hm1⟩ := h1.parts
  obtain ⟨a2, cap2, rfl, hn2, hm2⟩ := h2.parts
  by_cases hl : X.length = Y.length
  · have HYes : Hid ((∀ j, j < X.length → X.getD j 0 = Y.getD j 0) → decide (X = Y) = true) := fun h => decide_eq_true (getD_ext hl h)
    have HNo : Hid (∀ k, ¬ X.getD k 0 = Y.getD k 0 → decide (X = Y) = false) := fun k hk => decide_eq_false fun h => hk (by rw [h])
    obtain ⟨r, hr⟩ : ∃ r, decide (X = Y) = r := ⟨_, rfl⟩
    rw [hr] at HYes ⊢
    simp only [hr] at HNo
    obtain ⟨N, hN⟩ : ∃ N, X.length = N := ⟨_, rfl⟩
    have hN2 : Y.length = N := by omega
    rw [hN] at h1 HYes hn1 ⊢
    rw [hN2] at h2 hn2 ⊢
    have HX := Lib.hid (fun W (h : Below w.heap.size w W) k (hk : k < N) => (h1.below h).get (k := k) (by rw [hN]; exact hk))
    have HY := Lib.hid (fun W (h : Below w.heap.size w W) k (hk : k < N) => (h2.below h).get (k := k) (by rw [hN2]; exact hk))
    clear h1 h2 hl hN hN2 hr
    obtain ⟨W0, rfl⟩ : ∃ W0 : World, W0 = w := ⟨_, rfl⟩
    go_enter Try.func19, Try.ntmps19
    go_wp2
    go_loopw [5] (fun i wr => ∃ k : Nat, k ≤ N ∧ i = .int .i64 (k : Int) ∧ Hid (∀ j, j < k → X.getD j 0 = Y.getD j 0) ∧ Below W0.heap.size W0 wr) (fun i _ => N - (intOf i).toNat)
    case atStart => exact ⟨0, by omega, rfl, fun j hj => by omega, Below.refl _ _⟩
    case round =>
      obtain ⟨k, hk, rfl, HW, hB⟩ := hrel
      by_cases hlt : k < N
      · obtain ⟨b1, off1, e1, c1⟩ := HX.out _ hB k hlt
        obtain ⟨b2, off2, e2, c2⟩ := HY.out _ hB k hlt
        subst e1
        subst e2
        have HBq := Lib.hid hB
        by_cases he : X.getD k 0 = Y.getD k 0
        · have HS : Hid (∀ j, j < k + 1 → X.getD j 0 = Y.getD j 0) := fun j hj => by
            rcases Nat.lt_succ_iff_lt_or_eq.1 hj with h | h
            · exact HW.out j h
            · rw [h]; exact he
          rw [he] at c1
          generalize Y.getD k 0 = s2 at c1 c2
          clear he
          go_wp2
          go_quiet (fail)
          go_wp2
          go_roundw
          case rel => exact ⟨k + 1, by omega, by go_num, HS.out, below_drewN HBq.out _⟩
          case measure => simp [intOf]; omega
        · have hq : (((X.getD k 0 : Nat) : Int) != ((Y.getD k 0 : Nat) : Int)) = true := bne_iff_ne.2 (by omega)
          have hq2 : (X.getD k 0 == Y.getD k 0) = false := beq_eq_false_iff_ne.2 he
          have hq3 : (((X.getD k 0 : Nat) : Int) == ((Y.getD k 0 : Nat) : Int)) = false := beq_eq_false_iff_ne.2 (by omega)
          have HF := Lib.hid (HNo.out k he)
          clear he
          generalize X.getD k 0 = s1 at c1 hq hq2 hq3
          generalize Y.getD k 0 = s2 at c2 hq hq2 hq3
          go_wp2
          go_quiet (fail)
          go_wp2
          go_ret
          exact ⟨by rw [HF.out]; rfl, below_drewN HBq.out _⟩
      · obtain rfl : N = k := by omega
        have HF := Lib.hid (HYes.out HW.out)
        go_wp2
        go_ret
        exact ⟨by rw [HF.out]; rfl, hB⟩
  · have HF : Hid (decide (X = Y) = false) := decide_eq_false fun h => hl (by rw [h])
    have g2 : ((X.length : Int) != (Y.length : Int)) = true := by simp; omega
    have g3 : (X.length == Y.length) = false := by simp [hl]
    obtain ⟨r, hr⟩ : ∃ r, decide (X = Y) = r := ⟨_, rfl⟩
    rw [hr] at HF ⊢
    clear h1 h2 hr
    generalize X.length = n1 at hn1 g2 g3 hl ⊢
    generalize Y.length = n2 at hn2 g2 g3 hl ⊢
    go_enter Try.func19, Try.ntmps19
    go_wp2
    go_ret
    exact ⟨by rw [HF.out]; rfl, Below.refl _ _⟩
theorem sameInts_any (v1 v2 : Value) (X Y : List Int) (w : World) (h1 : Ints w v1 X) (h2 : Ints w v2 Y) : Calls Try.prog 14 #[v1, v2] w (Ans w (.bool (decide (X = Y)))) := by
  obtain ⟨a1, cap1, rfl, hn1, hm1⟩ := h1.parts
  obtain ⟨a2, cap2, rfl, hn2, hm2⟩ := h2.parts
  by_cases hl : X.length = Y.length
  · have HYes : Hid ((∀ j, j < X.length → X.getD j 0 = Y.getD j 0) → decide (X = Y) = true) := fun h => decide_eq_true (getD_ext hl h)
    have HNo : Hid (∀ k, ¬ X.getD k 0 = Y.getD k 0 → decide (X = Y) = false) := fun k hk => decide_eq_false fun h => hk (by rw [h])
    obtain ⟨r, hr⟩ : ∃ r, decide (X = Y) = r := ⟨_, rfl⟩
    rw [hr] at HYes ⊢
    simp only [hr] at HNo
    obtain ⟨N, hN⟩ : ∃ N, X.length = N := ⟨_, rfl⟩
    have hN2 : Y.length = N := by omega
    rw [hN] at h1 HYes hn1 ⊢
    rw [hN2] at h2 hn2 ⊢
    have HX := Lib.hid (fun W (h : Below w.heap.size w W) k (hk : k < N) => (h1.below h).get (k := k) (by rw [hN]; exact hk))
    have HY := Lib.hid (fun W (h : Below w.heap.size w W) k (hk : k < N) => (h2.below h).get (k := k) (by rw [hN2]; exact hk))
    clear h1 h2 hl hN hN2 hr
    obtain ⟨W0, rfl⟩ : ∃ W0 : World, W0 = w := ⟨_, rfl⟩
    go_enter Try.func14, Try.ntmps14
    go_wp2
    go_loopw [5] (fun i wr => ∃ k : Nat, k ≤ N ∧ i = .int .i64 (k : Int) ∧ Hid (∀ j, j < k → X.getD j 0 = Y.getD j 0) ∧ Below W0.heap.size W0 wr) (fun i _ => N - (intOf i).toNat)
    case atStart => exact ⟨0, by omega, rfl, fun j hj => by omega, Below.refl _ _⟩
    case round =>
      obtain ⟨k, hk, rfl, HW, hB⟩ := hrel
      by_cases hlt : k < N
      · obtain ⟨b1, off1, e1, c1⟩ := HX.out _ hB k hlt
        obtain ⟨b2, off2, e2, c2⟩ := HY.out _ hB k hlt
        subst e1
        subst e2
        have HBq := Lib.hid hB
        by_cases he : X.getD k 0 = Y.getD k 0
        · have HS : Hid (∀ j, j < k + 1 → X.getD j 0 = Y.getD j 0) := fun j hj => by
            rcases Nat.lt_succ_iff_lt_or_eq.1 hj with h | h
            · exact HW.out j h
            · rw [h]; exact he
          rw [he] at c1
          generalize Y.getD k 0 = s2 at c1 c2
          clear he
          go_wp2
          go_quiet (fail)
          go_wp2
          go_roundw
          case rel => exact ⟨k + 1, by omega, by go_num, HS.out, below_drewN HBq.out _⟩
          case measure => simp [intOf]; omega
        · have hq : (X.getD k 0 != Y.getD k 0) = true := bne_iff_ne.2 he
          have hq2 : (X.getD k 0 == Y.getD k 0) = false := beq_eq_false_iff_ne.2 he
          have HF := Lib.hid (HNo.out k he)
          clear he
          generalize X.getD k 0 = s1 at c1 hq hq2
          generalize Y.getD k 0 = s2 at c2 hq hq2
          go_wp2
          go_quiet (fail)
          go_wp2
          go_ret
          exact ⟨by rw [HF.out]; rfl, below_drewN HBq.out _⟩
      · obtain rfl : N = k := by omega
        have HF := Lib.hid (HYes.out HW.out)
        go_wp2
        go_ret
        exact ⟨by rw [HF.out]; rfl, hB⟩
  · have HF : Hid (decide (X = Y) = false) := decide_eq_false fun h => hl (by rw [h])
    have g2 : ((X.length : Int) != (Y.length : Int)) = true := by simp; omega
    have g3 : (X.length == Y.length) = false := by simp [hl]
    obtain ⟨r, hr⟩ : ∃ r, decide (X = Y) = r := ⟨_, rfl⟩
    rw [hr] at HF ⊢
    clear h1 h2 hr
    generalize X.length = n1 at hn1 g2 g3 hl ⊢
    generalize Y.length = n2 at hn2 g2 g3 hl ⊢
    go_enter Try.func14, Try.ntmps14
    go_wp2
    go_ret
    exact ⟨by rw [HF.out]; rfl, Below.refl _ _⟩
theorem sameTexts_any (v1 v2 : Value) (X Y : List ByteArray) (w : World) (h1 : Strs w v1 X) (h2 : Strs w v2 Y) : Calls Try.prog 17 #[v1, v2] w (Ans w (.bool (decide (X = Y)))) := by
  obtain ⟨a1, cap1, rfl, hn1, hm1⟩ := h1.parts
  obtain ⟨a2, cap2, rfl, hn2, hm2⟩ := h2.parts
  by_cases hl : X.length = Y.length
  · have HYes : Hid ((∀ j, j < X.length → X.getD j ⟨#[]⟩ = Y.getD j ⟨#[]⟩) → decide (X = Y) = true) := fun h => decide_eq_true (getD_ext hl h)
    have HNo : Hid (∀ k, ¬ X.getD k ⟨#[]⟩ = Y.getD k ⟨#[]⟩ → decide (X = Y) = false) := fun k hk => decide_eq_false fun h => hk (by rw [h])
    obtain ⟨r, hr⟩ : ∃ r, decide (X = Y) = r := ⟨_, rfl⟩
    rw [hr] at HYes ⊢
    simp only [hr] at HNo
    obtain ⟨N, hN⟩ : ∃ N, X.length = N := ⟨_, rfl⟩
    have hN2 : Y.length = N := by omega
    rw [hN] at h1 HYes hn1 ⊢
    rw [hN2] at h2 hn2 ⊢
    have HX := Lib.hid (fun W (h : Below w.heap.size w W) k (hk : k < N) => (h1.below h).get (k := k) (by rw [hN]; exact hk))
    have HY := Lib.hid (fun W (h : Below w.heap.size w W) k (hk : k < N) => (h2.below h).get (k := k) (by rw [hN2]; exact hk))
    clear h1 h2 hl hN hN2 hr
    obtain ⟨W0, rfl⟩ : ∃ W0 : World, W0 = w := ⟨_, rfl⟩
    go_enter Try.func17, Try.ntmps17
    go_wp2
    go_loopw [5] (fun i wr => ∃ k : Nat, k ≤ N ∧ i = .int .i64 (k : Int) ∧ Hid (∀ j, j < k → X.getD j ⟨#[]⟩ = Y.getD j ⟨#[]⟩) ∧ Below W0.heap.size W0 wr) (fun i _ => N - (intOf i).toNat)
    case atStart => exact ⟨0, by omega, rfl, fun j hj => by omega, Below.refl _ _⟩
    case round =>
      obtain ⟨k, hk, rfl, HW, hB⟩ := hrel
      by_cases hlt : k < N
      · obtain ⟨b1, off1, e1, c1⟩ := HX.out _ hB k hlt
        obtain ⟨b2, off2, e2, c2⟩ := HY.out _ hB k hlt
        subst e1
        subst e2
        have HBq := Lib.hid hB
        by_cases he : X.getD k ⟨#[]⟩ = Y.getD k ⟨#[]⟩
        · have hq := beq_yes he
          have HS : Hid (∀ j, j < k + 1 → X.getD j ⟨#[]⟩ = Y.getD j ⟨#[]⟩) := fun j hj => by
            rcases Nat.lt_succ_iff_lt_or_eq.1 hj with h | h
            · exact HW.out j h
            · rw [h]; exact he
          clear he
          generalize X.getD k ⟨#[]⟩ = s1 at c1 hq
          generalize Y.getD k ⟨#[]⟩ = s2 at c2 hq
          go_wp2
          go_quiet (fail)
          go_wp2
          go_roundw
          case rel => exact ⟨k + 1, by omega, by go_num, HS.out, below_drewN HBq.out _⟩
          case measure => simp [intOf]; omega
        · have hq := beq_no he
          have HF := Lib.hid (HNo.out k he)
          clear he
          generalize X.getD k ⟨#[]⟩ = s1 at c1 hq
          generalize Y.getD k ⟨#[]⟩ = s2 at c2 hq
          go_wp2
          go_quiet (fail)
          go_wp2
          go_ret
          exact ⟨by rw [HF.out]; rfl, below_drewN HBq.out _⟩
      · obtain rfl : N = k := by omega
        have HF := Lib.hid (HYes.out HW.out)
        go_wp2
        go_ret
        exact ⟨by rw [HF.out]; rfl, hB⟩
  · have HF : Hid (decide (X = Y) = false) := decide_eq_false fun h => hl (by rw [h])
    have g2 : ((X.length : Int) != (Y.length : Int)) = true := by simp; omega
    have g3 : (X.length == Y.length) = false := by simp [hl]
    obtain ⟨r, hr⟩ : ∃ r, decide (X = Y) = r := ⟨_, rfl⟩
    rw [hr] at HF ⊢
    clear h1 h2 hr
    generalize X.length = n1 at hn1 g2 g3 hl ⊢
    generalize Y.length = n2 at hn2 g2 g3 hl ⊢
    go_enter Try.func17, Try.ntmps17
    go_wp2
    go_ret
    exact ⟨by rw [HF.out]; rfl, Below.refl _ _⟩
end
end Go.Proofs.Ytdakfdecfpebcaa.Bmp.R