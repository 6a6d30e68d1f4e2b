/- Right of the document. -/
import Derived.Test.YtmknjnmbdnlkpaaSupEnc
namespace Go.Proofs.Ytmknjnmbdnlkpaa.Super.R
open Go.RowKit Go.Shelf
attribute [local go_sem] Oper.semAt_some
set_option linter.unusedVariables false

section
set_option maxRecDepth 100000
theorem isSize_any (n : Int) (w : World) : Calls Try.prog 26 #[.int .i64 n] w fun e w' => e = .returned (.bool (sizeB n)) ∧ w = w' := by
  by_cases h1 : 128 ≤ n
  · by_cases h2 : n ≤ 4096
    · have ht : n.tmod 16 = n % 16 := Int.tmod_eq_emod_of_nonneg (by omega)
      by_cases h3 : n % 16 = 0
      · have HD : Hid (sizeB n = true) := by unfold Hid sizeB; simp [*]
        have hq : (n % 16 == 0) = true := by simp [h3]
        go_enter Try.func26, Try.ntmps26
        go_wp2
        go_ret
        exact ⟨by rw [HD.out]; rfl, rfl⟩
      · have HD : Hid (sizeB n = false) := by unfold Hid sizeB; simp [*]
        have hq : (n % 16 == 0) = false := by simp [h3]
        go_enter Try.func26, Try.ntmps26
        go_wp2
        go_ret
        exact ⟨by rw [HD.out]; rfl, rfl⟩
    · have HD : Hid (sizeB n = false) := by unfold Hid sizeB; simp [*]
      go_enter Try.func26, Try.ntmps26
      go_wp2
      go_ret
      exact ⟨by rw [HD.out]; rfl, rfl⟩
  · have HD : Hid (sizeB n = false) := by unfold Hid sizeB; simp [*]
    go_enter Try.func26, Try.ntmps26
    go_wp2
    go_ret
    exact ⟨by rw [HD.out]; rfl, rfl⟩

theorem isCount_any (n : Nat) (w : World) : Calls Try.prog 27 #[.int .u64 n] w fun e w' => e = .returned (.bool (countB n)) ∧ w = w' := by
  by_cases h1 : 1 ≤ n
  · by_cases h2 : n < 281474976710656
    · have HD : Hid (countB n = true) := by unfold Hid countB; simp [*]
      have g1 : (1 : Int) ≤ n := by omega
      have g2 : (n : Int) < 281474976710656 := by omega
      go_enter Try.func27, Try.ntmps27
      go_wp2
      go_ret
      exact ⟨by rw [HD.out]; rfl, rfl⟩
    · have HD : Hid (countB n = false) := by unfold Hid countB; simp [*]
      have g1 : (1 : Int) ≤ n := by omega
      have g2 : ¬ (n : Int) < 281474976710656 := by omega
      go_enter Try.func27, Try.ntmps27
      go_wp2
      go_ret
      exact ⟨by rw [HD.out]; rfl, rfl⟩
  · have HD : Hid (countB n = false) := by unfold Hid countB; simp [*]
    have g1 : ¬ (1 : Int) ≤ n := by omega
    go_enter Try.func27, Try.ntmps27
    go_wp2
    go_ret
    exact ⟨by rw [HD.out]; rfl, rfl⟩

/-- the document's Right, given how its five parts come out -/
theorem right_any (s : S) (w : World) : Calls Try.prog 14 #[s.val] w fun e w' => e = .returned (.bool (rightB s)) ∧ Below w.heap.size w w' := by
  obtain ⟨n, q, a, c⟩ := s
  have HR := Lib.hid (rightB_split ⟨n, q, a, c⟩)
  have HB := (Below.refl w.heap.size w).alloc (Nat.le_refl _) (boxO ⟨n, q, a, c⟩)
  unfold S.val
  unfold boxO at HB
  dsimp only at HR HB ⊢
  have fin : ∀ b : Bool, rightB ⟨n, q, a, c⟩ = b → Ending.returned (.bool b) = .returned (.bool (rightB ⟨n, q, a, c⟩)) := fun b h => by rw [h]
  have HF := Lib.hid fin
  clear fin
  have go : ∀ (b : Bool), Hid (rightB ⟨n, q, a, c⟩ = b) → Calls Try.prog 14 #[.agg #[.int .i64 n, .int .u64 q, .int .i64 a, .int .u64 c]] w (fun e w' => e = .returned (.bool b) ∧ Below w.heap.size w w') → Calls Try.prog 14 #[.agg #[.int .i64 n, .int .u64 q, .int .i64 a, .int .u64 c]] w fun e w' => e = .returned (.bool (rightB ⟨n, q, a, c⟩)) ∧ Below w.heap.size w w' := fun b hb hc => hc.mono fun e w' ⟨h, k⟩ => ⟨by rw [h, hb.out], k⟩
  cases h1 : sizeB n with
  | false =>
    refine go false (by unfold Hid; rw [HR.out, h1]; rfl) ?_
    go_enter Try.func14, Try.ntmps14
    go_wp2_with (go_at_call 26; refine (isSize_any _ _).mono ?_; rintro e w' ⟨rfl, rfl⟩)
    go_ret
    exact ⟨rfl, HB⟩
  | true =>
    by_cases h2 : 16 ≤ a
    · by_cases h3 : a < n
      · cases h4 : countB q with
        | false =>
          refine go false (by unfold Hid; rw [HR.out, h1, h4]; simp) ?_
          go_enter Try.func14, Try.ntmps14
          go_wp2_with (first | (go_at_call 26; refine (isSize_any _ _).mono ?_; rintro e w' ⟨rfl, rfl⟩) | (go_at_call 27; refine (isCount_any _ _).mono ?_; rintro e w' ⟨rfl, rfl⟩))
          go_ret
          exact ⟨rfl, HB⟩
        | true =>
          cases h5 : countB c with
          | false =>
            refine go false (by unfold Hid; rw [HR.out, h1, h4, h5]; simp) ?_
            go_enter Try.func14, Try.ntmps14
            go_wp2_with (first | (go_at_call 26; refine (isSize_any _ _).mono ?_; rintro e w' ⟨rfl, rfl⟩) | (go_at_call 27; refine (isCount_any _ _).mono ?_; rintro e w' ⟨rfl, rfl⟩))
            go_ret
            exact ⟨rfl, HB⟩
          | true =>
            refine go true (by unfold Hid; rw [HR.out, h1, h4, h5]; simp [h2, h3]) ?_
            go_enter Try.func14, Try.ntmps14
            go_wp2_with (first | (go_at_call 26; refine (isSize_any _ _).mono ?_; rintro e w' ⟨rfl, rfl⟩) | (go_at_call 27; refine (isCount_any _ _).mono ?_; rintro e w' ⟨rfl, rfl⟩))
            go_ret
            exact ⟨rfl, HB⟩
      · refine go false (by unfold Hid; rw [HR.out, h1]; simp [h3]) ?_
        go_enter Try.func14, Try.ntmps14
        go_wp2_with (go_at_call 26; refine (isSize_any _ _).mono ?_; rintro e w' ⟨rfl, rfl⟩)
        go_ret
        exact ⟨rfl, HB⟩
    · refine go false (by unfold Hid; rw [HR.out, h1]; simp [h2]) ?_
      go_enter Try.func14, Try.ntmps14
      go_wp2_with (go_at_call 26; refine (isSize_any _ _).mono ?_; rintro e w' ⟨rfl, rfl⟩)
      go_ret
      exact ⟨rfl, HB⟩
end
end Go.Proofs.Ytmknjnmbdnlkpaa.Super.R
