/- Right and Encode, of the program and of the document. -/
import Derived.Test.YtmknjnmbdnlkpaaSupRight
namespace Go.Proofs.Ytmknjnmbdnlkpaa.Super
open Go.RowKit Go.Shelf
attribute [local go_sem] Oper.semAt_some
set_option linter.unusedVariables false

def rightB (s : S) : Bool := decide (RightP s)
theorem rightB_yes {s : S} (h : RightP s) : rightB s = true := decide_eq_true h
theorem rightB_no {s : S} (h : ¬ RightP s) : rightB s = false := decide_eq_false h
theorem rightB_split (s : S) : rightB s = (sizeB s.blocks && decide (16 ≤ s.at_) && decide (s.at_ < s.blocks) && countB s.seq && countB s.cp) := by
  unfold rightB sizeB countB
  rw [Bool.eq_iff_iff]
  simp only [decide_eq_true_iff, Bool.and_eq_true]
  unfold RightP
  constructor
  · rintro ⟨h1, h2, h3, h4, h5⟩; exact ⟨⟨⟨⟨h1, h2⟩, h3⟩, h4⟩, h5⟩
  · rintro ⟨⟨⟨⟨h1, h2⟩, h3⟩, h4⟩, h5⟩; exact ⟨h1, h2, h3, h4, h5⟩

section
set_option maxRecDepth 100000
/-- the program's Right, given how its five parts come out -/
theorem right_any (s : S) (w : World) : Calls Try.prog 13 #[s.val] w fun e w' => e = .returned (.bool (rightB s)) ∧ Below w.heap.size w w' := by
  obtain ⟨n, q, a, c⟩ := s
  have HR := Lib.hid (rightB_split ⟨n, q, a, c⟩)
  have HB := (Below.refl w.heap.size w).alloc (Nat.le_refl _) (boxO ⟨n, q, a, c⟩)
  unfold S.val
  unfold boxO at HB
  dsimp only at HR HB ⊢
  have fin : ∀ b : Bool, rightB ⟨n, q, a, c⟩ = b → Ending.returned (.bool b) = .returned (.bool (rightB ⟨n, q, a, c⟩)) := fun b h => by rw [h]
  have HF := Lib.hid fin
  clear fin
  have go : ∀ (b : Bool), Hid (rightB ⟨n, q, a, c⟩ = b) → Calls Try.prog 13 #[.agg #[.int .i64 n, .int .u64 q, .int .i64 a, .int .u64 c]] w (fun e w' => e = .returned (.bool b) ∧ Below w.heap.size w w') → Calls Try.prog 13 #[.agg #[.int .i64 n, .int .u64 q, .int .i64 a, .int .u64 c]] w fun e w' => e = .returned (.bool (rightB ⟨n, q, a, c⟩)) ∧ Below w.heap.size w w' := fun b hb hc => hc.mono fun e w' ⟨h, k⟩ => ⟨by rw [h, hb.out], k⟩
  cases h1 : sizeB n with
  | false =>
    refine go false (by unfold Hid; rw [HR.out, h1]; rfl) ?_
    go_enter Try.func13, Try.ntmps13
    go_wp2_with (go_at_call 24; refine (isSize_any _ _).mono ?_; rintro e w' ⟨rfl, rfl⟩)
    go_ret
    exact ⟨rfl, HB⟩
  | true =>
    by_cases h2 : 16 ≤ a
    · by_cases h3 : a < n
      · cases h4 : countB q with
        | false =>
          refine go false (by unfold Hid; rw [HR.out, h1, h4]; simp) ?_
          go_enter Try.func13, Try.ntmps13
          go_wp2_with (first | (go_at_call 24; refine (isSize_any _ _).mono ?_; rintro e w' ⟨rfl, rfl⟩) | (go_at_call 25; refine (isCount_any _ _).mono ?_; rintro e w' ⟨rfl, rfl⟩))
          go_ret
          exact ⟨rfl, HB⟩
        | true =>
          cases h5 : countB c with
          | false =>
            refine go false (by unfold Hid; rw [HR.out, h1, h4, h5]; simp) ?_
            go_enter Try.func13, Try.ntmps13
            go_wp2_with (first | (go_at_call 24; refine (isSize_any _ _).mono ?_; rintro e w' ⟨rfl, rfl⟩) | (go_at_call 25; refine (isCount_any _ _).mono ?_; rintro e w' ⟨rfl, rfl⟩))
            go_ret
            exact ⟨rfl, HB⟩
          | true =>
            refine go true (by unfold Hid; rw [HR.out, h1, h4, h5]; simp [h2, h3]) ?_
            go_enter Try.func13, Try.ntmps13
            go_wp2_with (first | (go_at_call 24; refine (isSize_any _ _).mono ?_; rintro e w' ⟨rfl, rfl⟩) | (go_at_call 25; refine (isCount_any _ _).mono ?_; rintro e w' ⟨rfl, rfl⟩))
            go_ret
            exact ⟨rfl, HB⟩
      · refine go false (by unfold Hid; rw [HR.out, h1]; simp [h3]) ?_
        go_enter Try.func13, Try.ntmps13
        go_wp2_with (go_at_call 24; refine (isSize_any _ _).mono ?_; rintro e w' ⟨rfl, rfl⟩)
        go_ret
        exact ⟨rfl, HB⟩
    · refine go false (by unfold Hid; rw [HR.out, h1]; simp [h2]) ?_
      go_enter Try.func13, Try.ntmps13
      go_wp2_with (go_at_call 24; refine (isSize_any _ _).mono ?_; rintro e w' ⟨rfl, rfl⟩)
      go_ret
      exact ⟨rfl, HB⟩
end
end Go.Proofs.Ytmknjnmbdnlkpaa.Super
