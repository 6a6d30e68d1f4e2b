/- The example that each law calls. -/
import Derived.Test.YtgmpfkhcohlijaaPathAll
namespace Go.Proofs.Ytgmpfkhcohlijaa.Pth
open Go.RowKit Nam
attribute [local go_sem] Oper.semAt_some
set_option linter.unusedVariables false
set_option linter.unusedSimpArgs false
def exA : ByteArray := ⟨#[47, 97, 47, 47, 98, 47, 46, 47, 99, 47, 46, 46, 47, 100]⟩
def exL : List ByteArray := [⟨#[97]⟩, ⟨#[98]⟩, ⟨#[100]⟩]
theorem ex_one : splitD exA = some exL := by decide +kernel
theorem ex_two : splitD ⟨#[47, 46, 46]⟩ = some [] := by decide +kernel
theorem ex_three : splitD ⟨#[97]⟩ = none := by decide +kernel
theorem split_of {s : ByteArray} {l : List ByteArray} (h : splitD s = some l) : splitV s = l ∧ splitE s = 0 := ⟨by unfold splitV; rw [h]; rfl, by unfold splitE; rw [h]⟩
theorem split_not {s : ByteArray} (h : splitD s = none) : splitV s = [] ∧ splitE s = 120 := ⟨by unfold splitV; rw [h]; rfl, by unfold splitE; rw [h]⟩
theorem Strs.three {W : World} {b : Nat} {ty : TypeId} (h : W.heap[b]? = some (.cells #[.string ⟨#[97]⟩, .string ⟨#[98]⟩, .string ⟨#[100]⟩] ty (0, 0))) : Strs W (.slice (some ⟨b, 0, none⟩) 3 3) exL := by
  refine ⟨some ⟨b, 0, none⟩, 3, rfl, Nat.le_refl _, ⟨by unfold maxLen; omega, fun e => by cases e⟩, rfl, fun _ => ⟨b, 0, rfl, fun j u hj => ?_⟩⟩
  have hl := (List.getElem?_eq_some_iff.1 hj).1
  match j, hj with
  | 0, hj => cases hj; simp only [World.cell?, h]; rfl
  | 1, hj => cases hj; simp only [World.cell?, h]; rfl
  | 2, hj => cases hj; simp only [World.cell?, h]; rfl
  | j + 3, hj => exact absurd hl (by show ¬ j + 3 < 3; omega)
section
set_option maxRecDepth 100000
set_option maxHeartbeats 8000000
theorem shown_any (w : World) : Calls Try.prog 8 #[] w (Ans w (.bool true)) := by
  have h1 := fun W => split_any ⟨#[47, 97, 47, 47, 98, 47, 46, 47, 99, 47, 46, 46, 47, 100]⟩ W (by decide)
  have h2 := fun W => split_any ⟨#[47, 46, 46]⟩ W (by decide)
  have h3 := fun W => split_any ⟨#[97]⟩ W (by decide)
  have e1 := split_of (s := ⟨#[47, 97, 47, 47, 98, 47, 46, 47, 99, 47, 46, 46, 47, 100]⟩) ex_one
  unfold SplitPost at h1 h2 h3
  rw [e1.1, e1.2] at h1
  rw [(split_of ex_two).1, (split_of ex_two).2] at h2
  rw [(split_not ex_three).1, (split_not ex_three).2] at h3
  have H1 := Lib.hid h1
  have H2 := Lib.hid h2
  have H3 := Lib.hid h3
  clear h1 h2 h3 e1
  go_enter Try.func8, Try.ntmps8
  go_wp2_with (first
    | (go_at_call 9; (with_reducible refine Calls.mono (H1.out _) ?_); rintro e w1 ⟨v1, rfl, hv1, hB1⟩; have HV1 := Lib.hid hv1; clear hv1)
    | (go_at_call 9; (with_reducible refine Calls.mono (H2.out _) ?_); rintro e w2 ⟨v2, rfl, hv2, hB2⟩; obtain ⟨a2, c2, rfl, _, _⟩ := hv2.parts; clear hv2)
    | (go_at_call 9; (with_reducible refine Calls.mono (H3.out _) ?_); rintro e w3 ⟨v3, rfl, hv3, hB3⟩; clear hv3)
    | (go_at_call 13; refine (R.same_any _ _ exL exL _ (((HV1.out.below hB2).below hB3).below (below_new w3 _)) (Strs.three (World.alloc_heap_new w3 _))).mono ?_; rintro e w4 ⟨rfl, hB4⟩; have hd : decide (exL = exL) = true := decide_eq_true rfl))
  go_ret
  exact ⟨rfl, below_th (below_al (below_th (below_th hB1 hB2) hB3) _) hB4⟩
end
end Go.Proofs.Ytgmpfkhcohlijaa.Pth
