/- Texts in a slice, as paths' parts lie there. -/
import Derived.Test.YtgmpfkhcohlijaaPathMath
import Derived.Test.YtgmpfkhcohlijaaNameRef
namespace Go.Proofs.Ytgmpfkhcohlijaa.Pth
open Go.RowKit Nam
attribute [local go_sem] Oper.semAt_some
set_option linter.unusedVariables false
set_option linter.unusedSimpArgs false
def Strs (w : World) (v : Value) (C : List ByteArray) : Prop := Lies w v C.length 1 (C.map .string)
theorem Strs.below {w w' : World} {v : Value} {C : List ByteArray} (h : Strs w v C) (hB : Below w.heap.size w w') : Strs w' v C := Lies.below h hB
theorem Strs.nil (w : World) : Strs w (.slice none 0 0) [] := Lies.nil w 1
theorem Strs.get {w : World} {a : Option Addr} {n cap : Nat} {X : List ByteArray} (h : Strs w (.slice a n cap) X) {k : Nat} (hk : k < X.length) : ∃ b off, a = some ⟨b, off, none⟩ ∧ w.cell? ⟨b, off + k, none⟩ = some (.string (X.getD k ⟨#[]⟩)) := by
  have hn : X.length = n := by
    obtain ⟨_, _, e, _⟩ := Lies.parts h
    cases e
    rfl
  unfold Strs at h
  rw [hn] at h
  exact Lies.read h (j := k) (u := .string (X.getD k ⟨#[]⟩)) (by rw [List.getElem?_map, List.getD_eq_getElem?_getD, List.getElem?_eq_getElem hk]; rfl)
theorem Strs.parts {w : World} {v : Value} {X : List ByteArray} (h : Strs w v X) : ∃ a cap, v = .slice a X.length cap ∧ X.length ≤ cap ∧ cap ≤ 9223372036854775807 := by
  obtain ⟨a, cap, e, _, h1, h2⟩ := Lies.parts h
  exact ⟨a, cap, e, h1, h2⟩
theorem getD_take {X : List ByteArray} {n j : Nat} (h : j < n) : (X.take n).getD j ⟨#[]⟩ = X.getD j ⟨#[]⟩ := by
  rw [List.getD_eq_getElem?_getD, List.getD_eq_getElem?_getD, List.getElem?_take_of_lt h]
theorem getD_ext {X Y : List ByteArray} (hl : X.length = Y.length) (h : ∀ i, i < X.length → X.getD i ⟨#[]⟩ = Y.getD i ⟨#[]⟩) : X = Y := by
  refine List.ext_getElem hl fun i h1 h2 => ?_
  have := h i h1
  rw [List.getD_eq_getElem?_getD, List.getD_eq_getElem?_getD, List.getElem?_eq_getElem h1, List.getElem?_eq_getElem h2] at this
  exact this
/-- is the first list what the second begins with? -/
def withinB (A B : List ByteArray) : Bool := decide (B.take A.length = A)
theorem within_long {A B : List ByteArray} (h : B.length < A.length) : withinB A B = false := decide_eq_false fun e => by
  have := congrArg List.length e
  rw [List.length_take] at this
  omega
theorem within_all {A B : List ByteArray} (hl : A.length ≤ B.length) (h : ∀ i, i < A.length → A.getD i ⟨#[]⟩ = B.getD i ⟨#[]⟩) : withinB A B = true := decide_eq_true
  (getD_ext (by rw [List.length_take]; omega) fun i hi => by
    have hi2 : i < A.length := by rw [List.length_take] at hi; omega
    rw [getD_take hi2]
    exact (h i hi2).symm)
theorem within_not {A B : List ByteArray} {k : Nat} (hk : k < A.length) (h : ¬ A.getD k ⟨#[]⟩ = B.getD k ⟨#[]⟩) : withinB A B = false := decide_eq_false fun e => h (by
  have h2 := getD_take (X := B) hk
  rw [e] at h2
  exact h2)
theorem within_same {A B : List ByteArray} : (withinB A B && decide (A.length = B.length)) = decide (A = B) := by
  unfold withinB
  by_cases h : A = B
  · subst h
    simp
  · by_cases hl : A.length = B.length
    · have : ¬ B.take A.length = A := by
        rw [hl, List.take_length]
        exact fun e => h e.symm
      simp [h, this]
    · simp [h, hl]
end Go.Proofs.Ytgmpfkhcohlijaa.Pth
