/- Which numbers a walk through a bag's tree hands out, piece by piece. -/
import Derived.Test.YtbelgkccfajjoaaBagSpec
namespace Go.Proofs.Ytbelgkccfajjoaa
set_option linter.unusedVariables false

namespace T
variable {α : Type}
/-- the numbers from a number on -/
def vis (from0 : Int) (xs : List (I α)) : List Int := (xs.filter fun x => decide (from0 ≤ x.1)).map (·.1)
theorem vis_append (f : Int) (a b : List (I α)) : vis f (a ++ b) = vis f a ++ vis f b := by simp [vis]
theorem vis_low (f : Int) (a : List (I α)) (h : ∀ x, x ∈ a → x.1 < f) : vis f a = [] := by
  unfold vis
  rw [List.filter_eq_nil_iff.2 (fun x hx => by have := h x hx; simp; omega)]
  rfl
theorem vis_one (f : Int) (x : I α) (h : f ≤ x.1) : vis f [x] = [x.1] := by simp [vis, h]
/-- what stands below a node at a place -/
def seg (t : T α) (p : Nat) : List (I α) := match t.ks[p]? with
  | some k => k.inord
  | none => []

theorem zipL_snoc (as : List (List (I α))) (is : List (I α)) (a : List (I α)) (i : I α) (h : as.length = is.length) : zipL (as ++ [a]) (is ++ [i]) = zipL as is ++ (a ++ [i]) := by
  induction as generalizing is with
  | nil =>
    cases is with
    | nil => simp [zipL]
    | cons j is => simp at h
  | cons b as ih =>
    cases is with
    | nil => simp at h
    | cons j is =>
      simp only [List.cons_append, zipL, List.append_assoc]
      rw [ih is (by simpa using h)]
theorem fl_zero (t : T α) : fl (t, 0) = [] := by simp [fl, zipL]
theorem fl_succ (d : Nat) (t : T α) (p : Nat) (x : I α) (hw : wf d t) (hx : t.r.items[p]? = some x) : fl (t, p + 1) = fl (t, p) ++ (seg t p ++ [x]) := by
  have hlt := (List.getElem?_eq_some_iff.1 hx).1
  unfold fl
  show zipL ((t.ks.take (p + 1)).map inord) (t.r.items.take (p + 1)) = zipL ((t.ks.take p).map inord) (t.r.items.take p) ++ _
  rw [List.take_add_one (l := t.r.items), hx]
  rcases wf_ks d t hw with hk | hk
  · unfold seg
    rw [hk]
    simp [zipL]
  · obtain ⟨k, hkk⟩ : ∃ k, t.ks[p]? = some k := ⟨_, List.getElem?_eq_getElem (by omega)⟩
    unfold seg
    rw [List.take_add_one (l := t.ks), hkk]
    simp only [Option.toList_some, List.map_append, List.map_cons, List.map_nil]
    exact zipL_snoc _ _ _ _ (by simp; omega)
theorem whole_at (d : Nat) (t : T α) (p : Nat) (hw : wf d t) (hp : p ≤ t.r.items.length) : t.inord = fl (t, p) ++ (seg t p ++ fr (t, p)) := by
  cases d with
  | zero =>
    rw [leaf_at t p hw]
    have : seg t p = [] := by unfold seg; rw [hw.1]; rfl
    rw [this, List.nil_append]
  | succ d =>
    obtain ⟨k, hk1, _, _, _⟩ := kid_at d t p hw hp
    rw [node_at d t k p hw hp hk1]
    have : seg t p = k.inord := by unfold seg; rw [hk1]
    rw [this]
theorem fr_last (d : Nat) (t : T α) (hw : wf d t) : fr (t, t.r.items.length) = [] := by
  unfold fr
  show zipR (t.r.items.drop t.r.items.length) ((t.ks.drop (t.r.items.length + 1)).map inord) = []
  rw [List.drop_length]
  rcases wf_ks d t hw with h | h
  · rw [h]; rfl
  · rw [List.drop_eq_nil_of_le (by omega)]; rfl

theorem prefix_drop {A B K : List Int} {i : Nat} (h : A ++ B <+: K.drop i) : B <+: K.drop (i + A.length) := by
  obtain ⟨r, hr⟩ := h
  refine ⟨r, ?_⟩
  rw [← List.drop_drop, ← hr, List.append_assoc, List.drop_left]
theorem prefix_at {a : Int} {B K : List Int} {i : Nat} (h : a :: B <+: K.drop i) : K.getD i 0 = a ∧ i < K.length := by
  obtain ⟨r, hr⟩ := h
  have h0 : (K.drop i)[0]? = some a := by rw [← hr]; rfl
  rw [List.getElem?_drop, Nat.add_zero] at h0
  exact ⟨by rw [List.getD_eq_getElem?_getD, h0]; rfl, (List.getElem?_eq_some_iff.1 h0).1⟩
theorem prefix_left {A B C : List Int} (h : A ++ B <+: C) : A <+: C := (List.prefix_append A B).trans h
end T

end Go.Proofs.Ytbelgkccfajjoaa
