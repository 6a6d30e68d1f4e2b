/- What calls do with what stands in a bag, as lists that rise by numbers. -/
import Derived.Test.YtbelgkccfajjoaaBagSplit
namespace Go.Proofs.Ytbelgkccfajjoaa
set_option linter.unusedVariables false

namespace T
variable {α : Type}
def get (at0 : Int) : List (I α) → Option α
  | [] => none
  | x :: l => if x.1 = at0 then some x.2 else get at0 l
def put (at0 : Int) (v : α) : List (I α) → List (I α)
  | [] => [(at0, v)]
  | x :: l => if x.1 < at0 then x :: put at0 v l else if x.1 = at0 then (at0, v) :: l else (at0, v) :: x :: l
def del (at0 : Int) (l : List (I α)) : List (I α) := l.filter fun x => x.1 != at0

theorem Rise.mid {l r : List (I α)} {x : I α} (h : Rise (l ++ x :: r)) : (∀ y, y ∈ l → y.1 < x.1) ∧ ∀ y, y ∈ r → x.1 < y.1 :=
  ⟨fun y hy => Rise.across h y hy x (by simp), (List.pairwise_cons.1 (Rise.right h)).1⟩
theorem rise_mk {l r : List (I α)} (hl : Rise l) (hr : Rise r) (h : ∀ a, a ∈ l → ∀ b, b ∈ r → a.1 < b.1) : Rise (l ++ r) := List.pairwise_append.2 ⟨hl, hr, h⟩
theorem rise_between {l r : List (I α)} {x : I α} (h : Rise (l ++ r)) (hl : ∀ y, y ∈ l → y.1 < x.1) (hr : ∀ y, y ∈ r → x.1 < y.1) : Rise (l ++ x :: r) := by
  refine rise_mk (Rise.left h) (List.pairwise_cons.2 ⟨hr, Rise.right h⟩) fun a ha b hb => ?_
  rcases List.mem_cons.1 hb with rfl | hb
  · exact hl a ha
  · exact Rise.across h a ha b hb
theorem rise_drop {l r : List (I α)} {x : I α} (h : Rise (l ++ x :: r)) : Rise (l ++ r) :=
  rise_mk (Rise.left h) (List.pairwise_cons.1 (Rise.right h)).2 fun a ha b hb => Rise.across h a ha b (List.mem_cons_of_mem _ hb)

theorem get_in (at0 : Int) (l r : List (I α)) (x : I α) (hl : ∀ y, y ∈ l → y.1 < at0) (hx : x.1 = at0) : get at0 (l ++ x :: r) = some x.2 := by
  induction l with
  | nil => simp [get, hx]
  | cons y l ih =>
    have := hl y (by simp)
    rw [List.cons_append, get, if_neg (by omega)]
    exact ih fun z hz => hl z (by simp [hz])
theorem get_out (at0 : Int) (l : List (I α)) (h : ∀ y, y ∈ l → y.1 ≠ at0) : get at0 l = none := by
  induction l with
  | nil => rfl
  | cons y l ih =>
    rw [get, if_neg (h y (by simp))]
    exact ih fun z hz => h z (by simp [hz])
theorem put_in (at0 : Int) (v : α) (l r : List (I α)) (x : I α) (hl : ∀ y, y ∈ l → y.1 < at0) (hx : x.1 = at0) : put at0 v (l ++ x :: r) = l ++ (at0, v) :: r := by
  induction l with
  | nil => simp [put, hx]
  | cons y l ih =>
    have := hl y (by simp)
    rw [List.cons_append, put, if_pos this, ih fun z hz => hl z (by simp [hz])]
    rfl
theorem put_out (at0 : Int) (v : α) (l r : List (I α)) (hl : ∀ y, y ∈ l → y.1 < at0) (hr : ∀ y, y ∈ r → at0 < y.1) : put at0 v (l ++ r) = l ++ (at0, v) :: r := by
  induction l with
  | nil =>
    cases r with
    | nil => rfl
    | cons y r =>
      have := hr y (by simp)
      rw [List.nil_append, put, if_neg (by omega), if_neg (by omega)]
      rfl
  | cons y l ih =>
    have := hl y (by simp)
    rw [List.cons_append, put, if_pos this, ih fun z hz => hl z (by simp [hz])]
    rfl
theorem del_in (at0 : Int) (l r : List (I α)) (x : I α) (hl : ∀ y, y ∈ l → y.1 < at0) (hx : x.1 = at0) (hr : ∀ y, y ∈ r → at0 < y.1) : del at0 (l ++ x :: r) = l ++ r := by
  unfold del
  rw [List.filter_append, List.filter_cons, List.filter_eq_self.2 (fun y hy => by have := hl y hy; simp; omega), List.filter_eq_self.2 (fun y hy => by have := hr y hy; simp; omega)]
  simp [hx]
theorem del_out (at0 : Int) (l : List (I α)) (h : ∀ y, y ∈ l → y.1 ≠ at0) : del at0 l = l := List.filter_eq_self.2 fun y hy => by simpa using h y hy

/-- a node with another item at a place -/
def setAt (t : T α) (p : Nat) (x : I α) : T α := node { t.r with items := t.r.items.set p x } t.ks
theorem setAt_wf (d : Nat) (t : T α) (p : Nat) (x : I α) (h : wf d t) : wf d (setAt t p x) := by
  cases d with
  | zero => exact h
  | succ d =>
    obtain ⟨h1, h2, h3, h4⟩ := h
    exact ⟨h1, h2, by show t.ks.length = (t.r.items.set p x).length + 1; rw [List.length_set]; exact h3, h4⟩
theorem setAt_inord (d : Nat) (t : T α) (p : Nat) (x y : I α) (h : wf d t) (hy : t.r.items[p]? = some y) :
    ∃ l r, t.inord = l ++ y :: r ∧ (setAt t p x).inord = l ++ x :: r := by
  have hk : t.ks.map inord = [] ∨ (t.ks.map inord).length = t.r.items.length + 1 := (wf_ks d t h).imp (fun h => by rw [h]; rfl) (fun h => by simpa using h)
  refine ⟨_, _, by rw [inord_eq]; exact inter_cut (t.ks.map inord) t.r.items p y hy hk, ?_⟩
  rw [inord_eq]
  show inter (t.ks.map inord) (t.r.items.set p x) = _
  have hlt := (List.getElem?_eq_some_iff.1 hy).1
  rw [inter_cut (t.ks.map inord) (t.r.items.set p x) p x (by rw [List.getElem?_set_self hlt]) (by rw [List.length_set]; exact hk)]
  rw [List.take_set_of_le (Nat.le_refl _), List.drop_set_of_lt (by omega)]
theorem setAt_recs (t : T α) (p : Nat) (x : I α) : (setAt t p x).recs = { t.r with items := t.r.items.set p x } :: t.ks.flatMap recs := by rw [recs_eq]; rfl

theorem height_le (d : Nat) (t : T α) (h : wf d t) (h1 : 1 ≤ t.r.items.length) : d + 1 ≤ t.inord.length := by
  induction d generalizing t with
  | zero =>
    rw [inord_eq, h.1]
    simpa [inter] using h1
  | succ d ih =>
    obtain ⟨k, hk1, hk2, hk3, hk4⟩ := kid_at d t 0 h (by omega)
    have := ih k hk3 (by have := (h.2.2.2 k hk4).2.1; omega)
    obtain ⟨x, hx⟩ : ∃ x, t.r.items[0]? = some x := ⟨_, List.getElem?_eq_getElem (by omega)⟩
    rw [node_at d t k 0 h (by omega) hk1]
    have hf : 1 ≤ (fr (t, 0)).length := by
      have hl := h.2.2.1
      unfold fr
      show 1 ≤ (zipR (t.r.items.drop 0) ((t.ks.drop 1).map inord)).length
      cases hi : t.r.items with
      | nil => rw [hi] at h1; simp at h1
      | cons i is =>
        cases hb : (t.ks.drop 1).map inord with
        | nil => simp [zipR_nil]
        | cons b bs => simp [zipR]
    simp only [List.length_append]
    omega
theorem wsteps_length (at0 : Int) (d : Nat) (t : T α) : (wsteps at0 d t).length ≤ d + 1 := by
  induction d generalizing t with
  | zero => simp [wsteps]
  | succ d ih =>
    rw [wsteps, List.length_cons]
    split
    · simp
    · split
      · rename_i k hk
        have := ih k
        omega
      · simp
end T

end Go.Proofs.Ytbelgkccfajjoaa
