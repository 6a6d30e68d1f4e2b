/- A bag's tree, told apart from memory: its nodes, its height, what stands in it in order, the way down to a number. -/
import Derived.Test.YtbelgkccfajjoaaBagPure
namespace Go.Proofs.Ytbelgkccfajjoaa
set_option linter.unusedVariables false

inductive T (α : Type) where
  | node (r : Rec α) (ks : List (T α))

namespace T
variable {α : Type}
def r : T α → Rec α | node r _ => r
def ks : T α → List (T α) | node _ k => k
mutual
def recs : T α → List (Rec α) | node r ks => r :: recsL ks
def recsL : List (T α) → List (Rec α) | [] => [] | t :: ts => recs t ++ recsL ts
end
theorem recsL_eq (l : List (T α)) : recsL l = l.flatMap recs := by
  induction l with
  | nil => rfl
  | cons t l ih => rw [recsL, List.flatMap_cons, ih]
theorem recs_eq (t : T α) : t.recs = t.r :: t.ks.flatMap recs := by
  cases t with
  | node r ks => rw [recs, recsL_eq]; rfl
theorem r_mem (t : T α) : t.r ∈ t.recs := by rw [recs_eq]; simp
theorem ks_sub {t k : T α} (h : k ∈ t.ks) : ∀ x, x ∈ k.recs → x ∈ t.recs := fun x hx => by
  rw [recs_eq]
  exact List.mem_cons_of_mem _ (List.mem_flatMap.2 ⟨k, h, hx⟩)

/-- balanced, of a height; each node but this one has three to seven numbers -/
def wf : Nat → T α → Prop
  | 0, t => t.ks = [] ∧ t.r.kv = none ∧ t.r.kids = []
  | d + 1, t => t.r.kv.isSome = true ∧ t.r.kids = t.ks.map (fun k => k.r.b) ∧ t.ks.length = t.r.items.length + 1 ∧ ∀ k, k ∈ t.ks → wf d k ∧ 3 ≤ k.r.items.length ∧ k.r.items.length ≤ 7

/-- the first place whose number is not below -/
def lower (at0 : Int) : List (Int × α) → Nat
  | [] => 0
  | x :: l => if x.1 < at0 then lower at0 l + 1 else 0
theorem lower_le (at0 : Int) (l : List (Int × α)) : lower at0 l ≤ l.length := by
  induction l with
  | nil => simp [lower]
  | cons x l ih => simp only [lower]; split <;> simp <;> omega
theorem lower_lt (at0 : Int) (l : List (Int × α)) (k : Nat) (x : Int × α) (h : k < lower at0 l) (hx : l[k]? = some x) : x.1 < at0 := by
  induction l generalizing k with
  | nil => simp at hx
  | cons y l ih =>
    simp only [lower] at h
    split at h
    · cases k with
      | zero => obtain rfl : y = x := by simpa using hx
                assumption
      | succ k => exact ih k (by omega) (by simpa using hx)
    · omega
theorem lower_ge (at0 : Int) (l : List (Int × α)) (x : Int × α) (hx : l[lower at0 l]? = some x) : at0 ≤ x.1 := by
  induction l with
  | nil => simp at hx
  | cons y l ih =>
    simp only [lower] at hx
    split at hx
    · exact ih (by simpa using hx)
    · obtain rfl : y = x := by simpa using hx
      omega

/-- does the number stand in this node? -/
def hit (at0 : Int) (t : T α) : Bool := match t.r.items[lower at0 t.r.items]? with
  | some x => x.1 == at0
  | none => false
def wsteps (at0 : Int) : Nat → T α → List (Nat × Nat)
  | 0, t => [(t.r.b, lower at0 t.r.items)]
  | d + 1, t => (t.r.b, lower at0 t.r.items) :: if hit at0 t then [] else match t.ks[lower at0 t.r.items]? with
    | some k => wsteps at0 d k
    | none => []
def wfound (at0 : Int) : Nat → T α → Bool
  | 0, t => hit at0 t
  | d + 1, t => hit at0 t || match t.ks[lower at0 t.r.items]? with
    | some k => wfound at0 d k
    | none => false
theorem wsteps_hit (at0 : Int) (d : Nat) (t : T α) (h : hit at0 t = true) : wsteps at0 d t = [(t.r.b, lower at0 t.r.items)] ∧ wfound at0 d t = true := by
  cases d <;> simp [wsteps, wfound, h]
theorem kid_at (d : Nat) (t : T α) (p : Nat) (h : wf (d + 1) t) (hp : p ≤ t.r.items.length) : ∃ k, t.ks[p]? = some k ∧ t.r.kids[p]? = some k.r.b ∧ wf d k ∧ k ∈ t.ks := by
  have hl : p < t.ks.length := by have := h.2.2.1; omega
  refine ⟨t.ks[p], List.getElem?_eq_getElem hl, ?_, (h.2.2.2 _ (List.getElem_mem hl)).1, List.getElem_mem hl⟩
  rw [h.2.1, List.getElem?_map, List.getElem?_eq_getElem hl]
  rfl
theorem wsteps_down (at0 : Int) (d : Nat) (t k : T α) (h : hit at0 t = false) (hk : t.ks[lower at0 t.r.items]? = some k) :
    wsteps at0 (d + 1) t = (t.r.b, lower at0 t.r.items) :: wsteps at0 d k ∧ wfound at0 (d + 1) t = wfound at0 d k := by
  simp [wsteps, wfound, h, hk]
end T

end Go.Proofs.Ytbelgkccfajjoaa
