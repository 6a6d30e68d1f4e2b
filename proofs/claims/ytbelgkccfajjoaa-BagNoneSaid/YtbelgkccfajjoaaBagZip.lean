/- A bag's tree with a place in it: the nodes above that place, what stands ahead of it and behind it, and the tree when the place is filled again. -/
import Derived.Test.YtbelgkccfajjoaaBagTree
namespace Go.Proofs.Ytbelgkccfajjoaa
set_option linter.unusedVariables false

namespace T
variable {α : Type}
abbrev I (α : Type) := Int × α

/-- what stands in a node's order: what the nodes below have, and its own items between them -/
def inter : List (List (I α)) → List (I α) → List (I α)
  | [], is => is
  | k :: ks, [] => k ++ inter ks []
  | k :: ks, i :: is => k ++ i :: inter ks is
mutual
def inord : T α → List (I α) | node r ks => inter (inordL ks) r.items
def inordL : List (T α) → List (List (I α)) | [] => [] | t :: ts => inord t :: inordL ts
end
theorem inordL_eq (l : List (T α)) : inordL l = l.map inord := by
  induction l with
  | nil => rfl
  | cons t l ih => rw [inordL, List.map_cons, ih]
theorem inord_eq (t : T α) : t.inord = inter (t.ks.map inord) t.r.items := by
  cases t with
  | node r ks => rw [inord, inordL_eq]; rfl

def zipL : List (List (I α)) → List (I α) → List (I α)
  | [], is => is
  | a :: as, [] => a ++ zipL as []
  | a :: as, i :: is => a ++ i :: zipL as is
def zipR : List (I α) → List (List (I α)) → List (I α)
  | is, [] => is
  | [], b :: bs => b ++ zipR [] bs
  | i :: is, b :: bs => i :: (b ++ zipR is bs)
theorem zipL_nil (is : List (I α)) : zipL [] is = is := rfl
theorem zipR_nil (is : List (I α)) : zipR is [] = is := by cases is <;> rfl

theorem inter_eq_zipR (h : List (I α)) (is : List (I α)) (bs : List (List (I α))) (hb : bs.length = is.length) : inter (h :: bs) is = h ++ zipR is bs := by
  induction bs generalizing h is with
  | nil =>
    cases is with
    | nil => simp [inter, zipR]
    | cons i is => simp at hb
  | cons b bs ih =>
    cases is with
    | nil => simp at hb
    | cons i is =>
      rw [inter, ih b is (by simpa using hb)]
      rfl
theorem inter_split (as : List (List (I α))) (h : List (I α)) (bs : List (List (I α))) (i1 i2 : List (I α)) (ha : as.length = i1.length) (hb : bs.length = i2.length) :
    inter (as ++ h :: bs) (i1 ++ i2) = zipL as i1 ++ (h ++ zipR i2 bs) := by
  induction as generalizing i1 with
  | nil =>
    cases i1 with
    | nil => exact inter_eq_zipR h i2 bs hb
    | cons i is => simp at ha
  | cons a as ih =>
    cases i1 with
    | nil => simp at ha
    | cons i is =>
      simp only [List.cons_append, inter, zipL, List.append_assoc]
      rw [ih is (by simpa using ha)]

/-- a node cut at one of its items -/
theorem inter_cut (ks : List (List (I α))) (is : List (I α)) (j : Nat) (x : I α) (hx : is[j]? = some x) (hk : ks = [] ∨ ks.length = is.length + 1) :
    inter ks is = inter (ks.take (j + 1)) (is.take j) ++ x :: inter (ks.drop (j + 1)) (is.drop (j + 1)) := by
  rcases hk with rfl | hk
  · have hlt : j < is.length := (List.getElem?_eq_some_iff.1 hx).1
    simp only [List.take_nil, List.drop_nil, inter]
    have := List.take_append_drop j is
    rw [List.drop_eq_getElem_cons hlt, (List.getElem?_eq_some_iff.1 hx).2] at this
    exact this.symm
  · induction j generalizing ks is with
    | zero =>
      cases is with
      | nil => simp at hx
      | cons i is =>
        obtain rfl : i = x := by simpa using hx
        cases ks with
        | nil => simp at hk
        | cons k ks => simp [inter]
    | succ j ih =>
      cases is with
      | nil => simp at hx
      | cons i is =>
        cases ks with
        | nil => simp at hk
        | cons k ks =>
          simp only [List.take_succ_cons, List.drop_succ_cons, inter, List.append_assoc, List.cons_append]
          rw [ih ks is (by simpa using hx) (by simpa using hk)]

/-- the way above a place: nodes and the places in them, the lowest one first -/
abbrev Fs (α : Type) := List (T α × Nat)
def fl (f : T α × Nat) : List (I α) := zipL ((f.1.ks.take f.2).map inord) (f.1.r.items.take f.2)
def fr (f : T α × Nat) : List (I α) := zipR (f.1.r.items.drop f.2) ((f.1.ks.drop (f.2 + 1)).map inord)
def around : Fs α → List (I α) → List (I α)
  | [], xs => xs
  | f :: fs, xs => around fs (fl f ++ (xs ++ fr f))
def sibs (f : T α × Nat) : List (Rec α) := (f.1.ks.take f.2).flatMap recs ++ (f.1.ks.drop (f.2 + 1)).flatMap recs
def ctx : Fs α → List (Rec α)
  | [] => []
  | f :: fs => f.1.r :: (sibs f ++ ctx fs)
/-- a node with the place filled by another one below -/
def fill (f : T α × Nat) (h : T α) : T α := node f.1.r (f.1.ks.take f.2 ++ h :: f.1.ks.drop (f.2 + 1))
def plug : Fs α → T α → T α
  | [], h => h
  | f :: fs, h => plug fs (fill f h)

/-- the way fits: 'd' the height of what stands at the place, 'b' the block of the node there -/
def Chain : Nat → Fs α → Nat → Prop
  | _, [], _ => True
  | d, f :: fs, b => wf (d + 1) f.1 ∧ f.2 ≤ f.1.r.items.length ∧ (∃ k, f.1.ks[f.2]? = some k ∧ k.r.b = b) ∧ 1 ≤ f.1.r.items.length ∧ f.1.r.items.length ≤ 7 ∧ (fs ≠ [] → 3 ≤ f.1.r.items.length) ∧ Chain (d + 1) fs f.1.r.b
def topOf : Fs α → Nat → Nat
  | [], b => b
  | f :: fs, _ => topOf fs f.1.r.b

theorem wf_ks (d : Nat) (t : T α) (h : wf d t) : t.ks = [] ∨ t.ks.length = t.r.items.length + 1 := by
  cases d with
  | zero => exact .inl h.1
  | succ d => exact .inr h.2.2.1

theorem fill_inord (d : Nat) (f : T α × Nat) (h : T α) (hw : wf (d + 1) f.1) (hp : f.2 ≤ f.1.r.items.length) : (fill f h).inord = fl f ++ (h.inord ++ fr f) := by
  have hl := hw.2.2.1
  rw [inord_eq]
  show inter ((f.1.ks.take f.2 ++ h :: f.1.ks.drop (f.2 + 1)).map inord) f.1.r.items = _
  rw [List.map_append, List.map_cons]
  have := inter_split ((f.1.ks.take f.2).map inord) h.inord ((f.1.ks.drop (f.2 + 1)).map inord) (f.1.r.items.take f.2) (f.1.r.items.drop f.2) (by simp; omega) (by simp; omega)
  rw [List.take_append_drop] at this
  exact this
theorem plug_inord (d : Nat) (fs : Fs α) (h : T α) (b : Nat) (hc : Chain d fs b) : (plug fs h).inord = around fs h.inord := by
  induction fs generalizing d h b with
  | nil => rfl
  | cons f fs ih =>
    obtain ⟨h1, h2, h3, h4, h5, h6, h7⟩ := hc
    show (plug fs (fill f h)).inord = around fs (fl f ++ (h.inord ++ fr f))
    rw [ih (d + 1) (fill f h) _ h7, fill_inord d f h h1 h2]
theorem fill_wf (d : Nat) (f : T α × Nat) (h : T α) (b : Nat) (hw : wf (d + 1) f.1) (hp : f.2 ≤ f.1.r.items.length) (hk : ∃ k, f.1.ks[f.2]? = some k ∧ k.r.b = b) (hh : wf d h) (hb : h.r.b = b) (h3 : 3 ≤ h.r.items.length) (h7 : h.r.items.length ≤ 7) :
    wf (d + 1) (fill f h) := by
  obtain ⟨g1, g2, g3, g4⟩ := hw
  obtain ⟨k, hk1, hk2⟩ := hk
  have hlt : f.2 < f.1.ks.length := (List.getElem?_eq_some_iff.1 hk1).1
  refine ⟨g1, ?_, ?_, ?_⟩
  · show f.1.r.kids = (f.1.ks.take f.2 ++ h :: f.1.ks.drop (f.2 + 1)).map (fun k => k.r.b)
    rw [g2, List.map_append, List.map_cons, hb, ← hk2]
    conv => lhs; rw [← List.take_append_drop f.2 f.1.ks]
    rw [List.map_append, List.drop_eq_getElem_cons hlt, (List.getElem?_eq_some_iff.1 hk1).2, List.map_cons]
  · show (f.1.ks.take f.2 ++ h :: f.1.ks.drop (f.2 + 1)).length = f.1.r.items.length + 1
    simp; omega
  · intro k' hk'
    change k' ∈ f.1.ks.take f.2 ++ h :: f.1.ks.drop (f.2 + 1) at hk'
    rw [List.mem_append, List.mem_cons] at hk'
    rcases hk' with hk' | rfl | hk'
    · exact g4 k' (List.mem_of_mem_take hk')
    · exact ⟨hh, h3, h7⟩
    · exact g4 k' (List.mem_of_mem_drop hk')
theorem plug_wf (d : Nat) (fs : Fs α) (h : T α) (b : Nat) (hc : Chain d fs b) (hh : wf d h) (hb : h.r.b = b) (h1 : 1 ≤ h.r.items.length) (h7 : h.r.items.length ≤ 7) (h3 : fs ≠ [] → 3 ≤ h.r.items.length) :
    ∃ d', wf d' (plug fs h) ∧ 1 ≤ (plug fs h).r.items.length ∧ (plug fs h).r.items.length ≤ 7 ∧ (plug fs h).r.b = topOf fs b ∧ d' = d + fs.length := by
  induction fs generalizing d h b with
  | nil => exact ⟨d, hh, h1, h7, hb, rfl⟩
  | cons f fs ih =>
    obtain ⟨g1, g2, g3, g4, g5, g6, g7⟩ := hc
    obtain ⟨d', e1, e2, e3, e4, e5⟩ := ih (d + 1) (fill f h) f.1.r.b g7 (fill_wf d f h b g1 g2 g3 hh hb (h3 (by simp)) h7) rfl g4 g5 g6
    exact ⟨d', e1, e2, e3, e4, by simp; omega⟩
theorem fill_recs (f : T α × Nat) (h : T α) : (fill f h).recs.Perm (f.1.r :: (sibs f ++ h.recs)) := by
  rw [recs_eq]
  show (f.1.r :: (f.1.ks.take f.2 ++ h :: f.1.ks.drop (f.2 + 1)).flatMap recs).Perm _
  refine List.Perm.cons _ ?_
  rw [List.flatMap_append, List.flatMap_cons, sibs, List.append_assoc]
  exact List.Perm.append_left _ List.perm_append_comm
theorem plug_recs (fs : Fs α) (h : T α) : (plug fs h).recs.Perm (ctx fs ++ h.recs) := by
  induction fs generalizing h with
  | nil => exact List.Perm.refl _
  | cons f fs ih =>
    refine (ih (fill f h)).trans ?_
    show (ctx fs ++ (fill f h).recs).Perm (f.1.r :: (sibs f ++ ctx fs) ++ h.recs)
    refine (List.Perm.append_left _ (fill_recs f h)).trans ?_
    refine List.perm_middle.trans ?_
    rw [List.cons_append]
    refine List.Perm.cons _ ?_
    rw [← List.append_assoc]
    exact List.Perm.append_right _ List.perm_append_comm
theorem around_split (fs : Fs α) : ∃ l r, ∀ xs, around fs xs = l ++ (xs ++ r) := by
  induction fs with
  | nil => exact ⟨[], [], fun xs => by simp [around]⟩
  | cons f fs ih =>
    obtain ⟨l, r, h⟩ := ih
    exact ⟨l ++ fl f, fr f ++ r, fun xs => by rw [around, h]; simp⟩
end T

end Go.Proofs.Ytbelgkccfajjoaa
