/- What the nodes of a bag hold, told apart from memory. A bag's tree, told apart from memory: its nodes, its height, what stands in it in order, the way down to a number. A bag's tree with a place in it: the nodes above that place, what stands ahead of it and behind it, and the tree when the place is filled again. The way down a bag's tree to a number, as the nodes above a place: what stands ahead of it is below the number, what stands behind it above. A node with one item more, and a node cut in two, as trees. What calls do with what stands in a bag, as lists that rise by numbers. Which numbers a walk through a bag's tree hands out, piece by piece. -/
import Derived.WalkKit
import Derived.Lib.Hide
import Derived.Laws.OwnMore
import Derived.Deep.AppendLies
import Derived.Deep.Draws
import Derived.RangeFuncBox
import Derived.Test.YtkhbfjncamobdaaOnly
namespace Go.Proofs.Ytkhbfjncamobdaa
open Go.RowKit
set_option linter.unusedVariables false

/-- a node as it lies in memory: its block, the block and the capacity of its items, its items, the block and the capacity of the nodes below, and these -/
structure Rec (α : Type) where
  b : Nat
  g : Nat
  cap : Nat
  items : List (Int × α)
  kv : Option (Nat × Nat)
  kids : List Nat

def ptrV (b : Nat) : Value := .pointer (some ⟨b, 0, none⟩)
def cellsP (l : List Nat) : List Value := l.map ptrV
def Rec.iv {α : Type} (r : Rec α) : Value := .slice (some ⟨r.g, 0, none⟩) r.items.length r.cap
def Rec.kvv {α : Type} (r : Rec α) : Value := match r.kv with
  | none => .slice none 0 0
  | some (g, c) => .slice (some ⟨g, 0, none⟩) r.kids.length c
def Rec.blocks {α : Type} (r : Rec α) : List Nat := r.b :: r.g :: (match r.kv with | none => [] | some (g, _) => [g])

end Go.Proofs.Ytkhbfjncamobdaa

namespace Go.Proofs.Ytkhbfjncamobdaa
set_option linter.unusedVariables false

inductive T (α : Type) where
  | node (r : Rec α) (ks : List (T α))

namespace T
variable {α : Type}
def r : T α → Rec α | node r _ => r
def ks : T α → List (T α) | node _ k => k
mutual
def recs : T α → List (Rec α) | node r ks => r :: recsL ks
def recsL : List (T α) → List (Rec α) | [] => [] | t :: ts => recs t ++ recsL ts
end
theorem recsL_eq (l : List (T α)) : recsL l = l.flatMap recs := by
  induction l with
  | nil => rfl
  | cons t l ih => rw [recsL, List.flatMap_cons, ih]
theorem recs_eq (t : T α) : t.recs = t.r :: t.ks.flatMap recs := by
  cases t with
  | node r ks => rw [recs, recsL_eq]; rfl
theorem r_mem (t : T α) : t.r ∈ t.recs := by rw [recs_eq]; simp
theorem ks_sub {t k : T α} (h : k ∈ t.ks) : ∀ x, x ∈ k.recs → x ∈ t.recs := fun x hx => by
  rw [recs_eq]
  exact List.mem_cons_of_mem _ (List.mem_flatMap.2 ⟨k, h, hx⟩)

/-- balanced, of a height; each node but this one has three to seven numbers -/
def wf : Nat → T α → Prop
  | 0, t => t.ks = [] ∧ t.r.kv = none ∧ t.r.kids = []
  | d + 1, t => t.r.kv.isSome = true ∧ t.r.kids = t.ks.map (fun k => k.r.b) ∧ t.ks.length = t.r.items.length + 1 ∧ ∀ k, k ∈ t.ks → wf d k ∧ 3 ≤ k.r.items.length ∧ k.r.items.length ≤ 7

/-- the first place whose number is not below -/
def lower (at0 : Int) : List (Int × α) → Nat
  | [] => 0
  | x :: l => if x.1 < at0 then lower at0 l + 1 else 0
theorem lower_le (at0 : Int) (l : List (Int × α)) : lower at0 l ≤ l.length := by
  induction l with
  | nil => simp [lower]
  | cons x l ih => simp only [lower]; split <;> simp <;> omega
theorem lower_lt (at0 : Int) (l : List (Int × α)) (k : Nat) (x : Int × α) (h : k < lower at0 l) (hx : l[k]? = some x) : x.1 < at0 := by
  induction l generalizing k with
  | nil => simp at hx
  | cons y l ih =>
    simp only [lower] at h
    split at h
    · cases k with
      | zero => obtain rfl : y = x := by simpa using hx
                assumption
      | succ k => exact ih k (by omega) (by simpa using hx)
    · omega
theorem lower_ge (at0 : Int) (l : List (Int × α)) (x : Int × α) (hx : l[lower at0 l]? = some x) : at0 ≤ x.1 := by
  induction l with
  | nil => simp at hx
  | cons y l ih =>
    simp only [lower] at hx
    split at hx
    · exact ih (by simpa using hx)
    · obtain rfl : y = x := by simpa using hx
      omega

/-- does the number stand in this node? -/
def hit (at0 : Int) (t : T α) : Bool := match t.r.items[lower at0 t.r.items]? with
  | some x => x.1 == at0
  | none => false
def wsteps (at0 : Int) : Nat → T α → List (Nat × Nat)
  | 0, t => [(t.r.b, lower at0 t.r.items)]
  | d + 1, t => (t.r.b, lower at0 t.r.items) :: if hit at0 t then [] else match t.ks[lower at0 t.r.items]? with
    | some k => wsteps at0 d k
    | none => []
def wfound (at0 : Int) : Nat → T α → Bool
  | 0, t => hit at0 t
  | d + 1, t => hit at0 t || match t.ks[lower at0 t.r.items]? with
    | some k => wfound at0 d k
    | none => false
theorem wsteps_hit (at0 : Int) (d : Nat) (t : T α) (h : hit at0 t = true) : wsteps at0 d t = [(t.r.b, lower at0 t.r.items)] ∧ wfound at0 d t = true := by
  cases d <;> simp [wsteps, wfound, h]
theorem kid_at (d : Nat) (t : T α) (p : Nat) (h : wf (d + 1) t) (hp : p ≤ t.r.items.length) : ∃ k, t.ks[p]? = some k ∧ t.r.kids[p]? = some k.r.b ∧ wf d k ∧ k ∈ t.ks := by
  have hl : p < t.ks.length := by have := h.2.2.1; omega
  refine ⟨t.ks[p], List.getElem?_eq_getElem hl, ?_, (h.2.2.2 _ (List.getElem_mem hl)).1, List.getElem_mem hl⟩
  rw [h.2.1, List.getElem?_map, List.getElem?_eq_getElem hl]
  rfl
theorem wsteps_down (at0 : Int) (d : Nat) (t k : T α) (h : hit at0 t = false) (hk : t.ks[lower at0 t.r.items]? = some k) :
    wsteps at0 (d + 1) t = (t.r.b, lower at0 t.r.items) :: wsteps at0 d k ∧ wfound at0 (d + 1) t = wfound at0 d k := by
  simp [wsteps, wfound, h, hk]
end T

end Go.Proofs.Ytkhbfjncamobdaa

namespace Go.Proofs.Ytkhbfjncamobdaa
set_option linter.unusedVariables false

namespace T
variable {α : Type}
abbrev I (α : Type) := Int × α

/-- what stands in a node's order: what the nodes below have, and its own items between them -/
def inter : List (List (I α)) → List (I α) → List (I α)
  | [], is => is
  | k :: ks, [] => k ++ inter ks []
  | k :: ks, i :: is => k ++ i :: inter ks is
mutual
def inord : T α → List (I α) | node r ks => inter (inordL ks) r.items
def inordL : List (T α) → List (List (I α)) | [] => [] | t :: ts => inord t :: inordL ts
end
theorem inordL_eq (l : List (T α)) : inordL l = l.map inord := by
  induction l with
  | nil => rfl
  | cons t l ih => rw [inordL, List.map_cons, ih]
theorem inord_eq (t : T α) : t.inord = inter (t.ks.map inord) t.r.items := by
  cases t with
  | node r ks => rw [inord, inordL_eq]; rfl

def zipL : List (List (I α)) → List (I α) → List (I α)
  | [], is => is
  | a :: as, [] => a ++ zipL as []
  | a :: as, i :: is => a ++ i :: zipL as is
def zipR : List (I α) → List (List (I α)) → List (I α)
  | is, [] => is
  | [], b :: bs => b ++ zipR [] bs
  | i :: is, b :: bs => i :: (b ++ zipR is bs)
theorem zipL_nil (is : List (I α)) : zipL [] is = is := rfl
theorem zipR_nil (is : List (I α)) : zipR is [] = is := by cases is <;> rfl

theorem inter_eq_zipR (h : List (I α)) (is : List (I α)) (bs : List (List (I α))) (hb : bs.length = is.length) : inter (h :: bs) is = h ++ zipR is bs := by
  induction bs generalizing h is with
  | nil =>
    cases is with
    | nil => simp [inter, zipR]
    | cons i is => simp at hb
  | cons b bs ih =>
    cases is with
    | nil => simp at hb
    | cons i is =>
      rw [inter, ih b is (by simpa using hb)]
      rfl
theorem inter_split (as : List (List (I α))) (h : List (I α)) (bs : List (List (I α))) (i1 i2 : List (I α)) (ha : as.length = i1.length) (hb : bs.length = i2.length) :
    inter (as ++ h :: bs) (i1 ++ i2) = zipL as i1 ++ (h ++ zipR i2 bs) := by
  induction as generalizing i1 with
  | nil =>
    cases i1 with
    | nil => exact inter_eq_zipR h i2 bs hb
    | cons i is => simp at ha
  | cons a as ih =>
    cases i1 with
    | nil => simp at ha
    | cons i is =>
      simp only [List.cons_append, inter, zipL, List.append_assoc]
      rw [ih is (by simpa using ha)]

/-- a node cut at one of its items -/
theorem inter_cut (ks : List (List (I α))) (is : List (I α)) (j : Nat) (x : I α) (hx : is[j]? = some x) (hk : ks = [] ∨ ks.length = is.length + 1) :
    inter ks is = inter (ks.take (j + 1)) (is.take j) ++ x :: inter (ks.drop (j + 1)) (is.drop (j + 1)) := by
  rcases hk with rfl | hk
  · have hlt : j < is.length := (List.getElem?_eq_some_iff.1 hx).1
    simp only [List.take_nil, List.drop_nil, inter]
    have := List.take_append_drop j is
    rw [List.drop_eq_getElem_cons hlt, (List.getElem?_eq_some_iff.1 hx).2] at this
    exact this.symm
  · induction j generalizing ks is with
    | zero =>
      cases is with
      | nil => simp at hx
      | cons i is =>
        obtain rfl : i = x := by simpa using hx
        cases ks with
        | nil => simp at hk
        | cons k ks => simp [inter]
    | succ j ih =>
      cases is with
      | nil => simp at hx
      | cons i is =>
        cases ks with
        | nil => simp at hk
        | cons k ks =>
          simp only [List.take_succ_cons, List.drop_succ_cons, inter, List.append_assoc, List.cons_append]
          rw [ih ks is (by simpa using hx) (by simpa using hk)]

/-- the way above a place: nodes and the places in them, the lowest one first -/
abbrev Fs (α : Type) := List (T α × Nat)
def fl (f : T α × Nat) : List (I α) := zipL ((f.1.ks.take f.2).map inord) (f.1.r.items.take f.2)
def fr (f : T α × Nat) : List (I α) := zipR (f.1.r.items.drop f.2) ((f.1.ks.drop (f.2 + 1)).map inord)
def around : Fs α → List (I α) → List (I α)
  | [], xs => xs
  | f :: fs, xs => around fs (fl f ++ (xs ++ fr f))
def sibs (f : T α × Nat) : List (Rec α) := (f.1.ks.take f.2).flatMap recs ++ (f.1.ks.drop (f.2 + 1)).flatMap recs
def ctx : Fs α → List (Rec α)
  | [] => []
  | f :: fs => f.1.r :: (sibs f ++ ctx fs)
/-- a node with the place filled by another one below -/
def fill (f : T α × Nat) (h : T α) : T α := node f.1.r (f.1.ks.take f.2 ++ h :: f.1.ks.drop (f.2 + 1))
def plug : Fs α → T α → T α
  | [], h => h
  | f :: fs, h => plug fs (fill f h)

/-- the way fits: 'd' the height of what stands at the place, 'b' the block of the node there -/
def Chain : Nat → Fs α → Nat → Prop
  | _, [], _ => True
  | d, f :: fs, b => wf (d + 1) f.1 ∧ f.2 ≤ f.1.r.items.length ∧ (∃ k, f.1.ks[f.2]? = some k ∧ k.r.b = b) ∧ 1 ≤ f.1.r.items.length ∧ f.1.r.items.length ≤ 7 ∧ (fs ≠ [] → 3 ≤ f.1.r.items.length) ∧ Chain (d + 1) fs f.1.r.b
def topOf : Fs α → Nat → Nat
  | [], b => b
  | f :: fs, _ => topOf fs f.1.r.b

theorem wf_ks (d : Nat) (t : T α) (h : wf d t) : t.ks = [] ∨ t.ks.length = t.r.items.length + 1 := by
  cases d with
  | zero => exact .inl h.1
  | succ d => exact .inr h.2.2.1

theorem fill_inord (d : Nat) (f : T α × Nat) (h : T α) (hw : wf (d + 1) f.1) (hp : f.2 ≤ f.1.r.items.length) : (fill f h).inord = fl f ++ (h.inord ++ fr f) := by
  have hl := hw.2.2.1
  rw [inord_eq]
  show inter ((f.1.ks.take f.2 ++ h :: f.1.ks.drop (f.2 + 1)).map inord) f.1.r.items = _
  rw [List.map_append, List.map_cons]
  have := inter_split ((f.1.ks.take f.2).map inord) h.inord ((f.1.ks.drop (f.2 + 1)).map inord) (f.1.r.items.take f.2) (f.1.r.items.drop f.2) (by simp; omega) (by simp; omega)
  rw [List.take_append_drop] at this
  exact this
theorem plug_inord (d : Nat) (fs : Fs α) (h : T α) (b : Nat) (hc : Chain d fs b) : (plug fs h).inord = around fs h.inord := by
  induction fs generalizing d h b with
  | nil => rfl
  | cons f fs ih =>
    obtain ⟨h1, h2, h3, h4, h5, h6, h7⟩ := hc
    show (plug fs (fill f h)).inord = around fs (fl f ++ (h.inord ++ fr f))
    rw [ih (d + 1) (fill f h) _ h7, fill_inord d f h h1 h2]
theorem fill_wf (d : Nat) (f : T α × Nat) (h : T α) (b : Nat) (hw : wf (d + 1) f.1) (hp : f.2 ≤ f.1.r.items.length) (hk : ∃ k, f.1.ks[f.2]? = some k ∧ k.r.b = b) (hh : wf d h) (hb : h.r.b = b) (h3 : 3 ≤ h.r.items.length) (h7 : h.r.items.length ≤ 7) :
    wf (d + 1) (fill f h) := by
  obtain ⟨g1, g2, g3, g4⟩ := hw
  obtain ⟨k, hk1, hk2⟩ := hk
  have hlt : f.2 < f.1.ks.length := (List.getElem?_eq_some_iff.1 hk1).1
  refine ⟨g1, ?_, ?_, ?_⟩
  · show f.1.r.kids = (f.1.ks.take f.2 ++ h :: f.1.ks.drop (f.2 + 1)).map (fun k => k.r.b)
    rw [g2, List.map_append, List.map_cons, hb, ← hk2]
    conv => lhs; rw [← List.take_append_drop f.2 f.1.ks]
    rw [List.map_append, List.drop_eq_getElem_cons hlt, (List.getElem?_eq_some_iff.1 hk1).2, List.map_cons]
  · show (f.1.ks.take f.2 ++ h :: f.1.ks.drop (f.2 + 1)).length = f.1.r.items.length + 1
    simp; omega
  · intro k' hk'
    change k' ∈ f.1.ks.take f.2 ++ h :: f.1.ks.drop (f.2 + 1) at hk'
    rw [List.mem_append, List.mem_cons] at hk'
    rcases hk' with hk' | rfl | hk'
    · exact g4 k' (List.mem_of_mem_take hk')
    · exact ⟨hh, h3, h7⟩
    · exact g4 k' (List.mem_of_mem_drop hk')
theorem plug_wf (d : Nat) (fs : Fs α) (h : T α) (b : Nat) (hc : Chain d fs b) (hh : wf d h) (hb : h.r.b = b) (h1 : 1 ≤ h.r.items.length) (h7 : h.r.items.length ≤ 7) (h3 : fs ≠ [] → 3 ≤ h.r.items.length) :
    ∃ d', wf d' (plug fs h) ∧ 1 ≤ (plug fs h).r.items.length ∧ (plug fs h).r.items.length ≤ 7 ∧ (plug fs h).r.b = topOf fs b ∧ d' = d + fs.length := by
  induction fs generalizing d h b with
  | nil => exact ⟨d, hh, h1, h7, hb, rfl⟩
  | cons f fs ih =>
    obtain ⟨g1, g2, g3, g4, g5, g6, g7⟩ := hc
    obtain ⟨d', e1, e2, e3, e4, e5⟩ := ih (d + 1) (fill f h) f.1.r.b g7 (fill_wf d f h b g1 g2 g3 hh hb (h3 (by simp)) h7) rfl g4 g5 g6
    exact ⟨d', e1, e2, e3, e4, by simp; omega⟩
theorem fill_recs (f : T α × Nat) (h : T α) : (fill f h).recs.Perm (f.1.r :: (sibs f ++ h.recs)) := by
  rw [recs_eq]
  show (f.1.r :: (f.1.ks.take f.2 ++ h :: f.1.ks.drop (f.2 + 1)).flatMap recs).Perm _
  refine List.Perm.cons _ ?_
  rw [List.flatMap_append, List.flatMap_cons, sibs, List.append_assoc]
  exact List.Perm.append_left _ List.perm_append_comm
theorem plug_recs (fs : Fs α) (h : T α) : (plug fs h).recs.Perm (ctx fs ++ h.recs) := by
  induction fs generalizing h with
  | nil => exact List.Perm.refl _
  | cons f fs ih =>
    refine (ih (fill f h)).trans ?_
    show (ctx fs ++ (fill f h).recs).Perm (f.1.r :: (sibs f ++ ctx fs) ++ h.recs)
    refine (List.Perm.append_left _ (fill_recs f h)).trans ?_
    refine List.perm_middle.trans ?_
    rw [List.cons_append]
    refine List.Perm.cons _ ?_
    rw [← List.append_assoc]
    exact List.Perm.append_right _ List.perm_append_comm
theorem around_split (fs : Fs α) : ∃ l r, ∀ xs, around fs xs = l ++ (xs ++ r) := by
  induction fs with
  | nil => exact ⟨[], [], fun xs => by simp [around]⟩
  | cons f fs ih =>
    obtain ⟨l, r, h⟩ := ih
    exact ⟨l ++ fl f, fr f ++ r, fun xs => by rw [around, h]; simp⟩
end T

end Go.Proofs.Ytkhbfjncamobdaa

namespace Go.Proofs.Ytkhbfjncamobdaa
set_option linter.unusedVariables false

namespace T
variable {α : Type}

/-- rising numbers -/
def Rise (l : List (I α)) : Prop := l.Pairwise (fun a b => a.1 < b.1)
theorem Rise.left {a b : List (I α)} (h : Rise (a ++ b)) : Rise a := (List.pairwise_append.1 h).1
theorem Rise.right {a b : List (I α)} (h : Rise (a ++ b)) : Rise b := (List.pairwise_append.1 h).2.1
theorem Rise.across {a b : List (I α)} (h : Rise (a ++ b)) : ∀ x, x ∈ a → ∀ y, y ∈ b → x.1 < y.1 := (List.pairwise_append.1 h).2.2

theorem zipL_below (as : List (List (I α))) (is : List (I α)) (at0 : Int) (hl : as.length ≤ is.length) (hs : Rise (zipL as is)) (hi : ∀ x, x ∈ is → x.1 < at0) : ∀ x, x ∈ zipL as is → x.1 < at0 := by
  induction as generalizing is with
  | nil => exact fun x hx => hi x hx
  | cons a as ih =>
    cases is with
    | nil => simp at hl
    | cons i is =>
      intro x hx
      rw [zipL, List.mem_append, List.mem_cons] at hx
      rw [zipL] at hs
      rcases hx with hx | rfl | hx
      · have h1 := Rise.across hs x hx i (by simp)
        have h2 := hi i (by simp)
        omega
      · exact hi x (by simp)
      · exact ih is (by simpa using hl) (List.pairwise_cons.1 (Rise.right hs)).2 (fun y hy => hi y (List.mem_cons_of_mem _ hy)) x hx
theorem zipR_above (is : List (I α)) (bs : List (List (I α))) (at0 : Int) (hl : bs.length ≤ is.length) (hs : Rise (zipR is bs)) (hi : ∀ x, x ∈ is → at0 < x.1) : ∀ x, x ∈ zipR is bs → at0 < x.1 := by
  induction bs generalizing is with
  | nil => rw [zipR_nil]; exact fun x hx => hi x hx
  | cons b bs ih =>
    cases is with
    | nil => simp at hl
    | cons i is =>
      intro x hx
      rw [zipR, List.mem_cons, List.mem_append] at hx
      rw [zipR] at hs
      obtain ⟨hs1, hs2⟩ := List.pairwise_cons.1 hs
      rcases hx with rfl | hx | hx
      · exact hi x (by simp)
      · have h1 := hs1 x (List.mem_append_left _ hx)
        have h2 := hi i (by simp)
        omega
      · exact ih is (by simpa using hl) (Rise.right hs2) (fun y hy => hi y (List.mem_cons_of_mem _ hy)) x hx

def wfs (at0 : Int) : Nat → T α → Fs α → Fs α
  | 0, t, fs => (t, lower at0 t.r.items) :: fs
  | d + 1, t, fs => if hit at0 t then (t, lower at0 t.r.items) :: fs else match t.ks[lower at0 t.r.items]? with
    | some k => wfs at0 d k ((t, lower at0 t.r.items) :: fs)
    | none => (t, lower at0 t.r.items) :: fs
theorem wfs_steps (at0 : Int) (d : Nat) (t : T α) (fs : Fs α) : (wfs at0 d t fs).map (fun f => (f.1.r.b, f.2)) = (wsteps at0 d t).reverse ++ fs.map (fun f => (f.1.r.b, f.2)) := by
  induction d generalizing t fs with
  | zero => simp [wfs, wsteps]
  | succ d ih =>
    simp only [wfs, wsteps]
    cases hit at0 t with
    | true => simp
    | false =>
      simp only [Bool.false_eq_true, if_false]
      cases hk : t.ks[lower at0 t.r.items]? with
      | none => simp
      | some k => simp [ih k]

theorem lower_take (at0 : Int) (l : List (Int × α)) : ∀ x, x ∈ l.take (lower at0 l) → x.1 < at0 := by
  intro x hx
  obtain ⟨k, hk, rfl⟩ := List.mem_take_iff_getElem.1 hx
  exact lower_lt at0 l k _ (by omega) (List.getElem?_eq_getElem (by omega))
theorem hit_false (at0 : Int) (t : T α) (h : hit at0 t = false) (hs : Rise t.r.items) : ∀ x, x ∈ t.r.items.drop (lower at0 t.r.items) → at0 < x.1 := by
  intro x hx
  cases hi : t.r.items[lower at0 t.r.items]? with
  | none =>
    have := List.getElem?_eq_none_iff.1 hi
    rw [List.drop_eq_nil_of_le this] at hx
    simp at hx
  | some y =>
    have hge := lower_ge at0 _ y hi
    have hne : y.1 ≠ at0 := by
      unfold hit at h
      rw [hi] at h
      simpa using h
    have hlt := (List.getElem?_eq_some_iff.1 hi).1
    have hy := (List.getElem?_eq_some_iff.1 hi).2
    rw [List.drop_eq_getElem_cons hlt, hy, List.mem_cons] at hx
    rcases hx with rfl | hx
    · omega
    · have hd : Rise (t.r.items.drop (lower at0 t.r.items)) := List.Pairwise.sublist (List.drop_sublist _ _) hs
      rw [List.drop_eq_getElem_cons hlt, hy] at hd
      have := (List.pairwise_cons.1 hd).1 x hx
      omega
theorem hit_true (at0 : Int) (t : T α) (h : hit at0 t = true) : ∃ x, t.r.items[lower at0 t.r.items]? = some x ∧ x.1 = at0 := by
  unfold hit at h
  cases hi : t.r.items[lower at0 t.r.items]? with
  | none => rw [hi] at h; cases h
  | some y => rw [hi] at h; exact ⟨y, rfl, by simpa using h⟩

theorem inter_items (ks : List (List (I α))) (is : List (I α)) : List.Sublist is (inter ks is) := by
  induction ks generalizing is with
  | nil => simp [inter]
  | cons k ks ih =>
    cases is with
    | nil => simp
    | cons i is =>
      rw [inter]
      exact (List.Sublist.cons_cons i (ih is)).trans (List.sublist_append_right _ _)

/-- what is at a place in its node -/
theorem node_at (d : Nat) (t : T α) (k : T α) (p : Nat) (hw : wf (d + 1) t) (hp : p ≤ t.r.items.length) (hk : t.ks[p]? = some k) : t.inord = fl (t, p) ++ (k.inord ++ fr (t, p)) := by
  have hf : fill (t, p) k = t := by
    cases t with
    | node r ks =>
      show node r (ks.take p ++ k :: ks.drop (p + 1)) = node r ks
      have hlt := (List.getElem?_eq_some_iff.1 hk).1
      have he := (List.getElem?_eq_some_iff.1 hk).2
      congr 1
      conv => rhs; rw [← List.take_append_drop p ks]
      change p < ks.length at hlt
      change ks[p] = k at he
      rw [List.drop_eq_getElem_cons hlt, he]
  have := fill_inord d (t, p) k hw hp
  rw [hf] at this
  exact this
theorem leaf_at (t : T α) (p : Nat) (hw : wf 0 t) : t.inord = fl (t, p) ++ fr (t, p) := by
  rw [inord_eq, fl, fr]
  show _ = zipL ((t.ks.take p).map inord) _ ++ zipR _ ((t.ks.drop (p + 1)).map inord)
  rw [hw.1]
  simp [inter, zipL, zipR_nil]
theorem node_recs (t k : T α) (p : Nat) (hk : t.ks[p]? = some k) : t.recs.Perm (t.r :: (sibs (t, p) ++ k.recs)) := by
  have hf : fill (t, p) k = t := by
    cases t with
    | node r ks =>
      show node r (ks.take p ++ k :: ks.drop (p + 1)) = node r ks
      have hlt := (List.getElem?_eq_some_iff.1 hk).1
      have he := (List.getElem?_eq_some_iff.1 hk).2
      congr 1
      conv => rhs; rw [← List.take_append_drop p ks]
      change p < ks.length at hlt
      change ks[p] = k at he
      rw [List.drop_eq_getElem_cons hlt, he]
  have := fill_recs (t, p) k
  rw [hf] at this
  exact this
theorem leaf_recs (t : T α) (p : Nat) (hw : wf 0 t) : t.recs = t.r :: sibs (t, p) := by
  rw [recs_eq, sibs]
  show t.r :: t.ks.flatMap recs = t.r :: ((t.ks.take p).flatMap recs ++ (t.ks.drop (p + 1)).flatMap recs)
  rw [hw.1]
  simp

/-- the way ends where the number would stand: at the lowest level -/
structure Open (at0 : Int) (t : T α) (fs : Fs α) (Q : Fs α) : Prop where
  ends : ∃ t' p fs', Q = (t', p) :: fs' ∧ wf 0 t' ∧ p ≤ t'.r.items.length ∧ 1 ≤ t'.r.items.length ∧ t'.r.items.length ≤ 7 ∧ (fs' ≠ [] → 3 ≤ t'.r.items.length) ∧ Chain 0 fs' t'.r.b ∧ topOf fs' t'.r.b = topOf fs t.r.b
  same : around Q [] = around fs t.inord
  recs : (ctx Q).Perm (ctx fs ++ t.recs)
  out : ∃ l r, (∀ xs, around Q xs = around fs (l ++ (xs ++ r))) ∧ (∀ x, x ∈ l → x.1 < at0) ∧ ∀ x, x ∈ r → at0 < x.1
/-- the way ends where the number stands -/
structure Stands (at0 : Int) (t : T α) (fs : Fs α) (Q : Fs α) : Prop where
  ends : ∃ t' p fs' d' x, Q = (t', p) :: fs' ∧ wf d' t' ∧ t'.r.items[p]? = some x ∧ x.1 = at0 ∧ 1 ≤ t'.r.items.length ∧ t'.r.items.length ≤ 7 ∧ (fs' ≠ [] → 3 ≤ t'.r.items.length) ∧ Chain d' fs' t'.r.b ∧ topOf fs' t'.r.b = topOf fs t.r.b ∧
    around fs' t'.inord = around fs t.inord ∧ (ctx fs' ++ t'.recs).Perm (ctx fs ++ t.recs)

theorem wfs_open (at0 : Int) (d : Nat) (t : T α) (fs : Fs α) (hw : wf d t) (hc : Chain d fs t.r.b) (h1 : 1 ≤ t.r.items.length) (h7 : t.r.items.length ≤ 7) (h3 : fs ≠ [] → 3 ≤ t.r.items.length) (hs : Rise t.inord) (hf : wfound at0 d t = false) : Open at0 t fs (wfs at0 d t fs) := by
  induction d generalizing t fs with
  | zero =>
    have hi : Rise t.r.items := List.Pairwise.sublist (by rw [inord_eq]; exact inter_items _ _) hs
    have hl := leaf_at t (lower at0 t.r.items) hw
    refine ⟨⟨t, _, fs, rfl, hw, lower_le _ _, h1, h7, h3, hc, rfl⟩, ?_, ?_, ⟨fl (t, lower at0 t.r.items), fr (t, lower at0 t.r.items), fun xs => rfl, ?_, ?_⟩⟩
    · show around fs (fl _ ++ ([] ++ fr _)) = _
      rw [List.nil_append, ← hl]
    · show (t.r :: (sibs (t, lower at0 t.r.items) ++ ctx fs)).Perm _
      rw [leaf_recs t (lower at0 t.r.items) hw, ← List.cons_append]
      exact List.perm_append_comm
    · intro x hx
      refine zipL_below _ _ at0 ?_ ?_ (lower_take at0 _) x hx
      · show ((t.ks.take _).map inord).length ≤ _
        rw [hw.1]; simp
      · rw [hl] at hs
        exact Rise.left hs
    · intro x hx
      refine zipR_above _ _ at0 ?_ ?_ (hit_false at0 t hf hi) x hx
      · show ((t.ks.drop _).map inord).length ≤ _
        rw [hw.1]; simp
      · rw [hl] at hs
        exact Rise.right hs
  | succ d ih =>
    have hi : Rise t.r.items := List.Pairwise.sublist (by rw [inord_eq]; exact inter_items _ _) hs
    have hh : hit at0 t = false := by
      rw [wfound] at hf
      cases h : hit at0 t with
      | false => rfl
      | true => rw [h] at hf; simp at hf
    obtain ⟨k, hk1, hk2, hk3, hk4⟩ := kid_at d t (lower at0 t.r.items) hw (lower_le _ _)
    have hl := node_at d t k _ hw (lower_le _ _) hk1
    have hkz := (hw.2.2.2 k hk4).2
    rw [(wsteps_down at0 d t k hh hk1).2] at hf
    have hs' := hs
    rw [hl] at hs'
    have hO := ih k ((t, lower at0 t.r.items) :: fs) hk3 ⟨hw, lower_le _ _, ⟨k, hk1, rfl⟩, h1, h7, h3, hc⟩ (by omega) hkz.2 (fun _ => hkz.1) (Rise.left (Rise.right hs')) hf
    have hq : wfs at0 (d + 1) t fs = wfs at0 d k ((t, lower at0 t.r.items) :: fs) := by simp [wfs, hh, hk1]
    rw [hq]
    obtain ⟨l, r, e1, e2, e3⟩ := hO.out
    refine ⟨hO.ends, ?_, ?_, ⟨fl (t, lower at0 t.r.items) ++ l, r ++ fr (t, lower at0 t.r.items), fun xs => ?_, ?_, ?_⟩⟩
    · rw [hO.same, hl]; rfl
    · refine hO.recs.trans ?_
      show (t.r :: (sibs (t, lower at0 t.r.items) ++ ctx fs) ++ k.recs).Perm _
      refine List.Perm.trans ?_ (List.Perm.append_left _ (node_recs t k _ hk1)).symm
      refine List.Perm.trans ?_ List.perm_middle.symm
      rw [List.cons_append]
      refine List.Perm.cons _ ?_
      rw [← List.append_assoc]
      exact List.Perm.append_right _ List.perm_append_comm
    · rw [e1]
      show around fs (fl _ ++ (_ ++ fr _)) = _
      simp
    · intro x hx
      rcases List.mem_append.1 hx with hx | hx
      · refine zipL_below _ _ at0 ?_ (Rise.left hs') (lower_take at0 _) x hx
        show ((t.ks.take _).map inord).length ≤ (t.r.items.take _).length
        have := hw.2.2.1
        have := lower_le at0 t.r.items
        simp; omega
      · exact e2 x hx
    · intro x hx
      rcases List.mem_append.1 hx with hx | hx
      · exact e3 x hx
      · refine zipR_above _ _ at0 ?_ (Rise.right (Rise.right hs')) (hit_false at0 t hh hi) x hx
        show ((t.ks.drop _).map inord).length ≤ (t.r.items.drop _).length
        have := hw.2.2.1
        have := lower_le at0 t.r.items
        simp; omega

theorem wfs_stands (at0 : Int) (d : Nat) (t : T α) (fs : Fs α) (hw : wf d t) (hc : Chain d fs t.r.b) (h1 : 1 ≤ t.r.items.length) (h7 : t.r.items.length ≤ 7) (h3 : fs ≠ [] → 3 ≤ t.r.items.length) (hf : wfound at0 d t = true) : Stands at0 t fs (wfs at0 d t fs) := by
  induction d generalizing t fs with
  | zero =>
    obtain ⟨x, hx1, hx2⟩ := hit_true at0 t hf
    exact ⟨t, _, fs, 0, x, rfl, hw, hx1, hx2, h1, h7, h3, hc, rfl, rfl, List.Perm.refl _⟩
  | succ d ih =>
    cases hh : hit at0 t with
    | true =>
      obtain ⟨x, hx1, hx2⟩ := hit_true at0 t hh
      exact ⟨t, _, fs, d + 1, x, by simp [wfs, hh], hw, hx1, hx2, h1, h7, h3, hc, rfl, rfl, List.Perm.refl _⟩
    | false =>
      obtain ⟨k, hk1, hk2, hk3, hk4⟩ := kid_at d t (lower at0 t.r.items) hw (lower_le _ _)
      have hl := node_at d t k _ hw (lower_le _ _) hk1
      have hkz := (hw.2.2.2 k hk4).2
      rw [(wsteps_down at0 d t k hh hk1).2] at hf
      have hO := ih k ((t, lower at0 t.r.items) :: fs) hk3 ⟨hw, lower_le _ _, ⟨k, hk1, rfl⟩, h1, h7, h3, hc⟩ (by omega) hkz.2 (fun _ => hkz.1) hf
      have hq : wfs at0 (d + 1) t fs = wfs at0 d k ((t, lower at0 t.r.items) :: fs) := by simp [wfs, hh, hk1]
      rw [hq]
      obtain ⟨t', p, fs', d', x, e1, e2, e3, e4, e5, e6, e7, e8, e9, e10, e11⟩ := hO.ends
      refine ⟨t', p, fs', d', x, e1, e2, e3, e4, e5, e6, e7, e8, e9, ?_, ?_⟩
      · rw [e10, hl]; rfl
      · refine e11.trans ?_
        show (t.r :: (sibs (t, lower at0 t.r.items) ++ ctx fs) ++ k.recs).Perm _
        refine List.Perm.trans ?_ (List.Perm.append_left _ (node_recs t k _ hk1)).symm
        refine List.Perm.trans ?_ List.perm_middle.symm
        rw [List.cons_append]
        refine List.Perm.cons _ ?_
        rw [← List.append_assoc]
        exact List.Perm.append_right _ List.perm_append_comm
end T

end Go.Proofs.Ytkhbfjncamobdaa

namespace Go.Proofs.Ytkhbfjncamobdaa
set_option linter.unusedVariables false

namespace T
variable {α : Type}

/-- what stands at a place that is being filled: nothing yet, or two nodes of one height (an item stands between them) -/
abbrev Hole (α : Type) := Option (T α × T α)
def hrecs : Hole α → List (Rec α)
  | none => []
  | some (a, b) => a.recs ++ b.recs
def hin : Hole α → I α → List (I α)
  | none, y => [y]
  | some (a, b), y => a.inord ++ y :: b.inord
def hptr : Hole α → Option Nat
  | none => none
  | some (_, b) => some b.r.b
/-- the node at a place with the new item, and the new node right of it -/
def grow (f : T α × Nat) (h : Hole α) (r' : Rec α) : T α := match h with
  | none => node r' []
  | some (a, b) => node r' (f.1.ks.take f.2 ++ a :: b :: f.1.ks.drop (f.2 + 1))
def growKids (f : T α × Nat) : Hole α → List Nat
  | none => f.1.r.kids
  | some (_, b) => f.1.r.kids.take (f.2 + 1) ++ b.r.b :: f.1.r.kids.drop (f.2 + 1)
/-- the place's height, and what fits there -/
def HoleFits (f : T α × Nat) : Nat → Hole α → Prop
  | 0, h => h = none ∧ wf 0 f.1
  | d + 1, h => ∃ a b k, h = some (a, b) ∧ wf (d + 1) f.1 ∧ wf d a ∧ wf d b ∧ f.1.ks[f.2]? = some k ∧ a.r.b = k.r.b ∧ 3 ≤ a.r.items.length ∧ a.r.items.length ≤ 7 ∧ 3 ≤ b.r.items.length ∧ b.r.items.length ≤ 7

theorem grow_r (f : T α × Nat) (h : Hole α) (r' : Rec α) : (grow f h r').r = r' := by cases h <;> rfl

theorem grow_wf (d : Nat) (f : T α × Nat) (h : Hole α) (r' : Rec α) (y : I α) (hp : f.2 ≤ f.1.r.items.length) (hh : HoleFits f d h) (hi : r'.items = f.1.r.items.take f.2 ++ y :: f.1.r.items.drop f.2) (hk : r'.kids = growKids f h) (hv : r'.kv.isSome = f.1.r.kv.isSome) :
    wf d (grow f h r') ∧ (grow f h r').inord = fl f ++ (hin h y ++ fr f) ∧ (grow f h r').recs.Perm (r' :: (sibs f ++ hrecs h)) := by
  cases d with
  | zero =>
    obtain ⟨rfl, hw⟩ := hh
    refine ⟨⟨rfl, ?_, ?_⟩, ?_, ?_⟩
    · rw [grow_r]
      rw [hw.2.1] at hv
      cases h : r'.kv with
      | none => rfl
      | some p => rw [h] at hv; cases hv
    · rw [grow_r, hk, growKids, hw.2.2]
    · rw [inord_eq]
      show inter [] r'.items = _
      rw [hi, fl, fr, hw.1]
      simp [inter, zipL, zipR_nil, hin]
    · rw [recs_eq]
      show (r' :: [].flatMap recs).Perm _
      rw [sibs, hw.1]
      simp [hrecs]
  | succ d =>
    obtain ⟨a, b, k, rfl, hw, ha, hb, hk1, hab, a3, a7, b3, b7⟩ := hh
    have hlt := (List.getElem?_eq_some_iff.1 hk1).1
    have hke := (List.getElem?_eq_some_iff.1 hk1).2
    have hl := hw.2.2.1
    have hlen : r'.items.length = f.1.r.items.length + 1 := by rw [hi]; simp; omega
    refine ⟨⟨?_, ?_, ?_, ?_⟩, ?_, ?_⟩
    · rw [grow_r, hv]; exact hw.1
    · rw [grow_r, hk, growKids]
      show f.1.r.kids.take (f.2 + 1) ++ b.r.b :: f.1.r.kids.drop (f.2 + 1) = (f.1.ks.take f.2 ++ a :: b :: f.1.ks.drop (f.2 + 1)).map (fun k => k.r.b)
      rw [hw.2.1, List.map_append, List.map_cons, List.map_cons, hab, List.take_add_one, List.getElem?_map, hk1, ← List.map_take, ← List.map_drop]
      simp
    · rw [grow_r, hlen]
      show (f.1.ks.take f.2 ++ a :: b :: f.1.ks.drop (f.2 + 1)).length = _
      simp; omega
    · intro k' hk'
      change k' ∈ f.1.ks.take f.2 ++ a :: b :: f.1.ks.drop (f.2 + 1) at hk'
      rw [List.mem_append, List.mem_cons, List.mem_cons] at hk'
      rcases hk' with hk' | rfl | rfl | hk'
      · exact hw.2.2.2 k' (List.mem_of_mem_take hk')
      · exact ⟨ha, a3, a7⟩
      · exact ⟨hb, b3, b7⟩
      · exact hw.2.2.2 k' (List.mem_of_mem_drop hk')
    · rw [inord_eq]
      show inter ((f.1.ks.take f.2 ++ a :: b :: f.1.ks.drop (f.2 + 1)).map inord) (grow f (some (a, b)) r').r.items = _
      rw [grow_r, hi, List.map_append, List.map_cons, List.map_cons, inter_split _ _ _ _ _ (by simp; omega) (by simp; omega), zipR, fl, fr, hin]
      simp
    · rw [recs_eq, grow_r]
      show (r' :: (f.1.ks.take f.2 ++ a :: b :: f.1.ks.drop (f.2 + 1)).flatMap recs).Perm _
      refine List.Perm.cons _ ?_
      rw [List.flatMap_append, List.flatMap_cons, List.flatMap_cons, sibs, hrecs, List.append_assoc]
      refine List.Perm.append_left _ ?_
      rw [← List.append_assoc]
      exact List.perm_append_comm

/-- a node of eight items in two halves -/
theorem cut_wf (d : Nat) (t : T α) (y : I α) (r1 rr : Rec α) (hw : wf d t) (hn : t.r.items.length = 8) (li : r1.items = t.r.items.take 4) (mi : t.r.items[4]? = some y) (ri : rr.items = t.r.items.drop 5)
    (lk : r1.kids = t.r.kids.take 5) (rk : rr.kids = t.r.kids.drop 5) (lv : r1.kv = t.r.kv) (rv : rr.kv.isSome = t.r.kv.isSome) :
    wf d (node r1 (t.ks.take 5)) ∧ wf d (node rr (t.ks.drop 5)) ∧ t.inord = (node r1 (t.ks.take 5)).inord ++ y :: (node rr (t.ks.drop 5)).inord ∧ r1.items.length = 4 ∧ rr.items.length = 3 ∧
      ((node r1 (t.ks.take 5)).recs ++ (node rr (t.ks.drop 5)).recs).Perm (r1 :: rr :: t.ks.flatMap recs) := by
  have h4 : r1.items.length = 4 := by rw [li, List.length_take, hn]; rfl
  have h3 : rr.items.length = 3 := by rw [ri, List.length_drop, hn]
  have hin : t.inord = (node r1 (t.ks.take 5)).inord ++ y :: (node rr (t.ks.drop 5)).inord := by
    rw [inord_eq, inord_eq, inord_eq]
    show inter (t.ks.map inord) t.r.items = inter ((t.ks.take 5).map inord) r1.items ++ y :: inter ((t.ks.drop 5).map inord) rr.items
    rw [inter_cut (t.ks.map inord) t.r.items 4 y mi ((wf_ks d t hw).imp (fun h => by rw [h]; rfl) (fun h => by simpa using h)), li, ri, List.map_take, List.map_drop]
  have hrec : ((node r1 (t.ks.take 5)).recs ++ (node rr (t.ks.drop 5)).recs).Perm (r1 :: rr :: t.ks.flatMap recs) := by
    rw [recs_eq, recs_eq]
    show (r1 :: (t.ks.take 5).flatMap recs ++ rr :: (t.ks.drop 5).flatMap recs).Perm _
    rw [List.cons_append]
    refine List.Perm.cons _ ?_
    refine List.perm_middle.trans (List.Perm.cons _ ?_)
    rw [← List.flatMap_append, List.take_append_drop]
  cases d with
  | zero =>
    refine ⟨⟨?_, lv.trans hw.2.1, ?_⟩, ⟨?_, ?_, ?_⟩, hin, h4, h3, hrec⟩
    · show t.ks.take 5 = []
      rw [hw.1]; rfl
    · show r1.kids = []
      rw [lk, hw.2.2]; rfl
    · show t.ks.drop 5 = []
      rw [hw.1]; rfl
    · show rr.kv = none
      rw [hw.2.1] at rv
      cases h : rr.kv with
      | none => rfl
      | some p => rw [h] at rv; cases rv
    · show rr.kids = []
      rw [rk, hw.2.2]; rfl
  | succ d =>
    have hl := hw.2.2.1
    refine ⟨⟨?_, ?_, ?_, ?_⟩, ⟨?_, ?_, ?_, ?_⟩, hin, h4, h3, hrec⟩
    · show r1.kv.isSome = true
      rw [lv]; exact hw.1
    · show r1.kids = (t.ks.take 5).map _
      rw [lk, hw.2.1, List.map_take]
    · show (t.ks.take 5).length = r1.items.length + 1
      rw [h4, List.length_take]; omega
    · exact fun k hk => hw.2.2.2 k (List.mem_of_mem_take hk)
    · show rr.kv.isSome = true
      rw [rv]; exact hw.1
    · show rr.kids = (t.ks.drop 5).map _
      rw [rk, hw.2.1, List.map_drop]
    · show (t.ks.drop 5).length = rr.items.length + 1
      rw [h3, List.length_drop]; omega
    · exact fun k hk => hw.2.2.2 k (List.mem_of_mem_drop hk)
end T

end Go.Proofs.Ytkhbfjncamobdaa

namespace Go.Proofs.Ytkhbfjncamobdaa
set_option linter.unusedVariables false

namespace T
variable {α : Type}
def get (at0 : Int) : List (I α) → Option α
  | [] => none
  | x :: l => if x.1 = at0 then some x.2 else get at0 l
def put (at0 : Int) (v : α) : List (I α) → List (I α)
  | [] => [(at0, v)]
  | x :: l => if x.1 < at0 then x :: put at0 v l else if x.1 = at0 then (at0, v) :: l else (at0, v) :: x :: l
def del (at0 : Int) (l : List (I α)) : List (I α) := l.filter fun x => x.1 != at0

theorem Rise.mid {l r : List (I α)} {x : I α} (h : Rise (l ++ x :: r)) : (∀ y, y ∈ l → y.1 < x.1) ∧ ∀ y, y ∈ r → x.1 < y.1 :=
  ⟨fun y hy => Rise.across h y hy x (by simp), (List.pairwise_cons.1 (Rise.right h)).1⟩
theorem rise_mk {l r : List (I α)} (hl : Rise l) (hr : Rise r) (h : ∀ a, a ∈ l → ∀ b, b ∈ r → a.1 < b.1) : Rise (l ++ r) := List.pairwise_append.2 ⟨hl, hr, h⟩
theorem rise_between {l r : List (I α)} {x : I α} (h : Rise (l ++ r)) (hl : ∀ y, y ∈ l → y.1 < x.1) (hr : ∀ y, y ∈ r → x.1 < y.1) : Rise (l ++ x :: r) := by
  refine rise_mk (Rise.left h) (List.pairwise_cons.2 ⟨hr, Rise.right h⟩) fun a ha b hb => ?_
  rcases List.mem_cons.1 hb with rfl | hb
  · exact hl a ha
  · exact Rise.across h a ha b hb
theorem rise_drop {l r : List (I α)} {x : I α} (h : Rise (l ++ x :: r)) : Rise (l ++ r) :=
  rise_mk (Rise.left h) (List.pairwise_cons.1 (Rise.right h)).2 fun a ha b hb => Rise.across h a ha b (List.mem_cons_of_mem _ hb)

theorem get_in (at0 : Int) (l r : List (I α)) (x : I α) (hl : ∀ y, y ∈ l → y.1 < at0) (hx : x.1 = at0) : get at0 (l ++ x :: r) = some x.2 := by
  induction l with
  | nil => simp [get, hx]
  | cons y l ih =>
    have := hl y (by simp)
    rw [List.cons_append, get, if_neg (by omega)]
    exact ih fun z hz => hl z (by simp [hz])
theorem get_out (at0 : Int) (l : List (I α)) (h : ∀ y, y ∈ l → y.1 ≠ at0) : get at0 l = none := by
  induction l with
  | nil => rfl
  | cons y l ih =>
    rw [get, if_neg (h y (by simp))]
    exact ih fun z hz => h z (by simp [hz])
theorem put_in (at0 : Int) (v : α) (l r : List (I α)) (x : I α) (hl : ∀ y, y ∈ l → y.1 < at0) (hx : x.1 = at0) : put at0 v (l ++ x :: r) = l ++ (at0, v) :: r := by
  induction l with
  | nil => simp [put, hx]
  | cons y l ih =>
    have := hl y (by simp)
    rw [List.cons_append, put, if_pos this, ih fun z hz => hl z (by simp [hz])]
    rfl
theorem put_out (at0 : Int) (v : α) (l r : List (I α)) (hl : ∀ y, y ∈ l → y.1 < at0) (hr : ∀ y, y ∈ r → at0 < y.1) : put at0 v (l ++ r) = l ++ (at0, v) :: r := by
  induction l with
  | nil =>
    cases r with
    | nil => rfl
    | cons y r =>
      have := hr y (by simp)
      rw [List.nil_append, put, if_neg (by omega), if_neg (by omega)]
      rfl
  | cons y l ih =>
    have := hl y (by simp)
    rw [List.cons_append, put, if_pos this, ih fun z hz => hl z (by simp [hz])]
    rfl
theorem del_in (at0 : Int) (l r : List (I α)) (x : I α) (hl : ∀ y, y ∈ l → y.1 < at0) (hx : x.1 = at0) (hr : ∀ y, y ∈ r → at0 < y.1) : del at0 (l ++ x :: r) = l ++ r := by
  unfold del
  rw [List.filter_append, List.filter_cons, List.filter_eq_self.2 (fun y hy => by have := hl y hy; simp; omega), List.filter_eq_self.2 (fun y hy => by have := hr y hy; simp; omega)]
  simp [hx]
theorem del_out (at0 : Int) (l : List (I α)) (h : ∀ y, y ∈ l → y.1 ≠ at0) : del at0 l = l := List.filter_eq_self.2 fun y hy => by simpa using h y hy

/-- a node with another item at a place -/
def setAt (t : T α) (p : Nat) (x : I α) : T α := node { t.r with items := t.r.items.set p x } t.ks
theorem setAt_wf (d : Nat) (t : T α) (p : Nat) (x : I α) (h : wf d t) : wf d (setAt t p x) := by
  cases d with
  | zero => exact h
  | succ d =>
    obtain ⟨h1, h2, h3, h4⟩ := h
    exact ⟨h1, h2, by show t.ks.length = (t.r.items.set p x).length + 1; rw [List.length_set]; exact h3, h4⟩
theorem setAt_inord (d : Nat) (t : T α) (p : Nat) (x y : I α) (h : wf d t) (hy : t.r.items[p]? = some y) :
    ∃ l r, t.inord = l ++ y :: r ∧ (setAt t p x).inord = l ++ x :: r := by
  have hk : t.ks.map inord = [] ∨ (t.ks.map inord).length = t.r.items.length + 1 := (wf_ks d t h).imp (fun h => by rw [h]; rfl) (fun h => by simpa using h)
  refine ⟨_, _, by rw [inord_eq]; exact inter_cut (t.ks.map inord) t.r.items p y hy hk, ?_⟩
  rw [inord_eq]
  show inter (t.ks.map inord) (t.r.items.set p x) = _
  have hlt := (List.getElem?_eq_some_iff.1 hy).1
  rw [inter_cut (t.ks.map inord) (t.r.items.set p x) p x (by rw [List.getElem?_set_self hlt]) (by rw [List.length_set]; exact hk)]
  rw [List.take_set_of_le (Nat.le_refl _), List.drop_set_of_lt (by omega)]
theorem setAt_recs (t : T α) (p : Nat) (x : I α) : (setAt t p x).recs = { t.r with items := t.r.items.set p x } :: t.ks.flatMap recs := by rw [recs_eq]; rfl

theorem height_le (d : Nat) (t : T α) (h : wf d t) (h1 : 1 ≤ t.r.items.length) : d + 1 ≤ t.inord.length := by
  induction d generalizing t with
  | zero =>
    rw [inord_eq, h.1]
    simpa [inter] using h1
  | succ d ih =>
    obtain ⟨k, hk1, hk2, hk3, hk4⟩ := kid_at d t 0 h (by omega)
    have := ih k hk3 (by have := (h.2.2.2 k hk4).2.1; omega)
    obtain ⟨x, hx⟩ : ∃ x, t.r.items[0]? = some x := ⟨_, List.getElem?_eq_getElem (by omega)⟩
    rw [node_at d t k 0 h (by omega) hk1]
    have hf : 1 ≤ (fr (t, 0)).length := by
      have hl := h.2.2.1
      unfold fr
      show 1 ≤ (zipR (t.r.items.drop 0) ((t.ks.drop 1).map inord)).length
      cases hi : t.r.items with
      | nil => rw [hi] at h1; simp at h1
      | cons i is =>
        cases hb : (t.ks.drop 1).map inord with
        | nil => simp [zipR_nil]
        | cons b bs => simp [zipR]
    simp only [List.length_append]
    omega
theorem wsteps_length (at0 : Int) (d : Nat) (t : T α) : (wsteps at0 d t).length ≤ d + 1 := by
  induction d generalizing t with
  | zero => simp [wsteps]
  | succ d ih =>
    rw [wsteps, List.length_cons]
    split
    · simp
    · split
      · rename_i k hk
        have := ih k
        omega
      · simp
end T

end Go.Proofs.Ytkhbfjncamobdaa

namespace Go.Proofs.Ytkhbfjncamobdaa
set_option linter.unusedVariables false

namespace T
variable {α : Type}
/-- the numbers from a number on -/
def vis (from0 : Int) (xs : List (I α)) : List Int := (xs.filter fun x => decide (from0 ≤ x.1)).map (·.1)
theorem vis_append (f : Int) (a b : List (I α)) : vis f (a ++ b) = vis f a ++ vis f b := by simp [vis]
theorem vis_low (f : Int) (a : List (I α)) (h : ∀ x, x ∈ a → x.1 < f) : vis f a = [] := by
  unfold vis
  rw [List.filter_eq_nil_iff.2 (fun x hx => by have := h x hx; simp; omega)]
  rfl
theorem vis_one (f : Int) (x : I α) (h : f ≤ x.1) : vis f [x] = [x.1] := by simp [vis, h]
/-- what stands below a node at a place -/
def seg (t : T α) (p : Nat) : List (I α) := match t.ks[p]? with
  | some k => k.inord
  | none => []

theorem zipL_snoc (as : List (List (I α))) (is : List (I α)) (a : List (I α)) (i : I α) (h : as.length = is.length) : zipL (as ++ [a]) (is ++ [i]) = zipL as is ++ (a ++ [i]) := by
  induction as generalizing is with
  | nil =>
    cases is with
    | nil => simp [zipL]
    | cons j is => simp at h
  | cons b as ih =>
    cases is with
    | nil => simp at h
    | cons j is =>
      simp only [List.cons_append, zipL, List.append_assoc]
      rw [ih is (by simpa using h)]
theorem fl_zero (t : T α) : fl (t, 0) = [] := by simp [fl, zipL]
theorem fl_succ (d : Nat) (t : T α) (p : Nat) (x : I α) (hw : wf d t) (hx : t.r.items[p]? = some x) : fl (t, p + 1) = fl (t, p) ++ (seg t p ++ [x]) := by
  have hlt := (List.getElem?_eq_some_iff.1 hx).1
  unfold fl
  show zipL ((t.ks.take (p + 1)).map inord) (t.r.items.take (p + 1)) = zipL ((t.ks.take p).map inord) (t.r.items.take p) ++ _
  rw [List.take_add_one (l := t.r.items), hx]
  rcases wf_ks d t hw with hk | hk
  · unfold seg
    rw [hk]
    simp [zipL]
  · obtain ⟨k, hkk⟩ : ∃ k, t.ks[p]? = some k := ⟨_, List.getElem?_eq_getElem (by omega)⟩
    unfold seg
    rw [List.take_add_one (l := t.ks), hkk]
    simp only [Option.toList_some, List.map_append, List.map_cons, List.map_nil]
    exact zipL_snoc _ _ _ _ (by simp; omega)
theorem whole_at (d : Nat) (t : T α) (p : Nat) (hw : wf d t) (hp : p ≤ t.r.items.length) : t.inord = fl (t, p) ++ (seg t p ++ fr (t, p)) := by
  cases d with
  | zero =>
    rw [leaf_at t p hw]
    have : seg t p = [] := by unfold seg; rw [hw.1]; rfl
    rw [this, List.nil_append]
  | succ d =>
    obtain ⟨k, hk1, _, _, _⟩ := kid_at d t p hw hp
    rw [node_at d t k p hw hp hk1]
    have : seg t p = k.inord := by unfold seg; rw [hk1]
    rw [this]
theorem fr_last (d : Nat) (t : T α) (hw : wf d t) : fr (t, t.r.items.length) = [] := by
  unfold fr
  show zipR (t.r.items.drop t.r.items.length) ((t.ks.drop (t.r.items.length + 1)).map inord) = []
  rw [List.drop_length]
  rcases wf_ks d t hw with h | h
  · rw [h]; rfl
  · rw [List.drop_eq_nil_of_le (by omega)]; rfl

theorem prefix_drop {A B K : List Int} {i : Nat} (h : A ++ B <+: K.drop i) : B <+: K.drop (i + A.length) := by
  obtain ⟨r, hr⟩ := h
  refine ⟨r, ?_⟩
  rw [← List.drop_drop, ← hr, List.append_assoc, List.drop_left]
theorem prefix_at {a : Int} {B K : List Int} {i : Nat} (h : a :: B <+: K.drop i) : K.getD i 0 = a ∧ i < K.length := by
  obtain ⟨r, hr⟩ := h
  have h0 : (K.drop i)[0]? = some a := by rw [← hr]; rfl
  rw [List.getElem?_drop, Nat.add_zero] at h0
  exact ⟨by rw [List.getD_eq_getElem?_getD, h0]; rfl, (List.getElem?_eq_some_iff.1 h0).1⟩
theorem prefix_left {A B C : List Int} (h : A ++ B <+: C) : A <+: C := (List.prefix_append A B).trans h
end T

end Go.Proofs.Ytkhbfjncamobdaa
