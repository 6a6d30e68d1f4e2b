/- A node with one item more, and a node cut in two, as trees. -/
import Derived.Test.YtbelgkccfajjoaaBagFind
namespace Go.Proofs.Ytbelgkccfajjoaa
set_option linter.unusedVariables false

namespace T
variable {α : Type}

/-- what stands at a place that is being filled: nothing yet, or two nodes of one height (an item stands between them) -/
abbrev Hole (α : Type) := Option (T α × T α)
def hrecs : Hole α → List (Rec α)
  | none => []
  | some (a, b) => a.recs ++ b.recs
def hin : Hole α → I α → List (I α)
  | none, y => [y]
  | some (a, b), y => a.inord ++ y :: b.inord
def hptr : Hole α → Option Nat
  | none => none
  | some (_, b) => some b.r.b
/-- the node at a place with the new item, and the new node right of it -/
def grow (f : T α × Nat) (h : Hole α) (r' : Rec α) : T α := match h with
  | none => node r' []
  | some (a, b) => node r' (f.1.ks.take f.2 ++ a :: b :: f.1.ks.drop (f.2 + 1))
def growKids (f : T α × Nat) : Hole α → List Nat
  | none => f.1.r.kids
  | some (_, b) => f.1.r.kids.take (f.2 + 1) ++ b.r.b :: f.1.r.kids.drop (f.2 + 1)
/-- the place's height, and what fits there -/
def HoleFits (f : T α × Nat) : Nat → Hole α → Prop
  | 0, h => h = none ∧ wf 0 f.1
  | d + 1, h => ∃ a b k, h = some (a, b) ∧ wf (d + 1) f.1 ∧ wf d a ∧ wf d b ∧ f.1.ks[f.2]? = some k ∧ a.r.b = k.r.b ∧ 3 ≤ a.r.items.length ∧ a.r.items.length ≤ 7 ∧ 3 ≤ b.r.items.length ∧ b.r.items.length ≤ 7

theorem grow_r (f : T α × Nat) (h : Hole α) (r' : Rec α) : (grow f h r').r = r' := by cases h <;> rfl

theorem grow_wf (d : Nat) (f : T α × Nat) (h : Hole α) (r' : Rec α) (y : I α) (hp : f.2 ≤ f.1.r.items.length) (hh : HoleFits f d h) (hi : r'.items = f.1.r.items.take f.2 ++ y :: f.1.r.items.drop f.2) (hk : r'.kids = growKids f h) (hv : r'.kv.isSome = f.1.r.kv.isSome) :
    wf d (grow f h r') ∧ (grow f h r').inord = fl f ++ (hin h y ++ fr f) ∧ (grow f h r').recs.Perm (r' :: (sibs f ++ hrecs h)) := by
  cases d with
  | zero =>
    obtain ⟨rfl, hw⟩ := hh
    refine ⟨⟨rfl, ?_, ?_⟩, ?_, ?_⟩
    · rw [grow_r]
      rw [hw.2.1] at hv
      cases h : r'.kv with
      | none => rfl
      | some p => rw [h] at hv; cases hv
    · rw [grow_r, hk, growKids, hw.2.2]
    · rw [inord_eq]
      show inter [] r'.items = _
      rw [hi, fl, fr, hw.1]
      simp [inter, zipL, zipR_nil, hin]
    · rw [recs_eq]
      show (r' :: [].flatMap recs).Perm _
      rw [sibs, hw.1]
      simp [hrecs]
  | succ d =>
    obtain ⟨a, b, k, rfl, hw, ha, hb, hk1, hab, a3, a7, b3, b7⟩ := hh
    have hlt := (List.getElem?_eq_some_iff.1 hk1).1
    have hke := (List.getElem?_eq_some_iff.1 hk1).2
    have hl := hw.2.2.1
    have hlen : r'.items.length = f.1.r.items.length + 1 := by rw [hi]; simp; omega
    refine ⟨⟨?_, ?_, ?_, ?_⟩, ?_, ?_⟩
    · rw [grow_r, hv]; exact hw.1
    · rw [grow_r, hk, growKids]
      show f.1.r.kids.take (f.2 + 1) ++ b.r.b :: f.1.r.kids.drop (f.2 + 1) = (f.1.ks.take f.2 ++ a :: b :: f.1.ks.drop (f.2 + 1)).map (fun k => k.r.b)
      rw [hw.2.1, List.map_append, List.map_cons, List.map_cons, hab, List.take_add_one, List.getElem?_map, hk1, ← List.map_take, ← List.map_drop]
      simp
    · rw [grow_r, hlen]
      show (f.1.ks.take f.2 ++ a :: b :: f.1.ks.drop (f.2 + 1)).length = _
      simp; omega
    · intro k' hk'
      change k' ∈ f.1.ks.take f.2 ++ a :: b :: f.1.ks.drop (f.2 + 1) at hk'
      rw [List.mem_append, List.mem_cons, List.mem_cons] at hk'
      rcases hk' with hk' | rfl | rfl | hk'
      · exact hw.2.2.2 k' (List.mem_of_mem_take hk')
      · exact ⟨ha, a3, a7⟩
      · exact ⟨hb, b3, b7⟩
      · exact hw.2.2.2 k' (List.mem_of_mem_drop hk')
    · rw [inord_eq]
      show inter ((f.1.ks.take f.2 ++ a :: b :: f.1.ks.drop (f.2 + 1)).map inord) (grow f (some (a, b)) r').r.items = _
      rw [grow_r, hi, List.map_append, List.map_cons, List.map_cons, inter_split _ _ _ _ _ (by simp; omega) (by simp; omega), zipR, fl, fr, hin]
      simp
    · rw [recs_eq, grow_r]
      show (r' :: (f.1.ks.take f.2 ++ a :: b :: f.1.ks.drop (f.2 + 1)).flatMap recs).Perm _
      refine List.Perm.cons _ ?_
      rw [List.flatMap_append, List.flatMap_cons, List.flatMap_cons, sibs, hrecs, List.append_assoc]
      refine List.Perm.append_left _ ?_
      rw [← List.append_assoc]
      exact List.perm_append_comm

/-- a node of eight items in two halves -/
theorem cut_wf (d : Nat) (t : T α) (y : I α) (r1 rr : Rec α) (hw : wf d t) (hn : t.r.items.length = 8) (li : r1.items = t.r.items.take 4) (mi : t.r.items[4]? = some y) (ri : rr.items = t.r.items.drop 5)
    (lk : r1.kids = t.r.kids.take 5) (rk : rr.kids = t.r.kids.drop 5) (lv : r1.kv = t.r.kv) (rv : rr.kv.isSome = t.r.kv.isSome) :
    wf d (node r1 (t.ks.take 5)) ∧ wf d (node rr (t.ks.drop 5)) ∧ t.inord = (node r1 (t.ks.take 5)).inord ++ y :: (node rr (t.ks.drop 5)).inord ∧ r1.items.length = 4 ∧ rr.items.length = 3 ∧
      ((node r1 (t.ks.take 5)).recs ++ (node rr (t.ks.drop 5)).recs).Perm (r1 :: rr :: t.ks.flatMap recs) := by
  have h4 : r1.items.length = 4 := by rw [li, List.length_take, hn]; rfl
  have h3 : rr.items.length = 3 := by rw [ri, List.length_drop, hn]
  have hin : t.inord = (node r1 (t.ks.take 5)).inord ++ y :: (node rr (t.ks.drop 5)).inord := by
    rw [inord_eq, inord_eq, inord_eq]
    show inter (t.ks.map inord) t.r.items = inter ((t.ks.take 5).map inord) r1.items ++ y :: inter ((t.ks.drop 5).map inord) rr.items
    rw [inter_cut (t.ks.map inord) t.r.items 4 y mi ((wf_ks d t hw).imp (fun h => by rw [h]; rfl) (fun h => by simpa using h)), li, ri, List.map_take, List.map_drop]
  have hrec : ((node r1 (t.ks.take 5)).recs ++ (node rr (t.ks.drop 5)).recs).Perm (r1 :: rr :: t.ks.flatMap recs) := by
    rw [recs_eq, recs_eq]
    show (r1 :: (t.ks.take 5).flatMap recs ++ rr :: (t.ks.drop 5).flatMap recs).Perm _
    rw [List.cons_append]
    refine List.Perm.cons _ ?_
    refine List.perm_middle.trans (List.Perm.cons _ ?_)
    rw [← List.flatMap_append, List.take_append_drop]
  cases d with
  | zero =>
    refine ⟨⟨?_, lv.trans hw.2.1, ?_⟩, ⟨?_, ?_, ?_⟩, hin, h4, h3, hrec⟩
    · show t.ks.take 5 = []
      rw [hw.1]; rfl
    · show r1.kids = []
      rw [lk, hw.2.2]; rfl
    · show t.ks.drop 5 = []
      rw [hw.1]; rfl
    · show rr.kv = none
      rw [hw.2.1] at rv
      cases h : rr.kv with
      | none => rfl
      | some p => rw [h] at rv; cases rv
    · show rr.kids = []
      rw [rk, hw.2.2]; rfl
  | succ d =>
    have hl := hw.2.2.1
    refine ⟨⟨?_, ?_, ?_, ?_⟩, ⟨?_, ?_, ?_, ?_⟩, hin, h4, h3, hrec⟩
    · show r1.kv.isSome = true
      rw [lv]; exact hw.1
    · show r1.kids = (t.ks.take 5).map _
      rw [lk, hw.2.1, List.map_take]
    · show (t.ks.take 5).length = r1.items.length + 1
      rw [h4, List.length_take]; omega
    · exact fun k hk => hw.2.2.2 k (List.mem_of_mem_take hk)
    · show rr.kv.isSome = true
      rw [rv]; exact hw.1
    · show rr.kids = (t.ks.drop 5).map _
      rw [rk, hw.2.1, List.map_drop]
    · show (t.ks.drop 5).length = rr.items.length + 1
      rw [h3, List.length_drop]; omega
    · exact fun k hk => hw.2.2.2 k (List.mem_of_mem_drop hk)
end T

end Go.Proofs.Ytbelgkccfajjoaa
