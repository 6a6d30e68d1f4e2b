/- Two nodes beside an item, as trees: an item and a node below moved from one to the other, or both made one. -/
import Derived.Test.YtkhbfjncamobdaaBagPkA
namespace Go.Proofs.Ytkhbfjncamobdaa
set_option linter.unusedVariables false

namespace T
variable {α : Type}

def pre (t : T α) (j : Nat) : List (I α) := zipL ((t.ks.take j).map inord) (t.r.items.take j)
def post (t : T α) (j : Nat) : List (I α) := zipR (t.r.items.drop (j + 1)) ((t.ks.drop (j + 2)).map inord)

theorem two_left (t : T α) (j : Nat) (x : I α) (K : T α) (hx : t.r.items[j]? = some x) (hK : t.ks[j + 1]? = some K) (s : List (I α)) :
    fl (t, j) ++ (s ++ fr (t, j)) = pre t j ++ (s ++ x :: (K.inord ++ post t j)) := by
  have h1 := (List.getElem?_eq_some_iff.1 hx).1
  have h2 := (List.getElem?_eq_some_iff.1 hK).1
  have e1 : t.r.items.drop j = x :: t.r.items.drop (j + 1) := by rw [List.drop_eq_getElem_cons h1, (List.getElem?_eq_some_iff.1 hx).2]
  have e2 : t.ks.drop (j + 1) = K :: t.ks.drop (j + 2) := by rw [List.drop_eq_getElem_cons h2, (List.getElem?_eq_some_iff.1 hK).2]
  unfold fl fr pre post
  show _ ++ (s ++ zipR (t.r.items.drop j) ((t.ks.drop (j + 1)).map inord)) = _
  rw [e1, e2]
  rfl
theorem two_right (t : T α) (j : Nat) (x : I α) (K : T α) (hx : t.r.items[j]? = some x) (hK : t.ks[j]? = some K) (s : List (I α)) :
    fl (t, j + 1) ++ (s ++ fr (t, j + 1)) = pre t j ++ (K.inord ++ x :: (s ++ post t j)) := by
  have h1 := (List.getElem?_eq_some_iff.1 hx).1
  have h2 := (List.getElem?_eq_some_iff.1 hK).1
  have e1 : t.r.items.take (j + 1) = t.r.items.take j ++ [x] := by rw [List.take_add_one, hx]; rfl
  have e2 : t.ks.take (j + 1) = t.ks.take j ++ [K] := by rw [List.take_add_one, hK]; rfl
  have e3 : fl (t, j + 1) = pre t j ++ (K.inord ++ [x]) := by
    unfold fl pre
    show zipL ((t.ks.take (j + 1)).map inord) (t.r.items.take (j + 1)) = _
    rw [e1, e2, List.map_append]
    exact zipL_snoc _ _ _ _ (by simp; omega)
  rw [e3]
  unfold fr post
  simp
theorem put_two (t : T α) (j : Nat) (A C : T α) (r' : Rec α) (y : I α) (hj : j < t.r.items.length) (hl : t.ks.length = t.r.items.length + 1) (hi : r'.items = t.r.items.set j y) :
    (node r' (t.ks.take j ++ A :: C :: t.ks.drop (j + 2))).inord = pre t j ++ (A.inord ++ y :: (C.inord ++ post t j)) := by
  rw [inord_eq]
  show inter ((t.ks.take j ++ A :: C :: t.ks.drop (j + 2)).map inord) r'.items = _
  rw [hi, List.set_eq_take_append_cons_drop, if_pos hj, List.map_append, List.map_cons, List.map_cons, inter_split _ _ _ _ _ (by simp; omega) (by simp; omega), zipR]
  rfl
theorem put_one (t : T α) (j : Nat) (A : T α) (r' : Rec α) (hj : j < t.r.items.length) (hl : t.ks.length = t.r.items.length + 1) (hi : r'.items = t.r.items.take j ++ t.r.items.drop (j + 1)) :
    (node r' (t.ks.take j ++ A :: t.ks.drop (j + 2))).inord = pre t j ++ (A.inord ++ post t j) := by
  rw [inord_eq]
  show inter ((t.ks.take j ++ A :: t.ks.drop (j + 2)).map inord) r'.items = _
  rw [hi, List.map_append, List.map_cons, inter_split _ _ _ _ _ (by simp; omega) (by simp; omega)]
  rfl

/-- two nodes with an item between them, as one -/
theorem two_inord (k : Nat) (A C : T α) (x : I α) (hA : wf k A) (hC : wf k C) : inter ((A.ks ++ C.ks).map inord) (A.r.items ++ x :: C.r.items) = A.inord ++ x :: C.inord := by
  have hj : (A.r.items ++ x :: C.r.items)[A.r.items.length]? = some x := by simp
  rw [inter_cut _ _ A.r.items.length x hj (by
    cases k with
    | zero => exact .inl (by rw [hA.1, hC.1]; rfl)
    | succ k => exact .inr (by have := hA.2.2.1; have := hC.2.2.1; simp; omega)), inord_eq, inord_eq]
  cases k with
  | zero => rw [hA.1, hC.1]; simp
  | succ k =>
    have e := hA.2.2.1
    have e1 : ((A.ks ++ C.ks).map inord).take (A.r.items.length + 1) = A.ks.map inord := by rw [List.map_append, List.take_left' (by simp [e])]
    have e2 : ((A.ks ++ C.ks).map inord).drop (A.r.items.length + 1) = C.ks.map inord := by rw [List.map_append, List.drop_left' (by simp [e])]
    have e3 : (A.r.items ++ x :: C.r.items).drop (A.r.items.length + 1) = C.r.items := by
      rw [show A.r.items ++ x :: C.r.items = (A.r.items ++ [x]) ++ C.r.items by simp, List.drop_left' (by simp)]
    rw [e1, e2, e3, List.take_left]
/-- an item moved: what stands there is the same -/
theorem moved_inord (k : Nat) (A C A' C' : T α) (x y : I α) (hA : wf k A) (hC : wf k C) (hA' : wf k A') (hC' : wf k C') (hk : A'.ks ++ C'.ks = A.ks ++ C.ks) (hi : A'.r.items ++ y :: C'.r.items = A.r.items ++ x :: C.r.items) :
    A'.inord ++ y :: C'.inord = A.inord ++ x :: C.inord := by
  rw [← two_inord k A C x hA hC, ← two_inord k A' C' y hA' hC', hk, hi]

theorem put_two_wf (k : Nat) (t : T α) (j : Nat) (A C KA KC : T α) (r' : Rec α) (y : I α) (hw : wf (k + 1) t) (hj : j < t.r.items.length) (hkA : t.ks[j]? = some KA) (hkC : t.ks[j + 1]? = some KC) (hbA : A.r.b = KA.r.b) (hbC : C.r.b = KC.r.b)
    (hA : wf k A) (hC : wf k C) (a3 : 3 ≤ A.r.items.length) (a7 : A.r.items.length ≤ 7) (c3 : 3 ≤ C.r.items.length) (c7 : C.r.items.length ≤ 7) (hi : r'.items = t.r.items.set j y) (hkv : r'.kv.isSome = true) (hks : r'.kids = t.r.kids) :
    wf (k + 1) (node r' (t.ks.take j ++ A :: C :: t.ks.drop (j + 2))) := by
  obtain ⟨g1, g2, g3, g4⟩ := hw
  have h1 := (List.getElem?_eq_some_iff.1 hkA).1
  have h2 := (List.getElem?_eq_some_iff.1 hkC).1
  refine ⟨hkv, ?_, ?_, ?_⟩
  · show r'.kids = (t.ks.take j ++ A :: C :: t.ks.drop (j + 2)).map (fun k => k.r.b)
    rw [hks, g2, List.map_append, List.map_cons, List.map_cons, hbA, hbC]
    conv => lhs; rw [← List.take_append_drop j t.ks, List.drop_eq_getElem_cons h1, (List.getElem?_eq_some_iff.1 hkA).2, List.drop_eq_getElem_cons h2, (List.getElem?_eq_some_iff.1 hkC).2]
    simp
  · show (t.ks.take j ++ A :: C :: t.ks.drop (j + 2)).length = r'.items.length + 1
    rw [hi]; simp; omega
  · intro k' hk'
    change k' ∈ t.ks.take j ++ A :: C :: t.ks.drop (j + 2) at hk'
    rw [List.mem_append, List.mem_cons, List.mem_cons] at hk'
    rcases hk' with hk' | rfl | rfl | hk'
    · exact g4 k' (List.mem_of_mem_take hk')
    · exact ⟨hA, a3, a7⟩
    · exact ⟨hC, c3, c7⟩
    · exact g4 k' (List.mem_of_mem_drop hk')
theorem put_one_wf (k : Nat) (t : T α) (j : Nat) (A KA : T α) (r' : Rec α) (hw : wf (k + 1) t) (hj : j < t.r.items.length) (hkA : t.ks[j]? = some KA) (hbA : A.r.b = KA.r.b)
    (hA : wf k A) (a3 : 3 ≤ A.r.items.length) (a7 : A.r.items.length ≤ 7) (hi : r'.items = t.r.items.take j ++ t.r.items.drop (j + 1)) (hkv : r'.kv.isSome = true) (hks : r'.kids = t.r.kids.take (j + 1) ++ t.r.kids.drop (j + 2)) :
    wf (k + 1) (node r' (t.ks.take j ++ A :: t.ks.drop (j + 2))) := by
  obtain ⟨g1, g2, g3, g4⟩ := hw
  have h1 := (List.getElem?_eq_some_iff.1 hkA).1
  refine ⟨hkv, ?_, ?_, ?_⟩
  · show r'.kids = (t.ks.take j ++ A :: t.ks.drop (j + 2)).map (fun k => k.r.b)
    rw [hks, g2, List.map_append, List.map_cons, hbA, List.take_add_one, List.getElem?_map, hkA, ← List.map_take, ← List.map_drop]
    simp
  · show (t.ks.take j ++ A :: t.ks.drop (j + 2)).length = r'.items.length + 1
    rw [hi]; simp; omega
  · intro k' hk'
    change k' ∈ t.ks.take j ++ A :: t.ks.drop (j + 2) at hk'
    rw [List.mem_append, List.mem_cons] at hk'
    rcases hk' with hk' | rfl | hk'
    · exact g4 k' (List.mem_of_mem_take hk')
    · exact ⟨hA, a3, a7⟩
    · exact g4 k' (List.mem_of_mem_drop hk')

/-- the nodes of the other places -/
def rest2 (t : T α) (j : Nat) : List (Rec α) := (t.ks.take j).flatMap recs ++ (t.ks.drop (j + 2)).flatMap recs
theorem sibs_left (t : T α) (j : Nat) (K : T α) (hK : t.ks[j + 1]? = some K) : (sibs (t, j)).Perm (K.recs ++ rest2 t j) := by
  have h2 := (List.getElem?_eq_some_iff.1 hK).1
  have e2 : t.ks.drop (j + 1) = K :: t.ks.drop (j + 2) := by rw [List.drop_eq_getElem_cons h2, (List.getElem?_eq_some_iff.1 hK).2]
  unfold sibs rest2
  show ((t.ks.take j).flatMap recs ++ (t.ks.drop (j + 1)).flatMap recs).Perm _
  rw [e2, List.flatMap_cons, ← List.append_assoc, ← List.append_assoc]
  exact List.perm_append_comm.append_right _
theorem sibs_right (t : T α) (j : Nat) (K : T α) (hK : t.ks[j]? = some K) : (sibs (t, j + 1)).Perm (K.recs ++ rest2 t j) := by
  have e2 : t.ks.take (j + 1) = t.ks.take j ++ [K] := by rw [List.take_add_one, hK]; rfl
  unfold sibs rest2
  show ((t.ks.take (j + 1)).flatMap recs ++ (t.ks.drop (j + 2)).flatMap recs).Perm _
  rw [e2, List.flatMap_append, List.flatMap_cons, List.flatMap_nil, List.append_nil, ← List.append_assoc]
  exact List.perm_append_comm.append_right _
theorem put_two_recs (t : T α) (j : Nat) (A C : T α) (r' : Rec α) : (node r' (t.ks.take j ++ A :: C :: t.ks.drop (j + 2))).recs.Perm (r' :: A.r :: C.r :: ((A.ks ++ C.ks).flatMap recs ++ rest2 t j)) := by
  rw [recs_eq]
  show (r' :: (t.ks.take j ++ A :: C :: t.ks.drop (j + 2)).flatMap recs).Perm _
  rw [List.flatMap_append, List.flatMap_cons, List.flatMap_cons, recs_eq A, recs_eq C, List.flatMap_append]
  unfold rest2
  classical
  refine List.perm_iff_count.2 fun b => ?_
  simp only [List.count_append, List.count_cons]
  omega
theorem put_one_recs (t : T α) (j : Nat) (A : T α) (r' : Rec α) : (node r' (t.ks.take j ++ A :: t.ks.drop (j + 2))).recs.Perm (r' :: A.r :: (A.ks.flatMap recs ++ rest2 t j)) := by
  rw [recs_eq]
  show (r' :: (t.ks.take j ++ A :: t.ks.drop (j + 2)).flatMap recs).Perm _
  rw [List.flatMap_append, List.flatMap_cons, recs_eq A]
  unfold rest2
  classical
  refine List.perm_iff_count.2 fun b => ?_
  simp only [List.count_append, List.count_cons]
  omega
/-- the nodes ahead of the work, told by what is at work -/
theorem three_recs (r : Rec α) (A C : T α) (sib : List (Rec α)) (R rest : List (Rec α)) (H : T α) (h : (sib ++ H.recs).Perm (A.recs ++ C.recs ++ R)) :
    (r :: (sib ++ H.recs ++ rest)).Perm (r :: A.r :: C.r :: ((A.ks ++ C.ks).flatMap recs ++ R ++ rest)) := by
  refine List.Perm.cons _ ?_
  refine (h.append_right _).trans ?_
  rw [recs_eq A, recs_eq C, List.flatMap_append]
  classical
  refine List.perm_iff_count.2 fun b => ?_
  simp only [List.count_append, List.count_cons]
  omega
end T
end Go.Proofs.Ytkhbfjncamobdaa
