/- What a mending has made of a tree: from three nodes, or two, in memory. -/
import Derived.Test.YtbelgkccfajjoaaBagMend
import Derived.Test.YtbelgkccfajjoaaBagTrioI
namespace Go.Proofs.Ytbelgkccfajjoaa.I
open Go.RowKit
set_option linter.unusedVariables false

/-- the tree behind the work, and what it has kept -/
def Mended (k : Nat) (t : T Int) (j : Nat) (x : It) (s1 s2 : List It) (S X : Nat → Prop) (w0 W' : World) (rest : List (Rec Int)) : Prop :=
  ∃ H' : T Int, Grew S X w0 W' (H'.recs ++ rest) ∧ H'.r.b = t.r.b ∧ T.wf (k + 1) H' ∧ t.r.items.length ≤ H'.r.items.length + 1 ∧ H'.r.items.length ≤ t.r.items.length ∧ H'.inord = T.pre t j ++ (s1 ++ x :: (s2 ++ T.post t j))

theorem mend_moved (k : Nat) (t : T Int) (j : Nat) (A C KA KC : T Int) (x y : It) (S X : Nat → Prop) (w0 W' : World) (rest : List (Rec Int)) (r' rl' rr' : Rec Int) (lks rks : List (T Int))
    (hw : T.wf (k + 1) t) (hx : t.r.items[j]? = some x) (hkA : t.ks[j]? = some KA) (hkC : t.ks[j + 1]? = some KC) (hA : T.wf k A) (hC : T.wf k C)
    (hg : Grew S X w0 W' (r' :: rl' :: rr' :: ((A.ks ++ C.ks).flatMap T.recs ++ T.rest2 t j ++ rest)))
    (hr : r'.b = t.r.b ∧ r'.items = t.r.items.set j y ∧ r'.kids = t.r.kids ∧ r'.kv = t.r.kv) (hlb : rl'.b = KA.r.b) (hrb : rr'.b = KC.r.b)
    (hks : lks ++ rks = A.ks ++ C.ks) (his : rl'.items ++ y :: rr'.items = A.r.items ++ x :: C.r.items)
    (hl : T.wf k (.node rl' lks)) (hrr : T.wf k (.node rr' rks)) (l3 : 3 ≤ rl'.items.length) (l7 : rl'.items.length ≤ 7) (r3 : 3 ≤ rr'.items.length) (r7 : rr'.items.length ≤ 7) :
    Mended k t j x A.inord C.inord S X w0 W' rest := by
  have hj := (List.getElem?_eq_some_iff.1 hx).1
  have hlen := hw.2.2.1
  refine ⟨.node r' (t.ks.take j ++ .node rl' lks :: .node rr' rks :: t.ks.drop (j + 2)), ?_, hr.1, ?_, ?_, ?_, ?_⟩
  · refine hg.perm ?_
    refine List.Perm.trans ?_ ((T.put_two_recs t j (.node rl' lks) (.node rr' rks) r').append_right rest).symm
    show (r' :: rl' :: rr' :: ((A.ks ++ C.ks).flatMap T.recs ++ T.rest2 t j ++ rest)).Perm (r' :: rl' :: rr' :: ((lks ++ rks).flatMap T.recs ++ T.rest2 t j) ++ rest)
    rw [hks]
    simp
  · exact T.put_two_wf k t j (.node rl' lks) (.node rr' rks) KA KC r' y hw hj hkA hkC hlb hrb hl hrr l3 l7 r3 r7 hr.2.1 (by rw [hr.2.2.2]; exact hw.1) hr.2.2.1
  · show _ ≤ r'.items.length + 1
    rw [hr.2.1]; simp
  · show r'.items.length ≤ _
    rw [hr.2.1]; simp
  · rw [T.put_two t j (.node rl' lks) (.node rr' rks) r' y hj hlen hr.2.1]
    have := T.moved_inord k A C (.node rl' lks) (.node rr' rks) x y hA hC hl hrr hks his
    have e : ∀ (u v z : List It) (c : It), u ++ c :: (v ++ z) = (u ++ c :: v) ++ z := fun u v z c => by simp
    rw [e, e, this]

theorem mend_joined (k : Nat) (t : T Int) (j : Nat) (A C KA KC : T Int) (x : It) (S X : Nat → Prop) (w0 W' : World) (rest : List (Rec Int)) (r' rl' : Rec Int)
    (hw : T.wf (k + 1) t) (hx : t.r.items[j]? = some x) (hkA : t.ks[j]? = some KA) (hkC : t.ks[j + 1]? = some KC) (hA : T.wf k A) (hC : T.wf k C)
    (hg : Grew S X w0 W' (r' :: rl' :: C.r :: ((A.ks ++ C.ks).flatMap T.recs ++ T.rest2 t j ++ rest)))
    (hr : r'.b = t.r.b ∧ r'.items = t.r.items.take j ++ t.r.items.drop (j + 1) ∧ r'.kids = t.r.kids.take (j + 1) ++ t.r.kids.drop (j + 2) ∧ r'.kv = t.r.kv) (hlb : rl'.b = KA.r.b)
    (his : rl'.items = A.r.items ++ x :: C.r.items) (hl : T.wf k (.node rl' (A.ks ++ C.ks))) (l3 : 3 ≤ rl'.items.length) (l7 : rl'.items.length ≤ 7) :
    Mended k t j x A.inord C.inord S X w0 W' rest := by
  have hj := (List.getElem?_eq_some_iff.1 hx).1
  have hlen := hw.2.2.1
  have hil : r'.items.length + 1 = t.r.items.length := by rw [hr.2.1]; simp; omega
  refine ⟨.node r' (t.ks.take j ++ .node rl' (A.ks ++ C.ks) :: t.ks.drop (j + 2)), ?_, hr.1, ?_, ?_, ?_, ?_⟩
  · have hg2 : Grew S X w0 W' (C.r :: (r' :: rl' :: ((A.ks ++ C.ks).flatMap T.recs ++ T.rest2 t j ++ rest))) := hg.perm (perm_rlt _ _ _ _)
    have hg3 : Grew S X w0 W' (r' :: rl' :: ((A.ks ++ C.ks).flatMap T.recs ++ T.rest2 t j ++ rest)) :=
      ⟨⟨fun r hr => hg2.mem.ok r (List.mem_cons_of_mem _ hr), (nodup_cons_iff.1 hg2.mem.nd).2.1⟩, hg2.only, fun r hr => hg2.bnd r (List.mem_cons_of_mem _ hr)⟩
    refine hg3.perm ?_
    refine List.Perm.trans ?_ ((T.put_one_recs t j (.node rl' (A.ks ++ C.ks)) r').append_right rest).symm
    show (r' :: rl' :: ((A.ks ++ C.ks).flatMap T.recs ++ T.rest2 t j ++ rest)).Perm (r' :: rl' :: ((A.ks ++ C.ks).flatMap T.recs ++ T.rest2 t j) ++ rest)
    simp
  · exact T.put_one_wf k t j (.node rl' (A.ks ++ C.ks)) KA r' hw hj hkA hlb hl l3 l7 hr.2.1 (by rw [hr.2.2.2]; exact hw.1) hr.2.2.1
  · show _ ≤ r'.items.length + 1
    omega
  · show r'.items.length ≤ _
    omega
  · rw [T.put_one t j (.node rl' (A.ks ++ C.ks)) r' hj hlen hr.2.1]
    have h2 := T.two_inord k A C x hA hC
    have e : ∀ (u v z : List It) (c : It), u ++ c :: (v ++ z) = (u ++ c :: v) ++ z := fun u v z c => by simp
    rw [e, ← h2, T.inord_eq]
    show T.pre t j ++ (T.inter ((A.ks ++ C.ks).map T.inord) rl'.items ++ T.post t j) = _
    rw [his]

/-- the nodes at work, as they lie -/
theorem mend_trio (k : Nat) (f : T Int × Nat) (H A C : T Int) (j : Nat) (S X : Nat → Prop) (w0 W : World) (rest : List (Rec Int)) (hp : (T.sibs f ++ H.recs).Perm (A.recs ++ C.recs ++ T.rest2 f.1 j))
    (hg : Grew S X w0 W (f.1.r :: (T.sibs f ++ H.recs ++ rest))) : Trio S X w0 W (fun b => ∃ r, r ∈ f.1.r :: (T.sibs f ++ H.recs) ∧ b ∈ r.blocks) ((A.ks ++ C.ks).flatMap T.recs ++ T.rest2 f.1 j ++ rest) W f.1.r A.r C.r := by
  have hm : ∀ r, r ∈ A.recs ++ C.recs → r ∈ f.1.r :: (T.sibs f ++ H.recs) := fun r hr => List.mem_cons_of_mem _ (hp.symm.mem_iff.1 (List.mem_append_left _ hr))
  exact ⟨hg.perm (T.three_recs f.1.r A C (T.sibs f) (T.rest2 f.1 j) rest H hp), Only.refl _ _, fun b hb => .inl ⟨f.1.r, by simp, hb⟩,
    fun b hb => .inl ⟨A.r, hm _ (List.mem_append_left _ (T.r_mem A)), hb⟩, fun b hb => .inl ⟨C.r, hm _ (List.mem_append_right _ (T.r_mem C)), hb⟩⟩
end Go.Proofs.Ytbelgkccfajjoaa.I
