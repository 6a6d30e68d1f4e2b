/- What a mending has made of a tree: from three nodes, or two, in memory. Mending a node below that has too few: by an item from beside it, or by making one node of two. mend, walked. mend, at whatever tree. -/
import Derived.Test.YtkhbfjncamobdaaBagMend
import Derived.Test.YtkhbfjncamobdaaBagTrioS
import Derived.Test.YtkhbfjncamobdaaBagMovLS
import Derived.Test.YtkhbfjncamobdaaBagMovRS
import Derived.Test.YtkhbfjncamobdaaBagJoinS
import Derived.Deep.QuietTactic
import Derived.BigQuiet
namespace Go.Proofs.Ytkhbfjncamobdaa.S
open Go.RowKit
set_option linter.unusedVariables false

/-- the tree behind the work, and what it has kept -/
def Mended (k : Nat) (t : T ByteArray) (j : Nat) (x : It) (s1 s2 : List It) (S X : Nat → Prop) (w0 W' : World) (rest : List (Rec ByteArray)) : Prop :=
  ∃ H' : T ByteArray, Grew S X w0 W' (H'.recs ++ rest) ∧ H'.r.b = t.r.b ∧ T.wf (k + 1) H' ∧ t.r.items.length ≤ H'.r.items.length + 1 ∧ H'.r.items.length ≤ t.r.items.length ∧ H'.inord = T.pre t j ++ (s1 ++ x :: (s2 ++ T.post t j))

theorem mend_moved (k : Nat) (t : T ByteArray) (j : Nat) (A C KA KC : T ByteArray) (x y : It) (S X : Nat → Prop) (w0 W' : World) (rest : List (Rec ByteArray)) (r' rl' rr' : Rec ByteArray) (lks rks : List (T ByteArray))
    (hw : T.wf (k + 1) t) (hx : t.r.items[j]? = some x) (hkA : t.ks[j]? = some KA) (hkC : t.ks[j + 1]? = some KC) (hA : T.wf k A) (hC : T.wf k C)
    (hg : Grew S X w0 W' (r' :: rl' :: rr' :: ((A.ks ++ C.ks).flatMap T.recs ++ T.rest2 t j ++ rest)))
    (hr : r'.b = t.r.b ∧ r'.items = t.r.items.set j y ∧ r'.kids = t.r.kids ∧ r'.kv = t.r.kv) (hlb : rl'.b = KA.r.b) (hrb : rr'.b = KC.r.b)
    (hks : lks ++ rks = A.ks ++ C.ks) (his : rl'.items ++ y :: rr'.items = A.r.items ++ x :: C.r.items)
    (hl : T.wf k (.node rl' lks)) (hrr : T.wf k (.node rr' rks)) (l3 : 3 ≤ rl'.items.length) (l7 : rl'.items.length ≤ 7) (r3 : 3 ≤ rr'.items.length) (r7 : rr'.items.length ≤ 7) :
    Mended k t j x A.inord C.inord S X w0 W' rest := by
  have hj := (List.getElem?_eq_some_iff.1 hx).1
  have hlen := hw.2.2.1
  refine ⟨.node r' (t.ks.take j ++ .node rl' lks :: .node rr' rks :: t.ks.drop (j + 2)), ?_, hr.1, ?_, ?_, ?_, ?_⟩
  · refine hg.perm ?_
    refine List.Perm.trans ?_ ((T.put_two_recs t j (.node rl' lks) (.node rr' rks) r').append_right rest).symm
    show (r' :: rl' :: rr' :: ((A.ks ++ C.ks).flatMap T.recs ++ T.rest2 t j ++ rest)).Perm (r' :: rl' :: rr' :: ((lks ++ rks).flatMap T.recs ++ T.rest2 t j) ++ rest)
    rw [hks]
    simp
  · exact T.put_two_wf k t j (.node rl' lks) (.node rr' rks) KA KC r' y hw hj hkA hkC hlb hrb hl hrr l3 l7 r3 r7 hr.2.1 (by rw [hr.2.2.2]; exact hw.1) hr.2.2.1
  · show _ ≤ r'.items.length + 1
    rw [hr.2.1]; simp
  · show r'.items.length ≤ _
    rw [hr.2.1]; simp
  · rw [T.put_two t j (.node rl' lks) (.node rr' rks) r' y hj hlen hr.2.1]
    have := T.moved_inord k A C (.node rl' lks) (.node rr' rks) x y hA hC hl hrr hks his
    have e : ∀ (u v z : List It) (c : It), u ++ c :: (v ++ z) = (u ++ c :: v) ++ z := fun u v z c => by simp
    rw [e, e, this]

theorem mend_joined (k : Nat) (t : T ByteArray) (j : Nat) (A C KA KC : T ByteArray) (x : It) (S X : Nat → Prop) (w0 W' : World) (rest : List (Rec ByteArray)) (r' rl' : Rec ByteArray)
    (hw : T.wf (k + 1) t) (hx : t.r.items[j]? = some x) (hkA : t.ks[j]? = some KA) (hkC : t.ks[j + 1]? = some KC) (hA : T.wf k A) (hC : T.wf k C)
    (hg : Grew S X w0 W' (r' :: rl' :: C.r :: ((A.ks ++ C.ks).flatMap T.recs ++ T.rest2 t j ++ rest)))
    (hr : r'.b = t.r.b ∧ r'.items = t.r.items.take j ++ t.r.items.drop (j + 1) ∧ r'.kids = t.r.kids.take (j + 1) ++ t.r.kids.drop (j + 2) ∧ r'.kv = t.r.kv) (hlb : rl'.b = KA.r.b)
    (his : rl'.items = A.r.items ++ x :: C.r.items) (hl : T.wf k (.node rl' (A.ks ++ C.ks))) (l3 : 3 ≤ rl'.items.length) (l7 : rl'.items.length ≤ 7) :
    Mended k t j x A.inord C.inord S X w0 W' rest := by
  have hj := (List.getElem?_eq_some_iff.1 hx).1
  have hlen := hw.2.2.1
  have hil : r'.items.length + 1 = t.r.items.length := by rw [hr.2.1]; simp; omega
  refine ⟨.node r' (t.ks.take j ++ .node rl' (A.ks ++ C.ks) :: t.ks.drop (j + 2)), ?_, hr.1, ?_, ?_, ?_, ?_⟩
  · have hg2 : Grew S X w0 W' (C.r :: (r' :: rl' :: ((A.ks ++ C.ks).flatMap T.recs ++ T.rest2 t j ++ rest))) := hg.perm (perm_rlt _ _ _ _)
    have hg3 : Grew S X w0 W' (r' :: rl' :: ((A.ks ++ C.ks).flatMap T.recs ++ T.rest2 t j ++ rest)) :=
      ⟨⟨fun r hr => hg2.mem.ok r (List.mem_cons_of_mem _ hr), (nodup_cons_iff.1 hg2.mem.nd).2.1⟩, hg2.only, fun r hr => hg2.bnd r (List.mem_cons_of_mem _ hr)⟩
    refine hg3.perm ?_
    refine List.Perm.trans ?_ ((T.put_one_recs t j (.node rl' (A.ks ++ C.ks)) r').append_right rest).symm
    show (r' :: rl' :: ((A.ks ++ C.ks).flatMap T.recs ++ T.rest2 t j ++ rest)).Perm (r' :: rl' :: ((A.ks ++ C.ks).flatMap T.recs ++ T.rest2 t j) ++ rest)
    simp
  · exact T.put_one_wf k t j (.node rl' (A.ks ++ C.ks)) KA r' hw hj hkA hlb hl l3 l7 hr.2.1 (by rw [hr.2.2.2]; exact hw.1) hr.2.2.1
  · show _ ≤ r'.items.length + 1
    omega
  · show r'.items.length ≤ _
    omega
  · rw [T.put_one t j (.node rl' (A.ks ++ C.ks)) r' hj hlen hr.2.1]
    have h2 := T.two_inord k A C x hA hC
    have e : ∀ (u v z : List It) (c : It), u ++ c :: (v ++ z) = (u ++ c :: v) ++ z := fun u v z c => by simp
    rw [e, ← h2, T.inord_eq]
    show T.pre t j ++ (T.inter ((A.ks ++ C.ks).map T.inord) rl'.items ++ T.post t j) = _
    rw [his]

/-- the nodes at work, as they lie -/
theorem mend_trio (k : Nat) (f : T ByteArray × Nat) (H A C : T ByteArray) (j : Nat) (S X : Nat → Prop) (w0 W : World) (rest : List (Rec ByteArray)) (hp : (T.sibs f ++ H.recs).Perm (A.recs ++ C.recs ++ T.rest2 f.1 j))
    (hg : Grew S X w0 W (f.1.r :: (T.sibs f ++ H.recs ++ rest))) : Trio S X w0 W (fun b => ∃ r, r ∈ f.1.r :: (T.sibs f ++ H.recs) ∧ b ∈ r.blocks) ((A.ks ++ C.ks).flatMap T.recs ++ T.rest2 f.1 j ++ rest) W f.1.r A.r C.r := by
  have hm : ∀ r, r ∈ A.recs ++ C.recs → r ∈ f.1.r :: (T.sibs f ++ H.recs) := fun r hr => List.mem_cons_of_mem _ (hp.symm.mem_iff.1 (List.mem_append_left _ hr))
  exact ⟨hg.perm (T.three_recs f.1.r A C (T.sibs f) (T.rest2 f.1 j) rest H hp), Only.refl _ _, fun b hb => .inl ⟨f.1.r, by simp, hb⟩,
    fun b hb => .inl ⟨A.r, hm _ (List.mem_append_left _ (T.r_mem A)), hb⟩, fun b hb => .inl ⟨C.r, hm _ (List.mem_append_right _ (T.r_mem C)), hb⟩⟩
end Go.Proofs.Ytkhbfjncamobdaa.S

namespace Go.Proofs.Ytkhbfjncamobdaa.S
open Go.RowKit
set_option linter.unusedVariables false

theorem wf_node (k : Nat) (r0 r' : Rec ByteArray) (ks : List (T ByteArray)) (h0 : k = 0 → ks = [] ∧ r'.kv.isSome = false ∧ r'.kids = []) (h1 : ∀ d, k = d + 1 → r'.kv.isSome = true ∧ r'.kids = ks.map (fun k => k.r.b) ∧ ks.length = r'.items.length + 1 ∧ ∀ q, q ∈ ks → T.wf d q ∧ 3 ≤ q.r.items.length ∧ q.r.items.length ≤ 7) : T.wf k (.node r' ks) := by
  cases k with
  | zero =>
    obtain ⟨a, b, c⟩ := h0 rfl
    refine ⟨a, ?_, c⟩
    show r'.kv = none
    cases h : r'.kv with
    | none => rfl
    | some p => rw [h] at b; cases b
  | succ d => exact h1 d rfl

theorem kid_b {k : Nat} {t K A : T ByteArray} {j : Nat} (hw : T.wf (k + 1) t) (hK : t.ks[j]? = some K) (hb : A.r.b = K.r.b) : t.r.kids[j]? = some A.r.b := by
  rw [hw.2.1, List.getElem?_map, hK, hb]
  rfl
theorem kids_le {k : Nat} {t : T ByteArray} (hw : T.wf (k + 1) t) (h7 : t.r.items.length ≤ 7) : t.r.kids.length ≤ 8 := by
  rw [hw.2.1, List.length_map, hw.2.2.1]
  omega

/-- what a mending by two nodes beside an item comes to -/
def TreePost (k : Nat) (t A C : T ByteArray) (j : Nat) (x : It) (S X : Nat → Prop) (w0 W : World) (B : Nat → Prop) (rest : List (Rec ByteArray)) (e : Ending) (W' : World) : Prop :=
  e = .returned (.tuple #[]) ∧ Mended k t j x A.inord C.inord S X w0 W' rest ∧ Only B W W'

theorem moveLeft_tree (k : Nat) (t A C KA KC : T ByteArray) (j : Nat) (x : It) (S X : Nat → Prop) (w0 W : World) (B : Nat → Prop) (rest : List (Rec ByteArray)) (hw : T.wf (k + 1) t) (hx : t.r.items[j]? = some x) (hkA : t.ks[j]? = some KA) (hkC : t.ks[j + 1]? = some KC) (hA : T.wf k A) (hC : T.wf k C)
    (hbA : A.r.b = KA.r.b) (hbC : C.r.b = KC.r.b) (h7 : t.r.items.length ≤ 7) (a2 : A.r.items.length = 2) (c4 : 3 < C.r.items.length) (c7 : C.r.items.length ≤ 7) (hT : Trio S X w0 W B ((A.ks ++ C.ks).flatMap T.recs ++ T.rest2 t j ++ rest) W t.r A.r C.r) :
    Calls Try.prog 45 #[ptrV t.r.b, .int .i64 j] W (TreePost k t A C j x S X w0 W B rest) := by
  obtain ⟨f, hkv⟩ := Option.isSome_iff_exists.1 hw.1
  obtain ⟨y, ys, hy⟩ : ∃ y ys, C.r.items = y :: ys := by
    cases h : C.r.items with
    | nil => rw [h] at c4; simp at c4
    | cons y ys => exact ⟨y, ys, rfl⟩
  have hyl : C.r.items.length = ys.length + 1 := by rw [hy]; rfl
  have hB1 := kid_b hw hkA hbA
  have hB2 := kid_b hw hkC hbC
  cases k with
  | zero =>
    refine (moveLeft_trio S X w0 W B _ t.r A.r C.r j x y ys f A.r.kids C.r.kids hT hkv hB1 hB2 hx hy h7 (by omega) c7 (kids_le hw h7) (.inl ⟨hA.2.1, hC.2.1, rfl, rfl⟩)).mono ?_
    rintro e W' ⟨he, r', rl', rr', hT', hr, ⟨l1, l2, l3, l4⟩, ⟨r1, r2, r3, r4⟩⟩
    refine ⟨he, mend_moved 0 t j A C KA KC x y S X w0 W' rest r' rl' rr' [] [] hw hx hkA hkC hA hC hT'.g hr (l1.trans hbA) (r1.trans hbC) (by rw [hA.1, hC.1]) (by rw [l2, r2, hy]; simp) (wf_node 0 rl' rl' [] (fun _ => ⟨rfl, by rw [l4, hA.2.1]; rfl, by rw [l3, hA.2.2]⟩) (fun d h => by omega)) (wf_node 0 rr' rr' [] (fun _ => ⟨rfl, by rw [r4, hC.2.1]; rfl, by rw [r3, hC.2.2]⟩) (fun d h => by omega)) (by rw [l2]; simp; omega) (by rw [l2]; simp; omega) (by rw [r2]; omega) (by rw [r2]; omega), hT'.o⟩
  | succ d =>
    obtain ⟨fl, hfl⟩ := Option.isSome_iff_exists.1 hA.1
    obtain ⟨fr, hfr⟩ := Option.isSome_iff_exists.1 hC.1
    obtain ⟨c, cs, hc⟩ : ∃ c cs, C.ks = c :: cs := by
      cases h : C.ks with
      | nil => have := hC.2.2.1; rw [h] at this; simp at this
      | cons c cs => exact ⟨c, cs, rfl⟩
    have hAl := hA.2.2.1
    have hCl := hC.2.2.1
    rw [hc] at hCl
    simp only [List.length_cons] at hCl
    refine (moveLeft_trio S X w0 W B _ t.r A.r C.r j x y ys f (A.r.kids ++ [c.r.b]) (cs.map fun k => k.r.b) hT hkv hB1 hB2 hx hy h7 (by omega) c7 (kids_le hw h7) (.inr ⟨fl, fr, c.r.b, cs.map fun k => k.r.b, hfl, hfr, by rw [hC.2.1, hc]; rfl, by rw [hA.2.1]; simp; omega, by simp; omega, rfl, rfl⟩)).mono ?_
    rintro e W' ⟨he, r', rl', rr', hT', hr, ⟨l1, l2, l3, l4⟩, ⟨r1, r2, r3, r4⟩⟩
    have hcm : T.wf d c ∧ 3 ≤ c.r.items.length ∧ c.r.items.length ≤ 7 := hC.2.2.2 c (by rw [hc]; simp)
    refine ⟨he, mend_moved (d + 1) t j A C KA KC x y S X w0 W' rest r' rl' rr' (A.ks ++ [c]) cs hw hx hkA hkC hA hC hT'.g hr (l1.trans hbA) (r1.trans hbC) (by rw [hc]; simp) (by rw [l2, r2, hy]; simp)
      (wf_node (d + 1) rl' rl' (A.ks ++ [c]) (fun h => by omega) (fun d' h => by
        obtain rfl : d = d' := by omega
        refine ⟨by rw [l4]; exact hA.1, by rw [l3, hA.2.1]; simp, by rw [l2]; simp; omega, fun q hq => ?_⟩
        rcases List.mem_append.1 hq with hq | hq
        · exact hA.2.2.2 q hq
        · obtain rfl : q = c := by simpa using hq
          exact hcm))
      (wf_node (d + 1) rr' rr' cs (fun h => by omega) (fun d' h => by
        obtain rfl : d = d' := by omega
        exact ⟨by rw [r4]; exact hC.1, r3, by rw [r2]; omega, fun q hq => hC.2.2.2 q (by rw [hc]; exact List.mem_cons_of_mem _ hq)⟩))
      (by rw [l2]; simp; omega) (by rw [l2]; simp; omega) (by rw [r2]; omega) (by rw [r2]; omega), hT'.o⟩

theorem moveRight_tree (k : Nat) (t A C KA KC : T ByteArray) (j : Nat) (x : It) (S X : Nat → Prop) (w0 W : World) (B : Nat → Prop) (rest : List (Rec ByteArray)) (hw : T.wf (k + 1) t) (hx : t.r.items[j]? = some x) (hkA : t.ks[j]? = some KA) (hkC : t.ks[j + 1]? = some KC) (hA : T.wf k A) (hC : T.wf k C)
    (hbA : A.r.b = KA.r.b) (hbC : C.r.b = KC.r.b) (h7 : t.r.items.length ≤ 7) (c2 : C.r.items.length = 2) (a4 : 3 < A.r.items.length) (a7 : A.r.items.length ≤ 7) (hT : Trio S X w0 W B ((A.ks ++ C.ks).flatMap T.recs ++ T.rest2 t j ++ rest) W t.r A.r C.r) :
    Calls Try.prog 44 #[ptrV t.r.b, .int .i64 j] W (TreePost k t A C j x S X w0 W B rest) := by
  obtain ⟨f, hkv⟩ := Option.isSome_iff_exists.1 hw.1
  obtain ⟨y, xs, hy⟩ : ∃ y xs, A.r.items = xs ++ [y] := by
    rcases List.eq_nil_or_concat A.r.items with h | ⟨xs, y, h⟩
    · rw [h] at a4; simp at a4
    · exact ⟨y, xs, by simpa using h⟩
  have hyl : A.r.items.length = xs.length + 1 := by rw [hy]; simp
  have hB1 := kid_b hw hkA hbA
  have hB2 := kid_b hw hkC hbC
  cases k with
  | zero =>
    refine (moveRight_trio S X w0 W B _ t.r A.r C.r j x y xs f A.r.kids C.r.kids hT hkv hB1 hB2 hx hy h7 a7 (by omega) (kids_le hw h7) (.inl ⟨hA.2.1, hC.2.1, rfl, rfl⟩)).mono ?_
    rintro e W' ⟨he, r', rl', rr', hT', hr, ⟨l1, l2, l3, l4⟩, ⟨r1, r2, r3, r4⟩⟩
    refine ⟨he, mend_moved 0 t j A C KA KC x y S X w0 W' rest r' rl' rr' [] [] hw hx hkA hkC hA hC hT'.g hr (l1.trans hbA) (r1.trans hbC) (by rw [hA.1, hC.1]) (by rw [l2, r2, hy]; simp) (wf_node 0 rl' rl' [] (fun _ => ⟨rfl, by rw [l4, hA.2.1]; rfl, by rw [l3, hA.2.2]⟩) (fun d h => by omega)) (wf_node 0 rr' rr' [] (fun _ => ⟨rfl, by rw [r4, hC.2.1]; rfl, by rw [r3, hC.2.2]⟩) (fun d h => by omega)) (by rw [l2]; omega) (by rw [l2]; omega) (by rw [r2]; simp; omega) (by rw [r2]; simp; omega), hT'.o⟩
  | succ d =>
    obtain ⟨fl, hfl⟩ := Option.isSome_iff_exists.1 hA.1
    obtain ⟨fr, hfr⟩ := Option.isSome_iff_exists.1 hC.1
    have hAl := hA.2.2.1
    have hCl := hC.2.2.1
    obtain ⟨c, cs, hc⟩ : ∃ c cs, A.ks = cs ++ [c] := by
      rcases List.eq_nil_or_concat A.ks with h | ⟨cs, c, h⟩
      · rw [h] at hAl; simp at hAl
      · exact ⟨c, cs, by simpa using h⟩
    have hcl : cs.length = xs.length + 1 := by rw [hc] at hAl; simp at hAl; omega
    refine (moveRight_trio S X w0 W B _ t.r A.r C.r j x y xs f (cs.map fun k => k.r.b) (c.r.b :: C.r.kids) hT hkv hB1 hB2 hx hy h7 a7 (by omega) (kids_le hw h7) (.inr ⟨fl, fr, c.r.b, cs.map fun k => k.r.b, hfl, hfr, by rw [hA.2.1, hc]; simp, by simp [hcl], by rw [hC.2.1]; simp; omega, rfl, rfl⟩)).mono ?_
    rintro e W' ⟨he, r', rl', rr', hT', hr, ⟨l1, l2, l3, l4⟩, ⟨r1, r2, r3, r4⟩⟩
    have hcm : T.wf d c ∧ 3 ≤ c.r.items.length ∧ c.r.items.length ≤ 7 := hA.2.2.2 c (by rw [hc]; simp)
    refine ⟨he, mend_moved (d + 1) t j A C KA KC x y S X w0 W' rest r' rl' rr' cs (c :: C.ks) hw hx hkA hkC hA hC hT'.g hr (l1.trans hbA) (r1.trans hbC) (by rw [hc]; simp) (by rw [l2, r2, hy]; simp)
      (wf_node (d + 1) rl' rl' cs (fun h => by omega) (fun d' h => by
        obtain rfl : d = d' := by omega
        exact ⟨by rw [l4]; exact hA.1, l3, by rw [l2]; omega, fun q hq => hA.2.2.2 q (by rw [hc]; exact List.mem_append_left _ hq)⟩))
      (wf_node (d + 1) rr' rr' (c :: C.ks) (fun h => by omega) (fun d' h => by
        obtain rfl : d = d' := by omega
        refine ⟨by rw [r4]; exact hC.1, by rw [r3, hC.2.1]; rfl, by rw [r2]; simp; omega, fun q hq => ?_⟩
        rcases List.mem_cons.1 hq with rfl | hq
        · exact hcm
        · exact hC.2.2.2 q hq))
      (by rw [l2]; omega) (by rw [l2]; omega) (by rw [r2]; simp; omega) (by rw [r2]; simp; omega), hT'.o⟩

theorem join_tree (k : Nat) (t A C KA KC : T ByteArray) (j : Nat) (x : It) (S X : Nat → Prop) (w0 W : World) (B : Nat → Prop) (rest : List (Rec ByteArray)) (hw : T.wf (k + 1) t) (hx : t.r.items[j]? = some x) (hkA : t.ks[j]? = some KA) (hkC : t.ks[j + 1]? = some KC) (hA : T.wf k A) (hC : T.wf k C)
    (hbA : A.r.b = KA.r.b) (hbC : C.r.b = KC.r.b) (h7 : t.r.items.length ≤ 7) (ha : 2 ≤ A.r.items.length) (hc : 2 ≤ C.r.items.length) (hac : A.r.items.length + C.r.items.length ≤ 6) (hT : Trio S X w0 W B ((A.ks ++ C.ks).flatMap T.recs ++ T.rest2 t j ++ rest) W t.r A.r C.r) :
    Calls Try.prog 46 #[ptrV t.r.b, .int .i64 j] W (TreePost k t A C j x S X w0 W B rest) := by
  obtain ⟨f, hkv⟩ := Option.isSome_iff_exists.1 hw.1
  have hB1 := kid_b hw hkA hbA
  have hB2 := kid_b hw hkC hbC
  refine (join_trio S X w0 W B _ t.r A.r C.r j x f hT hkv hB1 hB2 hx h7 (by omega) (by omega) (kids_le hw h7) (by omega) ?_).mono ?_
  · cases k with
    | zero => exact .inl ⟨hA.2.1, hC.2.1, hA.2.2, hC.2.2⟩
    | succ d =>
      obtain ⟨fl, hfl⟩ := Option.isSome_iff_exists.1 hA.1
      obtain ⟨fr, hfr⟩ := Option.isSome_iff_exists.1 hC.1
      have hAl := hA.2.2.1
      have hCl := hC.2.2.1
      exact .inr ⟨fl, fr, hfl, hfr, by rw [hC.2.1]; simp; omega, by rw [hA.2.1]; simp; omega, by rw [hC.2.1]; simp; omega⟩
  · rintro e W' ⟨he, r', rl', hT', hr, ⟨l1, l2, l3, l4⟩⟩
    refine ⟨he, mend_joined k t j A C KA KC x S X w0 W' rest r' rl' hw hx hkA hkC hA hC hT'.g hr (l1.trans hbA) l2 ?_ (by rw [l2]; simp; omega) (by rw [l2]; simp; omega), hT'.o⟩
    refine wf_node k rl' rl' (A.ks ++ C.ks) (fun h => ?_) (fun d h => ?_)
    · subst h
      exact ⟨by rw [hA.1, hC.1]; rfl, by rw [l4, hA.2.1]; rfl, by rw [l3, hA.2.2, hC.2.2]; rfl⟩
    · subst h
      have hAl := hA.2.2.1
      have hCl := hC.2.2.1
      refine ⟨by rw [l4]; exact hA.1, by rw [l3, hA.2.1, hC.2.1]; simp, by rw [l2]; simp; omega, fun q hq => ?_⟩
      rcases List.mem_append.1 hq with hq | hq
      · exact hA.2.2.2 q hq
      · exact hC.2.2.2 q hq
end Go.Proofs.Ytkhbfjncamobdaa.S

namespace Go.Proofs.Ytkhbfjncamobdaa.S
open Go.RowKit
set_option linter.unusedVariables false

/-- what a look at a place below reads -/
theorem look {w : World} {L : List (Rec ByteArray)} {t K : T ByteArray} {f : Nat × Nat} {k i : Nat} (hm : Mem w L) (ht : t.r ∈ L) (hK : K.r ∈ L) (hw : T.wf (k + 1) t) (hkv : t.r.kv = some f) (hi : t.ks[i]? = some K) :
    w.cell? ⟨f.1, i, none⟩ = some (.pointer (some ⟨K.r.b, 0, none⟩)) ∧ w.cell? ⟨K.r.b, 0, none⟩ = some (.slice (some ⟨K.r.g, 0, none⟩) K.r.items.length K.r.cap) ∧ i < t.r.kids.length :=
  have hk := kid_b hw hi rfl
  ⟨(hm.ok _ ht).kid hkv hk, (hm.ok _ hK).c0, (List.getElem?_eq_some_iff.1 hk).1⟩

set_option maxRecDepth 100000 in
set_option maxHeartbeats 8000000 in
theorem mend_zero_left (w : World) (b f1 f2 n kb kg kl kc lb lg ll lc tg tl tc j : Nat) (Q : World → Prop)
    (n1 : w.cell? ⟨b, 1, none⟩ = some (.slice (some ⟨f1, 0, none⟩) n f2)) (n0 : w.cell? ⟨b, 0, none⟩ = some (.slice (some ⟨tg, 0, none⟩) tl tc))
    (k0 : w.cell? ⟨f1, 1, none⟩ = some (.pointer (some ⟨kb, 0, none⟩))) (l0 : w.cell? ⟨kb, 0, none⟩ = some (.slice (some ⟨kg, 0, none⟩) kl kc)) (hb : (1 : Int) < (n : Int)) (hp : (0 : Int) < (tl : Int)) (hl : (3 : Int) < (kl : Int))
    (cM : Calls Try.prog 45 #[ptrV b, .int .i64 0] w fun e W => e = .returned (.tuple #[]) ∧ Q W) :
    Calls Try.prog 36 #[ptrV b, .int .i64 0] w fun e W => e = .returned (.tuple #[]) ∧ Q W := by
  unfold ptrV at cM ⊢
  go_enter Try.func36, Try.ntmps36
  go_wp2_with (go_at_call 45; refine cM.mono ?_; rintro e w' ⟨rfl, hQ⟩)
  go_end0
  exact ⟨rfl, hQ⟩

set_option maxRecDepth 100000 in
set_option maxHeartbeats 8000000 in
theorem mend_zero_join (w : World) (b f1 f2 n kb kg kl kc lb lg ll lc tg tl tc j : Nat) (Q : World → Prop)
    (n1 : w.cell? ⟨b, 1, none⟩ = some (.slice (some ⟨f1, 0, none⟩) n f2)) (n0 : w.cell? ⟨b, 0, none⟩ = some (.slice (some ⟨tg, 0, none⟩) tl tc))
    (k0 : w.cell? ⟨f1, 1, none⟩ = some (.pointer (some ⟨kb, 0, none⟩))) (l0 : w.cell? ⟨kb, 0, none⟩ = some (.slice (some ⟨kg, 0, none⟩) kl kc)) (hb : (1 : Int) < (n : Int)) (hp : (0 : Int) < (tl : Int)) (hl : decide ((3 : Int) < (kl : Int)) = false)
    (cM : Calls Try.prog 46 #[ptrV b, .int .i64 0] w fun e W => e = .returned (.tuple #[]) ∧ Q W) :
    Calls Try.prog 36 #[ptrV b, .int .i64 0] w fun e W => e = .returned (.tuple #[]) ∧ Q W := by
  unfold ptrV at cM ⊢
  go_enter Try.func36, Try.ntmps36
  go_wp2_with (go_at_call 46; refine cM.mono ?_; rintro e w' ⟨rfl, hQ⟩)
  go_end0
  exact ⟨rfl, hQ⟩

set_option maxRecDepth 100000 in
set_option maxHeartbeats 8000000 in
theorem mend_right (w : World) (b f1 f2 n kb kg kl kc lb lg ll lc tg tl tc j : Nat) (Q : World → Prop)
    (n1 : w.cell? ⟨b, 1, none⟩ = some (.slice (some ⟨f1, 0, none⟩) n f2)) (n0 : w.cell? ⟨b, 0, none⟩ = some (.slice (some ⟨tg, 0, none⟩) tl tc))
    (k0 : w.cell? ⟨f1, j, none⟩ = some (.pointer (some ⟨lb, 0, none⟩))) (l0 : w.cell? ⟨lb, 0, none⟩ = some (.slice (some ⟨lg, 0, none⟩) ll lc)) (hb : (j : Int) < (n : Int)) (h0 : (0 : Int) < (j : Int) + 1) (hz : (0 : Int) ≤ (j : Int)) (hw : IntKind.i64.wrap (j : Int) = (j : Int)) (hl : (3 : Int) < (ll : Int))
    (cM : Calls Try.prog 44 #[ptrV b, .int .i64 j] w fun e W => e = .returned (.tuple #[]) ∧ Q W) :
    Calls Try.prog 36 #[ptrV b, .int .i64 ((j : Int) + 1)] w fun e W => e = .returned (.tuple #[]) ∧ Q W := by
  unfold ptrV at cM ⊢
  go_enter Try.func36, Try.ntmps36
  go_wp2_with (go_at_call 44; refine cM.mono ?_; rintro e w' ⟨rfl, hQ⟩)
  go_end0
  exact ⟨rfl, hQ⟩

set_option maxRecDepth 100000 in
set_option maxHeartbeats 8000000 in
theorem mend_left (w : World) (b f1 f2 n kb kg kl kc lb lg ll lc tg tl tc j : Nat) (Q : World → Prop)
    (n1 : w.cell? ⟨b, 1, none⟩ = some (.slice (some ⟨f1, 0, none⟩) n f2)) (n0 : w.cell? ⟨b, 0, none⟩ = some (.slice (some ⟨tg, 0, none⟩) tl tc))
    (k0 : w.cell? ⟨f1, j, none⟩ = some (.pointer (some ⟨lb, 0, none⟩))) (l0 : w.cell? ⟨lb, 0, none⟩ = some (.slice (some ⟨lg, 0, none⟩) ll lc)) (hb : (j : Int) < (n : Int)) (h0 : (0 : Int) < (j : Int) + 1) (hz : (0 : Int) ≤ (j : Int)) (hw : IntKind.i64.wrap (j : Int) = (j : Int)) (hl : decide ((3 : Int) < (ll : Int)) = false) (k2 : w.cell? ⟨f1, j + 2, none⟩ = some (.pointer (some ⟨kb, 0, none⟩))) (l2 : w.cell? ⟨kb, 0, none⟩ = some (.slice (some ⟨kg, 0, none⟩) kl kc)) (hb2 : (j : Int) + 2 < (n : Int)) (hp : (j : Int) + 1 < (tl : Int)) (hw2 : IntKind.i64.wrap ((j : Int) + 1 + 1) = (j : Int) + 2) (hw3 : IntKind.i64.wrap ((j : Int) + 2) = (j : Int) + 2) (hr : (3 : Int) < (kl : Int))
    (cM : Calls Try.prog 45 #[ptrV b, .int .i64 ((j : Int) + 1)] w fun e W => e = .returned (.tuple #[]) ∧ Q W) :
    Calls Try.prog 36 #[ptrV b, .int .i64 ((j : Int) + 1)] w fun e W => e = .returned (.tuple #[]) ∧ Q W := by
  unfold ptrV at cM ⊢
  go_enter Try.func36, Try.ntmps36
  go_wp2_with (go_at_call 45; refine cM.mono ?_; rintro e w' ⟨rfl, hQ⟩)
  go_end0
  exact ⟨rfl, hQ⟩

set_option maxRecDepth 100000 in
set_option maxHeartbeats 8000000 in
theorem mend_join (w : World) (b f1 f2 n kb kg kl kc lb lg ll lc tg tl tc j : Nat) (Q : World → Prop)
    (n1 : w.cell? ⟨b, 1, none⟩ = some (.slice (some ⟨f1, 0, none⟩) n f2)) (n0 : w.cell? ⟨b, 0, none⟩ = some (.slice (some ⟨tg, 0, none⟩) tl tc))
    (k0 : w.cell? ⟨f1, j, none⟩ = some (.pointer (some ⟨lb, 0, none⟩))) (l0 : w.cell? ⟨lb, 0, none⟩ = some (.slice (some ⟨lg, 0, none⟩) ll lc)) (hb : (j : Int) < (n : Int)) (h0 : (0 : Int) < (j : Int) + 1) (hz : (0 : Int) ≤ (j : Int)) (hw : IntKind.i64.wrap (j : Int) = (j : Int)) (hl : decide ((3 : Int) < (ll : Int)) = false) (k2 : w.cell? ⟨f1, j + 2, none⟩ = some (.pointer (some ⟨kb, 0, none⟩))) (l2 : w.cell? ⟨kb, 0, none⟩ = some (.slice (some ⟨kg, 0, none⟩) kl kc)) (hb2 : (j : Int) + 2 < (n : Int)) (hp : (j : Int) + 1 < (tl : Int)) (hw2 : IntKind.i64.wrap ((j : Int) + 1 + 1) = (j : Int) + 2) (hw3 : IntKind.i64.wrap ((j : Int) + 2) = (j : Int) + 2) (hr : decide ((3 : Int) < (kl : Int)) = false)
    (cM : Calls Try.prog 46 #[ptrV b, .int .i64 j] w fun e W => e = .returned (.tuple #[]) ∧ Q W) :
    Calls Try.prog 36 #[ptrV b, .int .i64 ((j : Int) + 1)] w fun e W => e = .returned (.tuple #[]) ∧ Q W := by
  unfold ptrV at cM ⊢
  go_enter Try.func36, Try.ntmps36
  go_wp2_with (go_at_call 46; refine cM.mono ?_; rintro e w' ⟨rfl, hQ⟩)
  go_end0
  exact ⟨rfl, hQ⟩

set_option maxRecDepth 100000 in
set_option maxHeartbeats 8000000 in
theorem mend_join_last (w : World) (b f1 f2 n kb kg kl kc lb lg ll lc tg tl tc j : Nat) (Q : World → Prop)
    (n1 : w.cell? ⟨b, 1, none⟩ = some (.slice (some ⟨f1, 0, none⟩) n f2)) (n0 : w.cell? ⟨b, 0, none⟩ = some (.slice (some ⟨tg, 0, none⟩) tl tc))
    (k0 : w.cell? ⟨f1, j, none⟩ = some (.pointer (some ⟨lb, 0, none⟩))) (l0 : w.cell? ⟨lb, 0, none⟩ = some (.slice (some ⟨lg, 0, none⟩) ll lc)) (hb : (j : Int) < (n : Int)) (h0 : (0 : Int) < (j : Int) + 1) (hz : (0 : Int) ≤ (j : Int)) (hw : IntKind.i64.wrap (j : Int) = (j : Int)) (hl : decide ((3 : Int) < (ll : Int)) = false) (hp : decide ((j : Int) + 1 < (tl : Int)) = false)
    (cM : Calls Try.prog 46 #[ptrV b, .int .i64 j] w fun e W => e = .returned (.tuple #[]) ∧ Q W) :
    Calls Try.prog 36 #[ptrV b, .int .i64 ((j : Int) + 1)] w fun e W => e = .returned (.tuple #[]) ∧ Q W := by
  unfold ptrV at cM ⊢
  go_enter Try.func36, Try.ntmps36
  go_wp2_with (go_at_call 46; refine cM.mono ?_; rintro e w' ⟨rfl, hQ⟩)
  go_end0
  exact ⟨rfl, hQ⟩

end Go.Proofs.Ytkhbfjncamobdaa.S

namespace Go.Proofs.Ytkhbfjncamobdaa.S
open Go.RowKit
set_option linter.unusedVariables false

def TreeQ (k : Nat) (t A C : T ByteArray) (j : Nat) (x : It) (S X : Nat → Prop) (w0 W : World) (B : Nat → Prop) (rest : List (Rec ByteArray)) (W' : World) : Prop :=
  Mended k t j x A.inord C.inord S X w0 W' rest ∧ Only B W W'
theorem tree_calls {f : FuncId} {args : Array Value} {k : Nat} {t A C : T ByteArray} {j : Nat} {x : It} {S X : Nat → Prop} {w0 W : World} {B : Nat → Prop} {rest : List (Rec ByteArray)}
    (h : Calls Try.prog f args W (TreePost k t A C j x S X w0 W B rest)) : Calls Try.prog f args W fun e W' => e = .returned (.tuple #[]) ∧ TreeQ k t A C j x S X w0 W B rest W' := h.mono fun e W' h => h
def MendB (t H : T ByteArray) (q : Nat) (b : Nat) : Prop := ∃ r, r ∈ t.r :: (T.sibs (t, q) ++ H.recs) ∧ b ∈ r.blocks

theorem done_left {k : Nat} {t H K : T ByteArray} {q : Nat} {x : It} {S X : Nat → Prop} {w0 W W' : World} {rest : List (Rec ByteArray)} {e : Ending} (hx : t.r.items[q]? = some x) (hK : t.ks[q + 1]? = some K)
    (h : e = .returned (.tuple #[]) ∧ TreeQ k t H K q x S X w0 W (MendB t H q) rest W') : MendPost k (t, q) H S X w0 W rest e W' := by
  obtain ⟨he, ⟨H', h1, h2, h3, h4, h5, h6⟩, ho⟩ := h
  exact ⟨he, H', h1, h2, h3, h4, h5, by rw [h6, T.two_left t q x K hx hK], ho⟩
theorem done_right {k : Nat} {t H K : T ByteArray} {j : Nat} {x : It} {S X : Nat → Prop} {w0 W W' : World} {rest : List (Rec ByteArray)} {e : Ending} (hx : t.r.items[j]? = some x) (hK : t.ks[j]? = some K)
    (h : e = .returned (.tuple #[]) ∧ TreeQ k t K H j x S X w0 W (MendB t H (j + 1)) rest W') : MendPost k (t, j + 1) H S X w0 W rest e W' := by
  obtain ⟨he, ⟨H', h1, h2, h3, h4, h5, h6⟩, ho⟩ := h
  exact ⟨he, H', h1, h2, h3, h4, h5, by rw [h6, T.two_right t j x K hx hK], ho⟩

theorem trio_left {k : Nat} {t H K : T ByteArray} {q : Nat} {S X : Nat → Prop} {w0 W : World} {rest : List (Rec ByteArray)} (hK : t.ks[q + 1]? = some K) (hg : Grew S X w0 W (t.r :: (T.sibs (t, q) ++ H.recs ++ rest))) :
    Trio S X w0 W (MendB t H q) ((H.ks ++ K.ks).flatMap T.recs ++ T.rest2 t q ++ rest) W t.r H.r K.r :=
  mend_trio k (t, q) H H K q S X w0 W rest (((T.sibs_left t q K hK).append_right _).trans (List.perm_append_comm.trans (by rw [List.append_assoc]))) hg
theorem trio_right {k : Nat} {t H K : T ByteArray} {j : Nat} {S X : Nat → Prop} {w0 W : World} {rest : List (Rec ByteArray)} (hK : t.ks[j]? = some K) (hg : Grew S X w0 W (t.r :: (T.sibs (t, j + 1) ++ H.recs ++ rest))) :
    Trio S X w0 W (MendB t H (j + 1)) ((K.ks ++ H.ks).flatMap T.recs ++ T.rest2 t j ++ rest) W t.r K.r H.r :=
  mend_trio k (t, j + 1) H K H j S X w0 W rest (((T.sibs_right t j K hK).append_right _).trans (by
    rw [List.append_assoc, List.append_assoc]
    exact (List.perm_append_comm).append_left _)) hg

theorem mend_said : MendSaid := by
  intro k f H S X w0 W rest hw hq hkd h1 h7 hH h2 hg
  obtain ⟨t, q⟩ := f
  obtain ⟨kd, hkd, hbd⟩ := hkd
  change T.wf (k + 1) t at hw
  change q ≤ t.r.items.length at hq
  change t.ks[q]? = some kd at hkd
  change 1 ≤ t.r.items.length at h1
  change t.r.items.length ≤ 7 at h7
  change Grew S X w0 W (t.r :: (T.sibs (t, q) ++ H.recs ++ rest)) at hg
  show Calls Try.prog 36 #[ptrV t.r.b, .int .i64 (q : Int)] W (MendPost k (t, q) H S X w0 W rest)
  obtain ⟨f, hkv⟩ := Option.isSome_iff_exists.1 hw.1
  have n1 := (hg.mem.ok t.r (by simp)).c1
  have n0 := (hg.mem.ok t.r (by simp)).c0
  simp only [Rec.kvv, hkv] at n1
  unfold Rec.iv at n0
  have hkl := hw.2.2.1
  have hsib : ∀ K : T ByteArray, K.r ∈ T.sibs (t, q) → K.r ∈ t.r :: (T.sibs (t, q) ++ H.recs ++ rest) := fun K hK => by simp [hK]
  cases q with
  | zero =>
    obtain ⟨K, hK⟩ : ∃ K, t.ks[0 + 1]? = some K := ⟨_, List.getElem?_eq_getElem (by omega)⟩
    obtain ⟨x, hx⟩ : ∃ x, t.r.items[0]? = some x := ⟨_, List.getElem?_eq_getElem (by omega)⟩
    obtain ⟨kw, k3, k7⟩ := hw.2.2.2 K (List.mem_of_getElem? hK)
    obtain ⟨k0, l0, hb⟩ := look hg.mem (by simp) (hsib K ((T.sibs_left t 0 K hK).symm.mem_iff.1 (List.mem_append_left _ K.r_mem))) hw hkv hK
    have trio := trio_left (k := k) hK hg
    by_cases hl : 3 < K.r.items.length
    · exact (mend_zero_left W t.r.b f.1 f.2 t.r.kids.length K.r.b K.r.g K.r.items.length K.r.cap 0 0 0 0 t.r.g t.r.items.length t.r.cap 0 _ n1 n0 k0 l0 (by omega) (by omega) (by omega)
        (tree_calls (moveLeft_tree k t H K kd K 0 x S X w0 W _ rest hw hx hkd hK hH kw hbd.symm rfl h7 h2 (by omega) k7 trio))).mono fun e W' h => done_left hx hK h
    · exact (mend_zero_join W t.r.b f.1 f.2 t.r.kids.length K.r.b K.r.g K.r.items.length K.r.cap 0 0 0 0 t.r.g t.r.items.length t.r.cap 0 _ n1 n0 k0 l0 (by omega) (by omega) (decide_eq_false (by omega))
        (tree_calls (join_tree k t H K kd K 0 x S X w0 W _ rest hw hx hkd hK hH kw hbd.symm rfl h7 (by omega) (by omega) (by omega) trio))).mono fun e W' h => done_left hx hK h
  | succ j =>
    have hcast : ((j + 1 : Nat) : Int) = (j : Int) + 1 := by omega
    obtain ⟨L, hL⟩ : ∃ K, t.ks[j]? = some K := ⟨_, List.getElem?_eq_getElem (by omega)⟩
    obtain ⟨x, hx⟩ : ∃ x, t.r.items[j]? = some x := ⟨_, List.getElem?_eq_getElem (by omega)⟩
    obtain ⟨lw, l3, l7⟩ := hw.2.2.2 L (List.mem_of_getElem? hL)
    obtain ⟨k0, l0, hb⟩ := look hg.mem (by simp) (hsib L ((T.sibs_right t j L hL).symm.mem_iff.1 (List.mem_append_left _ L.r_mem))) hw hkv hL
    have hw1 : IntKind.i64.wrap (j : Int) = (j : Int) := by rw [IntKind.wrap_i64]; omega
    have trio := trio_right (k := k) hL hg
    rw [hcast]
    by_cases hl : 3 < L.r.items.length
    · exact (mend_right W t.r.b f.1 f.2 t.r.kids.length 0 0 0 0 L.r.b L.r.g L.r.items.length L.r.cap t.r.g t.r.items.length t.r.cap j _ n1 n0 k0 l0 (by omega) (by omega) (by omega) hw1 (by omega)
        (tree_calls (moveRight_tree k t L H L kd j x S X w0 W _ rest hw hx hL hkd lw hH rfl hbd.symm h7 h2 (by omega) l7 trio))).mono fun e W' h => done_right hx hL h
    · by_cases hp : j + 1 < t.r.items.length
      · obtain ⟨K, hK⟩ : ∃ K, t.ks[j + 1 + 1]? = some K := ⟨_, List.getElem?_eq_getElem (by omega)⟩
        obtain ⟨x', hx'⟩ : ∃ x, t.r.items[j + 1]? = some x := ⟨_, List.getElem?_eq_getElem (by omega)⟩
        obtain ⟨kw, k3, k7⟩ := hw.2.2.2 K (List.mem_of_getElem? hK)
        obtain ⟨k2, l2, hb2⟩ := look hg.mem (by simp) (hsib K ((T.sibs_left t (j + 1) K hK).symm.mem_iff.1 (List.mem_append_left _ K.r_mem))) hw hkv hK
        have hw2 : IntKind.i64.wrap ((j : Int) + 1 + 1) = (j : Int) + 2 := by rw [IntKind.wrap_i64]; omega
        have hw3 : IntKind.i64.wrap ((j : Int) + 2) = (j : Int) + 2 := by rw [IntKind.wrap_i64]; omega
        by_cases hr : 3 < K.r.items.length
        · have cM := tree_calls (moveLeft_tree k t H K kd K (j + 1) x' S X w0 W _ rest hw hx' hkd hK hH kw hbd.symm rfl h7 h2 (by omega) k7 (trio_left (k := k) hK hg))
          rw [hcast] at cM
          exact (mend_left W t.r.b f.1 f.2 t.r.kids.length K.r.b K.r.g K.r.items.length K.r.cap L.r.b L.r.g L.r.items.length L.r.cap t.r.g t.r.items.length t.r.cap j _ n1 n0 k0 l0 (by omega) (by omega) (by omega) hw1 (decide_eq_false (by omega)) k2 l2 (by omega) (by omega) hw2 hw3 (by omega) cM).mono fun e W' h => done_left hx' hK h
        · exact (mend_join W t.r.b f.1 f.2 t.r.kids.length K.r.b K.r.g K.r.items.length K.r.cap L.r.b L.r.g L.r.items.length L.r.cap t.r.g t.r.items.length t.r.cap j _ n1 n0 k0 l0 (by omega) (by omega) (by omega) hw1 (decide_eq_false (by omega)) k2 l2 (by omega) (by omega) hw2 hw3 (decide_eq_false (by omega))
            (tree_calls (join_tree k t L H L kd j x S X w0 W _ rest hw hx hL hkd lw hH rfl hbd.symm h7 (by omega) (by omega) (by omega) trio))).mono fun e W' h => done_right hx hL h
      · exact (mend_join_last W t.r.b f.1 f.2 t.r.kids.length 0 0 0 0 L.r.b L.r.g L.r.items.length L.r.cap t.r.g t.r.items.length t.r.cap j _ n1 n0 k0 l0 (by omega) (by omega) (by omega) hw1 (decide_eq_false (by omega)) (decide_eq_false (by omega))
          (tree_calls (join_tree k t L H L kd j x S X w0 W _ rest hw hx hL hkd lw hH rfl hbd.symm h7 (by omega) (by omega) (by omega) trio))).mono fun e W' h => done_right hx hL h
end Go.Proofs.Ytkhbfjncamobdaa.S
