/- The way down a bag's tree to a number, as the nodes above a place: what stands ahead of it is below the number, what stands behind it above. -/
import Derived.Test.YtbelgkccfajjoaaBagZip
namespace Go.Proofs.Ytbelgkccfajjoaa
set_option linter.unusedVariables false

namespace T
variable {α : Type}

/-- rising numbers -/
def Rise (l : List (I α)) : Prop := l.Pairwise (fun a b => a.1 < b.1)
theorem Rise.left {a b : List (I α)} (h : Rise (a ++ b)) : Rise a := (List.pairwise_append.1 h).1
theorem Rise.right {a b : List (I α)} (h : Rise (a ++ b)) : Rise b := (List.pairwise_append.1 h).2.1
theorem Rise.across {a b : List (I α)} (h : Rise (a ++ b)) : ∀ x, x ∈ a → ∀ y, y ∈ b → x.1 < y.1 := (List.pairwise_append.1 h).2.2

theorem zipL_below (as : List (List (I α))) (is : List (I α)) (at0 : Int) (hl : as.length ≤ is.length) (hs : Rise (zipL as is)) (hi : ∀ x, x ∈ is → x.1 < at0) : ∀ x, x ∈ zipL as is → x.1 < at0 := by
  induction as generalizing is with
  | nil => exact fun x hx => hi x hx
  | cons a as ih =>
    cases is with
    | nil => simp at hl
    | cons i is =>
      intro x hx
      rw [zipL, List.mem_append, List.mem_cons] at hx
      rw [zipL] at hs
      rcases hx with hx | rfl | hx
      · have h1 := Rise.across hs x hx i (by simp)
        have h2 := hi i (by simp)
        omega
      · exact hi x (by simp)
      · exact ih is (by simpa using hl) (List.pairwise_cons.1 (Rise.right hs)).2 (fun y hy => hi y (List.mem_cons_of_mem _ hy)) x hx
theorem zipR_above (is : List (I α)) (bs : List (List (I α))) (at0 : Int) (hl : bs.length ≤ is.length) (hs : Rise (zipR is bs)) (hi : ∀ x, x ∈ is → at0 < x.1) : ∀ x, x ∈ zipR is bs → at0 < x.1 := by
  induction bs generalizing is with
  | nil => rw [zipR_nil]; exact fun x hx => hi x hx
  | cons b bs ih =>
    cases is with
    | nil => simp at hl
    | cons i is =>
      intro x hx
      rw [zipR, List.mem_cons, List.mem_append] at hx
      rw [zipR] at hs
      obtain ⟨hs1, hs2⟩ := List.pairwise_cons.1 hs
      rcases hx with rfl | hx | hx
      · exact hi x (by simp)
      · have h1 := hs1 x (List.mem_append_left _ hx)
        have h2 := hi i (by simp)
        omega
      · exact ih is (by simpa using hl) (Rise.right hs2) (fun y hy => hi y (List.mem_cons_of_mem _ hy)) x hx

def wfs (at0 : Int) : Nat → T α → Fs α → Fs α
  | 0, t, fs => (t, lower at0 t.r.items) :: fs
  | d + 1, t, fs => if hit at0 t then (t, lower at0 t.r.items) :: fs else match t.ks[lower at0 t.r.items]? with
    | some k => wfs at0 d k ((t, lower at0 t.r.items) :: fs)
    | none => (t, lower at0 t.r.items) :: fs
theorem wfs_steps (at0 : Int) (d : Nat) (t : T α) (fs : Fs α) : (wfs at0 d t fs).map (fun f => (f.1.r.b, f.2)) = (wsteps at0 d t).reverse ++ fs.map (fun f => (f.1.r.b, f.2)) := by
  induction d generalizing t fs with
  | zero => simp [wfs, wsteps]
  | succ d ih =>
    simp only [wfs, wsteps]
    cases hit at0 t with
    | true => simp
    | false =>
      simp only [Bool.false_eq_true, if_false]
      cases hk : t.ks[lower at0 t.r.items]? with
      | none => simp
      | some k => simp [ih k]

theorem lower_take (at0 : Int) (l : List (Int × α)) : ∀ x, x ∈ l.take (lower at0 l) → x.1 < at0 := by
  intro x hx
  obtain ⟨k, hk, rfl⟩ := List.mem_take_iff_getElem.1 hx
  exact lower_lt at0 l k _ (by omega) (List.getElem?_eq_getElem (by omega))
theorem hit_false (at0 : Int) (t : T α) (h : hit at0 t = false) (hs : Rise t.r.items) : ∀ x, x ∈ t.r.items.drop (lower at0 t.r.items) → at0 < x.1 := by
  intro x hx
  cases hi : t.r.items[lower at0 t.r.items]? with
  | none =>
    have := List.getElem?_eq_none_iff.1 hi
    rw [List.drop_eq_nil_of_le this] at hx
    simp at hx
  | some y =>
    have hge := lower_ge at0 _ y hi
    have hne : y.1 ≠ at0 := by
      unfold hit at h
      rw [hi] at h
      simpa using h
    have hlt := (List.getElem?_eq_some_iff.1 hi).1
    have hy := (List.getElem?_eq_some_iff.1 hi).2
    rw [List.drop_eq_getElem_cons hlt, hy, List.mem_cons] at hx
    rcases hx with rfl | hx
    · omega
    · have hd : Rise (t.r.items.drop (lower at0 t.r.items)) := List.Pairwise.sublist (List.drop_sublist _ _) hs
      rw [List.drop_eq_getElem_cons hlt, hy] at hd
      have := (List.pairwise_cons.1 hd).1 x hx
      omega
theorem hit_true (at0 : Int) (t : T α) (h : hit at0 t = true) : ∃ x, t.r.items[lower at0 t.r.items]? = some x ∧ x.1 = at0 := by
  unfold hit at h
  cases hi : t.r.items[lower at0 t.r.items]? with
  | none => rw [hi] at h; cases h
  | some y => rw [hi] at h; exact ⟨y, rfl, by simpa using h⟩

theorem inter_items (ks : List (List (I α))) (is : List (I α)) : List.Sublist is (inter ks is) := by
  induction ks generalizing is with
  | nil => simp [inter]
  | cons k ks ih =>
    cases is with
    | nil => simp
    | cons i is =>
      rw [inter]
      exact (List.Sublist.cons_cons i (ih is)).trans (List.sublist_append_right _ _)

/-- what is at a place in its node -/
theorem node_at (d : Nat) (t : T α) (k : T α) (p : Nat) (hw : wf (d + 1) t) (hp : p ≤ t.r.items.length) (hk : t.ks[p]? = some k) : t.inord = fl (t, p) ++ (k.inord ++ fr (t, p)) := by
  have hf : fill (t, p) k = t := by
    cases t with
    | node r ks =>
      show node r (ks.take p ++ k :: ks.drop (p + 1)) = node r ks
      have hlt := (List.getElem?_eq_some_iff.1 hk).1
      have he := (List.getElem?_eq_some_iff.1 hk).2
      congr 1
      conv => rhs; rw [← List.take_append_drop p ks]
      change p < ks.length at hlt
      change ks[p] = k at he
      rw [List.drop_eq_getElem_cons hlt, he]
  have := fill_inord d (t, p) k hw hp
  rw [hf] at this
  exact this
theorem leaf_at (t : T α) (p : Nat) (hw : wf 0 t) : t.inord = fl (t, p) ++ fr (t, p) := by
  rw [inord_eq, fl, fr]
  show _ = zipL ((t.ks.take p).map inord) _ ++ zipR _ ((t.ks.drop (p + 1)).map inord)
  rw [hw.1]
  simp [inter, zipL, zipR_nil]
theorem node_recs (t k : T α) (p : Nat) (hk : t.ks[p]? = some k) : t.recs.Perm (t.r :: (sibs (t, p) ++ k.recs)) := by
  have hf : fill (t, p) k = t := by
    cases t with
    | node r ks =>
      show node r (ks.take p ++ k :: ks.drop (p + 1)) = node r ks
      have hlt := (List.getElem?_eq_some_iff.1 hk).1
      have he := (List.getElem?_eq_some_iff.1 hk).2
      congr 1
      conv => rhs; rw [← List.take_append_drop p ks]
      change p < ks.length at hlt
      change ks[p] = k at he
      rw [List.drop_eq_getElem_cons hlt, he]
  have := fill_recs (t, p) k
  rw [hf] at this
  exact this
theorem leaf_recs (t : T α) (p : Nat) (hw : wf 0 t) : t.recs = t.r :: sibs (t, p) := by
  rw [recs_eq, sibs]
  show t.r :: t.ks.flatMap recs = t.r :: ((t.ks.take p).flatMap recs ++ (t.ks.drop (p + 1)).flatMap recs)
  rw [hw.1]
  simp

/-- the way ends where the number would stand: at the lowest level -/
structure Open (at0 : Int) (t : T α) (fs : Fs α) (Q : Fs α) : Prop where
  ends : ∃ t' p fs', Q = (t', p) :: fs' ∧ wf 0 t' ∧ p ≤ t'.r.items.length ∧ 1 ≤ t'.r.items.length ∧ t'.r.items.length ≤ 7 ∧ (fs' ≠ [] → 3 ≤ t'.r.items.length) ∧ Chain 0 fs' t'.r.b ∧ topOf fs' t'.r.b = topOf fs t.r.b
  same : around Q [] = around fs t.inord
  recs : (ctx Q).Perm (ctx fs ++ t.recs)
  out : ∃ l r, (∀ xs, around Q xs = around fs (l ++ (xs ++ r))) ∧ (∀ x, x ∈ l → x.1 < at0) ∧ ∀ x, x ∈ r → at0 < x.1
/-- the way ends where the number stands -/
structure Stands (at0 : Int) (t : T α) (fs : Fs α) (Q : Fs α) : Prop where
  ends : ∃ t' p fs' d' x, Q = (t', p) :: fs' ∧ wf d' t' ∧ t'.r.items[p]? = some x ∧ x.1 = at0 ∧ 1 ≤ t'.r.items.length ∧ t'.r.items.length ≤ 7 ∧ (fs' ≠ [] → 3 ≤ t'.r.items.length) ∧ Chain d' fs' t'.r.b ∧ topOf fs' t'.r.b = topOf fs t.r.b ∧
    around fs' t'.inord = around fs t.inord ∧ (ctx fs' ++ t'.recs).Perm (ctx fs ++ t.recs)

theorem wfs_open (at0 : Int) (d : Nat) (t : T α) (fs : Fs α) (hw : wf d t) (hc : Chain d fs t.r.b) (h1 : 1 ≤ t.r.items.length) (h7 : t.r.items.length ≤ 7) (h3 : fs ≠ [] → 3 ≤ t.r.items.length) (hs : Rise t.inord) (hf : wfound at0 d t = false) : Open at0 t fs (wfs at0 d t fs) := by
  induction d generalizing t fs with
  | zero =>
    have hi : Rise t.r.items := List.Pairwise.sublist (by rw [inord_eq]; exact inter_items _ _) hs
    have hl := leaf_at t (lower at0 t.r.items) hw
    refine ⟨⟨t, _, fs, rfl, hw, lower_le _ _, h1, h7, h3, hc, rfl⟩, ?_, ?_, ⟨fl (t, lower at0 t.r.items), fr (t, lower at0 t.r.items), fun xs => rfl, ?_, ?_⟩⟩
    · show around fs (fl _ ++ ([] ++ fr _)) = _
      rw [List.nil_append, ← hl]
    · show (t.r :: (sibs (t, lower at0 t.r.items) ++ ctx fs)).Perm _
      rw [leaf_recs t (lower at0 t.r.items) hw, ← List.cons_append]
      exact List.perm_append_comm
    · intro x hx
      refine zipL_below _ _ at0 ?_ ?_ (lower_take at0 _) x hx
      · show ((t.ks.take _).map inord).length ≤ _
        rw [hw.1]; simp
      · rw [hl] at hs
        exact Rise.left hs
    · intro x hx
      refine zipR_above _ _ at0 ?_ ?_ (hit_false at0 t hf hi) x hx
      · show ((t.ks.drop _).map inord).length ≤ _
        rw [hw.1]; simp
      · rw [hl] at hs
        exact Rise.right hs
  | succ d ih =>
    have hi : Rise t.r.items := List.Pairwise.sublist (by rw [inord_eq]; exact inter_items _ _) hs
    have hh : hit at0 t = false := by
      rw [wfound] at hf
      cases h : hit at0 t with
      | false => rfl
      | true => rw [h] at hf; simp at hf
    obtain ⟨k, hk1, hk2, hk3, hk4⟩ := kid_at d t (lower at0 t.r.items) hw (lower_le _ _)
    have hl := node_at d t k _ hw (lower_le _ _) hk1
    have hkz := (hw.2.2.2 k hk4).2
    rw [(wsteps_down at0 d t k hh hk1).2] at hf
    have hs' := hs
    rw [hl] at hs'
    have hO := ih k ((t, lower at0 t.r.items) :: fs) hk3 ⟨hw, lower_le _ _, ⟨k, hk1, rfl⟩, h1, h7, h3, hc⟩ (by omega) hkz.2 (fun _ => hkz.1) (Rise.left (Rise.right hs')) hf
    have hq : wfs at0 (d + 1) t fs = wfs at0 d k ((t, lower at0 t.r.items) :: fs) := by simp [wfs, hh, hk1]
    rw [hq]
    obtain ⟨l, r, e1, e2, e3⟩ := hO.out
    refine ⟨hO.ends, ?_, ?_, ⟨fl (t, lower at0 t.r.items) ++ l, r ++ fr (t, lower at0 t.r.items), fun xs => ?_, ?_, ?_⟩⟩
    · rw [hO.same, hl]; rfl
    · refine hO.recs.trans ?_
      show (t.r :: (sibs (t, lower at0 t.r.items) ++ ctx fs) ++ k.recs).Perm _
      refine List.Perm.trans ?_ (List.Perm.append_left _ (node_recs t k _ hk1)).symm
      refine List.Perm.trans ?_ List.perm_middle.symm
      rw [List.cons_append]
      refine List.Perm.cons _ ?_
      rw [← List.append_assoc]
      exact List.Perm.append_right _ List.perm_append_comm
    · rw [e1]
      show around fs (fl _ ++ (_ ++ fr _)) = _
      simp
    · intro x hx
      rcases List.mem_append.1 hx with hx | hx
      · refine zipL_below _ _ at0 ?_ (Rise.left hs') (lower_take at0 _) x hx
        show ((t.ks.take _).map inord).length ≤ (t.r.items.take _).length
        have := hw.2.2.1
        have := lower_le at0 t.r.items
        simp; omega
      · exact e2 x hx
    · intro x hx
      rcases List.mem_append.1 hx with hx | hx
      · exact e3 x hx
      · refine zipR_above _ _ at0 ?_ (Rise.right (Rise.right hs')) (hit_false at0 t hh hi) x hx
        show ((t.ks.drop _).map inord).length ≤ (t.r.items.drop _).length
        have := hw.2.2.1
        have := lower_le at0 t.r.items
        simp; omega

theorem wfs_stands (at0 : Int) (d : Nat) (t : T α) (fs : Fs α) (hw : wf d t) (hc : Chain d fs t.r.b) (h1 : 1 ≤ t.r.items.length) (h7 : t.r.items.length ≤ 7) (h3 : fs ≠ [] → 3 ≤ t.r.items.length) (hf : wfound at0 d t = true) : Stands at0 t fs (wfs at0 d t fs) := by
  induction d generalizing t fs with
  | zero =>
    obtain ⟨x, hx1, hx2⟩ := hit_true at0 t hf
    exact ⟨t, _, fs, 0, x, rfl, hw, hx1, hx2, h1, h7, h3, hc, rfl, rfl, List.Perm.refl _⟩
  | succ d ih =>
    cases hh : hit at0 t with
    | true =>
      obtain ⟨x, hx1, hx2⟩ := hit_true at0 t hh
      exact ⟨t, _, fs, d + 1, x, by simp [wfs, hh], hw, hx1, hx2, h1, h7, h3, hc, rfl, rfl, List.Perm.refl _⟩
    | false =>
      obtain ⟨k, hk1, hk2, hk3, hk4⟩ := kid_at d t (lower at0 t.r.items) hw (lower_le _ _)
      have hl := node_at d t k _ hw (lower_le _ _) hk1
      have hkz := (hw.2.2.2 k hk4).2
      rw [(wsteps_down at0 d t k hh hk1).2] at hf
      have hO := ih k ((t, lower at0 t.r.items) :: fs) hk3 ⟨hw, lower_le _ _, ⟨k, hk1, rfl⟩, h1, h7, h3, hc⟩ (by omega) hkz.2 (fun _ => hkz.1) hf
      have hq : wfs at0 (d + 1) t fs = wfs at0 d k ((t, lower at0 t.r.items) :: fs) := by simp [wfs, hh, hk1]
      rw [hq]
      obtain ⟨t', p, fs', d', x, e1, e2, e3, e4, e5, e6, e7, e8, e9, e10, e11⟩ := hO.ends
      refine ⟨t', p, fs', d', x, e1, e2, e3, e4, e5, e6, e7, e8, e9, ?_, ?_⟩
      · rw [e10, hl]; rfl
      · refine e11.trans ?_
        show (t.r :: (sibs (t, lower at0 t.r.items) ++ ctx fs) ++ k.recs).Perm _
        refine List.Perm.trans ?_ (List.Perm.append_left _ (node_recs t k _ hk1)).symm
        refine List.Perm.trans ?_ List.perm_middle.symm
        rw [List.cons_append]
        refine List.Perm.cons _ ?_
        rw [← List.append_assoc]
        exact List.Perm.append_right _ List.perm_append_comm
end T

end Go.Proofs.Ytbelgkccfajjoaa
