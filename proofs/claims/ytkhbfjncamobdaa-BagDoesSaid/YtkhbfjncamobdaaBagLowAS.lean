/- toLowest in the words of remove: where the way ends, and what stands without the item. -/
import Derived.Test.YtkhbfjncamobdaaBagRemS
namespace Go.Proofs.Ytkhbfjncamobdaa.S
open Go.RowKit Go.Shelf
set_option linter.unusedVariables false

theorem cut_eq {β : Type} {P S l r : List β} (z1 z2 : β) (hne : z1 ≠ z2) (h : ∀ z, P ++ z :: S = l ++ z :: r) : P = l ∧ S = r := by
  induction P generalizing l with
  | nil =>
    cases l with
    | nil =>
      have := h z1
      simp only [List.nil_append, List.cons.injEq, true_and] at this
      exact ⟨rfl, this⟩
    | cons a l =>
      have e1 := h z1
      have e2 := h z2
      simp only [List.nil_append, List.cons_append, List.cons.injEq] at e1 e2
      exact absurd (e1.1.trans e2.1.symm) hne
  | cons b P ih =>
    cases l with
    | nil =>
      have e1 := h z1
      have e2 := h z2
      simp only [List.nil_append, List.cons_append, List.cons.injEq] at e1 e2
      exact absurd (e1.1.symm.trans e2.1) hne
    | cons a l =>
      have hb : b = a := by have := h z1; simp only [List.cons_append, List.cons.injEq] at this; exact this.1
      obtain ⟨i1, i2⟩ := ih (fun z => by have := h z; simp only [List.cons_append, List.cons.injEq] at this; exact this.2)
      exact ⟨by rw [hb, i1], i2⟩

/-- without the item: what the other values tell of the place -/
theorem around_cut {fs : T.Fs ByteArray} {u v l r : List It} (a : ByteArray) (h : ∀ z : It, T.around fs (u ++ z :: v) = l ++ z :: r) : T.around fs (u ++ v) = l ++ r := by
  obtain ⟨A, B, hAB⟩ := T.around_split fs
  obtain ⟨e1, e2⟩ := cut_eq (P := A ++ u) (S := v ++ B) (l := l) (r := r) ((0 : Int), a) ((1 : Int), a) (by intro h; cases h) (fun z => by
    have := h z
    rw [hAB] at this
    rw [← this]
    simp)
  rw [hAB, ← e1, ← e2]
  simp

def LowAny (t' : T ByteArray) (fs' : T.Fs ByteArray) (dh : Nat) (lr : List It) (g0 : Nat) (w : World) (e : Ending) (W : World) : Prop :=
  ∃ z q fs g c, e = .returned (.slice (some ⟨g, 0, none⟩) (List.length fs + 1) c) ∧ W.ownsRow 0 60 2 (.slice (some ⟨g, 0, none⟩) (fs.length + 1) c) (fs.length + 1) (cellsS ((fs.map gstep).reverse ++ [(T.r z |>.b, q)])) ∧
    Mem W (z.r :: T.ctx fs) ∧ T.wf 0 z ∧ q < z.r.items.length ∧ z.r.items.length ≤ 7 ∧ (fs ≠ [] → 3 ≤ z.r.items.length) ∧ T.Chain 0 fs z.r.b ∧ T.topOf fs z.r.b = T.topOf fs' t'.r.b ∧ T.around fs (z.r.items.take q ++ z.r.items.drop (q + 1)) = lr ∧ fs.length ≤ 1000 ∧ fs.length = fs'.length + dh ∧
    Only (fun b => b = g0 ∨ b = t'.r.g) w W ∧ ∀ k, (∃ r, r ∈ z.r :: T.ctx fs ∧ k ∈ r.blocks) → ∃ r, r ∈ T.ctx fs' ++ t'.recs ∧ k ∈ r.blocks

theorem low_any_leaf (t' : T ByteArray) (p : Nat) (fs' : T.Fs ByteArray) (x : It) (l r : List It) (g c : Nat) (w : World) (hm : Mem w (T.ctx fs' ++ t'.recs)) (hw : T.wf 0 t') (hx : t'.r.items[p]? = some x) (h7 : t'.r.items.length ≤ 7) (h3 : fs' ≠ [] → 3 ≤ t'.r.items.length)
    (hch : T.Chain 0 fs' t'.r.b) (hfl : fs'.length ≤ 1000) (hrow : w.ownsRow 0 60 2 (.slice (some ⟨g, 0, none⟩) (fs'.length + 1) c) (fs'.length + 1) (cellsS ((fs'.map gstep).reverse ++ [(t'.r.b, p)])))
    (hin : ∀ z, T.around fs' (T.setAt t' p z).inord = l ++ z :: r) :
    Calls Try.prog 22 #[.slice (some ⟨g, 0, none⟩) (fs'.length + 1) c] w (LowAny t' fs' 0 (l ++ r) g w) := by
  obtain ⟨rest, hr1, hr2, hr3, hr4, hr5, _⟩ := row_of_own hrow
  unfold maxLen at hr4
  have hplt := (List.getElem?_eq_some_iff.1 hx).1
  have hst := cellsS_at ((fs'.map gstep).reverse ++ [(t'.r.b, p)]) fs'.length (t'.r.b, p) (by rw [List.getElem?_append_right (by simp)]; simp)
  have s0 := (hrow.cellAt (fs'.length * 2) (by omega)).trans hst.1
  have s1 := (hrow.cellAt (fs'.length * 2 + 1) (by omega)).trans hst.2
  have hok : Ok w t'.r := hm.ok _ (List.mem_append_right _ t'.r_mem)
  have hrecs : t'.recs = [t'.r] := by rw [T.recs_eq, hw.1]; rfl
  refine (low_leaf fs'.length g c t'.r.b p w t'.r hok hw.2.1 rfl hr3 (by omega) hfl s0 s1).mono ?_
  rintro e W ⟨rfl, hB⟩
  have hmW : Mem W (T.ctx fs' ++ t'.recs) := hm.kept fun r hr k hk => hB.block k ((hm.ok r hr).blk k hk)
  refine ⟨t', p, fs', g, c, rfl, own_kept hrow (hB.block g hr1.lt), hmW.perm (by rw [hrecs]; exact List.perm_append_singleton _ _), hw, hplt, h7, h3, hch, rfl, ?_, hfl, rfl, Only.of_below hB, fun k ⟨r, hr, hk⟩ => ⟨r, ?_, hk⟩⟩
  · refine around_cut x.2 fun z => ?_
    rw [← hin z, T.inord_eq]
    show _ = T.around fs' (T.inter (t'.ks.map T.inord) (t'.r.items.set p z))
    rw [hw.1, List.set_eq_take_append_cons_drop, if_pos hplt]
    rfl
  · rw [hrecs]
    rcases List.mem_cons.1 hr with rfl | hr
    · simp
    · simp [hr]

theorem zipL_snoc {α : Type} (ks : List (List (Int × α))) (is : List (Int × α)) (z : Int × α) (h : ks.length ≤ is.length + 1) : ∃ U, ∀ z, T.zipL ks (is ++ [z]) = U ++ [z] := by
  induction ks generalizing is with
  | nil => exact ⟨is, fun z => rfl⟩
  | cons k ks ih =>
    cases is with
    | nil =>
      cases ks with
      | nil => exact ⟨k, fun z => by simp [T.zipL]⟩
      | cons k2 ks => simp at h
    | cons i is =>
      obtain ⟨U, hU⟩ := ih is (by simpa using h)
      exact ⟨k ++ i :: U, fun z => by simp [T.zipL, hU]⟩

theorem fl_set (t' : T ByteArray) (p : Nat) (hp : p < t'.r.items.length) (hk : p + 1 ≤ t'.ks.length) : ∃ U, ∀ z, T.fl (T.setAt t' p z, p + 1) = U ++ [z] := by
  obtain ⟨U, hU⟩ := zipL_snoc ((t'.ks.take (p + 1)).map T.inord) (t'.r.items.take p) ((0 : Int), (default : Int × ByteArray).2) (by simp only [List.length_map, List.length_take]; omega)
  refine ⟨U, fun z => ?_⟩
  rw [← hU z]
  show T.zipL ((t'.ks.take (p + 1)).map T.inord) ((t'.r.items.set p z).take (p + 1)) = _
  congr 1
  rw [List.set_eq_take_append_cons_drop, if_pos hp, List.take_append, List.length_take, Nat.min_eq_left (by omega), List.take_take, Nat.min_eq_right (by omega), show p + 1 - p = 1 from by omega]
  rfl
theorem fr_set (t' : T ByteArray) (p : Nat) (z : It) : T.fr (T.setAt t' p z, p + 1) = T.fr (t', p + 1) := by
  show T.zipR ((t'.r.items.set p z).drop (p + 1)) _ = T.zipR (t'.r.items.drop (p + 1)) _
  rw [List.drop_set_of_lt (by omega)]
  rfl

theorem low_any_node (t' : T ByteArray) (d p : Nat) (fs' : T.Fs ByteArray) (x : It) (l r : List It) (g c : Nat) (w : World) (hm : Mem w (T.ctx fs' ++ t'.recs)) (hw : T.wf (d + 1) t') (hx : t'.r.items[p]? = some x) (h7 : t'.r.items.length ≤ 7) (h3 : fs' ≠ [] → 3 ≤ t'.r.items.length)
    (hch : T.Chain (d + 1) fs' t'.r.b) (hfl : fs'.length + d ≤ 800) (hrow : w.ownsRow 0 60 2 (.slice (some ⟨g, 0, none⟩) (fs'.length + 1) c) (fs'.length + 1) (cellsS ((fs'.map gstep).reverse ++ [(t'.r.b, p)])))
    (hin : ∀ z, T.around fs' (T.setAt t' p z).inord = l ++ z :: r) :
    Calls Try.prog 22 #[.slice (some ⟨g, 0, none⟩) (fs'.length + 1) c] w (LowAny t' fs' (d + 1) (l ++ r) g w) := by
  have hplt := (List.getElem?_eq_some_iff.1 hx).1
  obtain ⟨k, hk1, hk2, hk3, hk4⟩ := T.kid_at d t' (p + 1) hw (by omega)
  obtain ⟨_, k3, k7⟩ := hw.2.2.2 k hk4
  have hkl : p + 1 ≤ t'.ks.length := by have := (List.getElem?_eq_some_iff.1 hk1).1; omega
  have hc0 : T.Chain d ((t', p + 1) :: fs') k.r.b := ⟨hw, by show p + 1 ≤ t'.r.items.length; omega, ⟨k, hk1, rfl⟩, by show 1 ≤ t'.r.items.length; omega, h7, h3, hch⟩
  obtain ⟨_, _, y, l1, _, _, e02, _, _, _, _, _, _, e09, _⟩ := lowFs_spec d k ((t', p + 1) :: fs') hk3 hc0 k3 k7 (by simp)
  rw [e02] at e09
  have hlen2 : (T.setAt t' p y).r.items.length = t'.r.items.length := List.length_set
  have hw2 := T.setAt_wf (d + 1) t' p y hw
  have hc2 : T.Chain d ((T.setAt t' p y, p + 1) :: fs') k.r.b := ⟨hw2, by rw [hlen2]; omega, ⟨k, hk1, rfl⟩, by rw [hlen2]; omega, by rw [hlen2]; exact h7, fun h => by rw [hlen2]; exact h3 h, hch⟩
  obtain ⟨z, fs2, y2, l2, m2, f1, f2, f3, f4, f5, f6, f7, f8, f9, f10, f11, f12⟩ := lowFs_spec d k ((T.setAt t' p y, p + 1) :: fs') hk3 hc2 k3 k7 (by simp)
  have hy : y2 = y ∧ l2 = l1 := by
    rw [f2, e09] at f9
    simp only [List.cons.injEq] at f9
    exact ⟨f9.1.symm, f9.2.symm⟩
  obtain ⟨rfl, rfl⟩ := hy
  obtain ⟨init, i1, i2⟩ := LowSteps_last d k hk3
  have hL0 : ((fs'.map gstep).reverse).length = fs'.length := by simp
  have hLL := congrArg (List.map gstep) f1
  rw [lowFs_steps] at hLL
  have hsteps : (fs'.map gstep).reverse ++ [(t'.r.b, p + 1)] ++ LowSteps d k = (fs2.map gstep).reverse ++ [(z.r.b, 0)] := by
    have := congrArg List.reverse hLL
    simp [gstep] at this ⊢
    exact this
  have hlen : fs2.length = fs'.length + 1 + d := by
    have := congrArg List.length hsteps
    rw [i1] at this
    simp [i2] at this
    omega
  have hrow' := hrow
  rw [← hL0] at hrow'
  have cL := low_node ((fs'.map gstep).reverse) g c p t' k d x y2 l2 w (fun q hq => hm.ok q (List.mem_append_right _ hq)) hw hk1 hx hk3 (by omega) (by rw [hL0]; omega) (by simpa only [hL0] using hrow) e09
  rw [hL0] at cL
  refine cL.mono ?_
  rintro e W ⟨v, rfl, hv, ⟨g2, c2, rfl, _⟩, hok2, hon⟩
  rw [hsteps] at hv ⊢
  have hLen2 : ((fs2.map gstep).reverse ++ [(z.r.b, 0)]).length = fs2.length + 1 := by simp
  rw [hLen2] at hv ⊢
  have hgg : ∃ cs, w.heap[g]? = some (.cells cs 60 (0, 0)) := by obtain ⟨rest, hr, _⟩ := row_of_own hrow; exact ⟨_, hr⟩
  obtain ⟨cs, hgc⟩ := hgg
  have hP : (T.ctx fs' ++ t'.recs).Perm (t'.r :: (T.ctx fs' ++ t'.ks.flatMap T.recs)) := by rw [T.recs_eq]; exact List.perm_middle
  have hm1 := hm.perm hP
  obtain ⟨n1, n2, n3⟩ := nodup_cons_iff.1 hm1.nd
  have hgb : t'.r.g ∈ t'.r.blocks := by simp [Rec.blocks]
  have hm2 : Mem W ((T.setAt t' p y2).r :: (T.ctx fs' ++ t'.ks.flatMap T.recs)) := by
    refine ⟨fun q hq => ?_, hm1.nd⟩
    rcases List.mem_cons.1 hq with rfl | hq
    · exact hok2
    · have hq1 := hm1.ok q (List.mem_cons_of_mem _ hq)
      exact hq1.only hon (fun b hb hh => by
        rcases hh with rfl | rfl
        · exact step_not_node hq1 hgc hb
        · exact n3 _ hgb q hq hb)
  have hP2 : ((T.setAt t' p y2).r :: (T.ctx fs' ++ t'.ks.flatMap T.recs)).Perm (z.r :: T.ctx fs2) := by
    have h1 : (T.ctx fs' ++ (T.setAt t' p y2).recs).Perm ((T.setAt t' p y2).r :: (T.ctx fs' ++ t'.ks.flatMap T.recs)) := by rw [T.setAt_recs]; exact List.perm_middle
    refine h1.symm.trans (List.Perm.trans ?_ f12.symm)
    show List.Perm _ (((T.setAt t' p y2).r :: (T.sibs (T.setAt t' p y2, p + 1) ++ T.ctx fs')) ++ k.recs)
    refine (List.Perm.append_left _ (T.node_recs (T.setAt t' p y2) k (p + 1) hk1)).trans ?_
    refine List.perm_middle.trans ?_
    rw [List.cons_append]
    refine List.Perm.cons _ ?_
    rw [← List.append_assoc]
    exact List.Perm.append_right _ List.perm_append_comm
  refine ⟨z, 0, fs2, g2, c2, rfl, hv, hm2.perm hP2, f3, by omega, f5, fun _ => f4, f6, f7, ?_, by omega, by omega, hon, fun b ⟨q, hq, hb⟩ => ?_⟩
  · rw [f9]
    show T.around fs2 ([] ++ l2) = _
    rw [List.nil_append, f11]
    show T.around fs' (T.fl (T.setAt t' p y2, p + 1) ++ (m2 ++ T.fr (T.setAt t' p y2, p + 1))) = _
    obtain ⟨U, hU⟩ := fl_set t' p hplt hkl
    have hc := around_cut (fs := fs') (u := U) (v := k.inord ++ T.fr (t', p + 1)) x.2 (fun q => by
      rw [← hin q, T.node_at d (T.setAt t' p q) k (p + 1) (T.setAt_wf (d + 1) t' p q hw) (by rw [show (T.setAt t' p q).r.items.length = t'.r.items.length from List.length_set]; omega) hk1, hU, fr_set]
      simp)
    rw [← hc, hU, fr_set, f10]
    simp
  · have hq2 := (hP2.mem_iff).2 hq
    rcases List.mem_cons.1 hq2 with rfl | hq3
    · exact ⟨t'.r, List.mem_append_right _ t'.r_mem, hb⟩
    · exact ⟨q, hP.mem_iff.2 (List.mem_cons_of_mem _ hq3), hb⟩

end Go.Proofs.Ytkhbfjncamobdaa.S
