/- Drop, where something stands: toLowest at the way that was found. -/
import Derived.Test.YtbelgkccfajjoaaBagLowAS
import Derived.Test.YtbelgkccfajjoaaBagDropNS
namespace Go.Proofs.Ytbelgkccfajjoaa.S
open Go.RowKit Go.Shelf
set_option linter.unusedVariables false

theorem zipR_len {α : Type} (is : List (Int × α)) (bs : List (List (Int × α))) : is.length ≤ (T.zipR is bs).length := by
  induction bs generalizing is with
  | nil => rw [T.zipR_nil]; exact Nat.le_refl _
  | cons b bs ih =>
    cases is with
    | nil => simp
    | cons i is => have := ih is; simp only [T.zipR, List.length_cons, List.length_append]; omega
theorem height3 (d : Nat) (t : T ByteArray) (m : Nat) (hm : m ≤ 3) (h : T.wf d t) (h1 : m ≤ t.r.items.length) (h0 : 1 ≤ m) : 3 * d + m ≤ t.inord.length := by
  induction d generalizing t m with
  | zero =>
    rw [T.inord_eq, h.1]
    simpa [T.inter] using h1
  | succ d ih =>
    obtain ⟨k, hk1, hk2, hk3, hk4⟩ := T.kid_at d t 0 h (by omega)
    have := ih k 3 (by omega) hk3 (h.2.2.2 k hk4).2.1 (by omega)
    rw [T.node_at d t k 0 h (by omega) hk1]
    have hf : t.r.items.length ≤ (T.fr (t, 0)).length := zipR_len (t.r.items.drop 0) ((t.ks.drop 1).map T.inord)
    simp only [List.length_append]
    omega

theorem drop_ready {at0 : Int} {d : Nat} {t : T ByteArray} {a : Nat} {n : Int} {w : World} (hm : Mem w t.recs) (hw : T.wf d t) (h1 : 1 ≤ t.r.items.length) (h7 : t.r.items.length ≤ 7) (hr : T.Rise t.inord) (hl : t.inord.length ≤ 1000) (hf : T.wfound at0 d t = true) (hb : BagAt w a (some t.r.b) n) :
    ∃ t' fs' dh x l r, t.inord = l ++ x :: r ∧ x.1 = at0 ∧ (∀ y, y ∈ l → y.1 < at0) ∧ (∀ y, y ∈ r → at0 < y.1) ∧ (T.ctx fs' ++ t'.recs).Perm t.recs ∧ T.topOf fs' t'.r.b = t.r.b ∧ (d = 0 → fs'.length + dh = 0) ∧
      ∀ w1 v, Below w.heap.size w w1 → w1.ownsRow w.heap.size 95 2 v (T.wsteps at0 d t).length (cellsS (T.wsteps at0 d t)) → ∃ g c, v = .slice (some ⟨g, 0, none⟩) (fs'.length + 1) c ∧ w.heap.size ≤ g ∧ g < w1.heap.size ∧
        ∀ W2, Only (fun b => b = a) w1 W2 → Calls Try.prog 47 #[.slice (some ⟨g, 0, none⟩) (fs'.length + 1) c] W2 (LowAny t' fs' dh (l ++ r) g W2) := by
  obtain ⟨t', p, fs', d', x, l, r, e1, e2, e3, e4, e5, e6, e7, e8, e9, e10, e11, e12, e13, e14⟩ := stands_in hw h1 h7 hr hf
  have hd := height3 d t 1 (by omega) hw h1 (by omega)
  have hd' : 3 * d' + 1 ≤ t.inord.length := by
    have hlen : (T.setAt t' p x).r.items.length = t'.r.items.length := List.length_set
    have q1 := height3 d' (T.setAt t' p x) 1 (by omega) (T.setAt_wf d' t' p x e2) (by rw [hlen]; exact e5) (by omega)
    obtain ⟨A, B, hAB⟩ := T.around_split fs'
    have q2 := congrArg List.length (e14 x)
    rw [hAB, ← e11] at q2
    simp only [List.length_append] at q2
    omega
  have hst : T.wsteps at0 d t = (fs'.map gstep).reverse ++ [gstep (t', p)] := by rw [way_Q, e1]; simp
  have hsl : (T.wsteps at0 d t).length = fs'.length + 1 := by rw [hst]; simp
  have hwl := T.wsteps_length at0 d t
  have hfl : fs'.length ≤ d := by omega
  have hd0 : d = 0 → fs'.length + d' = 0 := by
    rintro rfl
    have hf0 : fs' = [] := List.eq_nil_of_length_eq_zero (by omega)
    subst hf0
    cases d' with
    | zero => rfl
    | succ d' =>
      exfalso
      have hp := e10.length_eq
      rw [T.recs_eq t, hw.1, T.recs_eq t'] at hp
      have hk := e2.2.2.1
      cases hks : t'.ks with
      | nil => rw [hks] at hk; simp at hk
      | cons k ks =>
        rw [hks] at hp
        simp only [T.ctx, List.nil_append, List.flatMap_cons, List.flatMap_nil, List.length_cons, List.length_append, List.length_nil] at hp
        have := congrArg List.length (T.recs_eq k)
        simp only [List.length_cons] at this
        omega
  refine ⟨t', fs', d', x, l, r, e11, e4, e12, e13, e10, e9, hd0, fun w1 v hB hv => ?_⟩
  obtain ⟨g, c, rfl, f2, f3, f4, f5, f6⟩ := last_step e1 hv
  have hv' := hv
  rw [hsl] at hv'
  obtain ⟨rest, q1, q2, q3, q4, q5, q6⟩ := row_of_own hv'
  refine ⟨g, c, rfl, f2, q1.lt, fun W2 ho => ?_⟩
  have ha : a < w.heap.size := (Array.getElem?_eq_some_iff.1 hb).1
  have ha1 : BagAt w1 a (some t.r.b) n := (hB.block a ha).trans hb
  have hm1 : Mem w1 (T.ctx fs' ++ t'.recs) := (hm.kept fun q hq k hk => hB.block k ((hm.ok q hq).blk k hk)).perm e10.symm
  have hnot := hm1.not_in ha1 (by decide) (by decide) (by decide)
  have hm2 : Mem W2 (T.ctx fs' ++ t'.recs) := hm1.kept fun q hq k hk => ho.block k ((hm1.ok q hq).blk k hk) (fun h => hnot q hq (h ▸ hk))
  have hrow2 : W2.ownsRow 0 95 2 (.slice (some ⟨g, 0, none⟩) (fs'.length + 1) c) (fs'.length + 1) (cellsS ((fs'.map gstep).reverse ++ [(t'.r.b, p)])) := by
    rw [hst] at q1 q2 q5
    refine own_of_row (q1.of_heap (ho.block g q1.lt (by omega))) q2 q3 q4 q5 (Nat.zero_le _)
  cases d' with
  | zero => exact low_any_leaf t' p fs' x l r g c W2 hm2 e2 e3 e6 e7 e8 (by omega) hrow2 e14
  | succ d' => exact low_any_node t' d' p fs' x l r g c W2 hm2 e2 e3 e6 e7 e8 (by omega) hrow2 e14

end Go.Proofs.Ytbelgkccfajjoaa.S
