/- Put and Get at a bag that has something. -/
import Derived.BigRegion
import Derived.Test.YtkhbfjncamobdaaBagPutS
namespace Go.Proofs.Ytkhbfjncamobdaa.S
open Go.RowKit Go.Shelf
set_option linter.unusedVariables false

theorem way_Q (at0 : Int) (d : Nat) (t : T ByteArray) : (T.wsteps at0 d t) = ((T.wfs at0 d t []).map gstep).reverse := by
  have := T.wfs_steps at0 d t []
  rw [List.map_nil, List.append_nil] at this
  show _ = ((T.wfs at0 d t []).map (fun f => (f.1.r.b, f.2))).reverse
  rw [this, List.reverse_reverse]
theorem open_fits {at0 : Int} {t : T ByteArray} {Q : T.Fs ByteArray} (h : T.Open at0 t [] Q) : Fits Q 0 none ∧ Q ≠ [] ∧ ∀ b, T.topOf Q b = t.r.b := by
  obtain ⟨t', p, fs', rfl, h1, h2, h3, h4, h5, h6, h7⟩ := h.ends
  exact ⟨⟨⟨rfl, h1⟩, h2, h3, h4, h5, h6⟩, by simp, fun b => h7⟩

set_option maxRecDepth 100000 in
set_option maxHeartbeats 4000000 in
theorem put_new (at0 : Int) (u : ByteArray) (xs : List It) (a : Nat) (F : Nat → Prop) (t : T ByteArray) (d : Nat) (w : World) (hr : T.Rise xs) (hl : xs.length ≤ 1000) (hF : F a) (hb : BagAt w a (some t.r.b) xs.length) (hm : Mem w t.recs) (hw : T.wf d t) (h1 : 1 ≤ t.r.items.length) (h7 : t.r.items.length ≤ 7) (hx : t.inord = xs)
    (hFt : ∀ r, r ∈ t.recs → ∀ k, k ∈ r.blocks → F k) (hf : T.wfound at0 d t = false) :
    Calls Try.prog 10 #[ptrV a, .int .i64 at0, .string u] w (PutPost at0 u xs a F w) := by
  subst hx
  have hd := T.height_le d t hw h1
  have cH := highest_some a (some t.r.b) t.inord.length w hb
  have cW := way_some at0 d t w hm.ok hw (by omega)
  obtain ⟨b0, b1, bf0, bf1⟩ := bag_cells hb
  have halt : a < w.heap.size := (Array.getElem?_eq_some_iff.1 hb).1
  have hO := T.wfs_open at0 d t [] hw trivial h1 h7 (by simp) hr hf
  obtain ⟨fit, hQ, htop⟩ := open_fits hO
  have hwl := T.wsteps_length at0 d t
  have hQl : (T.wfs at0 d t []).length = (T.wsteps at0 d t).length := by rw [way_Q]; simp
  have CA : Hid (∀ (w1 : World) (v : Value), Below w.heap.size w w1 → w1.ownsRow w.heap.size 60 2 v (T.wsteps at0 d t).length (cellsS (T.wsteps at0 d t)) →
      Calls Try.prog 20 #[.pointer (some ⟨a, 0, none⟩), v, .agg #[.int .i64 at0, .string u]] (w1.setCell ⟨a, 1, none⟩ (.int .i64 ((t.inord.length : Int) + 1))) (AddPost (T.wfs at0 d t []) (at0, u) a ((t.inord.length : Int) + 1) (w1.setCell ⟨a, 1, none⟩ (.int .i64 ((t.inord.length : Int) + 1))))) := fun w1 v hB hv => by
    have hb1 : BagAt w1 a (some t.r.b) t.inord.length := (hB.block a halt).trans hb
    have hmQ : Mem w1 (T.ctx (T.wfs at0 d t [])) := (hm.kept (fun r hr k hk => hB.block k ((hm.ok r hr).blk k hk))).perm (by simpa [T.ctx] using hO.recs.symm)
    have hmQ2 : Mem (w1.setCell ⟨a, 1, none⟩ (.int .i64 ((t.inord.length : Int) + 1))) (T.ctx (T.wfs at0 d t [])) := hmQ.kept fun r hr k hk => set_far _ _ _ _ _ (fun e => hmQ.not_in hb1 (by decide) (by decide) (by decide) r hr (e ▸ hk))
    refine callsIn_wide.1 (add_tree (T.wfs at0 d t []) (at0, u) a t.r.b 0 _ v w.heap.size _ hmQ2 fit hQ (by omega) (set_node1 hb1) (htop 0) ?_)
    rw [hQl, ← way_Q]
    refine ⟨hv.1, ?_⟩
    rcases hv.2 with hn | ⟨g, cap, cur, hg1, hg2, hg3, rest⟩
    · exact .inl hn
    · refine .inr ⟨g, cap, cur, hg1, hg2, (set_far _ _ _ _ _ ?_).trans hg3, rest⟩
      exact fun e => by subst e; omega
  have HF := Lib.hid hf
  have HO := Lib.hid hO
  have HM := Lib.hid hm
  have HB := Lib.hid hb
  have HR := Lib.hid hr
  have HFT := Lib.hid hFt
  obtain ⟨wf0, hwf0⟩ : ∃ q, T.wfound at0 d t = q := ⟨_, rfl⟩
  have HWF := Lib.hid hwf0
  have HB2 : Hid (∀ w1 : World, Below w.heap.size w w1 → w1.cell? ⟨a, 1, none⟩ = some (.int .i64 t.inord.length) ∧ w1.frozen? ⟨a, 1, none⟩ = false) := fun w1 hB => by
    have := bag_cells (show BagAt w1 a (some t.r.b) t.inord.length from (hB.block a halt).trans hb)
    exact ⟨this.2.1, this.2.2.2⟩
  unfold ptrV at cH cW ⊢
  simp only [Option.map_some] at cH b0
  clear hf hO hm hb hr hFt fit hQ htop hQl hwf0
  go_enter Try.func10, Try.ntmps10
  go_wp2_with (first | (go_at_call 17; refine cH.mono ?_; rintro e w' ⟨rfl, rfl⟩) | (go_at_call 19; refine cW.mono ?_; rintro e w1 ⟨v, rfl, hv, hB⟩; rw [HF.out]; have cA := CA.out w1 v hB hv; obtain ⟨k1, k2⟩ := HB2.out w1 hB; have HBL := Lib.hid hB; clear hB hv) | (go_at_call 20; refine cA.mono ?_; rintro e W ⟨rfl, hPost⟩))
  go_ret
  obtain ⟨t', hb', hA⟩ := hPost
  obtain ⟨l, r, hout, hlo, hhi⟩ := HO.out.out
  have hsame := HO.out.same
  have e1 : t.inord = l ++ r := by
    have := hout []
    rw [hsame] at this
    simpa [T.around] using this
  have e2 : t'.inord = l ++ (at0, u) :: r := by
    rw [hA.inord, hout]
    simp [T.around]
  have hrise := HR.out
  rw [e1] at hrise
  have hne : ∀ y, y ∈ l ++ r → y.1 ≠ at0 := fun y hy => by
    rcases List.mem_append.1 hy with hy | hy
    · have := hlo y hy; omega
    · have := hhi y hy; omega
  refine ⟨by rw [e1, T.get_out at0 _ hne]; rfl, ⟨?_, .inl hF, .inr ?_⟩, ?_⟩
  · rw [e1, T.put_out at0 u l r hlo hhi]
    exact T.rise_between hrise hlo hhi
  · obtain ⟨d', hw'⟩ := hA.wf
    refine ⟨t', d', ?_, hA.g.mem, hw', hA.lo, hA.hi, ?_, fun q hq k hk => ?_⟩
    · rw [e1, T.put_out at0 u l r hlo hhi, put_length_out]
      rw [e1] at hb'
      rw [Int.natCast_add]
      exact hb'
    · rw [e1, T.put_out at0 u l r hlo hhi]; exact e2
    · rcases hA.g.bnd q hq k hk with (⟨q', hq', hk'⟩ | rfl) | hlt
      · exact .inl (HFT.out q' (by have := HO.out.recs.mem_iff.1 hq'; simpa [T.ctx] using this) k hk')
      · exact .inl hF
      · refine .inr (Nat.le_trans HBL.out.size ?_)
        rwa [World.size_setCell] at hlt
  · have h8 : Only F w (w1.setCell ⟨a, 1, none⟩ (.int .i64 ((t.inord.length : Int) + 1))) := Only.setCell (p := ⟨a, 1, none⟩) (Only.of_below HBL.out) (.inr hF) _
    refine h8.step hA.g.only fun i _ hi => ?_
    rcases hi with (⟨q', hq', hk'⟩ | rfl) | hX
    · exact HFT.out q' (by have := HO.out.recs.mem_iff.1 hq'; simpa [T.ctx] using this) i hk'
    · exact hF
    · exact hX.elim

/-- the last step of a way that ends where the number stands -/
theorem last_step {at0 : Int} {d : Nat} {t t' : T ByteArray} {p : Nat} {fs : T.Fs ByteArray} (hQ : T.wfs at0 d t [] = (t', p) :: fs) {w1 : World} {base : Nat} {v : Value} (hv : w1.ownsRow base 60 2 v (T.wsteps at0 d t).length (cellsS (T.wsteps at0 d t))) :
    ∃ g c, v = .slice (some ⟨g, 0, none⟩) (fs.length + 1) c ∧ base ≤ g ∧ fs.length + 1 ≤ c ∧ c ≤ 9223372036854775807 ∧ w1.cell? ⟨g, fs.length * 2, none⟩ = some (.pointer (some ⟨t'.r.b, 0, none⟩)) ∧ w1.cell? ⟨g, fs.length * 2 + 1, none⟩ = some (.int .i64 (p : Int)) := by
  have hst : T.wsteps at0 d t = (fs.map gstep).reverse ++ [gstep (t', p)] := by rw [way_Q, hQ]; simp
  have hl : (T.wsteps at0 d t).length = fs.length + 1 := by rw [hst]; simp
  have hc := cellsS_at (T.wsteps at0 d t) fs.length (gstep (t', p)) (by rw [hst, List.getElem?_append_right (by simp)]; simp)
  rw [hl] at hv
  obtain ⟨g, c, rfl, hb, hlt⟩ := hv.form (by omega)
  obtain ⟨rest, _, _, h3, h4, _⟩ := row_of_own hv
  unfold maxLen at h4
  exact ⟨g, c, rfl, hb, h3, h4, (hv.cellAt (fs.length * 2) (by omega)).trans hc.1, (hv.cellAt (fs.length * 2 + 1) (by omega)).trans hc.2⟩

/-- another value at an item of a node -/
theorem turned_value {W : World} {r : Rec ByteArray} (h : Ok W r) (p : Nat) (x : It) (u : ByteArray) (hx : r.items[p]? = some x) :
    Turned W r (W.setCell ⟨r.g, p * 2 + 1, none⟩ (.string u)) { r with items := r.items.set p (x.1, u) } := by
  have hlt := (List.getElem?_eq_some_iff.1 hx).1
  obtain ⟨rest, hrow, hlen, hnc, hcm, hxl, _⟩ := row_of_own h.irow
  have hbg := h.b_ne_g
  have hcells : (cellsI r.items ++ rest).set (p * 2 + 1) (.string u) = cellsI (r.items.set p (x.1, u)) ++ rest := by
    rw [List.set_append_left _ _ (by omega)]
    congr 1
    clear hrow hlen hxl hnc hcm
    generalize r.items = l at hx hlt
    induction l generalizing p with
    | nil => simp at hx
    | cons y l ih =>
      cases p with
      | zero => obtain rfl : y = x := by simpa using hx
                rfl
      | succ p =>
        have := ih p (by simpa using hx) (by simpa using hlt)
        rw [show (p + 1) * 2 + 1 = p * 2 + 1 + 1 + 1 from by omega]
        show _ :: _ :: (cellsI l).set (p * 2 + 1) (.string u) = _ :: _ :: cellsI (l.set p (x.1, u))
        rw [this]
  have hrow' : Row (W.setCell ⟨r.g, p * 2 + 1, none⟩ (.string u)) r.g 62 (cellsI (r.items.set p (x.1, u)) ++ rest) := by
    rw [← hcells]
    have := hrow
    unfold Row at this ⊢
    obtain ⟨hl2, hk⟩ := Array.getElem?_eq_some_iff.1 this
    show (W.heap.modify r.g _)[r.g]? = _
    rw [Array.getElem?_eq_getElem (by rw [Array.size_modify]; exact hl2), Array.getElem_modify_self, hk]
    simp
  have hsl : (r.items.set p (x.1, u)).length = r.items.length := List.length_set
  refine ⟨⟨?_, ?_, ?_⟩, rfl, ?_, fun k hk => .inl hk⟩
  · simp only [Rec.iv, Rec.kvv, hsl]
    exact (set_far _ _ _ _ _ hbg).trans h.node
  · simp only [Rec.iv, hsl]
    refine own_of_row hrow' ?_ hnc hcm (by rw [cellsI_length, hsl]) (Nat.zero_le _)
    rw [← hcells, List.length_set]
    exact hlen
  · have hk := h.krow
    cases hkv : r.kv with
    | none =>
      simp only [Rec.kvv, hkv] at hk ⊢
      refine ⟨hk.1, .inl ⟨rfl, ?_⟩⟩
      rcases hk.2 with ⟨_, h0⟩ | ⟨_, _, _, hh, _⟩
      · exact h0
      · cases hh
    | some q =>
      simp only [Rec.kvv, hkv] at hk ⊢
      exact own_kept hk (set_far _ _ _ _ _ (h.g_ne_k hkv).symm)
  · exact Only.setCell (p := ⟨r.g, p * 2 + 1, none⟩) (Only.refl _ W) (.inr ((mem_blocks r _).2 (.inr (.inl rfl)))) _

theorem stands_in {at0 : Int} {d : Nat} {t : T ByteArray} (hw : T.wf d t) (h1 : 1 ≤ t.r.items.length) (h7 : t.r.items.length ≤ 7) (hr : T.Rise t.inord) (hf : T.wfound at0 d t = true) :
    ∃ t' p fs' d' x l r, T.wfs at0 d t [] = (t', p) :: fs' ∧ T.wf d' t' ∧ t'.r.items[p]? = some x ∧ x.1 = at0 ∧ 1 ≤ t'.r.items.length ∧ t'.r.items.length ≤ 7 ∧ (fs' ≠ [] → 3 ≤ t'.r.items.length) ∧ T.Chain d' fs' t'.r.b ∧ T.topOf fs' t'.r.b = t.r.b ∧
      (T.ctx fs' ++ t'.recs).Perm t.recs ∧ t.inord = l ++ x :: r ∧ (∀ y, y ∈ l → y.1 < at0) ∧ (∀ y, y ∈ r → at0 < y.1) ∧ ∀ z, T.around fs' (T.setAt t' p z).inord = l ++ z :: r := by
  have hS := T.wfs_stands at0 d t [] hw trivial h1 h7 (by simp) hf
  obtain ⟨t', p, fs', d', x, e1, e2, e3, e4, e5, e6, e7, e8, e9, e10, e11⟩ := hS.ends
  have hk : t'.ks.map T.inord = [] ∨ (t'.ks.map T.inord).length = t'.r.items.length + 1 := (T.wf_ks d' t' e2).imp (fun h => by rw [h]; rfl) (fun h => by simpa using h)
  have c1 : t'.inord = T.inter ((t'.ks.map T.inord).take (p + 1)) (t'.r.items.take p) ++ x :: T.inter ((t'.ks.map T.inord).drop (p + 1)) (t'.r.items.drop (p + 1)) := by
    rw [T.inord_eq]; exact T.inter_cut _ _ p x e3 hk
  have c2 : ∀ z, (T.setAt t' p z).inord = T.inter ((t'.ks.map T.inord).take (p + 1)) (t'.r.items.take p) ++ z :: T.inter ((t'.ks.map T.inord).drop (p + 1)) (t'.r.items.drop (p + 1)) := fun z => by
    have hlt := (List.getElem?_eq_some_iff.1 e3).1
    rw [T.inord_eq]
    show T.inter (t'.ks.map T.inord) (t'.r.items.set p z) = _
    rw [T.inter_cut (t'.ks.map T.inord) (t'.r.items.set p z) p z (by rw [List.getElem?_set_self hlt]) (by rw [List.length_set]; exact hk), List.take_set_of_le (Nat.le_refl _), List.drop_set_of_lt (by omega)]
  obtain ⟨l0, r0, hlr⟩ := T.around_split fs'
  have e10' : T.around fs' t'.inord = t.inord := e10
  rw [hlr, c1] at e10'
  refine ⟨t', p, fs', d', x, l0 ++ T.inter ((t'.ks.map T.inord).take (p + 1)) (t'.r.items.take p), T.inter ((t'.ks.map T.inord).drop (p + 1)) (t'.r.items.drop (p + 1)) ++ r0, e1, e2, e3, e4, e5, e6, e7, e8, e9, by simpa [T.ctx] using e11, by rw [← e10']; simp, ?_, ?_, fun z => by rw [hlr, c2]; simp⟩
  · rw [← e10'] at hr
    have := (T.Rise.mid (l := l0 ++ T.inter ((t'.ks.map T.inord).take (p + 1)) (t'.r.items.take p)) (x := x) (r := T.inter ((t'.ks.map T.inord).drop (p + 1)) (t'.r.items.drop (p + 1)) ++ r0) (by simpa using hr)).1
    intro y hy
    have := this y hy
    omega
  · rw [← e10'] at hr
    have := (T.Rise.mid (l := l0 ++ T.inter ((t'.ks.map T.inord).take (p + 1)) (t'.r.items.take p)) (x := x) (r := T.inter ((t'.ks.map T.inord).drop (p + 1)) (t'.r.items.drop (p + 1)) ++ r0) (by simpa using hr)).2
    intro y hy
    have := this y hy
    omega

set_option maxRecDepth 100000 in
set_option maxHeartbeats 4000000 in
theorem put_old (at0 : Int) (u : ByteArray) (xs : List It) (a : Nat) (F : Nat → Prop) (t : T ByteArray) (d : Nat) (w : World) (hr : T.Rise xs) (hl : xs.length ≤ 1000) (hF : F a) (hb : BagAt w a (some t.r.b) xs.length) (hm : Mem w t.recs) (hw : T.wf d t) (h1 : 1 ≤ t.r.items.length) (h7 : t.r.items.length ≤ 7) (hx : t.inord = xs)
    (hFt : ∀ r, r ∈ t.recs → ∀ k, k ∈ r.blocks → F k) (hf : T.wfound at0 d t = true) :
    Calls Try.prog 10 #[ptrV a, .int .i64 at0, .string u] w (PutPost at0 u xs a F w) := by
  subst hx
  have hd := T.height_le d t hw h1
  have cH := highest_some a (some t.r.b) t.inord.length w hb
  have cW := way_some at0 d t w hm.ok hw (by omega)
  obtain ⟨b0, b1, bf0, bf1⟩ := bag_cells hb
  have halt : a < w.heap.size := (Array.getElem?_eq_some_iff.1 hb).1
  obtain ⟨t', p, fs', d', x, l, r, e1, e2, e3, e4, e5, e6, e7, e8, e9, e10, e11, e12, e13, e14⟩ := stands_in hw h1 h7 hr hf
  have hmem : t'.r ∈ t.recs := e10.mem_iff.1 (List.mem_append_right _ t'.r_mem)
  have hok := hm.ok _ hmem
  have hplt := (List.getElem?_eq_some_iff.1 e3).1
  have hil := hok.ilen
  have hfl : fs'.length ≤ 1000 := by
    have h1 := T.wsteps_length at0 d t
    have h2 : (T.wsteps at0 d t).length = fs'.length + 1 := by rw [way_Q, e1]; simp
    omega
  have HB2 : Hid (∀ (w1 : World) (v : Value), Below w.heap.size w w1 → w1.ownsRow w.heap.size 60 2 v (T.wsteps at0 d t).length (cellsS (T.wsteps at0 d t)) → ∃ g c, v = .slice (some ⟨g, 0, none⟩) (fs'.length + 1) c ∧ fs'.length + 1 ≤ c ∧ c ≤ 9223372036854775807 ∧ g < w1.heap.size ∧ t'.r.b < w1.heap.size ∧ t'.r.g < w1.heap.size ∧ w1.cell? ⟨g, fs'.length * 2, none⟩ = some (.pointer (some ⟨t'.r.b, 0, none⟩)) ∧ w1.cell? ⟨g, fs'.length * 2 + 1, none⟩ = some (.int .i64 (p : Int)) ∧
      w1.cell? ⟨t'.r.b, 0, none⟩ = some (.slice (some ⟨t'.r.g, 0, none⟩) t'.r.items.length t'.r.cap) ∧ w1.cell? ⟨t'.r.g, p * 2 + 1, none⟩ = some (.string x.2) ∧ w1.frozen? ⟨t'.r.g, p * 2 + 1, none⟩ = false) := fun w1 v hB hv => by
    obtain ⟨g, c, f1, f2, f3, f4, f5, f6⟩ := last_step e1 hv
    have hok1 := hok.below hB
    exact ⟨g, c, f1, f3, f4, World.block_lt_of_cell? _ _ f5, hok1.blk _ (by simp [Rec.blocks]), hok1.blk _ (by simp [Rec.blocks]), f5, f6, hok1.c0, (hok1.item e3).2, hok1.itemF _⟩
  have HF := Lib.hid hf
  have HE := Lib.hid (And.intro e1 (And.intro e2 (And.intro e3 (And.intro e4 (And.intro e5 (And.intro e6 (And.intro e7 (And.intro e8 (And.intro e9 (And.intro e10 (And.intro e11 (And.intro e12 (And.intro e13 e14)))))))))))))
  have HM := Lib.hid hm
  have HB := Lib.hid hb
  have HR := Lib.hid hr
  have HFT := Lib.hid hFt
  have HOK := Lib.hid hok
  unfold ptrV at cH cW ⊢
  simp only [Option.map_some] at cH b0
  clear hf hm hb hr hFt e1 e2 e3 e4 e5 e6 e7 e8 e9 e10 e11 e12 e13 e14 hok hmem
  go_enter Try.func10, Try.ntmps10
  go_wp2_with (first | (go_at_call 17; refine cH.mono ?_; rintro e w' ⟨rfl, rfl⟩) | (go_at_call 19; refine cW.mono ?_; rintro e w1 ⟨v, rfl, hv, hB⟩; rw [HF.out]; obtain ⟨g, c, rfl, f1, f2, f3, f8, f9, f4, f5, f6, f7, f10⟩ := HB2.out w1 v hB hv; have HBL := Lib.hid hB; clear hB hv))
  go_region
  all_goals
    go_wp2
    go_ret
    obtain ⟨e1, e2, e3, e4, e5, e6, e7, e8, e9, e10, e11, e12, e13, e14⟩ := HE.out
    have hm1 : Mem w1 t.recs := HM.out.kept (fun r hr k hk => HBL.out.block k ((HM.out.ok r hr).blk k hk))
    have g0 : Grew F (fun _ => False) w1 w1 t.recs := Grew.start F _ hm1 HFT.out
    have g1 : Grew F (fun _ => False) w1 w1 (t'.r :: (T.ctx fs' ++ t'.ks.flatMap T.recs)) := g0.perm (e10.symm.trans (by rw [T.recs_eq]; exact List.perm_middle))
    have g2 := ((g1.turned (turned_value (g1.mem.ok _ (by simp)) p x u e3)).alloc (.cells #[.pointer (some ⟨t'.r.b, 0, none⟩), .int .i64 (p : Int)] 60)).drew
    have hset : T.setAt t' p (x.1, u) = T.node { t'.r with items := t'.r.items.set p (x.1, u) } t'.ks := rfl
    have g3 : Grew F (fun _ => False) w1 _ (T.plug fs' (T.setAt t' p (x.1, u))).recs := g2.perm (by
      refine List.Perm.trans ?_ (T.plug_recs fs' _).symm
      rw [T.setAt_recs]
      exact List.perm_middle.symm)
    have hlen : (T.setAt t' p (x.1, u)).r.items.length = t'.r.items.length := List.length_set
    obtain ⟨d2, p1, p2, p3, p4, _⟩ := T.plug_wf d' fs' (T.setAt t' p (x.1, u)) t'.r.b e8 (T.setAt_wf d' t' p _ e2) rfl (by rw [hlen]; exact e5) (by rw [hlen]; exact e6) (fun h => by rw [hlen]; exact e7 h)
    have hin : (T.plug fs' (T.setAt t' p (x.1, u))).inord = l ++ (at0, u) :: r := by rw [T.plug_inord d' fs' _ t'.r.b e8, e14, e4]
    have hput : T.put at0 u t.inord = l ++ (at0, u) :: r := by rw [e11]; exact T.put_in at0 u l r x e12 e4
    have hrise := HR.out
    rw [e11] at hrise
    have hbag2 : BagAt ((w1.setCell ⟨t'.r.g, p * 2 + 1, none⟩ (.string u)).alloc (.cells #[.pointer (some ⟨t'.r.b, 0, none⟩), .int .i64 (p : Int)] 60)).drew a (some t.r.b) t.inord.length := by
      have hb1 : BagAt w1 a (some t.r.b) t.inord.length := (HBL.out.block a halt).trans HB.out
      refine (Below.heap_alloc (w1.setCell ⟨t'.r.g, p * 2 + 1, none⟩ (.string u)) _ a ?_).trans ((set_far _ _ _ _ _ ?_).trans hb1)
      · rw [World.size_setCell]; have := HBL.out.size; omega
      · intro e
        exact g1.mem.not_in hb1 (by decide) (by decide) (by decide) t'.r (by simp) (e ▸ (mem_blocks t'.r _).2 (.inr (.inl rfl)))
    refine ⟨by rw [e11, T.get_in at0 l r x e12 e4]; rfl, ⟨?_, .inl hF, .inr ⟨_, d2, ?_, g3.mem, p1, p2, p3, ?_, fun q hq k hk => ?_⟩⟩, ?_⟩
    · rw [hput]
      exact T.rise_between (T.rise_drop hrise) e12 e13
    · rw [p4, e9, hput, show (l ++ (at0, u) :: r).length = t.inord.length from by rw [e11]; simp]
      exact hbag2
    · rw [hin, hput]
    · rcases g3.bnd q hq k hk with h | h
      · exact .inl h
      · exact .inr (Nat.le_trans HBL.out.size h)
    · exact (Only.of_below HBL.out).step g3.only (fun i _ hi => hi.elim id (fun h => h.elim))

/-- Put, at whatever bag of no more than a thousand numbers -/
theorem put_any (at0 : Int) (u : ByteArray) (xs : List It) (a : Nat) (F : Nat → Prop) (w : World) (h : BagIs w a F xs) (hl : xs.length ≤ 1000) :
    Calls Try.prog 10 #[ptrV a, .int .i64 at0, .string u] w (PutPost at0 u xs a F w) := by
  rcases h.tree with ⟨hb, rfl⟩ | ⟨t, d, hb, hm, hw, h1, h7, hx, hF⟩
  · exact put_empty at0 u a F w h.own hb
  · cases hf : T.wfound at0 d t with
    | false => exact put_new at0 u xs a F t d w h.rise hl h.own hb hm hw h1 h7 hx hF hf
    | true => exact put_old at0 u xs a F t d w h.rise hl h.own hb hm hw h1 h7 hx hF hf

end Go.Proofs.Ytkhbfjncamobdaa.S
