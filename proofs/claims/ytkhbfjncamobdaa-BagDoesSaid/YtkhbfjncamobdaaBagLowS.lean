/- toLowest: going on with a way to an item down to the lowest level. -/
import Derived.BigRegion
import Derived.Test.YtkhbfjncamobdaaBagGetS
namespace Go.Proofs.Ytkhbfjncamobdaa.S
open Go.RowKit Go.Shelf
set_option linter.unusedVariables false

set_option maxRecDepth 100000 in
set_option maxHeartbeats 1000000 in
theorem low_leaf (m g c b p : Nat) (w : World) (r : Rec ByteArray) (ho : Ok w r) (hkv : r.kv = none) (hb : r.b = b) (hm : m + 1 ≤ c) (hc : c ≤ 9223372036854775807) (hm2 : m ≤ 1000) (h0 : w.cell? ⟨g, m * 2, none⟩ = some (.pointer (some ⟨b, 0, none⟩))) (h1 : w.cell? ⟨g, m * 2 + 1, none⟩ = some (.int .i64 (p : Int))) :
    Calls Try.prog 22 #[.slice (some ⟨g, 0, none⟩) (m + 1) c] w fun e w' => e = .returned (.slice (some ⟨g, 0, none⟩) (m + 1) c) ∧ Below w.heap.size w w' := by
  subst hb
  have c1 := ho.c1
  simp only [Rec.kvv, hkv] at c1
  have hlb := ho.blk r.b (by simp [Rec.blocks])
  have hq := eqlN none 0 0
  clear ho hkv
  go_enter Try.func22, Try.ntmps22
  go_wp2
  go_ret
  exact ⟨rfl, (Below.refl _ _).alloc (Nat.le_refl _) _⟩

/-- the way on, always to the first node below -/
def LowSteps : Nat → T ByteArray → List (Nat × Nat)
  | 0, k => [(k.r.b, 0)]
  | d + 1, k => (k.r.b, 0) :: match k.ks[0]? with
    | some k' => LowSteps d k'
    | none => []
def lowEnd : Nat → T ByteArray → T ByteArray
  | 0, k => k
  | d + 1, k => match k.ks[0]? with
    | some k' => lowEnd d k'
    | none => k
def lowFs : Nat → T ByteArray → T.Fs ByteArray → T.Fs ByteArray
  | 0, k, fs => (k, 0) :: fs
  | d + 1, k, fs => match k.ks[0]? with
    | some k' => lowFs d k' ((k, 0) :: fs)
    | none => (k, 0) :: fs
theorem lowFs_steps (d : Nat) (k : T ByteArray) (fs : T.Fs ByteArray) : (lowFs d k fs).map gstep = (LowSteps d k).reverse ++ fs.map gstep := by
  induction d generalizing k fs with
  | zero => simp [lowFs, LowSteps, gstep]
  | succ d ih =>
    simp only [lowFs, LowSteps]
    cases h : k.ks[0]? with
    | none => simp [gstep]
    | some k' => simp [ih k', gstep]
theorem lowFs_spec (d : Nat) (k : T ByteArray) (fs : T.Fs ByteArray) (hw : T.wf d k) (hc : T.Chain d fs k.r.b) (h3 : 3 ≤ k.r.items.length) (h7 : k.r.items.length ≤ 7) (hfs : fs ≠ []) :
    ∃ z fs' y l m, lowFs d k fs = (z, 0) :: fs' ∧ z = lowEnd d k ∧ T.wf 0 z ∧ 3 ≤ z.r.items.length ∧ z.r.items.length ≤ 7 ∧ T.Chain 0 fs' z.r.b ∧ T.topOf fs' z.r.b = T.topOf fs k.r.b ∧ fs' ≠ [] ∧ z.r.items = y :: l ∧ k.inord = y :: m ∧ T.around fs' l = T.around fs m ∧
      (z.r :: T.ctx fs').Perm (T.ctx fs ++ k.recs) := by
  induction d generalizing k fs with
  | zero =>
    obtain ⟨y, l, hy⟩ : ∃ y l, k.r.items = y :: l := by
      cases hi : k.r.items with
      | nil => rw [hi] at h3; simp at h3
      | cons y l => exact ⟨y, l, rfl⟩
    refine ⟨k, fs, y, l, l, rfl, rfl, hw, h3, h7, hc, rfl, hfs, hy, ?_, rfl, ?_⟩
    · rw [T.inord_eq, hw.1, hy]; rfl
    · rw [T.recs_eq, hw.1]
      exact (List.perm_append_comm (l₁ := [k.r]) (l₂ := T.ctx fs))
  | succ d ih =>
    obtain ⟨k', hk1, hk2, hk3, hk4⟩ := T.kid_at d k 0 hw (by omega)
    have hkz := (hw.2.2.2 k' hk4).2
    obtain ⟨z, fs', y, l, m, e1, e2, e3, e4, e5, e6, e7, e8, e9, e10, e11, e12⟩ := ih k' ((k, 0) :: fs) hk3 ⟨hw, by simp, ⟨k', hk1, rfl⟩, by show 1 ≤ k.r.items.length; omega, h7, fun _ => h3, hc⟩ hkz.1 hkz.2 (by simp)
    have hn := T.node_at d k k' 0 hw (by omega) hk1
    have hfl : T.fl (k, 0) = [] := by simp [T.fl, T.zipL]
    refine ⟨z, fs', y, l, m ++ T.fr (k, 0), by simp [lowFs, hk1, e1], by simp [lowEnd, hk1, e2], e3, e4, e5, e6, e7, e8, e9, ?_, ?_, ?_⟩
    · rw [hn, hfl, e10]; simp
    · rw [e11]
      show T.around fs (T.fl (k, 0) ++ (m ++ T.fr (k, 0))) = _
      rw [hfl]; rfl
    · refine e12.trans ?_
      show (k.r :: (T.sibs (k, 0) ++ T.ctx fs) ++ k'.recs).Perm _
      refine List.Perm.trans ?_ (List.Perm.append_left _ (T.node_recs k k' 0 hk1)).symm
      refine List.Perm.trans ?_ List.perm_middle.symm
      rw [List.cons_append]
      refine List.Perm.cons _ ?_
      rw [← List.append_assoc]
      exact List.Perm.append_right _ List.perm_append_comm
theorem lowEnd_mem (d : Nat) (k : T ByteArray) : (lowEnd d k).r ∈ k.recs := by
  induction d generalizing k with
  | zero => exact k.r_mem
  | succ d ih =>
    simp only [lowEnd]
    cases h : k.ks[0]? with
    | none => exact k.r_mem
    | some k' => exact T.ks_sub (List.mem_of_getElem? h) _ (ih k')
theorem LowSteps_last (d : Nat) (k : T ByteArray) (hw : T.wf d k) : ∃ init, LowSteps d k = init ++ [((lowEnd d k).r.b, 0)] ∧ init.length = d := by
  induction d generalizing k with
  | zero => exact ⟨[], rfl, rfl⟩
  | succ d ih =>
    obtain ⟨k', hk1, hk2, hk3, hk4⟩ := T.kid_at d k 0 hw (by omega)
    obtain ⟨init, h1, h2⟩ := ih k' hk3
    exact ⟨(k.r.b, 0) :: init, by simp [LowSteps, lowEnd, hk1, h1], by simp [h2]⟩

structure LowRel (g0 : Nat) (w : World) (L : List (Nat × Nat)) (gk : Nat) (s0 s4 : Value) (wr : World) : Prop where
  row : ∃ pre g c, s0 = .slice (some ⟨g, 0, none⟩) pre.length c ∧ wr.ownsRow 0 60 2 (.slice (some ⟨g, 0, none⟩) pre.length c) pre.length (cellsS pre) ∧ (g = g0 ∨ w.heap.size < g) ∧ pre.length + gk ≤ 2000 ∧
    ((∃ d' k', gk = d' + 1 ∧ s4 = ptrV k'.r.b ∧ (∀ r, r ∈ k'.recs → Ok w r) ∧ T.wf d' k' ∧ L = pre ++ LowSteps d' k') ∨ (gk = 0 ∧ s4 = .pointer none ∧ L = pre))
  only : Only (fun b => b = g0) w wr

theorem step_not_node {w : World} {r : Rec ByteArray} (h : Ok w r) {g : Nat} {c : Array Value} {f : Nat × Nat} (hg : w.heap[g]? = some (.cells c 60 f)) : g ∉ r.blocks := fun hh => by
  obtain ⟨c2, t2, h2, ht2⟩ := h.cells g hh
  rw [hg] at h2
  cases h2
  rcases ht2 with e | e | e <;> cases e

theorem row_bump {w : World} {L0 : List (Nat × Nat)} {g c b p : Nat} (hrow : w.ownsRow 0 60 2 (.slice (some ⟨g, 0, none⟩) (L0.length + 1) c) (L0.length + 1) (cellsS (L0 ++ [(b, p)]))) :
    (w.setCell ⟨g, L0.length * 2 + 1, none⟩ (.int .i64 ((p : Int) + 1))).ownsRow 0 60 2 (.slice (some ⟨g, 0, none⟩) (L0 ++ [(b, p + 1)]).length c) (L0 ++ [(b, p + 1)]).length (cellsS (L0 ++ [(b, p + 1)])) := by
  obtain ⟨rest, hr1, hr2, hr3, hr4, hr5, _⟩ := row_of_own hrow
  have hl : (L0 ++ [(b, p + 1)]).length = L0.length + 1 := by simp
  have he : (cellsS (L0 ++ [(b, p)]) ++ rest).set (L0.length * 2 + 1) (.int .i64 ((p : Int) + 1)) = cellsS (L0 ++ [(b, p + 1)]) ++ rest := by
    rw [cellsS_snoc, cellsS_snoc, List.set_append_left _ _ (by simp [cellsS_length]), List.set_append_right _ _ (by rw [cellsS_length]; omega), cellsS_length, show L0.length * 2 + 1 - L0.length * 2 = 1 from by omega]
    simp
  have hrow' : Row (w.setCell ⟨g, L0.length * 2 + 1, none⟩ (.int .i64 ((p : Int) + 1))) g 60 (cellsS (L0 ++ [(b, p + 1)]) ++ rest) := by
    rw [← he]
    have := hr1
    unfold Row at this ⊢
    obtain ⟨hl2, hk⟩ := Array.getElem?_eq_some_iff.1 this
    show (w.heap.modify g _)[g]? = _
    rw [Array.getElem?_eq_getElem (by rw [Array.size_modify]; exact hl2), Array.getElem_modify_self, hk]
    simp
  refine own_of_row hrow' ?_ (by rw [hl]; exact hr3) hr4 (by rw [cellsS_length, hl]) (Nat.zero_le _)
  rw [← he, List.length_set]
  exact hr2

theorem set_cell_row {W : World} {g : Nat} {t : TypeId} {l : List Value} (h : Row W g t l) (i : Nat) (u : Value) : Row (W.setCell ⟨g, i, none⟩ u) g t (l.set i u) := by
  unfold Row at h ⊢
  obtain ⟨hl2, hk⟩ := Array.getElem?_eq_some_iff.1 h
  show (W.heap.modify g _)[g]? = _
  rw [Array.getElem?_eq_getElem (by rw [Array.size_modify]; exact hl2), Array.getElem_modify_self, hk]
  simp

/-- another item at a place of a node -/
theorem turned_item {W : World} {r : Rec ByteArray} (h : Ok W r) (p : Nat) (x y : It) (hx : r.items[p]? = some x) :
    Turned W r ((W.setCell ⟨r.g, p * 2, none⟩ (.int .i64 y.1)).setCell ⟨r.g, p * 2 + 1, none⟩ (.string y.2)) { r with items := r.items.set p y } := by
  have hlt := (List.getElem?_eq_some_iff.1 hx).1
  obtain ⟨rest, hrow, hlen, hnc, hcm, hxl, _⟩ := row_of_own h.irow
  have hbg := h.b_ne_g
  have hcells : ((cellsI r.items ++ rest).set (p * 2) (.int .i64 y.1)).set (p * 2 + 1) (.string y.2) = cellsI (r.items.set p y) ++ rest := by
    rw [List.set_append_left _ _ (by omega), List.set_append_left _ _ (by rw [List.length_set]; omega)]
    congr 1
    clear hrow hlen hxl hnc hcm
    generalize r.items = l at hx hlt
    induction l generalizing p with
    | nil => simp at hx
    | cons z l ih =>
      cases p with
      | zero => rfl
      | succ p =>
        have := ih p (by simpa using hx) (by simpa using hlt)
        rw [show (p + 1) * 2 = p * 2 + 1 + 1 from by omega]
        show _ :: _ :: ((cellsI l).set (p * 2) (.int .i64 y.1)).set (p * 2 + 1) (.string y.2) = _ :: _ :: cellsI (l.set p y)
        rw [this]
  have hrow' := set_cell_row (set_cell_row hrow (p * 2) (.int .i64 y.1)) (p * 2 + 1) (.string y.2)
  rw [hcells] at hrow'
  have hsl : (r.items.set p y).length = r.items.length := List.length_set
  refine ⟨⟨?_, ?_, ?_⟩, rfl, ?_, fun k hk => .inl hk⟩
  · simp only [Rec.iv, Rec.kvv, hsl]
    exact (set_far _ _ _ _ _ hbg).trans ((set_far _ _ _ _ _ hbg).trans h.node)
  · simp only [Rec.iv, hsl]
    refine own_of_row hrow' ?_ hnc hcm (by rw [cellsI_length, hsl]) (Nat.zero_le _)
    rw [← hcells, List.length_set, List.length_set]
    exact hlen
  · have hk := h.krow
    cases hkv : r.kv with
    | none =>
      simp only [Rec.kvv, hkv] at hk ⊢
      refine ⟨hk.1, .inl ⟨rfl, ?_⟩⟩
      rcases hk.2 with ⟨_, h0⟩ | ⟨_, _, _, hh, _⟩
      · exact h0
      · cases hh
    | some q =>
      simp only [Rec.kvv, hkv] at hk ⊢
      exact own_kept hk ((set_far _ _ _ _ _ (h.g_ne_k hkv).symm).trans (set_far _ _ _ _ _ (h.g_ne_k hkv).symm))
  · exact Only.setCell (p := ⟨r.g, p * 2 + 1, none⟩) (Only.setCell (p := ⟨r.g, p * 2, none⟩) (Only.refl _ W) (.inr ((mem_blocks r _).2 (.inr (.inl rfl)))) _) (.inr ((mem_blocks r _).2 (.inr (.inl rfl)))) _

/-- behind toLowest at a node above the lowest level -/
def LowPost (r : Rec ByteArray) (p : Nat) (x y : It) (g0 : Nat) (L : List (Nat × Nat)) (w : World) (e : Ending) (W : World) : Prop :=
  ∃ v, e = .returned v ∧ W.ownsRow 0 60 2 v L.length (cellsS L) ∧ (∃ g c, v = .slice (some ⟨g, 0, none⟩) L.length c ∧ (g = g0 ∨ w.heap.size ≤ g)) ∧ Ok W { r with items := r.items.set p y } ∧ Only (fun b => b = g0 ∨ b = r.g) w W

set_option maxRecDepth 100000 in
set_option maxHeartbeats 4000000 in
theorem low_node (L0 : List (Nat × Nat)) (g c p : Nat) (t k : T ByteArray) (d : Nat) (x y : It) (l : List It) (w : World) (hT : ∀ r, r ∈ t.recs → Ok w r) (hw : T.wf (d + 1) t) (hk : t.ks[p + 1]? = some k) (hx : t.r.items[p]? = some x) (hwk : T.wf d k) (hd : d ≤ 900) (hL : L0.length ≤ 900)
    (hrow : w.ownsRow 0 60 2 (.slice (some ⟨g, 0, none⟩) (L0.length + 1) c) (L0.length + 1) (cellsS (L0 ++ [(t.r.b, p)]))) (hz : (lowEnd d k).r.items = y :: l) :
    Calls Try.prog 22 #[.slice (some ⟨g, 0, none⟩) (L0.length + 1) c] w (LowPost t.r p x y g (L0 ++ [(t.r.b, p + 1)] ++ LowSteps d k) w) := by
  have hok := hT _ t.r_mem
  have hkm : k ∈ t.ks := List.mem_of_getElem? hk
  obtain ⟨f, hf⟩ := Option.isSome_iff_exists.1 hw.1
  have hplt := (List.getElem?_eq_some_iff.1 hx).1
  have c0 := hok.c0
  have c1 := hok.c1
  have hil := hok.ilen
  unfold Rec.iv at c0
  simp only [Rec.kvv, hf] at c1
  have hlb := hok.blk t.r.b (by simp [Rec.blocks])
  have hq := eqlN (some ⟨f.1, 0, none⟩) t.r.kids.length f.2
  obtain ⟨rest, hr1, hr2, hr3, hr4, hr5, _⟩ := row_of_own hrow
  unfold maxLen at hr4
  have hgl := hr1.lt
  have hst := cellsS_at (L0 ++ [(t.r.b, p)]) L0.length (t.r.b, p) (by simp)
  have w0 := (hrow.cellAt (L0.length * 2) (by omega)).trans hst.1
  have w1 := (hrow.cellAt (L0.length * 2 + 1) (by omega)).trans hst.2
  have wf1 := hrow.frozenAt (L0.length * 2 + 1)
  unfold ptrV at w0
  have hBA : Only (fun b => b = g) w ((w.setCell ⟨g, L0.length * 2 + 1, none⟩ (.int .i64 ((p : Int) + 1))).alloc (.cells #[.pointer (some ⟨t.r.b, 0, none⟩), .int .i64 (p : Int)] 60)) :=
    (Only.setCell (S := fun b => b = g) (p := ⟨g, L0.length * 2 + 1, none⟩) (Only.refl _ w) (.inr rfl) _).alloc _
  have hgn : ∀ r, Ok w r → g ∉ r.blocks := fun r h => step_not_node h hr1
  have hokA := hok.only hBA (fun b hb he => hgn _ hok (he ▸ hb))
  have cU := under_some t.r (p + 1) f k.r.b _ hokA hf (by rw [hw.2.1, List.getElem?_map, hk]; rfl)
  rw [show ((p + 1 : Nat) : Int) = (p : Int) + 1 from by omega] at cU
  unfold ptrV at cU
  have hrowA := (row_bump hrow).alloc (.cells #[.pointer (some ⟨t.r.b, 0, none⟩), .int .i64 (p : Int)] 60)
  have hLL : (L0 ++ [(t.r.b, p + 1)]).length = L0.length + 1 := by simp
  rw [hLL] at hrowA
  have HST : LowRel g w (L0 ++ [(t.r.b, p + 1)] ++ LowSteps d k) (d + 1) (.slice (some ⟨g, 0, none⟩) (L0.length + 1) c) (ptrV k.r.b) ((w.setCell ⟨g, L0.length * 2 + 1, none⟩ (.int .i64 ((p : Int) + 1))).alloc (.cells #[.pointer (some ⟨t.r.b, 0, none⟩), .int .i64 (p : Int)] 60)) :=
    ⟨⟨L0 ++ [(t.r.b, p + 1)], g, c, by rw [hLL], by rw [hLL]; exact hrowA, .inl rfl, by rw [hLL]; omega, .inl ⟨d, k, rfl, rfl, fun r hr => hT r (T.ks_sub hkm r hr), hwk, rfl⟩⟩, hBA⟩
  unfold ptrV at HST
  have hbox : ((w.setCell ⟨g, L0.length * 2 + 1, none⟩ (.int .i64 ((p : Int) + 1))).alloc (.cells #[.pointer (some ⟨t.r.b, 0, none⟩), .int .i64 (p : Int)] 60)).heap[w.heap.size]? = some (.cells #[.pointer (some ⟨t.r.b, 0, none⟩), .int .i64 (p : Int)] 60 (0, 0)) := by
    have := heap_alloc_new (w.setCell ⟨g, L0.length * 2 + 1, none⟩ (.int .i64 ((p : Int) + 1))) (.cells #[.pointer (some ⟨t.r.b, 0, none⟩), .int .i64 (p : Int)] 60)
    rw [World.size_setCell] at this
    exact this
  obtain ⟨i0, hi, hz0, hz1, hz2⟩ := info_parts infoStep
  have HBX := Lib.hid hbox
  have HT := Lib.hid hT
  have HOK := Lib.hid hok
  have HX := Lib.hid hx
  have HZ := Lib.hid hz
  have HWK := Lib.hid hwk
  have HGN := Lib.hid hgn
  have HKM := Lib.hid hkm
  have hszA : ((w.setCell ⟨g, L0.length * 2 + 1, none⟩ (.int .i64 ((p : Int) + 1))).alloc (.cells #[.pointer (some ⟨t.r.b, 0, none⟩), .int .i64 (p : Int)] 60)).heap.size = w.heap.size + 1 := by rw [World.size_alloc, World.size_setCell]
  have HSZ := Lib.hid hszA
  clear hT hok hx hz hwk hf hk hw hbox hrowA hokA hBA hgn hrow hr1 hr2 hst hszA hkm hLL
  go_enter Try.func22, Try.ntmps22
  go_wp2_with (go_at_call 31; refine cU.mono ?_; clear cU; rintro e w' ⟨rfl, rfl⟩)
  obtain ⟨WA, hWA⟩ : ∃ WA, (w.setCell ⟨g, L0.length * 2 + 1, none⟩ (.int .i64 ((p : Int) + 1))).alloc (.cells #[.pointer (some ⟨t.r.b, 0, none⟩), .int .i64 (p : Int)] 60) = WA := ⟨_, rfl⟩
  rw [hWA] at HST HBX HSZ ⊢
  clear hWA w0 w1 wf1 c0 c1
  go_loopg [0, 4] (d + 1) (fun gk s0 s4 wr => LowRel g w (L0 ++ [(t.r.b, p + 1)] ++ LowSteps d k) gk s0 s4 wr ∧ wr.heap[w.heap.size]? = some (.cells #[.pointer (some ⟨t.r.b, 0, none⟩), .int .i64 (p : Int)] 60 (0, 0)))
  case atStart => exact ⟨HST, HBX.out⟩
  case round =>
    obtain ⟨⟨⟨pre, g1, c1, rfl, hrw, hg1, hlen, hcase⟩, honl⟩, hbx⟩ := hrel
    rcases hcase with ⟨d', k', rfl, rfl, hk', hwk', hL'⟩ | ⟨rfl, rfl, hL'⟩
    · have hz' : w.heap.size < wr.heap.size := (Array.getElem?_eq_some_iff.1 hbx).1
      have hkr := hk' _ k'.r_mem
      have hg1b := (hrw.lt g1 rfl).2
      have HNX : Hid (∀ (w2 : World) (g2 cap2 : Nat), w2.ownsRow 0 60 2 (.slice (some ⟨g2, 0, none⟩) (pre.length + 1) cap2) (pre.length + 1) (cellsS pre ++ [.pointer (some ⟨k'.r.b, 0, none⟩), .int .i64 0]) → (wr.alloc (.cells #[.pointer (some ⟨k'.r.b, 0, none⟩), .int .i64 0] 60)).grownBy w2 (Value.slice (some ⟨g1, 0, none⟩) pre.length c1).ownBlock → ((Value.slice (some ⟨g1, 0, none⟩) pre.length c1).ownBlock = some g2 ∨ g2 = (wr.alloc (.cells #[.pointer (some ⟨k'.r.b, 0, none⟩), .int .i64 0] 60)).heap.size) →
          (w2.ownsRow 0 60 2 (.slice (some ⟨g2, 0, none⟩) (pre ++ [(k'.r.b, 0)]).length cap2) (pre ++ [(k'.r.b, 0)]).length (cellsS (pre ++ [(k'.r.b, 0)])) ∧ (g2 = g ∨ w.heap.size < g2)) ∧ Only (fun b => b = g) w w2 ∧ w2.heap[w.heap.size]? = some (.cells #[.pointer (some ⟨t.r.b, 0, none⟩), .int .i64 (p : Int)] 60 (0, 0))) := fun w2 g2 cap2 ho hg hat => by
        refine ⟨⟨?_, ?_⟩, ?_, ?_⟩
        · rw [cellsS_snoc, List.length_append]
          exact ho
        · rcases hat with h | h
          · have : g1 = g2 := by simpa [Value.ownBlock] using h
            rw [← this]; exact hg1
          · right; rw [h, World.size_alloc]; omega
        · exact (honl.alloc _).grown hg (fun r e => by
            have : g1 = r := by simpa [Value.ownBlock] using e
            subst this
            exact hg1.symm.imp (fun h => by omega) id)
        · refine (hg.block _ (by rw [World.size_alloc]; omega) (fun e => ?_)).trans ((Below.heap_alloc _ _ _ hz').trans hbx)
          have : w.heap.size = g1 := by simpa [Value.ownBlock] using e
          omega
      have hok2 : ∀ w2, Only (fun b => b = g) w w2 → Ok w2 k'.r := fun w2 ho => hkr.only ho (fun b hb he => HGN.out _ hkr (he ▸ hb))
      cases d' with
      | zero =>
        have HUU : Hid (∀ w2, Only (fun b => b = g) w w2 → Calls Try.prog 31 #[.pointer (some ⟨k'.r.b, 0, none⟩), .int .i64 0] w2 fun e w' => e = .returned (.pointer none) ∧ w2 = w') := fun w2 ho => under_none k'.r 0 w2 (hok2 w2 ho) hwk'.2.1
        have HL' := Lib.hid hL'
        have HO := Lib.hid honl
        unfold ptrV
        clear hL' hk' hwk' hkr hok2 honl hbx
        go_wp2_with (first | (at_builtin; refine wpList_append_lies _ rfl _ _ 56 rfl 0 60 i0 (.agg #[.pointer none, .int .i64 0]) 2 16 Try.underlying56 hi hz0 hz1 hz2 rfl (by decide) (.slice (some ⟨g1, 0, none⟩) pre.length c1) pre.length (cellsS pre) rfl (hrw.alloc _) ⟨wr.heap.size, 0, none⟩ 1 1 [.pointer (some ⟨k'.r.b, 0, none⟩), .int .i64 0] rfl rfl (World.news_of_block (heap_alloc_new wr _)) (by simp [Value.oneCell']) (by omega) (by unfold maxLen; omega) (by omega) (by simp) _ rfl ?_; intro g2 cap2 w2 hown2 hgrow2 hat2 hlt2; have HN := HNX.out w2 g2 cap2 hown2 hgrow2 hat2; obtain cU2 := HUU.out w2 HN.2.1 ; clear hown2 hgrow2 hat2) | (go_at_call 31; refine cU2.mono ?_; clear cU2; rintro e w' ⟨rfl, rfl⟩))
        go_roundg 0
        case measure => omega
        case rel => exact ⟨⟨⟨pre ++ [(k'.r.b, 0)], g2, cap2, by simp, HN.1.1, HN.1.2, by simp; omega, .inr ⟨rfl, rfl, HL'.out⟩⟩, HN.2.1⟩, HN.2.2⟩
      | succ d' =>
        obtain ⟨k'', hk1, hk2, hk3, hk4⟩ := T.kid_at d' k' 0 hwk' (by omega)
        obtain ⟨q, hq2⟩ := Option.isSome_iff_exists.1 hwk'.1
        have HUU : Hid (∀ w2, Only (fun b => b = g) w w2 → Calls Try.prog 31 #[.pointer (some ⟨k'.r.b, 0, none⟩), .int .i64 0] w2 fun e w' => e = .returned (.pointer (some ⟨k''.r.b, 0, none⟩)) ∧ w2 = w') := fun w2 ho => under_some k'.r 0 q k''.r.b w2 (hok2 w2 ho) hq2 hk2
        have HL' : Hid (L0 ++ [(t.r.b, p + 1)] ++ LowSteps d k = pre ++ [(k'.r.b, 0)] ++ LowSteps d' k'') := by
          unfold Hid
          rw [hL', LowSteps, hk1]
          simp
        have HO := Lib.hid honl
        have HK' := Lib.hid hk'
        have HK3 := Lib.hid hk3
        have HK4 := Lib.hid hk4
        unfold ptrV
        clear hL' hk' hwk' hkr hok2 honl hbx hk1 hk2 hk3 hk4 hq2
        go_wp2_with (first | (at_builtin; refine wpList_append_lies _ rfl _ _ 56 rfl 0 60 i0 (.agg #[.pointer none, .int .i64 0]) 2 16 Try.underlying56 hi hz0 hz1 hz2 rfl (by decide) (.slice (some ⟨g1, 0, none⟩) pre.length c1) pre.length (cellsS pre) rfl (hrw.alloc _) ⟨wr.heap.size, 0, none⟩ 1 1 [.pointer (some ⟨k'.r.b, 0, none⟩), .int .i64 0] rfl rfl (World.news_of_block (heap_alloc_new wr _)) (by simp [Value.oneCell']) (by omega) (by unfold maxLen; omega) (by omega) (by simp) _ rfl ?_; intro g2 cap2 w2 hown2 hgrow2 hat2 hlt2; have HN := HNX.out w2 g2 cap2 hown2 hgrow2 hat2; obtain cU2 := HUU.out w2 HN.2.1 ; clear hown2 hgrow2 hat2) | (go_at_call 31; refine cU2.mono ?_; clear cU2; rintro e w' ⟨rfl, rfl⟩))
        go_roundg (d' + 1)
        case measure => omega
        case rel => exact ⟨⟨⟨pre ++ [(k'.r.b, 0)], g2, cap2, by simp, HN.1.1, HN.1.2, by simp; omega, .inl ⟨d', k'', rfl, rfl, fun r hr => HK'.out r (T.ks_sub HK4.out r hr), HK3.out, HL'.out⟩⟩, HN.2.1⟩, HN.2.2⟩
    · obtain ⟨init, hl1, hl2⟩ := LowSteps_last d k HWK.out
      obtain ⟨I, hI⟩ : ∃ I, L0 ++ [(t.r.b, p + 1)] ++ init = I := ⟨_, rfl⟩
      have hpre : pre = I ++ [((lowEnd d k).r.b, 0)] := by rw [← hL', hl1, ← hI]; simp
      have hIl : I.length ≤ 1999 := by rw [hpre] at hlen; simp at hlen; omega
      have hLen : pre.length = I.length + 1 := by rw [hpre]; simp
      have hstz := cellsS_at pre I.length ((lowEnd d k).r.b, 0) (by rw [hpre]; simp)
      have z0 := (hrw.cellAt (I.length * 2) (by omega)).trans hstz.1
      have z1 := (hrw.cellAt (I.length * 2 + 1) (by omega)).trans hstz.2
      unfold ptrV at z0
      rw [hLen] at hrw ⊢
      obtain ⟨rest1, _, _, hc1, hc2, _⟩ := row_of_own hrw
      unfold maxLen at hc2
      have hzm : (lowEnd d k).r ∈ t.recs := T.ks_sub HKM.out _ (lowEnd_mem d k)
      have hokz : Ok wr (lowEnd d k).r := (HT.out _ hzm).only honl (fun b hb he => HGN.out _ (HT.out _ hzm) (he ▸ hb))
      have hokt : Ok wr t.r := HOK.out.only honl (fun b hb he => HGN.out _ HOK.out (he ▸ hb))
      have zc := hokz.c0
      have zil := hokz.ilen
      unfold Rec.iv at zc
      have zi := hokz.item (k := 0) (x := y) (by rw [HZ.out]; rfl)
      rw [Nat.zero_mul] at zi
      obtain ⟨zi0, zi1⟩ := zi
      have tc := hokt.c0
      unfold Rec.iv at tc
      obtain ⟨ti0, ti1⟩ := hokt.item HX.out
      have tf0 := hokt.itemF (p * 2)
      have tf1 := hokt.itemF (p * 2 + 1)
      have hzl : 0 < (lowEnd d k).r.items.length := by rw [HZ.out]; simp
      have bx0 : wr.cell? ⟨w.heap.size, 0, none⟩ = some (.pointer (some ⟨t.r.b, 0, none⟩)) := by rw [cell_of_row wr _ 0 _ _ _ hbx]; rfl
      have bx1 : wr.cell? ⟨w.heap.size, 1, none⟩ = some (.int .i64 (p : Int)) := by rw [cell_of_row wr _ 1 _ _ _ hbx]; rfl
      have HPRE := Lib.hid hpre
      have HL' := Lib.hid hL'
      have HRW := Lib.hid hrw
      have HO := Lib.hid honl
      have HTO := Lib.hid hokt
      have HLEN := Lib.hid hLen
      clear hpre hL' hrw honl hokt hokz hLen hI hl1 hl2 hbx hstz hzm
      go_wp2
      go_region
      all_goals
        go_wp2
        go_ret
        have hT2 := turned_item HTO.out p x y HX.out
        have hgx : g1 ≠ t.r.g := fun e => by
          obtain ⟨rest2, hh, _⟩ := row_of_own HRW.out
          exact step_not_node HTO.out hh (e ▸ (mem_blocks t.r _).2 (.inr (.inl rfl)))
        have honl2 : Only (fun b => b = g ∨ b = t.r.g) w ((wr.setCell ⟨t.r.g, p * 2, none⟩ (.int .i64 y.1)).setCell ⟨t.r.g, p * 2 + 1, none⟩ (.string y.2)) :=
          Only.setCell (p := ⟨t.r.g, p * 2 + 1, none⟩) (Only.setCell (p := ⟨t.r.g, p * 2, none⟩) (HO.out.mono (fun _ _ h => .inl h)) (.inr (.inr rfl)) _) (.inr (.inr rfl)) _
        refine ⟨.slice (some ⟨g1, 0, none⟩) (I.length + 1) c1, rfl, ?_, ⟨g1, c1, ?_, hg1.imp id (fun h => Nat.le_of_lt h)⟩, hT2.ok.drew, honl2.drew⟩
        · rw [HL'.out, HLEN.out]
          exact own_kept HRW.out ((set_far _ _ _ _ _ hgx).trans (set_far _ _ _ _ _ hgx))
        · rw [HL'.out, HLEN.out]

end Go.Proofs.Ytkhbfjncamobdaa.S
