/- (*Bag).add, walked: behind it the tree has the new item where it belongs. -/
import Derived.Test.YtkhbfjncamobdaaBagPkES
namespace Go.Proofs.Ytkhbfjncamobdaa.S
open Go.RowKit Go.Shelf
attribute [local go_sem] Oper.semAt_some
set_option linter.unusedVariables false

/-- behind the call: the tree with the new item; nothing but the tree's own blocks, and the bag's, has turned -/
def AddPost (Q : T.Fs ByteArray) (x : It) (a : Nat) (n : Int) (w : World) (e : Ending) (W : World) : Prop :=
  e = .returned (.tuple #[]) ∧ ∃ t', BagAt W a (some t'.r.b) n ∧ Added Q x a (fun _ => False) w W t'

theorem ctx_mem (Q : T.Fs ByteArray) (f : T ByteArray × Nat) (h : f ∈ Q) : f.1.r ∈ T.ctx Q := by
  induction Q with
  | nil => simp at h
  | cons g Q ih =>
    rcases List.mem_cons.1 h with rfl | h
    · simp [T.ctx]
    · simp [T.ctx, ih h]

/-- a new top of one item and two nodes below -/
theorem top_made (W : World) (y : It) (top q s : Nat) (hs : W.heap.size = s) (W5 : World) (hW5 : (((W.alloc (.cells #[.int .i64 y.1, .string y.2] 62)).alloc (.cells #[.slice (some ⟨s, 0, none⟩) 1 1, .slice (some ⟨s + 1 + 1, 0, none⟩) 2 2] 55)).alloc (.cells #[.pointer (some ⟨top, 0, none⟩), .pointer (some ⟨q, 0, none⟩)] 40)).drew = W5) :
    Ok W5 { b := s + 1, g := s, cap := 1, items := [y], kv := some (s + 1 + 1, 2), kids := [top, q] } ∧ True ∧ True ∧ Only (fun _ => False) W W5 ∧ True := by
  subst hs
  have h0 : W5.heap[W.heap.size]? = some (.cells #[.int .i64 y.1, .string y.2] 62 (0, 0)) := by
    rw [← hW5]
    exact (Below.heap_alloc _ _ _ (by simp; omega)).trans ((Below.heap_alloc _ _ _ (by simp)).trans (heap_alloc_new W _))
  have h1 : W5.heap[W.heap.size + 1]? = some (.cells #[.slice (some ⟨W.heap.size, 0, none⟩) 1 1, .slice (some ⟨W.heap.size + 1 + 1, 0, none⟩) 2 2] 55 (0, 0)) := by
    rw [← hW5]
    have := heap_alloc_new (W.alloc (.cells #[.int .i64 y.1, .string y.2] 62)) (.cells #[.slice (some ⟨W.heap.size, 0, none⟩) 1 1, .slice (some ⟨W.heap.size + 1 + 1, 0, none⟩) 2 2] 55)
    rw [World.size_alloc] at this
    exact (Below.heap_alloc _ _ _ (by simp)).trans this
  have h2 : W5.heap[W.heap.size + 1 + 1]? = some (.cells #[.pointer (some ⟨top, 0, none⟩), .pointer (some ⟨q, 0, none⟩)] 40 (0, 0)) := by
    rw [← hW5]
    have := heap_alloc_new ((W.alloc (.cells #[.int .i64 y.1, .string y.2] 62)).alloc (.cells #[.slice (some ⟨W.heap.size, 0, none⟩) 1 1, .slice (some ⟨W.heap.size + 1 + 1, 0, none⟩) 2 2] 55)) (.cells #[.pointer (some ⟨top, 0, none⟩), .pointer (some ⟨q, 0, none⟩)] 40)
    simp only [World.size_alloc] at this
    exact this
  refine ⟨⟨h1, ?_, ?_⟩, trivial, trivial, ?_, trivial⟩
  · exact own_of_row (rest := []) (by simpa [Row, cellsI] using h0) (by simp [cellsI]) (by simp) (by show 1 ≤ maxLen; unfold maxLen; omega) (by simp [cellsI]) (Nat.zero_le _)
  · exact own_of_row (rest := []) (by simpa [Row, cellsP, ptrV] using h2) (by simp [cellsP]) (by simp) (by show 2 ≤ maxLen; unfold maxLen; omega) (by simp [cellsP]) (Nat.zero_le _)
  · rw [← hW5]
    exact ((((Only.refl _ W).alloc _).alloc _).alloc _).drew

set_option maxRecDepth 100000 in
set_option maxHeartbeats 4000000 in
theorem add_tree (Q : T.Fs ByteArray) (x : It) (a top b0 : Nat) (n : Int) (v : Value) (base : Nat) (w : World) (hm : Mem w (T.ctx Q)) (hf : Fits Q 0 none) (hQ : Q ≠ []) (hQl : Q.length ≤ 1000) (hbag : BagAt w a (some top) n) (htop : T.topOf Q b0 = top)
    (hv : w.ownsRow base 60 2 v Q.length (cellsS (Q.map gstep).reverse)) :
    CallsIn Fence.wide 9 Try.prog 20 #[ptrV a, v, .agg #[.int .i64 x.1, .string x.2]] w (AddPost Q x a n w) := by
  obtain ⟨va, vl, vc, rfl⟩ : ∃ va vl vc, v = .slice va vl vc := by
    rcases hv.2 with ⟨rfl, h⟩ | ⟨g, cap, _, rfl, _⟩
    · exact ⟨_, _, _, rfl⟩
    · exact ⟨_, _, _, rfl⟩
  have hfn : ∀ f, Fence.wide.fn f := fun _ => trivial
  unfold ptrV
  refine callsIn_of_wp_marks Try.func20 rfl trivial ?_ rfl
  simp only [Try.ntmps20, List.size_toArray, List.length_cons, List.length_nil, Nat.reduceAdd, Nat.reduceSub, Array.replicate_succ, Array.replicate_zero, List.push_toArray, List.append_toArray, List.nil_append, List.cons_append]
  gi_wp2_with (gi_at_call 32; refine (back_in Fence.wide _ trivial rfl _ ⟨_, _, _, rfl⟩ _).mono ?_; rintro e w' ⟨rfl, rfl⟩)
  obtain ⟨W0, hW0⟩ : ∃ W0, ((w.alloc (.cells #[.int .i64 x.1, .string x.2] 62)).alloc (.cells #[.pointer none] 40)).alloc (.cells #[.slice va vl vc] 56) = W0 := ⟨_, rfl⟩
  have hs0 : W0.heap.size = w.heap.size + 3 := by rw [← hW0]; simp
  have hBW : Below w.heap.size w W0 := by
    rw [← hW0]
    exact (((Below.refl _ w).alloc (Nat.le_refl _) _).alloc (by simp) _).alloc (by simp; omega) _
  have hx0 : W0.heap[w.heap.size]? = some (.cells #[.int .i64 x.1, .string x.2] 62 (0, 0)) := by
    rw [← hW0]
    exact (Below.heap_alloc _ _ _ (by simp; omega)).trans ((Below.heap_alloc _ _ _ (by simp)).trans (heap_alloc_new w _))
  have hr0 : Boxed W0 (w.heap.size + 1) 40 (.pointer none) := by
    rw [← hW0]
    have := Boxed.new (w.alloc (.cells #[.int .i64 x.1, .string x.2] 62)) 40 (.pointer none)
    rw [World.size_alloc] at this
    exact this.alloc _
  have hs2 : Boxed W0 (w.heap.size + 2) 56 (.slice va vl vc) := by
    rw [← hW0]
    have := Boxed.new ((w.alloc (.cells #[.int .i64 x.1, .string x.2] 62)).alloc (.cells #[.pointer none] 40)) 56 (.slice va vl vc)
    simp only [World.size_alloc] at this
    exact this
  have hv0 : W0.ownsRow base 60 2 (.slice va vl vc) Q.length (cellsS (Q.map gstep).reverse) := by rw [← hW0]; exact ((hv.alloc _).alloc _).alloc _
  have hm0 : Mem W0 (T.ctx Q) := hm.kept fun r hr k hk => hBW.block k ((hm.ok r hr).blk k hk)
  have hb0 : BagAt W0 a (some top) n := (hBW.block a (Array.getElem?_eq_some_iff.1 hbag).1).trans hbag
  have halt : a < w.heap.size := (Array.getElem?_eq_some_iff.1 hbag).1
  have hkinds : ∀ b, b = w.heap.size + 2 ∨ (Value.slice va vl vc).ownBlock = some b → ∃ c t, W0.heap[b]? = some (.cells c t (0, 0)) ∧ (t = 60 ∨ t = 56) := fun b hb => by
    rcases hb with rfl | hb
    · exact ⟨_, _, hs2, .inr rfl⟩
    · rcases hv0.2 with ⟨he, _⟩ | ⟨g, cap, cur, he, _, hg, _⟩
      · rw [he] at hb; simp [Value.ownBlock] at hb
      · rw [he] at hb
        obtain rfl : g = b := by simpa [Value.ownBlock] using hb
        exact ⟨_, _, hg, .inl rfl⟩
  have hcells : ∀ b, b = w.heap.size + 2 ∨ (Value.slice va vl vc).ownBlock = some b → ∃ c t f, W0.heap[b]? = some (.cells c t f) := fun b hb => by obtain ⟨c, t, h, _⟩ := hkinds b hb; exact ⟨c, t, _, h⟩
  have hlen : ((Q.map gstep).reverse).length = Q.length := by simp
  have hrow0 := hv0
  rw [← hlen] at hrow0
  have hnx : ∀ r, r ∈ T.ctx Q → w.heap.size ∉ r.blocks ∧ (w.heap.size + 1) ∉ r.blocks := fun r hr => ⟨fun hk => by have := (hm.ok r hr).blk _ hk; omega, fun hk => by have := (hm.ok r hr).blk _ hk; omega⟩
  have hI0 : AddInv Q x a top n W0 w.heap.size (w.heap.size + 1) (w.heap.size + 2) (.slice va vl vc) 0 W0 :=
    ⟨SameV.refl _ _ _, x, none, ⟨Grew.start _ _ (by simpa [T.hrecs] using hm0) (fun r hr k hk => .inl ⟨r, by simpa [T.hrecs] using hr, hk⟩), hx0, hr0, hf, rfl, hb0, fun c d hcd _ => by cases hcd⟩⟩
  rw [hW0]
  have hst := back_steps Fence.wide 8 (by trivial) rfl (by decide) (w.heap.size + 2) (Q.map gstep).reverse (.slice va vl vc) base (by rw [hlen]; omega) W0 hs2.cell hrow0
  rw [hlen] at hst
  refine wpIn_rangeFunc_steps rfl (by decide) (gf := 38) (lb := #[.pointer (some ⟨w.heap.size + 2, 0, none⟩)]) rfl trivial (enters_of Try.func38 (by kernel_rfl) rfl)
    hst SameV.trans (fun W l o o' hl _ _ _ b hb => World.putObj_heap_other (by obtain ⟨c, t, h, _⟩ := hkinds b hb; have := (Array.getElem?_eq_some_iff.1 h).1; omega)) (Below.refl _ _) (fun _ => rfl)
    (AddInv Q x a top n W0 w.heap.size (w.heap.size + 1) (w.heap.size + 2) (.slice va vl vc)) (AddEx Q x a top n W0 w.heap.size (w.heap.size + 1)) (addI_own hcells) (fun c => addE_own c) hI0
    (AddAx Q x a va vl vc w.heap.size) (fun k a' => addA_own k a') ?assign ?body ?done ?stop
  case assign =>
    intro l k W K hI hk hK
    obtain ⟨f, hf1⟩ : ∃ f, Q[k]? = some f := ⟨_, List.getElem?_eq_getElem hk⟩
    have henc : backEnc (Q.map gstep).reverse k = #[.int .i64 ((Q.length : Int) - 1 - k), .agg #[.pointer (some ⟨f.1.r.b, 0, none⟩), .int .i64 (f.2 : Int)]] := by
      unfold backEnc
      rw [hlen, List.reverse_reverse, List.getD_eq_getElem?_getD, List.getElem?_map, hf1]
      rfl
    rw [henc]
    have hz : W0.heap.size ≤ W.heap.size := by obtain ⟨_, y, h, hA⟩ := hI; exact hA.g.only.size
    have HK := Lib.hid (hK _ _ ((KeepsOthers.alloc W _).from _) (fun b hb => Below.heap_alloc W _ b (by obtain ⟨c, t, h, _⟩ := hkinds b hb; have := (Array.getElem?_eq_some_iff.1 h).1; omega)) (addI_alloc hcells hI _) ⟨W.heap.size, f, hf1, by omega, heap_alloc_new W _, rfl⟩)
    clear hK henc hI hst
    gi_wp2
    exact HK.out
  case body =>
    rintro l k a' W hl hrec ⟨hS, y, h, hA⟩ ⟨Bx, f, hf1, hBx, hbx, rfl⟩ hk
    have hQk : Q.drop k = f :: Q.drop (k + 1) := by
      rw [List.drop_eq_getElem_cons hk]
      rw [List.getElem?_eq_getElem hk] at hf1
      cases hf1; rfl
    have hfit := hA.fits
    unfold Fits at hfit
    rw [hQk] at hfit
    obtain ⟨hHF, hp, h1, h7, h3, hch⟩ := hfit
    have hok : Ok W f.1.r := hA.g.mem.ok _ (by rw [hQk]; simp [T.ctx])
    have hz : W0.heap.size ≤ W.heap.size := hA.g.only.size
    have t0 : W.cell? ⟨Bx, 0, none⟩ = some (.pointer (some ⟨f.1.r.b, 0, none⟩)) := by rw [cell_of_row W _ 0 _ _ _ hbx]; rfl
    have t1 : W.cell? ⟨Bx, 1, none⟩ = some (.int .i64 (f.2 : Int)) := by rw [cell_of_row W _ 1 _ _ _ hbx]; rfl
    have x0 : W.cell? ⟨w.heap.size, 0, none⟩ = some (.int .i64 y.1) := by rw [cell_of_row W _ 0 _ _ _ hA.xb]; rfl
    have x1 : W.cell? ⟨w.heap.size, 1, none⟩ = some (.string y.2) := by rw [cell_of_row W _ 1 _ _ _ hA.xb]; rfl
    obtain ⟨pv, hpv⟩ : ∃ pv, (T.hptr h).map (fun b => (⟨b, 0, none⟩ : Addr)) = pv := ⟨_, rfl⟩
    have y0 : W.cell? ⟨w.heap.size + 1, 0, none⟩ = some (.pointer pv) := by rw [← hpv]; exact hA.rb.cell
    have cI := insert_any f k h y W hok hHF hp h7 (.pointer pv) (by rw [hpv])
    unfold ptrV at cI
    have hBxn : Bx ∉ f.1.r.blocks := fun hh => by
      obtain ⟨c2, t2, h2, ht2⟩ := hok.cells Bx hh
      rw [hbx] at h2
      cases h2
      rcases ht2 with e | e | e <;> cases e
    have hlW := (Array.getElem?_eq_some_iff.1 hbx).1
    have HI : Hid (∀ W1 r', Turned W f.1.r W1 r' → r'.items.length = f.1.r.items.length + 1 → W1.heap[Bx]? = some (.cells #[.pointer (some ⟨f.1.r.b, 0, none⟩), .int .i64 (f.2 : Int)] 60 (0, 0)) ∧ W1.cell? ⟨Bx, 0, none⟩ = some (.pointer (some ⟨f.1.r.b, 0, none⟩)) ∧ W1.cell? ⟨f.1.r.b, 0, none⟩ = some (.slice (some ⟨r'.g, 0, none⟩) (f.1.r.items.length + 1) r'.cap)) := fun W1 r' hT hlr => by
      have e := (hT.only.block Bx hlW hBxn).trans hbx
      refine ⟨e, by rw [cell_of_row W1 _ 0 _ _ _ e]; rfl, ?_⟩
      have := hT.ok.c0
      rw [hT.b, Rec.iv, hlr] at this
      exact this
    have HA := Lib.hid hA
    have HQ := Lib.hid hQk
    have HS := Lib.hid hS
    have HOK := Lib.hid hok
    have HRC := Lib.hid hrec
    have HPV := Lib.hid hpv
    have HCH := Lib.hid hch
    have HST := Lib.hid hst
    have HFK := Lib.hid hf1
    clear hA hQk hS hok hrec hpv hch hst hbx hf1 hQ hHF h3 hf
    by_cases hle : f.1.r.items.length + 1 ≤ 7
    · gi_wp2_with (gi_at_call 33; refine (CallsIn.inRound l (callsIn_wide.2 cI)).mono ?_; rintro e W1 ⟨rfl, r', hT, hi, hkk, hv'⟩; have HG := Lib.hid (grown_step HA.out HQ.out hT hi hkk hv'); obtain ⟨_, u0, u1⟩ := HI.out W1 r' hT HG.out.2.2.2; have HT := Lib.hid hT; clear hT hi hkk hv')
      obtain ⟨g1, g2, g3, g4⟩ := HG.out
      have hon : Only (fun b => b ∈ f.1.r.blocks ∨ Two w.heap.size (w.heap.size + 1) b) W W1 := HT.out.only.mono (fun _ _ hh => .inl hh)
      obtain ⟨k1, k2⟩ := round_keeps HA.out HS.out HOK.out hon hkinds
      have hgr : (T.grow f h r').r = r' := T.grow_r f h r'
      obtain ⟨ad, at1⟩ := added_of HA.out HQ.out g1 (by rw [hgr]; exact HT.out.b) g2 g3 (by rw [hgr]; exact g4) (by rw [hgr]; omega)
      refine ⟨k1, rfl, ?_, T.plug (Q.drop (k + 1)) (T.grow f h r'), ad, ?_⟩
      · have hh := HA.out.bag
        refine (HT.out.only.block a (Array.getElem?_eq_some_iff.1 hh).1 (fun hc => ?_)).trans hh
        obtain ⟨c2, t2, h2, ht2⟩ := HOK.out.cells a hc
        unfold BagAt at hh
        rw [hh] at h2
        cases h2
        rcases ht2 with e | e | e <;> cases e
      · rw [at1, topOf_drop Q b0 k f _ HQ.out, htop]
    · have h8 : f.1.r.items.length = 7 := by omega
      have hfm : f.1.r ∈ T.ctx Q := ctx_mem Q f (List.mem_of_getElem? (HFK.out))
      have hbxn := (hnx _ hfm).1
      have hbrn := (hnx _ hfm).2
      have HP : Hid (∀ W1 r', Turned W f.1.r W1 r' → r'.items.length = f.1.r.items.length + 1 → T.wf k (T.grow f h r') → Calls Try.prog 34 #[.pointer (some ⟨f.1.r.b, 0, none⟩)] W1 fun e w' => ∃ x r1 rr, e = .returned (.tuple #[.agg #[.int .i64 x.1, .string x.2], .pointer (some ⟨rr.b, 0, none⟩)]) ∧ Parted W1 r' x w' r1 rr) := fun W1 r' hT hlr hw => by
        have hgr : (T.grow f h r').r = r' := T.grow_r f h r'
        have := part_any k (T.grow f h r') W1 (by rw [hgr]; exact hT.ok) hw (by rw [hgr]; omega)
        rw [hgr, hT.b] at this
        exact this
      have HW : Hid (∀ W2, Only (fun b => b ∈ f.1.r.blocks) W W2 → (W2.heap[w.heap.size]? = some (.cells #[.int .i64 y.1, .string y.2] 62 (0, 0)) ∧ Boxed W2 (w.heap.size + 1) 40 (.pointer pv)) ∧ W2.cell? ⟨w.heap.size, 0, none⟩ = some (.int .i64 y.1) ∧ W2.cell? ⟨w.heap.size, 1, none⟩ = some (.string y.2) ∧ W2.cell? ⟨w.heap.size + 1, 0, none⟩ = some (.pointer pv) ∧ W2.frozen? ⟨w.heap.size, 0, none⟩ = false ∧ W2.frozen? ⟨w.heap.size, 1, none⟩ = false ∧ W2.frozen? ⟨w.heap.size + 1, 0, none⟩ = false) := fun W2 ho => by
        have e1 := (ho.block w.heap.size (by omega) hbxn).trans HA.out.xb
        have e2 := (ho.block (w.heap.size + 1) (by omega) hbrn).trans HA.out.rb
        rw [HPV.out] at e2
        exact ⟨⟨e1, e2⟩, by rw [cell_of_row W2 _ 0 _ _ _ e1]; rfl, by rw [cell_of_row W2 _ 1 _ _ _ e1]; rfl, by rw [cell_of_row W2 _ 0 _ _ _ e2]; rfl, by simp [World.frozen?, e1], by simp [World.frozen?, e1], by simp [World.frozen?, e2]⟩
      have H8 := Lib.hid h8
      clear h8 hfm hbxn hbrn
      gi_wp2_with (first | (gi_at_call 33; refine (CallsIn.inRound l (callsIn_wide.2 cI)).mono ?_; rintro e W1 ⟨rfl, r', hT, hi, hkk, hv'⟩; have HG := Lib.hid (grown_step HA.out HQ.out hT hi hkk hv'); obtain ⟨u2, u0, u1⟩ := HI.out W1 r' hT HG.out.2.2.2; have cP := HP.out W1 r' hT HG.out.2.2.2 HG.out.1; have HT := Lib.hid hT; have HU2 := Lib.hid u2; clear hT hi hkk hv' u2) | (gi_at_call 34; refine (CallsIn.inRound l (callsIn_wide.2 cP)).mono ?_; rintro e W2 ⟨z, r1, rr, rfl, hP⟩; have HON := Lib.hid (HT.out.trans hP.left).only; obtain ⟨_, v0, v1, v2, v3, v4, v5⟩ := HW.out W2 HON.out; have HPP := Lib.hid hP; clear hP cP))
      obtain ⟨g1, g2, g3, g4⟩ := HG.out
      obtain ⟨⟨b1, b2⟩, _⟩ := HW.out W2 HON.out
      have hgr : (T.grow f h r').r = r' := T.grow_r f h r'
      have hb3 : BagAt (((W2.setCell ⟨w.heap.size, 0, none⟩ (.int .i64 z.1)).setCell ⟨w.heap.size, 1, none⟩ (.string z.2)).setCell ⟨w.heap.size + 1, 0, none⟩ (.pointer (some ⟨rr.b, 0, none⟩))) a (some top) n := by
        have hh := HA.out.bag
        refine (set_far _ _ _ _ _ (by omega)).trans ((set_far _ _ _ _ _ (by omega)).trans ((set_far _ _ _ _ _ (by omega)).trans ((HON.out.block a (Array.getElem?_eq_some_iff.1 hh).1 (fun hc => ?_)).trans hh)))
        obtain ⟨c2, t2, h2, ht2⟩ := HOK.out.cells a hc
        unfold BagAt at hh
        rw [hh] at h2
        cases h2
        rcases ht2 with e | e | e <;> cases e
      have hx3 : (((W2.setCell ⟨w.heap.size, 0, none⟩ (.int .i64 z.1)).setCell ⟨w.heap.size, 1, none⟩ (.string z.2)).setCell ⟨w.heap.size + 1, 0, none⟩ (.pointer (some ⟨rr.b, 0, none⟩))).heap[w.heap.size]? = some (.cells #[.int .i64 z.1, .string z.2] 62 (0, 0)) :=
        (set_far _ _ _ _ _ (by omega)).trans (set_node1 (set_node b1))
      have hr3 : Boxed (((W2.setCell ⟨w.heap.size, 0, none⟩ (.int .i64 z.1)).setCell ⟨w.heap.size, 1, none⟩ (.string z.2)).setCell ⟨w.heap.size + 1, 0, none⟩ (.pointer (some ⟨rr.b, 0, none⟩))) (w.heap.size + 1) 40 (.pointer (some ⟨rr.b, 0, none⟩)) :=
        Boxed.set _ (((set_far _ _ _ _ _ (by omega)).trans ((set_far _ _ _ _ _ (by omega)).trans b2) : Boxed _ _ _ (.pointer pv)))
      have hon3 : Only (Two w.heap.size (w.heap.size + 1)) W2 (((W2.setCell ⟨w.heap.size, 0, none⟩ (.int .i64 z.1)).setCell ⟨w.heap.size, 1, none⟩ (.string z.2)).setCell ⟨w.heap.size + 1, 0, none⟩ (.pointer (some ⟨rr.b, 0, none⟩))) :=
        Only.setCell (p := ⟨w.heap.size + 1, 0, none⟩) (Only.setCell (p := ⟨w.heap.size, 1, none⟩) (Only.setCell (p := ⟨w.heap.size, 0, none⟩) (Only.refl _ W2) (.inr (.inl rfl)) _) (.inr (.inl rfl)) _) (.inr (.inr rfl)) _
      obtain ⟨W3, hW3⟩ : ∃ W3, (((W2.setCell ⟨w.heap.size, 0, none⟩ (.int .i64 z.1)).setCell ⟨w.heap.size, 1, none⟩ (.string z.2)).setCell ⟨w.heap.size + 1, 0, none⟩ (.pointer (some ⟨rr.b, 0, none⟩))) = W3 := ⟨_, rfl⟩
      rw [hW3] at hb3 hx3 hr3 hon3 ⊢
      obtain ⟨k1, k2⟩ := round_keeps (B := W0.heap.size) HA.out HS.out HOK.out ((HON.out.mono (fun _ _ hh => .inl hh)).trans (hon3.mono (fun _ _ hh => .inr hh))) hkinds
      have hnext := next_round HA.out HQ.out g1 (by rw [hgr]; exact HT.out.b) g2 g3 (by rw [hgr, g4, H8.out]) (by rw [hgr]; exact HPP.out) hon3 (by omega) (by omega) hnx (by omega) (by omega) hx3 hr3 hb3 (by rw [topOf_drop Q b0 k f _ HQ.out, htop])
      obtain ⟨h', hA'⟩ := hnext
      exact ⟨k1, k2, HS.out.trans k2, z, h', hA'⟩
  case done =>
    rintro D W hD ⟨hS, y, h, hA⟩ hKD
    have hdrop : Q.drop Q.length = [] := List.drop_length
    have hfit := hA.fits
    unfold Fits at hfit
    rw [hdrop] at hfit
    have hQl0 : Q.length ≠ 0 := fun hh => hQ (List.eq_nil_of_length_eq_zero hh)
    rcases hfit with h0 | ⟨A, C, rfl, ⟨d, hwA, hwC⟩, a3, a7, c3, c7⟩
    · exact absurd h0 hQl0
    · have hAt := hA.atop A C rfl hdrop
      have x0 : W.cell? ⟨w.heap.size, 0, none⟩ = some (.int .i64 y.1) := by rw [cell_of_row W _ 0 _ _ _ hA.xb]; rfl
      have x1 : W.cell? ⟨w.heap.size, 1, none⟩ = some (.string y.2) := by rw [cell_of_row W _ 1 _ _ _ hA.xb]; rfl
      have y0 : W.cell? ⟨w.heap.size + 1, 0, none⟩ = some (.pointer (some ⟨C.r.b, 0, none⟩)) := hA.rb.cell
      have z0 : W.cell? ⟨a, 0, none⟩ = some (.pointer (some ⟨top, 0, none⟩)) := by rw [cell_of_row W _ 0 _ _ _ hA.bag]; rfl
      have zf : W.frozen? ⟨a, 0, none⟩ = false := by have := hA.bag; unfold BagAt at this; simp [World.frozen?, this]
      have hz : W0.heap.size ≤ W.heap.size := hA.g.only.size
      have hz1 : w.heap.size + 1 < W.heap.size := by omega
      have hz2 : w.heap.size < W.heap.size := by omega
      have hz3 : a < W.heap.size := by omega
      have hz4 : a < W.heap.size + 1 := by omega
      have hz5 : a < W.heap.size + 1 + 1 := by omega
      have HA := Lib.hid hA
      have HD := Lib.hid hKD
      have HAT := Lib.hid hAt
      clear hA hKD hAt hS hst hf hQ hdrop
      gi_wp2
      gi_region
      all_goals gi_wp2
      all_goals
        obtain ⟨V, hV⟩ : ∃ V, W.setCell ⟨a, 0, none⟩ (.pointer (some ⟨W.heap.size + 1, 0, none⟩)) = V := ⟨_, rfl⟩
        have hVs : V.heap.size = W.heap.size := by rw [← hV, World.size_setCell]
        have hg0 := HA.out.g
        rw [List.drop_length] at hg0
        have hgV := hg0.setCell a 0 (.pointer (some ⟨W.heap.size + 1, 0, none⟩)) (.inr (.inl (.inr rfl))) (hg0.mem.not_in HA.out.bag (by decide) (by decide) (by decide))
        have hbV : BagAt V a (some (W.heap.size + 1)) n := by rw [← hV]; exact set_node HA.out.bag
        rw [hV] at hgV ⊢
        obtain ⟨W5, hW5⟩ : ∃ W5, (((V.alloc (.cells #[.int .i64 y.1, .string y.2] 62)).alloc (.cells #[.slice (some ⟨W.heap.size, 0, none⟩) 1 1, .slice (some ⟨W.heap.size + 1 + 1, 0, none⟩) 2 2] 55)).alloc (.cells #[.pointer (some ⟨top, 0, none⟩), .pointer (some ⟨C.r.b, 0, none⟩)] 40)).drew = W5 := ⟨_, rfl⟩
        obtain ⟨e1, _, _, e4, _⟩ := top_made V y top C.r.b W.heap.size hVs W5 hW5
        have hg2 := hgV.more e4 e1 (fun b hb => by
          rw [hVs]
          rcases (mem_blocks _ b).1 hb with rfl | rfl | ⟨p, hp, rfl⟩
          · exact Nat.le_succ _
          · exact Nat.le_refl _
          · cases hp; exact Nat.le_trans (Nat.le_succ _) (Nat.le_succ _))
        have hbb : BagAt W5 a (some (W.heap.size + 1)) n := (e4.block a (by omega) (fun h => h)).trans hbV
        have hDlt := (Array.getElem?_eq_some_iff.1 HD.out).1
        have hDa : D ≠ a := by omega
        have hD5 : W5.heap[D]? = some (.deferred (some [])) := (e4.block D (by omega) (fun h => h)).trans (by rw [← hV]; exact (set_far _ _ _ _ _ hDa).trans HD.out)
        rw [hW5]
        refine ⟨by simp, .inl ⟨_, _, rfl, run_takeDeferred hD5, ?_⟩⟩
        refine ⟨_, results_none rfl _ _ _, rfl, T.node { b := W.heap.size + 1, g := W.heap.size, cap := 1, items := [y], kv := some (W.heap.size + 1 + 1, 2), kids := [top, C.r.b] } [A, C], ?_, ?_⟩
        · exact (World.putObj_heap_other (fun h => hDa h.symm)).trans hbb
        · have hg3 := (Grew.ownFrom (B := W0.heap.size) (Nat.le_refl _) (fun _ : Unit => _)).putObj (s := ()) (.deferred none) hg2 hD hD5 rfl
          refine ⟨(hg3.perm ?_).back hBW (fun k hk => by rcases hk with rfl | rfl <;> omega), ⟨d + 1, rfl, ?_, rfl, ?_⟩, ?_, ?_, ?_⟩
          · rw [T.recs_eq]
            show (_ :: (T.ctx [] ++ (A.recs ++ C.recs))).Perm (_ :: [A, C].flatMap T.recs)
            simp only [T.ctx, List.nil_append, List.flatMap_cons, List.flatMap_nil, List.append_nil]
            exact List.Perm.refl _
          · show [top, C.r.b] = [A, C].map (fun k => k.r.b)
            rw [← HAT.out]; rfl
          · intro q hq
            simp only [T.ks, List.mem_cons, List.not_mem_nil, or_false] at hq
            rcases hq with rfl | rfl
            · exact ⟨hwA, a3, a7⟩
            · exact ⟨hwC, c3, c7⟩
          · show 1 ≤ [y].length
            simp
          · show [y].length ≤ 7
            simp
          · rw [T.inord_eq, ← HA.out.inord, List.drop_length]
            show T.inter [A.inord, C.inord] [y] = T.around [] (T.hin (some (A, C)) y)
            simp [T.inter, T.around, T.hin]
  case stop =>
    rintro D c k W hD hk hE hKD
    have HE := Lib.hid ((addE_own c).putObj (.deferred none) hE hD hKD rfl)
    obtain ⟨rfl, _⟩ := hE
    have HD := Lib.hid hKD
    clear hKD hst hf
    gi_wp2
    refine ⟨by simp, .inl ⟨_, _, rfl, run_takeDeferred HD.out, ?_⟩⟩
    obtain ⟨_, hb, t', hA, ht⟩ := HE.out
    refine ⟨_, results_none rfl _ _ _, rfl, t', by rw [ht]; exact hb, ⟨hA.g.back hBW (fun k hk => by rcases hk with rfl | rfl <;> omega), hA.wf, hA.lo, hA.hi, hA.inord⟩⟩

end Go.Proofs.Ytkhbfjncamobdaa.S
