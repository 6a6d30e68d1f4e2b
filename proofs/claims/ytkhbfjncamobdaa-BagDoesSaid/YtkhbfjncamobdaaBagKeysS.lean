/- numbers, Keys and Next: the numbers from one on, rising; those ahead of another one; the first of them. -/
import Derived.Maps.AppendAt
import Derived.Test.YtkhbfjncamobdaaBagWalkS
namespace Go.Proofs.Ytkhbfjncamobdaa.S
open Go.RowKit Go.Shelf
attribute [local go_sem] Oper.semAt_some
set_option linter.unusedVariables false

theorem numbers_in (qv : Option Addr) (from0 : Int) (n : Nat) (w : World) :
    CallsIn Fence.wide n Try.prog 37 #[.pointer qv, .int .i64 from0] w fun e w' => e = .returned (.func (.func 47) #[] #[.pointer (some ⟨w.heap.size, 0, none⟩), .pointer (some ⟨w.heap.size + 1, 0, none⟩)]) ∧
      (w.alloc (.cells #[.pointer qv] 40)).alloc (.cells #[.int .i64 from0] 2) = w' := by
  refine callsIn_of_wp Try.func37 rfl trivial ?_ rfl
  simp only [Try.ntmps37, List.size_toArray, List.length_cons, List.length_nil, Nat.reduceAdd, Nat.reduceSub, Array.replicate_succ, Array.replicate_zero, List.push_toArray, List.append_toArray, List.nil_append, List.cons_append]
  gi_wp2
  go_ret
  exact ⟨rfl, rfl⟩

def keyAt (K : List Int) (k : Nat) : Int := K.getD k 0
def keyEnc (K : List Int) (k : Nat) : Array Value := #[.int .i64 (keyAt K k)]

/-- the top of a bag: nothing, or a tree -/
def TopIs (w : World) (S : Nat → Prop) (qv : Option Addr) (xs : List It) : Prop :=
  (qv = none ∧ xs = []) ∨ ∃ t d, qv = some ⟨t.r.b, 0, none⟩ ∧ T.wf d t ∧ (∀ r, r ∈ t.recs → Ok w r) ∧ (∀ r, r ∈ t.recs → ∀ k, k ∈ r.blocks → S k) ∧ t.inord = xs

set_option maxRecDepth 100000 in
set_option maxHeartbeats 1000000 in
theorem numbers_steps (n : Nat) (S : Nat → Prop) (bn bf : Nat) (qv : Option Addr) (from0 : Int) (xs : List It) (w : World) (hS : ∀ k, S k → k < w.heap.size) (hbn : S bn) (hbf : S bf) (hcn : w.cell? ⟨bn, 0, none⟩ = some (.pointer qv)) (hcf : w.cell? ⟨bf, 0, none⟩ = some (.int .i64 from0)) (ht : TopIs w S qv xs) (hr : T.Rise xs) :
    SeqSteps Fence.wide n Try.prog 47 #[.pointer (some ⟨bn, 0, none⟩), .pointer (some ⟨bf, 0, none⟩)] (keyEnc (T.vis from0 xs)) (SameS S) (T.vis from0 xs).length w := fun l J Jx W hW _ _ hY h0 => by
  have hsame : SameS S w W := fun b hb => hW.block b (hS b hb)
  have cn : W.cell? ⟨bn, 0, none⟩ = some (.pointer qv) := (World.cell?_of_block (w := w) (hsame bn hbn)).trans hcn
  have cf : W.cell? ⟨bf, 0, none⟩ = some (.int .i64 from0) := (World.cell?_of_block (w := w) (hsame bf hbf)).trans hcf
  have hdd : ∀ k : Nat, (Fence.wide.depth.isSome = true → 1 ≤ k) := fun k h => by cases h
  have hfn : ∀ f, Fence.wide.fn f := fun _ => trivial
  have cW : CallsIn Fence.wide (n - 1) Try.prog 48 #[.pointer qv, .int .i64 from0, .func (.yield l) #[] #[]] W (WalkPost S (T.vis from0 xs) J Jx (T.vis from0 xs).length W) := by
    rcases ht with ⟨rfl, rfl⟩ | ⟨t, d, rfl, hw, hok, hF, rfl⟩
    · exact walk_none (n - 1) l S _ J Jx from0 0 W h0
    · have := walk_in l S (T.vis from0 t.inord) J Jx from0 (fun m k W1 hj hk => yield_any rfl m (hY k W1 hj hk)) d t (n - 1) 0 W hw (fun r hr => hsame.ok (hok r hr) (hF r hr)) hF hr (by simp) h0
      rw [Nat.zero_add] at this
      exact this
  clear hY hsame ht h0
  refine callsIn_of_wp Try.func47 rfl trivial ?_ rfl
  simp only [Try.ntmps47, List.size_toArray, List.length_cons, List.length_nil, Nat.reduceAdd, Nat.reduceSub, Array.replicate_succ, Array.replicate_zero, List.push_toArray, List.append_toArray, List.nil_append, List.cons_append]
  gi_wp2_with ((try refine ⟨hdd _, ?_⟩); gi_at_call 48; refine cW.mono ?_; clear cW; rintro e W1 ⟨b, rfl, hb⟩)
  go_end0
  refine ⟨⟨_, rfl⟩, ?_⟩
  rcases hb.out with ⟨rfl, hJ1, _⟩ | ⟨rfl, k, hk, hx⟩
  · exact .inl hJ1
  · exact .inr ⟨k, hk, hx⟩

def intsOf (l : List Int) : List Value := l.map (Value.int .i64)
theorem infoInt : (Try.prog.info? 2).map (fun i => (i.zero, i.size, i.bytes)) = some (some (.int .i64 0), 1, 8) := by kernel_rfl

/-- between two rounds of Keys -/
structure KeysI (K : List Int) (to0 : Int) (w W0 : World) (k : Nat) (W : World) : Prop where
  keys : ∃ v, Boxed W (w.heap.size + 1) 69 v ∧ W.ownsRow W0.heap.size 2 1 v k (intsOf (K.take k))
  to_ : Boxed W w.heap.size 2 (.int .i64 to0)
  below : Below w.heap.size w W
  size : W0.heap.size ≤ W.heap.size
  low : ∀ j, j < k → keyAt K j < to0
def KeysX (K : List Int) (to0 : Int) (w W0 : World) (c : Code) (k : Nat) (W : World) : Prop := c = .exit 0 ∧ KeysI K to0 w W0 k W ∧ to0 ≤ keyAt K k
theorem keysI_own {K : List Int} {to0 : Int} {w W0 : World} (hz : w.heap.size ≤ W0.heap.size) : OwnFrom W0.heap.size (KeysI K to0 w W0) := fun k W W' row h hg hr => by
  obtain ⟨v, hv, hrow⟩ := h.keys
  refine ⟨⟨v, kept_cells hv hg hr, hrow.kept hg ?_⟩, kept_cells h.to_ hg hr, h.below.grown hg h.below.size (fun r e => Nat.le_trans hz (hr r e).1), Nat.le_trans h.size hg.size, h.low⟩
  rcases hrow.2 with ⟨rfl, _⟩ | ⟨g, cap, cur, rfl, _, hgb, _⟩
  · exact .inl rfl
  · refine .inr fun e' => ?_
    obtain ⟨_, o, ho, hc⟩ := hr g (by simpa [Value.ownBlock] using e'.symm)
    rw [hgb] at ho; cases ho; cases hc

def KeysPost (ks : List Int) (w : World) (e : Ending) (W : World) : Prop := ∃ v, e = .returned v ∧ W.ownsRow w.heap.size 2 1 v ks.length (intsOf ks) ∧ Below w.heap.size w W

theorem base_less {w : World} {base base' n size : Nat} {e : TypeId} {v : Value} {xs : List Value} (hb : base' ≤ base) (h : w.ownsRow base e size v n xs) : w.ownsRow base' e size v n xs :=
  ⟨h.1, h.2.imp id (fun ⟨g, cap, cur, a, b, c⟩ => ⟨g, cap, cur, a, Nat.le_trans hb b, c⟩)⟩

theorem filter_all (K : List Int) (to0 : Int) (h : ∀ j, j < K.length → keyAt K j < to0) : K.filter (fun x => decide (x < to0)) = K := List.filter_eq_self.2 fun x hx => by
  obtain ⟨j, hj, rfl⟩ := List.getElem_of_mem hx
  have := h j hj
  rw [keyAt, List.getD_eq_getElem?_getD, List.getElem?_eq_getElem hj] at this
  simpa using this
theorem filter_cut (K : List Int) (to0 : Int) (k : Nat) (hk : k < K.length) (hs : K.Pairwise (· < ·)) (h : ∀ j, j < k → keyAt K j < to0) (hx : to0 ≤ keyAt K k) : K.filter (fun x => decide (x < to0)) = K.take k := by
  conv => lhs; rw [← List.take_append_drop k K]
  rw [List.filter_append]
  have h1 : (K.take k).filter (fun x => decide (x < to0)) = K.take k := List.filter_eq_self.2 fun x hx' => by
    obtain ⟨j, hj, rfl⟩ := List.mem_take_iff_getElem.1 hx'
    have := h j (by omega)
    rw [keyAt, List.getD_eq_getElem?_getD, List.getElem?_eq_getElem (by omega)] at this
    simpa using this
  have h2 : (K.drop k).filter (fun x => decide (x < to0)) = [] := List.filter_eq_nil_iff.2 fun x hx' => by
    rw [keyAt, List.getD_eq_getElem?_getD, List.getElem?_eq_getElem hk] at hx
    simp only [Option.getD_some] at hx
    have hd : (K.drop k).Pairwise (· < ·) := List.Pairwise.sublist (List.drop_sublist _ _) hs
    rw [List.drop_eq_getElem_cons hk] at hd hx'
    rcases List.mem_cons.1 hx' with rfl | hm
    · simp; omega
    · have := (List.pairwise_cons.1 hd).1 x hm
      simp; omega
  rw [h1, h2, List.append_nil]
theorem vis_rise (from0 : Int) (xs : List It) (h : T.Rise xs) : (T.vis from0 xs).Pairwise (· < ·) := by
  unfold T.vis
  exact List.pairwise_map.2 (List.Pairwise.sublist List.filter_sublist h)

set_option maxRecDepth 100000 in
set_option maxHeartbeats 4000000 in
theorem keys_in (from0 to0 : Int) (xs : List It) (K : List Int) (hK : T.vis from0 xs = K) (pv qv : Option Addr) (S : Nat → Prop) (w : World) (hS : ∀ k, S k → k < w.heap.size) (ht : TopIs w S qv xs) (hr : T.Rise xs) (hl : xs.length ≤ 1000)
    (cH : Calls Try.prog 17 #[.pointer pv] ((w.alloc (.cells #[.int .i64 to0] 2)).alloc (.cells #[.slice none 0 0] 69)) fun e w' => e = .returned (.pointer qv) ∧ (w.alloc (.cells #[.int .i64 to0] 2)).alloc (.cells #[.slice none 0 0] 69) = w') :
    CallsIn Fence.wide 9 Try.prog 24 #[.pointer pv, .int .i64 from0, .int .i64 to0] w (KeysPost (K.filter fun x => decide (x < to0)) w) := by
  have hfn : ∀ f, Fence.wide.fn f := fun _ => trivial
  refine callsIn_of_wp_marks Try.func24 rfl trivial ?_ rfl
  simp only [Try.ntmps24, List.size_toArray, List.length_cons, List.length_nil, Nat.reduceAdd, Nat.reduceSub, Array.replicate_succ, Array.replicate_zero, List.push_toArray, List.append_toArray, List.nil_append, List.cons_append]
  gi_wp2_with (first | (gi_at_call 17; refine (callsIn_wide.2 cH).mono ?_; rintro e w' ⟨rfl, rfl⟩) | (gi_at_call 37; refine (numbers_in _ _ _ _).mono ?_; rintro e w' ⟨rfl, rfl⟩))
  obtain ⟨W0, hW0⟩ : ∃ W0, (((w.alloc (.cells #[.int .i64 to0] 2)).alloc (.cells #[.slice none 0 0] 69)).alloc (.cells #[.pointer qv] 40)).alloc (.cells #[.int .i64 from0] 2) = W0 := ⟨_, rfl⟩
  have hs0 : W0.heap.size = w.heap.size + 4 := by rw [← hW0]; simp
  have hBW : Below w.heap.size w W0 := by
    rw [← hW0]
    exact ((((Below.refl _ w).alloc (Nat.le_refl _) _).alloc (by simp) _).alloc (by simp; omega) _).alloc (by simp; omega) _
  have ht0 : Boxed W0 w.heap.size 2 (.int .i64 to0) := by rw [← hW0]; exact (((Boxed.new _ _ _).alloc _).alloc _).alloc _
  have hk0 : Boxed W0 (w.heap.size + 1) 69 (.slice none 0 0) := by
    rw [← hW0]
    have := Boxed.new (w.alloc (.cells #[.int .i64 to0] 2)) 69 (.slice none 0 0)
    rw [World.size_alloc] at this
    exact (this.alloc _).alloc _
  have hn0 : Boxed W0 (w.heap.size + 1 + 1) 40 (.pointer qv) := by
    rw [← hW0]
    have := Boxed.new ((w.alloc (.cells #[.int .i64 to0] 2)).alloc (.cells #[.slice none 0 0] 69)) 40 (.pointer qv)
    simp only [World.size_alloc] at this
    exact this.alloc _
  have hf0 : Boxed W0 (w.heap.size + 1 + 1 + 1) 2 (.int .i64 from0) := by
    rw [← hW0]
    have := Boxed.new (((w.alloc (.cells #[.int .i64 to0] 2)).alloc (.cells #[.slice none 0 0] 69)).alloc (.cells #[.pointer qv] 40)) 2 (.int .i64 from0)
    simp only [World.size_alloc] at this
    exact this
  have HS0 := Lib.hid hs0
  have hs0a : w.heap.size + 4 ≤ W0.heap.size := by omega
  have hs0b : W0.heap.size ≤ w.heap.size + 4 := by omega
  have hS' : ∀ k, (S k ∨ k = w.heap.size + 1 + 1 ∨ k = w.heap.size + 1 + 1 + 1) → k < W0.heap.size := fun k hk => by
    rcases hk with hk | rfl | rfl
    · have := hS k hk; omega
    · omega
    · omega
  have ht' : TopIs W0 (fun k => S k ∨ k = w.heap.size + 1 + 1 ∨ k = w.heap.size + 1 + 1 + 1) qv xs := by
    rcases ht with h | ⟨t, d, h1, h2, h3, h4, h5⟩
    · exact .inl h
    · exact .inr ⟨t, d, h1, h2, fun r hr => (h3 r hr).below hBW, fun r hr k hk => .inl (h4 r hr k hk), h5⟩
  have hrise := vis_rise from0 xs hr
  have hKl : K.length ≤ 1000 := by rw [← hK]; unfold T.vis; rw [List.length_map]; exact Nat.le_trans (List.length_filter_le _ _) hl
  have hst := numbers_steps 8 _ _ _ qv from0 xs W0 hS' (.inr (.inl rfl)) (.inr (.inr rfl)) hn0.cell hf0.cell ht' hr
  rw [hK] at hst hrise
  clear hs0
  have hI0 : KeysI K to0 w W0 0 W0 := ⟨⟨_, hk0, World.ownsRow_nil _ _ _ _⟩, ht0, hBW, Nat.le_refl _, fun j hj => by omega⟩
  rw [hW0]
  obtain ⟨i0, hi, hz0, hz1, hz2⟩ := info_parts infoInt
  refine wpIn_rangeFunc_steps rfl (by decide) (gf := 47) (lb := #[.pointer (some ⟨w.heap.size + 1 + 1, 0, none⟩), .pointer (some ⟨w.heap.size + 1 + 1 + 1, 0, none⟩)]) rfl trivial (enters_of Try.func47 (by kernel_rfl) rfl)
    hst SameS.trans (fun W l o o' hl _ _ _ b hb => World.putObj_heap_other (fun e => by have := hS' b hb; omega)) (Below.refl _ _) (fun _ => rfl)
    (KeysI K to0 w W0) (KeysX K to0 w W0) (keysI_own (by omega)) (fun c k W W' row h hg hr => ⟨h.1, keysI_own (by omega) k W W' row h.2.1 hg hr, h.2.2⟩) hI0
    (fun k a' _ => a' = { tmps := #[.pointer pv, .int .i64 from0, .int .i64 to0, undef, undef, .pointer (some ⟨w.heap.size, 0, none⟩), .slice none 0 0, .pointer (some ⟨w.heap.size + 1, 0, none⟩), .int .i64 (keyAt K k), .pointer pv, .pointer qv, .int .i64 from0, .func (.func 47) #[] #[.pointer (some ⟨w.heap.size + 1 + 1, 0, none⟩), .pointer (some ⟨w.heap.size + 1 + 1 + 1, 0, none⟩)], .int .i64 (keyAt K k), undef, undef, undef, undef, undef, undef, undef, undef], defers := [] })
    (fun _ _ _ _ _ _ h _ _ => h) ?assign ?body ?done ?stop
  case assign =>
    intro l k W Q hI hk hQ
    have HQ := Lib.hid (hQ _ W (KeepsFrom.refl _ _) (SameS.refl _ _) hI rfl)
    unfold keyEnc
    clear hQ hI hst
    gi_wp2
    exact HQ.out
  case body =>
    rintro l k a' W hl hrec hI rfl hk
    obtain ⟨v, hv, hrow⟩ := hI.keys
    have cv := hv.cell
    have ct := hI.to_.cell
    have hzz := hI.size
    have hbz := hI.below.size
    by_cases hge : to0 ≤ keyAt K k
    · have HI := Lib.hid hI
      clear hI hst
      gi_wp2
      exact ⟨KeepsFrom.refl _ _, rfl, HI.out, hge⟩
    · have hlt2 : ¬ (keyAt K k ≥ to0) := hge
      have HI := Lib.hid hI
      clear hI hst
      gi_wp2_with (gi_at_builtin; refine wpListIn_append_own _ rfl _ _ 69 rfl W0.heap.size 2 i0 (.int .i64 0) 1 8 Try.underlying69 hi hz0 hz1 hz2 rfl (by decide) v k (intsOf (K.take k)) rfl (hrow.alloc _) ⟨W.heap.size, 0, none⟩ 1 1 [.int .i64 (keyAt K k)] rfl rfl (cell_one_new _ _ _) (by simp [Value.oneCell']) (by unfold maxLen; omega) (by omega) (by simp; omega) ?_; intro v' w1 hown' hgrow _; obtain ⟨g', cap', rfl⟩ := ownsRow_succ hown'; have hv1 := (hv.alloc _).kept hgrow (hv.not_row (by decide) hrow); have hc1 := hv1.cell; have hf1 := hv1.frozen)
      have hon : Only (fun b => v.ownBlock = some b ∨ b = w.heap.size + 1) W (w1.setCell ⟨w.heap.size + 1, 0, none⟩ (.slice (some ⟨g', 0, none⟩) (k + 1) cap')) :=
        Only.setCell (p := ⟨w.heap.size + 1, 0, none⟩) (((Only.refl _ W).alloc (.cells #[.int .i64 (keyAt K k)] 2)).grown hgrow (fun r e => .inr (.inl e))) (.inr (.inr rfl)) _
      have hlt3 : ∀ b, v.ownBlock = some b → W0.heap.size ≤ b := fun b hb => (hrow.lt b hb).1
      have hsv : SameS (fun k => S k ∨ k = w.heap.size + 1 + 1 ∨ k = w.heap.size + 1 + 1 + 1) W (w1.setCell ⟨w.heap.size + 1, 0, none⟩ (.slice (some ⟨g', 0, none⟩) (k + 1) cap')) := fun b hb => by
        have hb0 := hS' b hb
        refine hon.block b (by omega) fun hh => ?_
        rcases hh with hh | hh
        · have := hlt3 b hh; omega
        · rcases hb with hb | hb | hb
          · have := hS b hb; omega
          · omega
          · omega
      have hgb := hown'.lt g' rfl
      refine ⟨keeps_of_only _ hon fun b hb => ?_, hsv, ⟨⟨_, hv1.set _, ?_⟩, ?_, ?_, ?_, ?_⟩⟩
      · rcases hb with hb | rfl
        · rcases hrow.2 with ⟨rfl, _⟩ | ⟨g, cap, cur, rfl, _, hgb2, _⟩
          · simp [Value.ownBlock] at hb
          · obtain rfl : g = b := by simpa [Value.ownBlock] using hb
            exact ⟨_, _, _, hgb2⟩
        · exact ⟨_, _, _, hv⟩
      · have hr2 := own_kept hown' (set_far w1 (w.heap.size + 1) 0 g' (.slice (some ⟨g', 0, none⟩) (k + 1) cap') (by omega))
        have he : intsOf (K.take (k + 1)) = intsOf (K.take k) ++ [.int .i64 (keyAt K k)] := by
          unfold intsOf
          rw [List.take_add_one, List.getElem?_eq_getElem hk, List.map_append]
          congr 1
          simp [keyAt, List.getD_eq_getElem?_getD, List.getElem?_eq_getElem hk]
        rw [he]
        exact hr2
      · exact (hon.block _ (by omega) (fun hh => by rcases hh with hh | hh
                                                    · have := hlt3 _ hh; omega
                                                    · omega)).trans HI.out.to_
      · exact HI.out.below.trans ((hon.below (n := w.heap.size) (by omega) (fun b hb => by rcases hb with hb | rfl
                                                                                           · have := hlt3 b hb; omega
                                                                                           · omega)))
      · exact Nat.le_trans HI.out.size hon.size
      · intro j hj
        rcases Nat.lt_or_ge j k with h | h
        · exact HI.out.low j h
        · obtain rfl : j = k := by omega
          omega
  case done =>
    rintro D W hD hI hKD
    obtain ⟨v, hv, hrow⟩ := hI.keys
    have cv := hv.cell
    have HI := Lib.hid hI
    have HF := Lib.hid (filter_all K to0 hI.low)
    have HROW := Lib.hid hrow
    clear hI hst hrow
    gi_wp2
    refine ⟨by simp, .inl ⟨_, _, rfl, run_takeDeferred hKD, ?_⟩⟩
    refine ⟨_, results_tmp rfl _ _ _, v, rfl, ?_, HI.out.below.trans (belowK_b (w := w) (Nat.le_refl _) W D _ _ (by omega) hKD rfl rfl)⟩
    rw [HF.out]
    have h1 := ownsRow_putObj HROW.out (.deferred none) hKD rfl
    rw [List.take_length] at h1
    exact base_less (by omega) h1
  case stop =>
    rintro D c k W hD hk ⟨rfl, hI, hx⟩ hKD
    obtain ⟨v, hv, hrow⟩ := hI.keys
    have cv := hv.cell
    have HI := Lib.hid hI
    have HF := Lib.hid (filter_cut K to0 k hk hrise hI.low hx)
    have HROW := Lib.hid hrow
    clear hI hst hrow
    gi_wp2
    refine ⟨by simp, .inl ⟨_, _, rfl, run_takeDeferred hKD, ?_⟩⟩
    refine ⟨_, results_tmp rfl _ _ _, v, rfl, ?_, HI.out.below.trans (belowK_b (w := w) (Nat.le_refl _) W D _ _ (by omega) hKD rfl rfl)⟩
    rw [HF.out]
    have h1 := ownsRow_putObj HROW.out (.deferred none) hKD rfl
    have hlk : (K.take k).length = k := by rw [List.length_take]; omega
    rw [hlk]
    exact base_less (by omega) h1

theorem top_of {w : World} {a : Nat} {F : Nat → Prop} {xs : List It} (h : BagIs w a F xs) : ∃ (S : Nat → Prop) (top : Option Nat) (n : Int), BagAt w a top n ∧ (∀ k, S k → k < w.heap.size) ∧ TopIs w S (top.map fun b => ⟨b, 0, none⟩) xs := by
  rcases h.tree with ⟨hb, rfl⟩ | ⟨t, d, hb, hm, hw, h1, h7, hx, hF⟩
  · exact ⟨fun _ => False, none, _, hb, fun _ h => h.elim, .inl ⟨rfl, rfl⟩⟩
  · exact ⟨fun k => ∃ r, r ∈ t.recs ∧ k ∈ r.blocks, some t.r.b, _, hb, fun k ⟨r, hr, hk⟩ => (hm.ok r hr).blk k hk, .inr ⟨t, d, rfl, hw, hm.ok, fun r hr k hk => ⟨r, hr, hk⟩, hx⟩⟩

/-- Keys, at whatever bag of no more than a thousand numbers -/
theorem keys_any (from0 to0 : Int) (xs : List It) (a : Nat) (F : Nat → Prop) (w : World) (h : BagIs w a F xs) (hl : xs.length ≤ 1000) :
    Calls Try.prog 24 #[ptrV a, .int .i64 from0, .int .i64 to0] w (KeysPost ((T.vis from0 xs).filter fun x => decide (x < to0)) w) := by
  obtain ⟨S, top, n, hb, hS, ht⟩ := top_of h
  have hB : Below w.heap.size w ((w.alloc (.cells #[.int .i64 to0] 2)).alloc (.cells #[.slice none 0 0] 69)) := ((Below.refl _ w).alloc (Nat.le_refl _) _).alloc (by simp) _
  exact callsIn_wide.1 (keys_in from0 to0 xs _ rfl (some ⟨a, 0, none⟩) _ S w hS ht h.rise hl (highest_some a top n _ ((hB.block a h.lt).trans hb)))
theorem keys_nil (from0 to0 : Int) (w : World) : Calls Try.prog 24 #[.pointer none, .int .i64 from0, .int .i64 to0] w (KeysPost [] w) :=
  callsIn_wide.1 (keys_in from0 to0 [] _ rfl none none (fun _ => False) w (fun _ h => h.elim) (.inl ⟨rfl, rfl⟩) List.Pairwise.nil (by simp) (highest_nil _))

/-- the first of the numbers, if there is one -/
def NextPost (K : List Int) (w : World) (e : Ending) (W : World) : Prop := e = .returned (.tuple #[.int .i64 (K.headD 0), .bool (!K.isEmpty)]) ∧ Below w.heap.size w W

structure NextI (w W0 : World) (W : World) : Prop where
  b0 : Boxed W w.heap.size 2 (.int .i64 0)
  b1 : Boxed W (w.heap.size + 1) 4 (.bool false)
  below : Below w.heap.size w W
  size : W0.heap.size ≤ W.heap.size
structure NextX (K : List Int) (w W0 : World) (c : Code) (k : Nat) (W : World) : Prop where
  c : c = .ret
  k : k = 0
  b0 : Boxed W w.heap.size 2 (.int .i64 (keyAt K 0))
  b1 : Boxed W (w.heap.size + 1) 4 (.bool true)
  below : Below w.heap.size w W

set_option maxRecDepth 100000 in
set_option maxHeartbeats 4000000 in
theorem next_in (from0 : Int) (xs : List It) (K : List Int) (hK : T.vis from0 xs = K) (pv qv : Option Addr) (S : Nat → Prop) (w : World) (hS : ∀ k, S k → k < w.heap.size) (ht : TopIs w S qv xs) (hr : T.Rise xs)
    (cH : Calls Try.prog 17 #[.pointer pv] ((w.alloc (.cells #[.int .i64 0] 2)).alloc (.cells #[.bool false] 4)) fun e w' => e = .returned (.pointer qv) ∧ (w.alloc (.cells #[.int .i64 0] 2)).alloc (.cells #[.bool false] 4) = w') :
    CallsIn Fence.wide 9 Try.prog 26 #[.pointer pv, .int .i64 from0] w (NextPost K w) := by
  have hfn : ∀ f, Fence.wide.fn f := fun _ => trivial
  refine callsIn_of_wp_marks Try.func26 rfl trivial ?_ rfl
  simp only [Try.ntmps26, List.size_toArray, List.length_cons, List.length_nil, Nat.reduceAdd, Nat.reduceSub, Array.replicate_succ, Array.replicate_zero, List.push_toArray, List.append_toArray, List.nil_append, List.cons_append]
  gi_wp2_with (first | (gi_at_call 17; refine (callsIn_wide.2 cH).mono ?_; rintro e w' ⟨rfl, rfl⟩) | (gi_at_call 37; refine (numbers_in _ _ _ _).mono ?_; rintro e w' ⟨rfl, rfl⟩))
  obtain ⟨W0, hW0⟩ : ∃ W0, (((w.alloc (.cells #[.int .i64 0] 2)).alloc (.cells #[.bool false] 4)).alloc (.cells #[.pointer qv] 40)).alloc (.cells #[.int .i64 from0] 2) = W0 := ⟨_, rfl⟩
  have hs0 : W0.heap.size = w.heap.size + 4 := by rw [← hW0]; simp
  have hBW : Below w.heap.size w W0 := by
    rw [← hW0]
    exact ((((Below.refl _ w).alloc (Nat.le_refl _) _).alloc (by simp) _).alloc (by simp; omega) _).alloc (by simp; omega) _
  have ht0 : Boxed W0 w.heap.size 2 (.int .i64 0) := by rw [← hW0]; exact (((Boxed.new _ _ _).alloc _).alloc _).alloc _
  have hk0 : Boxed W0 (w.heap.size + 1) 4 (.bool false) := by
    rw [← hW0]
    have := Boxed.new (w.alloc (.cells #[.int .i64 0] 2)) 4 (.bool false)
    rw [World.size_alloc] at this
    exact (this.alloc _).alloc _
  have hn0 : Boxed W0 (w.heap.size + 1 + 1) 40 (.pointer qv) := by
    rw [← hW0]
    have := Boxed.new ((w.alloc (.cells #[.int .i64 0] 2)).alloc (.cells #[.bool false] 4)) 40 (.pointer qv)
    simp only [World.size_alloc] at this
    exact this.alloc _
  have hf0 : Boxed W0 (w.heap.size + 1 + 1 + 1) 2 (.int .i64 from0) := by
    rw [← hW0]
    have := Boxed.new (((w.alloc (.cells #[.int .i64 0] 2)).alloc (.cells #[.bool false] 4)).alloc (.cells #[.pointer qv] 40)) 2 (.int .i64 from0)
    simp only [World.size_alloc] at this
    exact this
  have HS0 := Lib.hid hs0
  have hs0a : w.heap.size + 4 ≤ W0.heap.size := by omega
  have hs0b : W0.heap.size ≤ w.heap.size + 4 := by omega
  have hS' : ∀ k, (S k ∨ k = w.heap.size + 1 + 1 ∨ k = w.heap.size + 1 + 1 + 1) → k < W0.heap.size := fun k hk => by
    rcases hk with hk | rfl | rfl
    · have := hS k hk; omega
    · omega
    · omega
  have ht' : TopIs W0 (fun k => S k ∨ k = w.heap.size + 1 + 1 ∨ k = w.heap.size + 1 + 1 + 1) qv xs := by
    rcases ht with h | ⟨t, d, h1, h2, h3, h4, h5⟩
    · exact .inl h
    · exact .inr ⟨t, d, h1, h2, fun r hr => (h3 r hr).below hBW, fun r hr k hk => .inl (h4 r hr k hk), h5⟩
  have hst := numbers_steps 8 _ _ _ qv from0 xs W0 hS' (.inr (.inl rfl)) (.inr (.inr rfl)) hn0.cell hf0.cell ht' hr
  rw [hK] at hst
  clear hs0
  have hI0 : NextI w W0 W0 := ⟨ht0, hk0, hBW, Nat.le_refl _⟩
  rw [hW0]
  refine wpIn_rangeFunc_steps rfl (by decide) (gf := 47) (lb := #[.pointer (some ⟨w.heap.size + 1 + 1, 0, none⟩), .pointer (some ⟨w.heap.size + 1 + 1 + 1, 0, none⟩)]) rfl trivial (enters_of Try.func47 (by kernel_rfl) rfl)
    hst SameS.trans (fun W l o o' hl _ _ _ b hb => World.putObj_heap_other (fun e => by have := hS' b hb; omega)) (Below.refl _ _) (fun _ => rfl)
    (fun k W => k = 0 ∧ NextI w W0 W) (NextX K w W0) (fun k W W' row h hg hr => ⟨h.1, kept_cells h.2.b0 hg hr, kept_cells h.2.b1 hg hr, h.2.below.grown hg h.2.below.size (fun r e => by have := (hr r e).1; omega), Nat.le_trans h.2.size hg.size⟩)
    (fun c k W W' row h hg hr => ⟨h.c, h.k, kept_cells h.b0 hg hr, kept_cells h.b1 hg hr, h.below.grown hg h.below.size (fun r e => by have := (hr r e).1; omega)⟩) ⟨rfl, hI0⟩
    (fun k a' _ => a' = { tmps := #[.pointer pv, .int .i64 from0, undef, undef, .pointer (some ⟨w.heap.size, 0, none⟩), .pointer (some ⟨w.heap.size + 1, 0, none⟩), .int .i64 (keyAt K k), .pointer pv, .pointer qv, .int .i64 from0, .func (.func 47) #[] #[.pointer (some ⟨w.heap.size + 1 + 1, 0, none⟩), .pointer (some ⟨w.heap.size + 1 + 1 + 1, 0, none⟩)], .int .i64 (keyAt K k), undef], defers := [] })
    (fun _ _ _ _ _ _ h _ _ => h) ?assign ?body ?done ?stop
  case assign =>
    intro l k W Q hI hk hQ
    have HQ := Lib.hid (hQ _ W (KeepsFrom.refl _ _) (SameS.refl _ _) hI rfl)
    unfold keyEnc
    clear hQ hI hst
    gi_wp2
    exact HQ.out
  case body =>
    rintro l k a' W hl hrec ⟨rfl, hI⟩ rfl hk
    have c0 := hI.b0.cell
    have c1 := hI.b1.cell
    have f0 := hI.b0.frozen
    have f1 := hI.b1.frozen
    have HI := Lib.hid hI
    clear hI hst
    gi_wp2
    have hz := HI.out.below.size
    have hzz := HI.out.size
    refine ⟨((KeepsOthers.setCell W _ _).trans (KeepsOthers.setCell _ _ _)).from _, rfl, rfl, ?_, ?_, ?_⟩
    · exact Boxed.other (HI.out.b0.set _) (by omega) _
    · exact Boxed.set _ (Boxed.other HI.out.b1 (by omega) _)
    · exact (HI.out.below.setCell (p := ⟨w.heap.size, 0, none⟩) (Nat.le_refl _) _).setCell (p := ⟨w.heap.size + 1, 0, none⟩) (Nat.le_succ _) _
  case done =>
    rintro D W hD ⟨hk0, hI⟩ hKD
    have hK0 : K = [] := List.eq_nil_of_length_eq_zero hk0
    have c0 := hI.b0.cell
    have c1 := hI.b1.cell
    have f0 := hI.b0.frozen
    have f1 := hI.b1.frozen
    have HI := Lib.hid hI
    have HK0 := Lib.hid hK0
    clear hI hst hK0 hk0
    gi_wp2
    have hb0 : Boxed ((W.setCell ⟨w.heap.size, 0, none⟩ (.int .i64 0)).setCell ⟨w.heap.size + 1, 0, none⟩ (.bool false)) w.heap.size 2 (.int .i64 0) := Boxed.other (HI.out.b0.set _) (by omega) _
    have hb1 : Boxed ((W.setCell ⟨w.heap.size, 0, none⟩ (.int .i64 0)).setCell ⟨w.heap.size + 1, 0, none⟩ (.bool false)) (w.heap.size + 1) 4 (.bool false) := Boxed.set _ (Boxed.other HI.out.b1 (by omega) _)
    have hBL := (HI.out.below.setCell (p := ⟨w.heap.size, 0, none⟩) (Nat.le_refl _) (.int .i64 0)).setCell (p := ⟨w.heap.size + 1, 0, none⟩) (Nat.le_succ _) (.bool false)
    have hKD2 : ((W.setCell ⟨w.heap.size, 0, none⟩ (.int .i64 0)).setCell ⟨w.heap.size + 1, 0, none⟩ (.bool false)).heap[D]? = some (.deferred (some [])) := (set_far _ _ _ _ _ (by omega)).trans ((set_far _ _ _ _ _ (by omega)).trans hKD)
    obtain ⟨W5, hW5⟩ : ∃ W5, ((W.setCell ⟨w.heap.size, 0, none⟩ (.int .i64 0)).setCell ⟨w.heap.size + 1, 0, none⟩ (.bool false)) = W5 := ⟨_, rfl⟩
    rw [hW5] at hb0 hb1 hBL hKD2 ⊢
    refine ⟨by simp, .inl ⟨_, _, rfl, run_takeDeferred hKD2, ?_⟩⟩
    have hd0 : (W5.putObj D (.deferred none)).cell? ⟨w.heap.size, 0, none⟩ = some (.int .i64 0) := Boxed.cell (t := 2) ((World.putObj_heap_other (show w.heap.size ≠ D by omega)).trans hb0)
    have hd1 : (W5.putObj D (.deferred none)).cell? ⟨w.heap.size + 1, 0, none⟩ = some (.bool false) := Boxed.cell (t := 4) ((World.putObj_heap_other (show w.heap.size + 1 ≠ D by omega)).trans hb1)
    refine ⟨.tuple #[.int .i64 0, .bool false], by simp [results, Try.results26, go_sem, hd0, hd1], ?_, hBL.trans (belowK_b (w := w) (Nat.le_refl _) W5 D _ _ (by omega) hKD2 rfl rfl)⟩
    rw [HK0.out]
    rfl
  case stop =>
    rintro D c k W hD hk hX hKD
    obtain ⟨rfl, rfl, hb0, hb1, hBL⟩ := hX
    have HB := Lib.hid hBL
    have HB0 := Lib.hid hb0
    have HB1 := Lib.hid hb1
    clear hst hBL hb0 hb1
    gi_wp2
    refine ⟨by simp, .inl ⟨_, _, rfl, run_takeDeferred hKD, ?_⟩⟩
    have hd0 : (W.putObj D (.deferred none)).cell? ⟨w.heap.size, 0, none⟩ = some (.int .i64 (keyAt K 0)) := Boxed.cell (t := 2) ((World.putObj_heap_other (show w.heap.size ≠ D by omega)).trans HB0.out)
    have hd1 : (W.putObj D (.deferred none)).cell? ⟨w.heap.size + 1, 0, none⟩ = some (.bool true) := Boxed.cell (t := 4) ((World.putObj_heap_other (show w.heap.size + 1 ≠ D by omega)).trans HB1.out)
    refine ⟨.tuple #[.int .i64 (keyAt K 0), .bool true], by simp [results, Try.results26, go_sem, hd0, hd1], ?_, HB.out.trans (belowK_b (w := w) (Nat.le_refl _) W D _ _ (by omega) hKD rfl rfl)⟩
    cases K with
    | nil => simp at hk
    | cons x K => rfl

/-- Next, at whatever bag -/
theorem next_any (from0 : Int) (xs : List It) (a : Nat) (F : Nat → Prop) (w : World) (h : BagIs w a F xs) :
    Calls Try.prog 26 #[ptrV a, .int .i64 from0] w (NextPost (T.vis from0 xs) w) := by
  obtain ⟨S, top, n, hb, hS, ht⟩ := top_of h
  have hB : Below w.heap.size w ((w.alloc (.cells #[.int .i64 0] 2)).alloc (.cells #[.bool false] 4)) := ((Below.refl _ w).alloc (Nat.le_refl _) _).alloc (by simp) _
  exact callsIn_wide.1 (next_in from0 xs _ rfl (some ⟨a, 0, none⟩) _ S w hS ht h.rise (highest_some a top n _ ((hB.block a h.lt).trans hb)))
theorem next_nil (from0 : Int) (w : World) : Calls Try.prog 26 #[.pointer none, .int .i64 from0] w (NextPost [] w) :=
  callsIn_wide.1 (next_in from0 [] _ rfl none none (fun _ => False) w (fun _ h => h.elim) (.inl ⟨rfl, rfl⟩) List.Pairwise.nil (highest_nil _))

end Go.Proofs.Ytkhbfjncamobdaa.S
