/- Several texts in one, each under its own heading. -/
import Derived.Maps.AppendAt
import Derived.Test.YtdniakoedgohkaaPk07
import Derived.Test.YtdniakoedgohkaaPk06
/- takeEntries of the program: the first entries of a block, so many. -/
namespace Go.Proofs.Ytdniakoedgohkaa.Record
open Go.RowKit Go.Shelf
attribute [local go_sem] Oper.semAt_some
set_option linter.unusedVariables false

theorem own_kept {w w' : World} {base e size n g c : Nat} {xs : List Value} (h : w.ownsRow base e size (.slice (some ⟨g, 0, none⟩) n c) n xs) (hk : w'.heap[g]? = w.heap[g]?) : w'.ownsRow base e size (.slice (some ⟨g, 0, none⟩) n c) n xs := by
  refine ⟨h.1, ?_⟩
  rcases h.2 with ⟨h1, h2⟩ | ⟨g1, cap, cur, e1, hb, hg, h3, h4, h5, h6⟩
  · exact .inl ⟨h1, h2⟩
  · obtain ⟨rfl, rfl⟩ : g = g1 ∧ c = cap := by simpa using e1
    exact .inr ⟨g, c, cur, rfl, hb, hk.trans hg, h3, h4, h5, h6⟩
theorem set_far (w : World) (b i k : Nat) (u : Value) (h : k ≠ b) : (w.setCell ⟨b, i, none⟩ u).heap[k]? = w.heap[k]? := Below.heap_setCell _ _ _ _ h
theorem infoE : (Try.prog.info? 148).map (fun i => (i.zero, i.size, i.bytes)) = some (some (.agg #[.int .i64 0, .int .u32 0, .int .u32 0, .int .u32 0]), 4, 24) := by kernel_rfl
theorem news_new (w : World) (a b c d : Value) (t : TypeId) : ∀ j u, [a, b, c, d][j]? = some u → (w.alloc (.cells #[a, b, c, d] t)).cell? ((⟨w.heap.size, 0, none⟩ : Addr).add j) = some u := fun j u h => by
  have hn : (w.alloc (.cells #[a, b, c, d] t)).heap[w.heap.size]? = some (.cells #[a, b, c, d] t (0, 0)) := World.alloc_heap_new w _
  match j, h with
  | 0, h => rw [add_plain]; simp only [World.cell?, hn]; exact h
  | 1, h => rw [add_plain]; simp only [World.cell?, hn]; exact h
  | 2, h => rw [add_plain]; simp only [World.cell?, hn]; exact h
  | 3, h => rw [add_plain]; simp only [World.cell?, hn]; exact h
/-- the first k of all fifteen -/
def firstE (b : ByteArray) (k : Nat) : List E := (List.range k).map (entAt b)
theorem firstE_length (b : ByteArray) (k : Nat) : (firstE b k).length = k := by simp [firstE]
theorem firstE_succ (b : ByteArray) (k : Nat) : (firstE b (k + 1)).flatMap E.cells = (firstE b k).flatMap E.cells ++ (entAt b k).cells := by
  simp [firstE, List.range_succ]

/-- between two rounds -/
structure TakeI (b : ByteArray) (n : Nat) (w W0 : World) (k : Nat) (W : World) : Prop where
  got : ∃ v, Boxed W (w.heap.size + 1) 95 v ∧ W.ownsRow W0.heap.size 148 4 v k ((firstE b k).flatMap E.cells)
  cnt : Boxed W w.heap.size 3 (.int .i64 n)
  below : Below w.heap.size w W
  size : W0.heap.size ≤ W.heap.size
  low : k ≤ n
def TakeX (b : ByteArray) (n : Nat) (w W0 : World) (c : Code) (k : Nat) (W : World) : Prop := c = .exit 0 ∧ TakeI b n w W0 k W ∧ k = n
theorem takeI_own {b : ByteArray} {n : Nat} {w W0 : World} (hz : w.heap.size ≤ W0.heap.size) : OwnFrom W0.heap.size (TakeI b n w W0) := fun k W W' row h hg hr => by
  obtain ⟨v, hv, hrow⟩ := h.got
  refine ⟨⟨v, kept_cells hv hg hr, hrow.kept hg ?_⟩, kept_cells h.cnt hg hr, h.below.grown hg h.below.size (fun r e => Nat.le_trans hz (hr r e).1), Nat.le_trans h.size hg.size, h.low⟩
  rcases hrow.2 with ⟨rfl, _⟩ | ⟨g, cap, cur, rfl, _, hgb, _⟩
  · exact .inl rfl
  · refine .inr fun e' => ?_
    obtain ⟨_, o, ho, hc⟩ := hr g (by simpa [Value.ownBlock] using e'.symm)
    rw [hgb] at ho; cases ho; cases hc
def TakeA (b : ByteArray) (n : Nat) (W0 : World) (s : Nat) (T : Nat → Nat → Array Value) (k : Nat) (a' : Act) (W : World) : Prop :=
  ∃ Bx, W0.heap.size ≤ Bx ∧ At W Bx (entAt b k) ∧ a' = { tmps := T k Bx, defers := [] }
theorem takeA_own {b : ByteArray} {n : Nat} {W0 : World} {s B : Nat} {T : Nat → Nat → Array Value} (k : Nat) (a' : Act) : OwnFrom B (fun (_ : Unit) W => TakeA b n W0 s T k a' W) := fun _ W W' row hI hg hr => by
  obtain ⟨Bx, h1, h2, h3⟩ := hI
  exact ⟨Bx, h1, kept_cells h2 hg hr, h3⟩
/-- a slice that lies in newer blocks, if anywhere -/
def NewV (n : Nat) (v : Value) : Prop := ∀ g o k c, v = .slice (some ⟨g, o, none⟩) k c → n ≤ g
theorem NewV.of_own {W : World} {base e size n m : Nat} {v : Value} {xs : List Value} (h : W.ownsRow base e size v n xs) (hm : m ≤ base) : NewV m v := fun g o k c he => by
  subst he
  rcases h.2 with ⟨h0, _⟩ | ⟨g1, _, _, h0, hb, _⟩
  · cases h0
  · cases h0; omega
theorem NewV.mono {n m : Nat} {v : Value} (h : NewV n v) (hm : m ≤ n) : NewV m v := fun g o k c he => Nat.le_trans hm (h g o k c he)
def TakePost (b : ByteArray) (n : Nat) (w : World) (e : Ending) (W : World) : Prop := ∃ v, e = .returned v ∧ Ents W v (entsAt b n) ∧ NewV w.heap.size v ∧ Below w.heap.size w W

section
set_option maxRecDepth 100000
theorem entriesIn_in (n : Nat) (b : ByteArray) (w : World) :
    CallsIn Fence.wide n Try.prog 95 #[.string b] w fun e w' => e = .returned (.func (.func 106) #[] #[.pointer (some ⟨w.heap.size, 0, none⟩)]) ∧ w.alloc (.cells #[.string b] 9) = w' := by
  refine callsIn_of_wp Try.func95 rfl trivial ?_ rfl
  simp only [Try.ntmps95, List.size_toArray, List.length_cons, List.length_nil, Nat.reduceAdd, Nat.reduceSub, Array.replicate_succ, Array.replicate_zero, List.push_toArray, List.append_toArray, List.nil_append, List.cons_append]
  gi_wp2
  go_ret
  exact ⟨rfl, rfl⟩

set_option maxHeartbeats 4000000 in
theorem takeEntries_in (b : ByteArray) (n : Nat) (w : World) (hb : b.size = 512) (hn : n ≤ 255) :
    CallsIn Fence.wide 9 Try.prog 77 #[.string b, .int .i64 n] w (TakePost b n w) := by
  have hfn : ∀ f, Fence.wide.fn f := fun _ => trivial
  refine callsIn_of_wp_marks Try.func77 rfl trivial ?_ rfl
  simp only [Try.ntmps77, List.size_toArray, List.length_cons, List.length_nil, Nat.reduceAdd, Nat.reduceSub, Array.replicate_succ, Array.replicate_zero, List.push_toArray, List.append_toArray, List.nil_append, List.cons_append]
  gi_wp2
  apply wide_scope
  gi_wp2
  apply wide_label
  gi_wp2_with (gi_at_call 95; refine (entriesIn_in _ _ _).mono ?_; rintro e w' ⟨rfl, rfl⟩)
  obtain ⟨W0, hW0⟩ : ∃ W0, ((w.alloc (.cells #[.int .i64 n] 3)).alloc (.cells #[.slice none 0 0] 95)).alloc (.cells #[.string b] 9) = W0 := ⟨_, rfl⟩
  have hs0 : W0.heap.size = w.heap.size + 3 := by rw [← hW0]; simp
  have hBW : Below w.heap.size w W0 := by
    rw [← hW0]
    exact below_al (below_al (below_new w _) _) _
  have hc0 : Boxed W0 w.heap.size 3 (.int .i64 n) := by rw [← hW0]; exact ((Boxed.new _ _ _).alloc _).alloc _
  have hk0 : Boxed W0 (w.heap.size + 1) 95 (.slice none 0 0) := by
    rw [← hW0]
    have := Boxed.new (w.alloc (.cells #[.int .i64 n] 3)) 95 (.slice none 0 0)
    rw [World.size_alloc] at this
    exact this.alloc _
  have hx0 : Boxed W0 (w.heap.size + 1 + 1) 9 (.string b) := by
    rw [← hW0]
    have := Boxed.new ((w.alloc (.cells #[.int .i64 n] 3)).alloc (.cells #[.slice none 0 0] 95)) 9 (.string b)
    simp only [World.size_alloc] at this
    exact this
  have hst : SeqSteps Fence.wide 8 Try.prog 106 #[.pointer (some ⟨w.heap.size + 1 + 1, 0, none⟩)] (enc b) (Same [w.heap.size + 1 + 1]) 15 W0 := fun l J Jx W' hB hJ _ hY h0 =>
    ents1_in 8 (by decide) l _ b hb J Jx _ hJ hY W' ((hB.cell (p := ⟨w.heap.size + 1 + 1, 0, none⟩) hx0.lt).trans hx0.cell) h0
  have hI0 : TakeI b n w W0 0 W0 := ⟨⟨_, hk0, World.ownsRow_nil _ _ _ _⟩, hc0, hBW, Nat.le_refl _, Nat.zero_le _⟩
  rw [hW0]
  obtain ⟨i0, hi, hz0, hz1, hz2⟩ := info_parts infoE
  refine wpIn_rangeFunc_steps rfl (by decide) (gf := 106) (lb := #[.pointer (some ⟨w.heap.size + 1 + 1, 0, none⟩)]) rfl trivial (enters_of Try.func106 (by kernel_rfl) rfl)
    hst sameK_t (sameK_b (by simp; omega)) (Below.refl _ _) (fun _ => rfl)
    (TakeI b n w W0) (TakeX b n w W0) (takeI_own (by omega)) (fun c k W W' row h hg hr => ⟨h.1, takeI_own (by omega) k W W' row h.2.1 hg hr, h.2.2⟩) hI0
    (TakeA b n W0 w.heap.size (fun k Bx => #[.string b, .int .i64 n, undef, .pointer (some ⟨w.heap.size, 0, none⟩), .slice none 0 0, .pointer (some ⟨w.heap.size + 1, 0, none⟩), .pointer (some ⟨Bx, 0, none⟩), .string b, .func (.func 106) #[] #[.pointer (some ⟨w.heap.size + 1 + 1, 0, none⟩)], (entAt b k).val, undef, undef, undef, undef, undef, undef, undef, undef, undef])) (fun k a' => takeA_own (s := w.heap.size) k a') ?assign ?body ?done ?stop
  case assign =>
    intro l k W K hI hk hK
    have hz : W0.heap.size ≤ W.heap.size := hI.size
    have HK := Lib.hid (hK _ _ ((KeepsOthers.alloc W _).from _) (Same.below (below_new W _) (by intro x hx; simp at hx; omega)) (takeI_own (by omega) _ _ _ none hI (World.grownBy_alloc W _ _) (fun r e => by cases e)) ⟨W.heap.size, hz, At.new W (entAt b k), rfl⟩)
    unfold enc
    clear hK hI hst
    unfold boxE E.val at HK
    unfold E.val
    dsimp only at HK
    generalize entAt b k = y at HK ⊢
    obtain ⟨y0, y1, y2, y3⟩ := y
    dsimp only at HK ⊢
    gi_wp2
    exact HK.out
  case body =>
    rintro l k a' W hl hrec hI ⟨Bx, hBx, hX, rfl⟩ hk
    obtain ⟨v, hv, hrow⟩ := hI.got
    obtain ⟨ap, cp, rfl, HLI, hcp1, hcp2⟩ := lies_own hrow
    have cv := hv.cell
    have cn := hI.cnt.cell
    have hzz := hI.size
    have hbz := hI.below.size
    have hlow := hI.low
    obtain ⟨x0, x1, x2, x3⟩ := hX.c
    by_cases hkn : k = n
    · have HI := Lib.hid (show TakeX b n w W0 (.exit 0) k W from ⟨rfl, hI, hkn⟩)
      have hq : ((k : Int) == (n : Int)) = true := by simp [hkn]
      clear hI hst hX hrow hv hkn
      unfold E.val
      generalize entAt b k = y at x0 x1 x2 x3 ⊢
      obtain ⟨y0, y1, y2, y3⟩ := y
      dsimp only at x0 x1 x2 x3 ⊢
      gi_wp2
      exact ⟨KeepsFrom.refl _ _, HI.out⟩
    · have hq : ((k : Int) == (n : Int)) = false := by simp; omega
      have HI := Lib.hid hI
      have hnews : firstE b (k + 1) = firstE b (k + 1) := rfl
      have hsucc : (firstE b (k + 1)).flatMap E.cells = (firstE b k).flatMap E.cells ++ [.int .i64 (entAt b k).kind, .int .u32 (entAt b k).file, .int .u32 (entAt b k).index, .int .u32 (entAt b k).vbn] := firstE_succ b k
      clear hI hst hX
      unfold E.val
      generalize entAt b k = y at x0 x1 x2 x3 hsucc ⊢
      obtain ⟨y0, y1, y2, y3⟩ := y
      dsimp only at x0 x1 x2 x3 hsucc ⊢
      have HSUCC := Lib.hid hsucc
      clear hsucc hnews
      gi_wp2_with (gi_at_builtin; refine wpListIn_append_own _ rfl _ _ 95 rfl W0.heap.size 148 i0 (.agg #[.int .i64 0, .int .u32 0, .int .u32 0, .int .u32 0]) 4 24 Try.underlying95 hi hz0 hz1 hz2 rfl (by decide) (.slice ap k cp) k ((firstE b k).flatMap E.cells) rfl (hrow.alloc _) ⟨W.heap.size, 0, none⟩ 1 1 [.int .i64 y0, .int .u32 (y1 : Int), .int .u32 (y2 : Int), .int .u32 (y3 : Int)] rfl rfl (news_new _ _ _ _ _ _) (by simp [Value.oneCell']) (by unfold maxLen; omega) (by omega) (by simp; omega) ?_; intro v' w1 hown' hgrow _; obtain ⟨g', cap', rfl⟩ := ownsRow_succ hown'; have hv1 := (hv.alloc _).kept hgrow (hv.not_row (by decide) hrow); have hc1 := hv1.cell; have hf1 := hv1.frozen)
      have hon : Only (fun i => (Value.slice ap k cp).ownBlock = some i ∨ i = w.heap.size + 1) W (w1.setCell ⟨w.heap.size + 1, 0, none⟩ (.slice (some ⟨g', 0, none⟩) (k + 1) cap')) :=
        Only.setCell (p := ⟨w.heap.size + 1, 0, none⟩) (((Only.refl _ W).alloc (.cells #[.int .i64 y0, .int .u32 (y1 : Int), .int .u32 (y2 : Int), .int .u32 (y3 : Int)] 148)).grown hgrow (fun r e => .inr (.inl e))) (.inr (.inr rfl)) _
      have hlt3 : ∀ i, (Value.slice ap k cp).ownBlock = some i → W0.heap.size ≤ i := fun i hb => (hrow.lt i hb).1
      have hgb := hown'.lt g' rfl
      refine ⟨keeps_of_only _ hon fun i hb => ?_, fun i hb => ?_, ⟨⟨_, hv1.set _, ?_⟩, ?_, ?_, ?_, ?_⟩⟩
      · rcases hb with hb | rfl
        · rcases hrow.2 with ⟨h0, _⟩ | ⟨g, cap, cur, h0, _, hgb2, _⟩
          · rw [h0] at hb; simp [Value.ownBlock] at hb
          · rw [h0] at hb
            obtain rfl : g = i := by simpa [Value.ownBlock] using hb
            exact ⟨_, _, _, hgb2⟩
        · exact ⟨_, _, _, hv⟩
      · obtain rfl : i = w.heap.size + 1 + 1 := by simpa using hb
        refine hon.block _ (by omega) fun hh => ?_
        rcases hh with hh | hh
        · have := hlt3 _ hh; omega
        · omega
      · rw [HSUCC.out]
        exact own_kept hown' (set_far w1 (w.heap.size + 1) 0 g' (.slice (some ⟨g', 0, none⟩) (k + 1) cap') (by omega))
      · exact (hon.block _ (by omega) (fun hh => by rcases hh with hh | hh
                                                    · have := hlt3 _ hh; omega
                                                    · omega)).trans HI.out.cnt
      · exact HI.out.below.trans ((hon.below (n := w.heap.size) (by omega) (fun i hb => by rcases hb with hb | rfl
                                                                                           · have := hlt3 i hb; omega
                                                                                           · omega)))
      · exact Nat.le_trans HI.out.size hon.size
      · omega
  case done =>
    rintro D W hD hI hKD
    obtain ⟨v, hv, hrow⟩ := hI.got
    have cv := hv.cell
    have HI := Lib.hid hI
    have HROW := Lib.hid hrow
    have HE : Hid (entsAt b n = firstE b 15) := by
      have := hI.low
      unfold Hid entsAt firstE
      rw [show min n 15 = 15 by omega]
    clear hI hst hrow
    gi_wp2
    refine ⟨by simp, .inl ⟨_, _, rfl, run_takeDeferred hKD, ?_⟩⟩
    refine ⟨_, results_tmp rfl _ _ _, v, rfl, ?_, NewV.of_own HROW.out (by omega), HI.out.below.trans (belowK_b (w := w) (Nat.le_refl _) W D _ _ (by omega) hKD rfl rfl)⟩
    rw [HE.out]
    have h1 := Lies.own (ownsRow_putObj HROW.out (.deferred none) hKD rfl)
    unfold Ents
    rw [firstE_length]
    exact h1
  case stop =>
    rintro D c k W hD hk ⟨rfl, hI, hx⟩ hKD
    obtain ⟨v, hv, hrow⟩ := hI.got
    have cv := hv.cell
    have HI := Lib.hid hI
    have HROW := Lib.hid hrow
    have HE : Hid (entsAt b n = firstE b k) := by
      unfold Hid entsAt firstE
      rw [show min n 15 = k by omega]
    clear hI hst hrow
    gi_wp2
    refine ⟨by simp, .inl ⟨_, _, rfl, run_takeDeferred hKD, ?_⟩⟩
    refine ⟨_, results_tmp rfl _ _ _, v, rfl, ?_, NewV.of_own HROW.out (by omega), HI.out.below.trans (belowK_b (w := w) (Nat.le_refl _) W D _ _ (by omega) hKD rfl rfl)⟩
    rw [HE.out]
    have h1 := Lies.own (ownsRow_putObj HROW.out (.deferred none) hKD rfl)
    unfold Ents
    rw [firstE_length]
    exact h1

theorem takeEntries_any (b : ByteArray) (n : Nat) (w : World) (hb : b.size = 512) (hn : n ≤ 255) : Calls Try.prog 77 #[.string b, .int .i64 n] w (TakePost b n w) := callsIn_wide.1 (takeEntries_in b n w hb hn)
end
end Go.Proofs.Ytdniakoedgohkaa.Record
/- Decode of the program. -/
namespace Go.Proofs.Ytdniakoedgohkaa.Record
open Go.RowKit Go.Shelf
attribute [local go_sem] Oper.semAt_some
set_option linter.unusedVariables false

/-- a record is laid over another one, part by part -/
theorem RAt.put6 {W : World} {b : Nat} {s : R} {v0 : Value} (h : RAt W b s v0) (t : R) (v : Value) :
    (W.setCell ⟨b, 0, none⟩ (.int .u64 t.seq)).cell? ⟨b, 0, none⟩ = some (.int .u64 t.seq) ∧
    ((W.setCell ⟨b, 0, none⟩ (.int .u64 t.seq)).setCell ⟨b, 1, none⟩ (.int .u64 t.cp)).cell? ⟨b, 1, none⟩ = some (.int .u64 t.cp) ∧
    (((W.setCell ⟨b, 0, none⟩ (.int .u64 t.seq)).setCell ⟨b, 1, none⟩ (.int .u64 t.cp)).setCell ⟨b, 2, none⟩ (.bool t.ends)).cell? ⟨b, 2, none⟩ = some (.bool t.ends) ∧
    ((((W.setCell ⟨b, 0, none⟩ (.int .u64 t.seq)).setCell ⟨b, 1, none⟩ (.int .u64 t.cp)).setCell ⟨b, 2, none⟩ (.bool t.ends)).setCell ⟨b, 3, none⟩ (.bool t.sync)).cell? ⟨b, 3, none⟩ = some (.bool t.sync) ∧
    (((((W.setCell ⟨b, 0, none⟩ (.int .u64 t.seq)).setCell ⟨b, 1, none⟩ (.int .u64 t.cp)).setCell ⟨b, 2, none⟩ (.bool t.ends)).setCell ⟨b, 3, none⟩ (.bool t.sync)).setCell ⟨b, 4, none⟩ (.int .i64 t.next)).cell? ⟨b, 4, none⟩ = some (.int .i64 t.next) ∧
    ((((((W.setCell ⟨b, 0, none⟩ (.int .u64 t.seq)).setCell ⟨b, 1, none⟩ (.int .u64 t.cp)).setCell ⟨b, 2, none⟩ (.bool t.ends)).setCell ⟨b, 3, none⟩ (.bool t.sync)).setCell ⟨b, 4, none⟩ (.int .i64 t.next)).setCell ⟨b, 5, none⟩ v).cell? ⟨b, 5, none⟩ = some v ∧
    RAt ((((((W.setCell ⟨b, 0, none⟩ (.int .u64 t.seq)).setCell ⟨b, 1, none⟩ (.int .u64 t.cp)).setCell ⟨b, 2, none⟩ (.bool t.ends)).setCell ⟨b, 3, none⟩ (.bool t.sync)).setCell ⟨b, 4, none⟩ (.int .i64 t.next)).setCell ⟨b, 5, none⟩ v) b t v ∧
    Below b W ((((((W.setCell ⟨b, 0, none⟩ (.int .u64 t.seq)).setCell ⟨b, 1, none⟩ (.int .u64 t.cp)).setCell ⟨b, 2, none⟩ (.bool t.ends)).setCell ⟨b, 3, none⟩ (.bool t.sync)).setCell ⟨b, 4, none⟩ (.int .i64 t.next)).setCell ⟨b, 5, none⟩ v) := by
  unfold RAt at h
  have h0 := heap_setCell_same W b 0 _ _ (.int .u64 t.seq) h
  have h1 := heap_setCell_same _ b 1 _ _ (.int .u64 t.cp) h0
  have h2 := heap_setCell_same _ b 2 _ _ (.bool t.ends) h1
  have h3 := heap_setCell_same _ b 3 _ _ (.bool t.sync) h2
  have h4 := heap_setCell_same _ b 4 _ _ (.int .i64 t.next) h3
  have h5 := heap_setCell_same _ b 5 _ _ v h4
  refine ⟨by simp only [World.cell?, h0]; rfl, by simp only [World.cell?, h1]; rfl, by simp only [World.cell?, h2]; rfl, by simp only [World.cell?, h3]; rfl, by simp only [World.cell?, h4]; rfl, by simp only [World.cell?, h5]; rfl, h5, ?_⟩
  exact ((((((Below.refl b W).setCell (p := ⟨b, 0, none⟩) (Nat.le_refl _) _).setCell (p := ⟨b, 1, none⟩) (Nat.le_refl _) _).setCell (p := ⟨b, 2, none⟩) (Nat.le_refl _) _).setCell (p := ⟨b, 3, none⟩) (Nat.le_refl _) _).setCell (p := ⟨b, 4, none⟩) (Nat.le_refl _) _).setCell (p := ⟨b, 5, none⟩) (Nat.le_refl _) _
theorem put6_other (W : World) (b : Nat) (u0 u1 u2 u3 u4 u5 : Value) (j : Nat) (hj : j ≠ b) : ((((((W.setCell ⟨b, 0, none⟩ u0).setCell ⟨b, 1, none⟩ u1).setCell ⟨b, 2, none⟩ u2).setCell ⟨b, 3, none⟩ u3).setCell ⟨b, 4, none⟩ u4).setCell ⟨b, 5, none⟩ u5).heap[j]? = W.heap[j]? :=
  (Below.heap_setCell _ _ _ _ hj).trans ((Below.heap_setCell _ _ _ _ hj).trans ((Below.heap_setCell _ _ _ _ hj).trans ((Below.heap_setCell _ _ _ _ hj).trans ((Below.heap_setCell _ _ _ _ hj).trans (Below.heap_setCell _ _ _ _ hj)))))
/-- what Decode leaves -/
def DecPost (b : ByteArray) (w : World) (e : Ending) (W : World) : Prop := ∃ v, e = .returned (.tuple #[(decV b).val v, .int .i64 (decE b)]) ∧ Ents W v (decV b).l ∧ Below w.heap.size w W
/-- what Decode leaves; its entries lie in a block that is new -/
def DecPostN (b : ByteArray) (w : World) (e : Ending) (W : World) : Prop := ∃ v, e = .returned (.tuple #[(decV b).val v, .int .i64 (decE b)]) ∧ Ents W v (decV b).l ∧ NewV w.heap.size v ∧ Below w.heap.size w W
theorem dec_end {b : ByteArray} {w W : World} {r : R} {v : Value} {n : Int} (h : decV b = r) (h2 : decE b = n) (hL : Ents W v r.l) (hB : Below w.heap.size w W) (hN : NewV w.heap.size v) : DecPostN b w (.returned (.tuple #[r.val v, .int .i64 n])) W :=
  ⟨v, by rw [h, h2], by rw [h]; exact hL, hN, hB⟩
theorem newV_none (m : Nat) : NewV m (.slice none 0 0) := fun g o k c e => by cases e
theorem DecPostN.old {b : ByteArray} {w W : World} {e : Ending} (h : DecPostN b w e W) : DecPost b w e W := by
  obtain ⟨v, h1, h2, _, h3⟩ := h
  exact ⟨v, h1, h2, h3⟩
section
set_option maxRecDepth 100000
theorem results_rec {fn : Func} {r e : Tmp} (h : fn.results = #[.cell r 97, .tmp e]) (tmps : Array Value) (w : World) {b : Nat} {s : R} {v : Value} (hp : tmps.getD r undef = .pointer (some ⟨b, 0, none⟩)) (hA : RAt w b s v) :
    (results fn tmps).run Try.prog w = .ok (.tuple #[s.val v, tmps.getD e undef]) w := by
  obtain ⟨c0, c1, c2, c3, c4, c5⟩ := hA.c
  rw [Array.getD_eq_getD_getElem?] at hp
  simp [results, h, hp, go_sem, c0, c1, c2, c3, c4, c5]
  rfl
theorem decode_size (b : ByteArray) (w : World) (hs : b.size ≤ 281474976710656) (h : ¬ b.size = 512) : Calls Try.prog 51 #[.string b] w (DecPostN b w) := by
  have hno : ¬ decOk b := fun hh => h hh.1
  have HS := Lib.hid (decV_no hno)
  have HE := Lib.hid (decE_no hno)
  have hq : ((b.size : Int) != 512) = true := by simp; omega
  clear hno h
  go_enter Try.func51, Try.ntmps51
  go_wp2
  refine bodyPost_ret (results_rec rfl _ _ rfl (RAt.new w R.none (.slice none 0 0))) rfl ?_
  exact dec_end HS.out HE.out (Ents.nil _) (below_new w _) (newV_none _)

set_option maxHeartbeats 2000000 in
theorem decode_wrong (b : ByteArray) (w : World) (hs : b.size = 512) (h : ¬ RightP (decR b)) : Calls Try.prog 51 #[.string b] w (DecPostN b w) := by
  have hno : ¬ decOk b := fun hh => h hh.2.1
  have HS := Lib.hid (decV_no hno)
  have HE := Lib.hid (decE_no hno)
  have hq : ((b.size : Int) != 512) = false := by simp; omega
  have T1 := Lib.hid (fun W => rtake_any b 1 6 W (by omega) (by omega) (by omega) (by omega))
  have T2 := Lib.hid (fun W => rtake_any b 7 6 W (by omega) (by omega) (by omega) (by omega))
  have T3 := Lib.hid (fun W => rtake_any b 13 1 W (by omega) (by omega) (by omega) (by omega))
  have T4 := Lib.hid (fun W => rtake_any b 14 2 W (by omega) (by omega) (by omega) (by omega))
  have T5 := Lib.hid (fun W => rtake_any b 16 1 W (by omega) (by omega) (by omega) (by omega))
  have hE := fun W v (hv : Ents W v (decR b).l) => encode_any (decR b) v W hv (decR_ok b)
  have e1 : (256 : Nat) ^ 1 = 256 := by decide
  have e2 : (256 : Nat) ^ 2 = 65536 := by decide
  have l4 := takeN_lt b 14 2
  have l5 := takeN_lt b 16 1
  rw [e2] at l4
  rw [e1] at l5
  have TE := Lib.hid (fun W => takeEntries_any b (takeN b 16 1) W hs (by omega))
  unfold Ans at hE
  rw [encS_no h, encE_no h] at hE
  clear h hno
  unfold R.val decR at hE
  dsimp only at hE
  obtain ⟨x1, hx1⟩ : ∃ x, takeN b 1 6 = x := ⟨_, rfl⟩
  obtain ⟨x2, hx2⟩ : ∃ x, takeN b 7 6 = x := ⟨_, rfl⟩
  obtain ⟨x3, hx3⟩ : ∃ x, takeN b 13 1 = x := ⟨_, rfl⟩
  obtain ⟨x4, hx4⟩ : ∃ x, takeN b 14 2 = x := ⟨_, rfl⟩
  obtain ⟨x5, hx5⟩ : ∃ x, takeN b 16 1 = x := ⟨_, rfl⟩
  obtain ⟨L, hLL⟩ : ∃ L, entsAt b x5 = L := ⟨_, rfl⟩
  simp only [hx1, hx2, hx3, hx4, hx5, hLL] at T1 T2 T3 T4 T5 TE hE l4 l5
  obtain ⟨en, hen⟩ : ∃ x, decide (x3 = 1) = x := ⟨_, rfl⟩
  obtain ⟨sy, hsy⟩ : ∃ x, decide (x3 = 2) = x := ⟨_, rfl⟩
  have u1 : ((x3 : Int) == 1) = en := by rw [← hen, Bool.eq_iff_iff, decide_eq_true_iff]; simp; omega
  have u2 : ((x3 : Int) == 2) = sy := by rw [← hsy, Bool.eq_iff_iff, decide_eq_true_iff]; simp; omega
  simp only [hen, hsy] at hE
  unfold TakePost at TE
  simp only [hLL] at TE
  have v4 : IntKind.i64.wrap (x4 : Int) = x4 := by rw [IntKind.wrap_i64]; omega
  have v5 : IntKind.i64.wrap (x5 : Int) = x5 := by rw [IntKind.wrap_i64]; omega
  have HEE := Lib.hid hE
  clear hx1 hx2 hx3 hx4 hx5 hs l4 l5 e1 e2 hE hen hsy hLL
  go_enter Try.func51, Try.ntmps51
  go_wp2_with (first
    | (go_at_call 76; with_reducible refine Calls.mono (T1.out _) ?_; rintro e w1 ⟨rfl, hB1⟩)
    | (go_at_call 76; with_reducible refine Calls.mono (T2.out _) ?_; rintro e w2 ⟨rfl, hB2⟩)
    | (go_at_call 76; with_reducible refine Calls.mono (T3.out _) ?_; rintro e w3 ⟨rfl, hB3⟩)
    | (go_at_call 76; with_reducible refine Calls.mono (T4.out _) ?_; rintro e w4 ⟨rfl, hB4⟩)
    | (go_at_call 76; with_reducible refine Calls.mono (T5.out _) ?_; rintro e w5 ⟨rfl, hB5⟩)
    | (go_at_call 77; (with_reducible refine Calls.mono (TE.out _) ?_); rintro e w6 ⟨v, rfl, hL6, hNV, hB6⟩; obtain ⟨ap, cp, rfl, hp1, hp2⟩ := hL6.parts; have HNV := Lib.hid hNV; have hL7 := Lib.hid (hL6.below (below_new w6 (boxR ⟨x1, x2, en, sy, (x4 : Int), L⟩ (.slice ap L.length cp)))); unfold boxR at hL7; clear hL6 hNV)
    | (go_at_call 78; with_reducible refine Calls.mono (HEE.out _ _ hL7.out) ?_; rintro e w7 ⟨rfl, hB7⟩))
  have hBw6 : Below w.heap.size w w6 := below_th (below_th (below_th (below_th (below_th (below_th (below_new w _) hB3) hB1) hB2) hB4) hB5) hB6
  have hA7 : RAt w7 w.heap.size R.none (.slice none 0 0) := (((((((RAt.new w R.none (.slice none 0 0)).th hB3).th hB1).th hB2).th hB4).th hB5).th hB6).th (below_th (below_new _ _) hB7)
  have hD7 : RAt w7 w6.heap.size ⟨x1, x2, en, sy, (x4 : Int), L⟩ (.slice ap L.length cp) := (RAt.new w6 _ _).th hB7
  have hBw7 : Below w.heap.size w w7 := below_th (below_al hBw6 _) hB7
  have hL8 : Ents w7 (.slice ap L.length cp) L := (hL7.out).below hB7
  obtain ⟨a0, a1, a2, a3, a4, a5⟩ := hA7.c
  obtain ⟨d0, d1, d2, d3, d4, d5⟩ := hD7.c
  have f0 := hA7.f 0
  have f1 := hA7.f 1
  have f2 := hA7.f 2
  have f3 := hA7.f 3
  have f4 := hA7.f 4
  have f5 := hA7.f 5
  obtain ⟨k0, k1, k2, k3, k4, k5, hAp, hBp⟩ := hA7.put6 R.none (.slice none 0 0)
  dsimp only [R.none] at a0 a1 a2 a3 a4 a5 d0 d1 d2 d3 d4 d5 k0 k1 k2 k3 k4 k5 hBp
  go_region
  go_wp2
  all_goals
    refine bodyPost_ret (results_rec rfl _ _ rfl hAp.drew) rfl ?_
    exact dec_end HS.out HE.out (Ents.nil _) (hBw7.trans hBp).drew (newV_none _)

set_option maxHeartbeats 2000000 in
theorem decode_unlike (b : ByteArray) (w : World) (hs : b.size = 512) (h : RightP (decR b)) (hu : ¬ (encB (decR b)).extract 0 256 = b.extract 0 256) : Calls Try.prog 51 #[.string b] w (DecPostN b w) := by
  have hno : ¬ decOk b := fun hh => hu hh.2.2
  have HS := Lib.hid (decV_no hno)
  have HE := Lib.hid (decE_no hno)
  clear hno
  have hq : ((b.size : Int) != 512) = false := by simp; omega
  have T1 := Lib.hid (fun W => rtake_any b 1 6 W (by omega) (by omega) (by omega) (by omega))
  have T2 := Lib.hid (fun W => rtake_any b 7 6 W (by omega) (by omega) (by omega) (by omega))
  have T3 := Lib.hid (fun W => rtake_any b 13 1 W (by omega) (by omega) (by omega) (by omega))
  have T4 := Lib.hid (fun W => rtake_any b 14 2 W (by omega) (by omega) (by omega) (by omega))
  have T5 := Lib.hid (fun W => rtake_any b 16 1 W (by omega) (by omega) (by omega) (by omega))
  have hE := fun W v (hv : Ents W v (decR b).l) => encode_any (decR b) v W hv (decR_ok b)
  have e1 : (256 : Nat) ^ 1 = 256 := by decide
  have e2 : (256 : Nat) ^ 2 = 65536 := by decide
  have l4 := takeN_lt b 14 2
  have l5 := takeN_lt b 16 1
  rw [e2] at l4
  rw [e1] at l5
  have TE := Lib.hid (fun W => takeEntries_any b (takeN b 16 1) W hs (by omega))
  unfold Ans at hE
  rw [encS_yes h, encE_yes h] at hE
  have hsz := encB_size h
  obtain ⟨EE, hEe⟩ : ∃ EE, encB (decR b) = EE := ⟨_, rfl⟩
  simp only [hEe] at hE hsz hu
  clear hEe
  have hcmp := beq_no hu
  have r1 : (256 : Int) ≤ (EE.size : Int) := by omega
  have r2 : (256 : Int) ≤ (b.size : Int) := by omega
  have r3 : 256 ≤ EE.size := by omega
  have r4 : 256 ≤ b.size := by omega
  clear h hu hsz
  unfold R.val decR at hE
  dsimp only at hE
  obtain ⟨x1, hx1⟩ : ∃ x, takeN b 1 6 = x := ⟨_, rfl⟩
  obtain ⟨x2, hx2⟩ : ∃ x, takeN b 7 6 = x := ⟨_, rfl⟩
  obtain ⟨x3, hx3⟩ : ∃ x, takeN b 13 1 = x := ⟨_, rfl⟩
  obtain ⟨x4, hx4⟩ : ∃ x, takeN b 14 2 = x := ⟨_, rfl⟩
  obtain ⟨x5, hx5⟩ : ∃ x, takeN b 16 1 = x := ⟨_, rfl⟩
  obtain ⟨L, hLL⟩ : ∃ L, entsAt b x5 = L := ⟨_, rfl⟩
  simp only [hx1, hx2, hx3, hx4, hx5, hLL] at T1 T2 T3 T4 T5 TE hE l4 l5
  obtain ⟨en, hen⟩ : ∃ x, decide (x3 = 1) = x := ⟨_, rfl⟩
  obtain ⟨sy, hsy⟩ : ∃ x, decide (x3 = 2) = x := ⟨_, rfl⟩
  have u1 : ((x3 : Int) == 1) = en := by rw [← hen, Bool.eq_iff_iff, decide_eq_true_iff]; simp; omega
  have u2 : ((x3 : Int) == 2) = sy := by rw [← hsy, Bool.eq_iff_iff, decide_eq_true_iff]; simp; omega
  simp only [hen, hsy] at hE
  unfold TakePost at TE
  simp only [hLL] at TE
  have v4 : IntKind.i64.wrap (x4 : Int) = x4 := by rw [IntKind.wrap_i64]; omega
  have v5 : IntKind.i64.wrap (x5 : Int) = x5 := by rw [IntKind.wrap_i64]; omega
  have HEE := Lib.hid hE
  clear hx1 hx2 hx3 hx4 hx5 hs l4 l5 e1 e2 hE hen hsy hLL
  go_enter Try.func51, Try.ntmps51
  go_wp2_with (first
    | (go_at_call 76; with_reducible refine Calls.mono (T1.out _) ?_; rintro e w1 ⟨rfl, hB1⟩)
    | (go_at_call 76; with_reducible refine Calls.mono (T2.out _) ?_; rintro e w2 ⟨rfl, hB2⟩)
    | (go_at_call 76; with_reducible refine Calls.mono (T3.out _) ?_; rintro e w3 ⟨rfl, hB3⟩)
    | (go_at_call 76; with_reducible refine Calls.mono (T4.out _) ?_; rintro e w4 ⟨rfl, hB4⟩)
    | (go_at_call 76; with_reducible refine Calls.mono (T5.out _) ?_; rintro e w5 ⟨rfl, hB5⟩)
    | (go_at_call 77; (with_reducible refine Calls.mono (TE.out _) ?_); rintro e w6 ⟨v, rfl, hL6, hNV, hB6⟩; obtain ⟨ap, cp, rfl, hp1, hp2⟩ := hL6.parts; have HNV := Lib.hid hNV; have hL7 := Lib.hid (hL6.below (below_new w6 (boxR ⟨x1, x2, en, sy, (x4 : Int), L⟩ (.slice ap L.length cp)))); unfold boxR at hL7; clear hL6 hNV)
    | (go_at_call 78; with_reducible refine Calls.mono (HEE.out _ _ hL7.out) ?_; rintro e w7 ⟨rfl, hB7⟩))
  have hBw6 : Below w.heap.size w w6 := below_th (below_th (below_th (below_th (below_th (below_th (below_new w _) hB3) hB1) hB2) hB4) hB5) hB6
  have hA7 : RAt w7 w.heap.size R.none (.slice none 0 0) := (((((((RAt.new w R.none (.slice none 0 0)).th hB3).th hB1).th hB2).th hB4).th hB5).th hB6).th (below_th (below_new _ _) hB7)
  have hD7 : RAt w7 w6.heap.size ⟨x1, x2, en, sy, (x4 : Int), L⟩ (.slice ap L.length cp) := (RAt.new w6 _ _).th hB7
  have hBw7 : Below w.heap.size w w7 := below_th (below_al hBw6 _) hB7
  have hL8 : Ents w7 (.slice ap L.length cp) L := (hL7.out).below hB7
  obtain ⟨a0, a1, a2, a3, a4, a5⟩ := hA7.c
  obtain ⟨d0, d1, d2, d3, d4, d5⟩ := hD7.c
  have f0 := hA7.f 0
  have f1 := hA7.f 1
  have f2 := hA7.f 2
  have f3 := hA7.f 3
  have f4 := hA7.f 4
  have f5 := hA7.f 5
  obtain ⟨k0, k1, k2, k3, k4, k5, hAp, hBp⟩ := hA7.put6 R.none (.slice none 0 0)
  dsimp only [R.none] at a0 a1 a2 a3 a4 a5 d0 d1 d2 d3 d4 d5 k0 k1 k2 k3 k4 k5 hBp
  go_region
  go_wp2
  all_goals
    refine bodyPost_ret (results_rec rfl _ _ rfl hAp.drew) rfl ?_
    exact dec_end HS.out HE.out (Ents.nil _) (hBw7.trans hBp).drew (newV_none _)

end
end Go.Proofs.Ytdniakoedgohkaa.Record
/- Decode of the program, of a record's block. -/
namespace Go.Proofs.Ytdniakoedgohkaa.Record
open Go.RowKit Go.Shelf
attribute [local go_sem] Oper.semAt_some
set_option linter.unusedVariables false

section
set_option maxRecDepth 100000
theorem ents_drew {W : World} {v : Value} {L : List E} (h : Ents W v L) : Ents W.drew v L := h
set_option maxHeartbeats 2000000 in
theorem decode_right (b : ByteArray) (w : World) (hs : b.size = 512) (h : RightP (decR b)) (hu : (encB (decR b)).extract 0 256 = b.extract 0 256) : Calls Try.prog 51 #[.string b] w (DecPostN b w) := by
  have hok : decOk b := ⟨hs, h, hu⟩
  have hV := decV_yes hok
  have HE := Lib.hid (decE_yes hok)
  clear hok
  unfold decR at hV
  have hq : ((b.size : Int) != 512) = false := by simp; omega
  have T1 := Lib.hid (fun W => rtake_any b 1 6 W (by omega) (by omega) (by omega) (by omega))
  have T2 := Lib.hid (fun W => rtake_any b 7 6 W (by omega) (by omega) (by omega) (by omega))
  have T3 := Lib.hid (fun W => rtake_any b 13 1 W (by omega) (by omega) (by omega) (by omega))
  have T4 := Lib.hid (fun W => rtake_any b 14 2 W (by omega) (by omega) (by omega) (by omega))
  have T5 := Lib.hid (fun W => rtake_any b 16 1 W (by omega) (by omega) (by omega) (by omega))
  have hE := fun W v (hv : Ents W v (decR b).l) => encode_any (decR b) v W hv (decR_ok b)
  have e1 : (256 : Nat) ^ 1 = 256 := by decide
  have e2 : (256 : Nat) ^ 2 = 65536 := by decide
  have l4 := takeN_lt b 14 2
  have l5 := takeN_lt b 16 1
  rw [e2] at l4
  rw [e1] at l5
  have TE := Lib.hid (fun W => takeEntries_any b (takeN b 16 1) W hs (by omega))
  unfold Ans at hE
  rw [encS_yes h, encE_yes h] at hE
  have hsz := encB_size h
  obtain ⟨EE, hEe⟩ : ∃ EE, encB (decR b) = EE := ⟨_, rfl⟩
  simp only [hEe] at hE hsz hu
  clear hEe
  have hcmp := beq_yes hu
  have r1 : (256 : Int) ≤ (EE.size : Int) := by omega
  have r2 : (256 : Int) ≤ (b.size : Int) := by omega
  have r3 : 256 ≤ EE.size := by omega
  have r4 : 256 ≤ b.size := by omega
  clear h hu hsz
  unfold R.val decR at hE
  dsimp only at hE
  obtain ⟨x1, hx1⟩ : ∃ x, takeN b 1 6 = x := ⟨_, rfl⟩
  obtain ⟨x2, hx2⟩ : ∃ x, takeN b 7 6 = x := ⟨_, rfl⟩
  obtain ⟨x3, hx3⟩ : ∃ x, takeN b 13 1 = x := ⟨_, rfl⟩
  obtain ⟨x4, hx4⟩ : ∃ x, takeN b 14 2 = x := ⟨_, rfl⟩
  obtain ⟨x5, hx5⟩ : ∃ x, takeN b 16 1 = x := ⟨_, rfl⟩
  obtain ⟨L, hLL⟩ : ∃ L, entsAt b x5 = L := ⟨_, rfl⟩
  simp only [hx1, hx2, hx3, hx4, hx5, hLL] at T1 T2 T3 T4 T5 TE hE l4 l5 hV
  obtain ⟨en, hen⟩ : ∃ x, decide (x3 = 1) = x := ⟨_, rfl⟩
  obtain ⟨sy, hsy⟩ : ∃ x, decide (x3 = 2) = x := ⟨_, rfl⟩
  have u1 : ((x3 : Int) == 1) = en := by rw [← hen, Bool.eq_iff_iff, decide_eq_true_iff]; simp; omega
  have u2 : ((x3 : Int) == 2) = sy := by rw [← hsy, Bool.eq_iff_iff, decide_eq_true_iff]; simp; omega
  simp only [hen, hsy] at hE hV
  unfold TakePost at TE
  simp only [hLL] at TE
  have v4 : IntKind.i64.wrap (x4 : Int) = x4 := by rw [IntKind.wrap_i64]; omega
  have v5 : IntKind.i64.wrap (x5 : Int) = x5 := by rw [IntKind.wrap_i64]; omega
  have HEE := Lib.hid hE
  clear hx1 hx2 hx3 hx4 hx5 hs l4 l5 e1 e2 hE hen hsy hLL
  have HV := Lib.hid hV
  clear hV
  go_enter Try.func51, Try.ntmps51
  go_wp2_with (first
    | (go_at_call 76; with_reducible refine Calls.mono (T1.out _) ?_; rintro e w1 ⟨rfl, hB1⟩)
    | (go_at_call 76; with_reducible refine Calls.mono (T2.out _) ?_; rintro e w2 ⟨rfl, hB2⟩)
    | (go_at_call 76; with_reducible refine Calls.mono (T3.out _) ?_; rintro e w3 ⟨rfl, hB3⟩)
    | (go_at_call 76; with_reducible refine Calls.mono (T4.out _) ?_; rintro e w4 ⟨rfl, hB4⟩)
    | (go_at_call 76; with_reducible refine Calls.mono (T5.out _) ?_; rintro e w5 ⟨rfl, hB5⟩)
    | (go_at_call 77; (with_reducible refine Calls.mono (TE.out _) ?_); rintro e w6 ⟨v, rfl, hL6, hNV, hB6⟩; obtain ⟨ap, cp, rfl, hp1, hp2⟩ := hL6.parts; have HNV := Lib.hid hNV; have hL7 := Lib.hid (hL6.below (below_new w6 (boxR ⟨x1, x2, en, sy, (x4 : Int), L⟩ (.slice ap L.length cp)))); unfold boxR at hL7; clear hL6 hNV)
    | (go_at_call 78; with_reducible refine Calls.mono (HEE.out _ _ hL7.out) ?_; rintro e w7 ⟨rfl, hB7⟩))
  have hBw6 : Below w.heap.size w w6 := below_th (below_th (below_th (below_th (below_th (below_th (below_new w _) hB3) hB1) hB2) hB4) hB5) hB6
  have hA7 : RAt w7 w.heap.size R.none (.slice none 0 0) := (((((((RAt.new w R.none (.slice none 0 0)).th hB3).th hB1).th hB2).th hB4).th hB5).th hB6).th (below_th (below_new _ _) hB7)
  have hD7 : RAt w7 w6.heap.size ⟨x1, x2, en, sy, (x4 : Int), L⟩ (.slice ap L.length cp) := (RAt.new w6 _ _).th hB7
  have hBw7 : Below w.heap.size w w7 := below_th (below_al hBw6 _) hB7
  have hL8 : Ents w7 (.slice ap L.length cp) L := (hL7.out).below hB7
  obtain ⟨a0, a1, a2, a3, a4, a5⟩ := hA7.c
  obtain ⟨d0, d1, d2, d3, d4, d5⟩ := hD7.c
  have f0 := hA7.f 0
  have f1 := hA7.f 1
  have f2 := hA7.f 2
  have f3 := hA7.f 3
  have f4 := hA7.f 4
  have f5 := hA7.f 5
  obtain ⟨k0, k1, k2, k3, k4, k5, hAp, hBp⟩ := hA7.put6 ⟨x1, x2, en, sy, (x4 : Int), L⟩ (.slice ap L.length cp)
  dsimp only [R.none] at a0 a1 a2 a3 a4 a5 d0 d1 d2 d3 d4 d5 k0 k1 k2 k3 k4 k5 hBp
  have HNW : Hid (NewV w.heap.size (.slice ap L.length cp)) := NewV.mono HNV.out (by have h2 := hB3.size; have h3 := hB1.size; have h4 := hB2.size; have h5 := hB4.size; have h6 := hB5.size; rw [World.size_alloc] at h2; omega)
  have HL9 : Hid (Ents _ (.slice ap L.length cp) L) := hL8.keep fun g o k c he _ => put6_other w7 w.heap.size (.int .u64 x1) (.int .u64 x2) (.bool en) (.bool sy) (.int .i64 (x4 : Int)) (.slice ap L.length cp) g (by have h1 := HNV.out g o k c he; have h2 := hB3.size; have h3 := hB1.size; have h4 := hB2.size; have h5 := hB4.size; have h6 := hB5.size; rw [World.size_alloc] at h2; omega)
  go_region
  go_wp2
  all_goals
    refine bodyPost_ret (results_rec rfl _ _ rfl hAp.drew) rfl ?_
    exact dec_end HV.out HE.out (ents_drew HL9.out) (hBw7.trans hBp).drew HNW.out

theorem decode_new (b : ByteArray) (w : World) (hs : b.size ≤ 281474976710656) : Calls Try.prog 51 #[.string b] w (DecPostN b w) := by
  by_cases h1 : b.size = 512
  · by_cases h2 : RightP (decR b)
    · by_cases h3 : (encB (decR b)).extract 0 256 = b.extract 0 256
      · exact decode_right b w h1 h2 h3
      · exact decode_unlike b w h1 h2 h3
    · exact decode_wrong b w h1 h2
  · exact decode_size b w hs h1
theorem decode_any (b : ByteArray) (w : World) (hs : b.size ≤ 281474976710656) : Calls Try.prog 51 #[.string b] w (DecPost b w) := (decode_new b w hs).mono fun _ _ h => h.old
end
end Go.Proofs.Ytdniakoedgohkaa.Record
