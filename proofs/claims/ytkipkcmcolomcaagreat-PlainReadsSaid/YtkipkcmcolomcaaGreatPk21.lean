/- Several texts in one, each under its own heading. -/
import Derived.Test.YtkipkcmcolomcaaGreatPk20
import Derived.Maps.AppendAt
import Derived.Test.YtkipkcmcolomcaaGreatPk19
import Derived.Deep.RegionHeld3
import Derived.Deep.LoopGhost
import Derived.BigQuiet
import Derived.Test.YtkipkcmcolomcaaGreatPk11
import Derived.Test.YtkipkcmcolomcaaGreatPk17
import Derived.Lib.IndexLaws
import Derived.Test.YtkipkcmcolomcaaGreatShelf
/- The document's List. -/
namespace Go.Proofs.YtkipkcmcolomcaaGreat.Dir
open Go.RowKit
attribute [local go_sem] Oper.semAt_some
set_option linter.unusedVariables false
set_option linter.unusedSimpArgs false
/-- what List answers -/
def ListPost (D : Option (List N)) (w : World) (e : Ending) (w' : World) : Prop := match D with
  | none => e = .returned (.tuple #[.slice none 0 0, .int .i64 110]) ∧ Below w.heap.size w w'
  | some L => ∃ v M, e = .returned (.tuple #[v, .int .i64 0]) ∧ SortP L M ∧ Nms w' v M ∧ Below w.heap.size w w'
theorem DirP.len {s : ByteArray} {L : List N} (h : DirP s L) : L.length ≤ 3333 := by
  have h1 := bytesL_many L
  have h2 := h.2.2
  rw [h.2.1] at h1
  omega
theorem DirP.sizes {s : ByteArray} {L : List N} (h : DirP s L) (i : Nat) : (nm L i).name.size ≤ 1000 := by
  by_cases hi : i < L.length
  · have := (h.1.1 i hi).1.2.1
    omega
  · unfold nm
    rw [List.getD_eq_getElem?_getD, List.getElem?_eq_none (by omega)]
    show (⟨#[]⟩ : ByteArray).size ≤ 1000
    decide
namespace R
section
set_option maxRecDepth 100000
set_option maxHeartbeats 8000000
theorem list_any (s : ByteArray) (D : Option (List N)) (w : World) (hs : s.size ≤ 281474976710656) (h : DirO s D) : Calls Tryz.prog 74 #[.string s] w (ListPost D w) := by
  cases D with
  | none =>
    have hR := Lib.hid (fun W => read_no s W hs h)
    clear h hs
    go_enter Tryz.func74, Tryz.ntmps74
    go_wp2_with (go_at_call 100; (with_reducible refine Calls.mono (hR.out _) ?_); rintro e w1 ⟨rfl, hB⟩)
    go_returns
    exact ⟨rfl, hB⟩
  | some L =>
    have hR := Lib.hid (fun W => read_yes s L W hs h)
    have hS := Lib.hid (fun W v (k : Nms W v L) => sorted_any v L W k h.1 (by have := DirP.len h; omega) (DirP.sizes h))
    have HF : Hid (∀ v M w', SortP L M → Nms w' v M → Below w.heap.size w w' → ListPost (some L) w (.returned (.tuple #[v, .int .i64 0])) w') := fun v M w' h1 h2 h3 => ⟨v, M, rfl, h1, h2, h3⟩
    unfold SortPost at hS
    clear h hs
    go_enter Tryz.func74, Tryz.ntmps74
    go_wp2_with (first
      | (go_at_call 100; (with_reducible refine Calls.mono (hR.out _) ?_); rintro e w1 ⟨v, rfl, hO, hB⟩; have HN := Lib.hid (Nms.own hO); clear hO)
      | (go_at_call 108; (with_reducible refine Calls.mono (hS.out _ _ HN.out) ?_); rintro e w2 ⟨v2, M, rfl, hM, hO2, hB2⟩; have HM := Lib.hid hM; have HO2 := Lib.hid (Nms.own hO2); clear hM hO2))
    go_returns
    exact HF.out _ _ _ HM.out HO2.out (below_th hB hB2)
end
end R
end Go.Proofs.YtkipkcmcolomcaaGreat.Dir
/- List, Right of the program. -/
namespace Go.Proofs.YtkipkcmcolomcaaGreat.Dir
open Go.RowKit
attribute [local go_sem] Oper.semAt_some
set_option linter.unusedVariables false
set_option linter.unusedSimpArgs false

theorem own_kept {w w' : World} {base e size n g c : Nat} {xs : List Value} (h : w.ownsRow base e size (.slice (some ⟨g, 0, none⟩) n c) n xs) (hk : w'.heap[g]? = w.heap[g]?) : w'.ownsRow base e size (.slice (some ⟨g, 0, none⟩) n c) n xs := by
  refine ⟨h.1, ?_⟩
  rcases h.2 with ⟨h1, h2⟩ | ⟨g1, cap, cur, e1, hb, hg, h3, h4, h5, h6⟩
  · exact .inl ⟨h1, h2⟩
  · obtain ⟨rfl, rfl⟩ : g = g1 ∧ c = cap := by simpa using e1
    exact .inr ⟨g, c, cur, rfl, hb, hk.trans hg, h3, h4, h5, h6⟩
theorem set_far (w : World) (b i k : Nat) (u : Value) (h : k ≠ b) : (w.setCell ⟨b, i, none⟩ u).heap[k]? = w.heap[k]? := Below.heap_setCell _ _ _ _ h
theorem results_two {fn : Func} {r t : Tmp} (h : fn.results = #[.tmp r, .tmp t]) (tmps : Array Value) (w : World) : (results fn tmps).run Tryz.prog w = .ok (.tuple #[tmps.getD r undef, tmps.getD t undef]) w := by
  simp [results, h, go_sem]
theorem AtT.not_row {W : World} {b base k : Nat} {t : Et} {v : Value} {xs : List Value} (h : AtT W b t) (hr : W.ownsRow base 52 2 v k xs) : ¬ v.ownBlock = some b := by
  rcases hr.2 with ⟨rfl, _⟩ | ⟨g, cap, cur, rfl, _, hgb, _⟩
  · simp [Value.ownBlock]
  · intro e
    obtain rfl : g = b := by simpa [Value.ownBlock] using e
    unfold AtT at h
    rw [h] at hgb
    simp at hgb
/-- between two rounds -/
structure LstI (P : List N) (w W0 : World) (k : Nat) (W : World) : Prop where
  got : ∃ v, Boxed W w.heap.size 30 v ∧ W.ownsRow W0.heap.size 52 2 v k (cellsL (P.take k))
  cnt : Boxed W (w.heap.size + 1) 3 (.int .i64 (pos P k : Nat))
  below : Below w.heap.size w W
  size : W0.heap.size ≤ W.heap.size
theorem lstI_own {P : List N} {w W0 : World} (hz : w.heap.size ≤ W0.heap.size) : OwnFrom W0.heap.size (LstI P w W0) := fun k W W' row h hg hr => by
  obtain ⟨v, hv, hrow⟩ := h.got
  refine ⟨⟨v, kept_cells hv hg hr, hrow.kept hg ?_⟩, kept_cells h.cnt hg hr, h.below.grown hg h.below.size (fun r e => Nat.le_trans hz (hr r e).1), Nat.le_trans h.size hg.size⟩
  rcases hrow.2 with ⟨rfl, _⟩ | ⟨g, cap, cur, rfl, _, hgb, _⟩
  · exact .inl rfl
  · refine .inr fun e' => ?_
    obtain ⟨_, o, ho, hc⟩ := hr g (by simpa [Value.ownBlock] using e'.symm)
    rw [hgb] at ho; cases ho; cases hc
def LstA (P : List N) (W0 : World) (T : Nat → Nat → Array Value) (k : Nat) (a' : Act) (W : World) : Prop :=
  ∃ Bx, W0.heap.size ≤ Bx ∧ AtT W Bx (etAt P k) ∧ a' = { tmps := T k Bx, defers := [] }
theorem lstA_own {P : List N} {W0 : World} {B : Nat} {T : Nat → Nat → Array Value} (k : Nat) (a' : Act) : OwnFrom B (fun (_ : Unit) W => LstA P W0 T k a' W) := fun _ W W' row hI hg hr => by
  obtain ⟨Bx, h1, h2, h3⟩ := hI
  exact ⟨Bx, h1, kept_cells h2 hg hr, h3⟩
theorem Nms.putD {W : World} {v : Value} {M : List N} {D : Nat} {d : Option (List Deferred)} (h : Nms W v M) (hD : W.heap[D]? = some (.deferred d)) (o : Obj) : Nms (W.putObj D o) v M := h.keep fun g o2 k c e hk => World.putObj_heap_other fun e2 => by
  obtain ⟨a, cap, e3, _⟩ := h.parts
  rw [e] at e3
  cases e3
  obtain ⟨b, off, cap2, e4, c0, _⟩ := h.at (k := 0) hk
  rw [e] at e4
  cases e4
  subst e2
  simp [World.cell?, hD] at c0
theorem twice_bool {M : List N} {e : Ending} (h : (e = .returned (.bool true) ∧ twiceP M) ∨ (e = .returned (.bool false) ∧ ¬ twiceP M)) : ∃ tb, e = .returned (.bool tb) ∧ (tb = true → twiceP M) ∧ (tb = false → ¬ twiceP M) := by
  rcases h with ⟨rfl, h⟩ | ⟨rfl, h⟩
  · exact ⟨true, rfl, fun _ => h, fun e => by cases e⟩
  · exact ⟨false, rfl, fun e => by (cases e), fun _ => h⟩
section
set_option maxRecDepth 100000
set_option maxHeartbeats 8000000
/-- the same, and that the list lies in a block that is new -/
def ListNew (D : Option (List N)) (w : World) (e : Ending) (w' : World) : Prop := match D with
  | none => e = .returned (.tuple #[.slice none 0 0, .int .i64 110]) ∧ Below w.heap.size w w'
  | some L => ∃ v M, e = .returned (.tuple #[v, .int .i64 0]) ∧ SortP L M ∧ Nms w' v M ∧ Below w.heap.size w w' ∧ ∀ g, v.ownBlock = some g → w.heap.size ≤ g
theorem ListNew.post {D : Option (List N)} {w : World} {e : Ending} {w' : World} (h : ListNew D w e w') : ListPost D w e w' := by
  cases D with
  | none => exact h
  | some L =>
    obtain ⟨v, M, h1, h2, h3, h4, _⟩ := h
    exact ⟨v, M, h1, h2, h3, h4⟩
theorem list_in (s : ByteArray) (D : Option (List N)) (P : List N) (hR : Run s P) (w : World) (hs : s.size ≤ 20000) (hD0 : DirO s D) :
    CallsIn Fence.wide 9 Tryz.prog 49 #[.string s] w (ListNew D w) := by
  have hfn : ∀ f, Fence.wide.fn f := fun _ => trivial
  have g1 : ¬ (20000 : Int) < (s.size : Int) := by omega
  have g2 : ¬ (s.size : Int) > 20000 := by omega
  have g3 : decide ((20000 : Int) < (s.size : Int)) = false := decide_eq_false g1
  have hPn := hR.many
  refine callsIn_of_wp_marks Tryz.func49 rfl trivial ?_ rfl
  simp only [Tryz.ntmps49, List.size_toArray, List.length_cons, List.length_nil, Nat.reduceAdd, Nat.reduceSub, Array.replicate_succ, Array.replicate_zero, List.push_toArray, List.append_toArray, List.nil_append, List.cons_append]
  gi_wp2_with (gi_at_call 82; refine (entries_in _ _ _).mono ?_; rintro e w' ⟨rfl, rfl⟩)
  obtain ⟨W0, hW0⟩ : ∃ W0, ((w.alloc (.cells #[.slice none 0 0] 30)).alloc (.cells #[.int .i64 0] 3)).alloc (.cells #[.string s] 9) = W0 := ⟨_, rfl⟩
  have hs0 : W0.heap.size = w.heap.size + 3 := by rw [← hW0]; simp
  have hBW : Below w.heap.size w W0 := by
    rw [← hW0]
    exact below_al (below_al (below_new w _) _) _
  have hk0 : Boxed W0 w.heap.size 30 (.slice none 0 0) := by rw [← hW0]; exact ((Boxed.new _ _ _).alloc _).alloc _
  have hc0 : Boxed W0 (w.heap.size + 1) 3 (.int .i64 0) := by
    rw [← hW0]
    have := Boxed.new (w.alloc (.cells #[.slice none 0 0] 30)) 3 (.int .i64 0)
    rw [World.size_alloc] at this
    exact this.alloc _
  have hx0 : AtS W0 (w.heap.size + 1 + 1) s := by
    rw [← hW0]
    have := AtS.new ((w.alloc (.cells #[.slice none 0 0] 30)).alloc (.cells #[.int .i64 0] 3)) s
    simp only [World.size_alloc] at this
    exact this
  have hst := entries_steps (w.heap.size + 1 + 1) s P hR (by omega) W0 hx0
  have hI0 : LstI P w W0 0 W0 := ⟨⟨_, hk0, World.ownsRow_nil _ _ _ _⟩, hc0, hBW, Nat.le_refl _⟩
  rw [hW0]
  obtain ⟨i0, hi, hz0, hz1, hz2⟩ := info_parts infoNm
  refine wpIn_rangeFunc_steps rfl (by decide) (gf := 116) (lb := #[.pointer (some ⟨w.heap.size + 1 + 1, 0, none⟩)]) rfl trivial (enters_of Tryz.func116 (by kernel_rfl) rfl)
    hst keepE_t keepE_b (Below.refl _ _) (fun _ => rfl)
    (LstI P w W0) (fun _ _ _ => False) (lstI_own (by omega)) (fun c k W W' row h hg hr => h.elim) hI0
    (LstA P W0 (fun k Bx => #[.string s, undef, .slice none 0 0, .int .i64 0, .pointer (some ⟨w.heap.size, 0, none⟩), .pointer (some ⟨w.heap.size + 1, 0, none⟩), .pointer (some ⟨Bx, 0, none⟩), .string s, .int .i64 s.size, .bool false, .string s, .func (.func 116) #[] #[.pointer (some ⟨w.heap.size + 1 + 1, 0, none⟩)], (etAt P k).val, undef, undef, undef, undef, undef, undef, undef, undef, undef, undef, undef, undef, undef, undef, undef, undef, undef, undef])) (fun k a' => lstA_own k a') ?assign ?body ?done ?stop
  case assign =>
    intro l k W K hI hk hK
    have hz : W0.heap.size ≤ W.heap.size := hI.size
    have HK := Lib.hid (hK _ _ ((KeepsOthers.alloc W _).from _) (KeepE.of_below (below_new W _)) (lstI_own (by omega) _ _ _ none hI (World.grownBy_alloc W _ _) (fun r e => by cases e)) ⟨W.heap.size, hz, AtT.new W (etAt P k), rfl⟩)
    unfold encT
    clear hK hI hst
    unfold boxT Et.val at HK
    unfold Et.val
    dsimp only at HK
    generalize etAt P k = y at HK ⊢
    obtain ⟨y0, y1, y2, y3⟩ := y
    dsimp only at HK ⊢
    gi_wp2
    exact HK.out
  case body =>
    rintro l k a' W hl hrec hI ⟨Bx, hBx, hX, rfl⟩ hk
    obtain ⟨v, hv, hrow⟩ := hI.got
    obtain ⟨ap, cp, rfl, HLI, hcp1, hcp2⟩ := lies_own hrow
    have cv := hv.cell
    have hcn := hI.cnt
    have hzz := hI.size
    have hbz := hI.below.size
    have hxr := hX.not_row hrow
    obtain ⟨x0, x1, x2, x3⟩ := hX.c
    have HI := Lib.hid hI
    have hsucc : cellsL (P.take (k + 1)) = cellsL (P.take k) ++ [.string (etAt P k).name, .int .u32 (etAt P k).ino] := by rw [take_snoc hk, cellsL_snoc]; rfl
    have hps : (etAt P k).b = pos P (k + 1) := rfl
    have hkl : k ≤ 1000000 := by omega
    clear hI hst
    unfold Et.val
    dsimp only
    generalize etAt P k = y at x0 x1 x2 x3 hsucc hX hps ⊢
    obtain ⟨y0, y1, y2, y3⟩ := y
    dsimp only at x0 x1 x2 x3 hsucc hps ⊢
    have HSUCC := Lib.hid hsucc
    have HPS := Lib.hid hps
    have hnl : w.heap.size ≠ Bx := by omega
    have hnr : w.heap.size + 1 ≠ Bx := by omega
    clear hsucc hps
    gi_wp2_with (gi_at_builtin; refine wpListIn_append_own _ rfl _ _ 30 rfl W0.heap.size 52 i0 (.agg #[.string ⟨#[]⟩, .int .u32 0]) 2 24 Tryz.underlying30 hi hz0 hz1 hz2 rfl (by decide) (.slice ap k cp) k (cellsL (P.take k)) rfl (hrow.alloc _) ⟨W.heap.size, 0, none⟩ 1 1 [.string y0, .int .u32 (y1 : Int)] rfl rfl (World.news_of_block (World.alloc_heap_new W _)) (by simp [Value.oneCell']) (by unfold maxLen; omega) (by omega) (by simp; omega) ?_; intro v' w1 hown' hgrow _; obtain ⟨g', cap', rfl⟩ := ownsRow_succ hown'; have hv1 := (hv.alloc _).kept hgrow (hv.not_row (by decide) hrow); have hf1 := hv1.frozen; have hc1 := hv1.cell; have hr1 := ((hcn.alloc _).kept hgrow (hcn.not_row (by decide) hrow)).other (B' := w.heap.size) (by omega) (.slice (some ⟨g', 0, none⟩) (k + 1) cap'); have hfr := hr1.frozen; have hcr := hr1.cell; have hX0 : AtT w1 Bx ⟨y0, y1, y2, y3⟩ := ((hgrow.block Bx (by rw [World.size_alloc]; have := hX.lt; omega) (fun e => hxr e.symm)).trans ((below_new W _).block Bx hX.lt)).trans hX; have hX1 : AtT (w1.setCell ⟨w.heap.size, 0, none⟩ (.slice (some ⟨g', 0, none⟩) (k + 1) cap')) Bx ⟨y0, y1, y2, y3⟩ := hX0.of_heap (Below.heap_setCell _ _ _ _ (fun e => hnl e.symm)); obtain ⟨z0, z1, z2, z3⟩ := hX1.c; dsimp only at z0 z1 z2 z3)
    have hon : Only (fun i => (Value.slice ap k cp).ownBlock = some i ∨ i = w.heap.size ∨ i = w.heap.size + 1) W ((w1.setCell ⟨w.heap.size, 0, none⟩ (.slice (some ⟨g', 0, none⟩) (k + 1) cap')).setCell ⟨w.heap.size + 1, 0, none⟩ (.int .i64 (y3 : Int))) :=
      Only.setCell (p := ⟨w.heap.size + 1, 0, none⟩) (Only.setCell (p := ⟨w.heap.size, 0, none⟩) (((Only.refl _ W).alloc (.cells #[.string y0, .int .u32 (y1 : Int)] 52)).grown hgrow (fun r e => .inr (.inl e))) (.inr (.inr (.inl rfl))) _) (.inr (.inr (.inr rfl))) _
    have hlt3 : ∀ i, (Value.slice ap k cp).ownBlock = some i → W0.heap.size ≤ i := fun i hb => (hrow.lt i hb).1
    have hrt : ∀ i, (Value.slice ap k cp).ownBlock = some i → ∃ c f, W.heap[i]? = some (.cells c 52 f) := fun i hb => by
      rcases hrow.2 with ⟨h0, _⟩ | ⟨g, cap, cur, h0, _, hgb2, _⟩
      · rw [h0] at hb; simp [Value.ownBlock] at hb
      · rw [h0] at hb
        obtain rfl : g = i := by simpa [Value.ownBlock] using hb
        exact ⟨_, _, hgb2⟩
    have hgb := hown'.lt g' rfl
    refine ⟨keeps_of_only _ hon fun i hb => ?_, ⟨hon.size, fun b c t f ht hb => (hon.block b (Array.getElem?_eq_some_iff.1 hb).1 ?_).trans hb⟩, ⟨⟨_, (hv1.set _).other (by omega) _, ?_⟩, ?_, ?_, ?_⟩⟩
    · rcases hb with hb | rfl | rfl
      · obtain ⟨c, f, h⟩ := hrt i hb
        exact ⟨_, _, _, h⟩
      · exact ⟨_, _, _, hv⟩
      · exact ⟨_, _, _, hcn⟩
    · rintro (hh | rfl | rfl)
      · obtain ⟨c2, f2, h⟩ := hrt b hh
        rw [h] at hb
        cases hb
        rcases ht with ht | ht <;> exact absurd ht (by decide)
      · unfold Boxed at hv
        rw [hv] at hb
        cases hb
        rcases ht with ht | ht <;> exact absurd ht (by decide)
      · unfold Boxed at hcn
        rw [hcn] at hb
        cases hb
        rcases ht with ht | ht <;> exact absurd ht (by decide)
    · rw [HSUCC.out]
      exact own_kept hown' ((set_far _ (w.heap.size + 1) 0 g' _ (by omega)).trans (set_far w1 w.heap.size 0 g' _ (by omega)))
    · rw [← HPS.out]
      exact hr1.set _
    · exact HI.out.below.trans (hon.below (n := w.heap.size) (by omega) (fun i hb => by
        rcases hb with hb | rfl | rfl
        · have := hlt3 i hb; omega
        · omega
        · omega))
    · exact Nat.le_trans HI.out.size hon.size
  case done =>
    rintro D2 W hD hI hKD
    obtain ⟨v, hv, hrow⟩ := hI.got
    rw [List.take_length] at hrow
    obtain ⟨ap, cp, rfl, HLI, hcp1, hcp2⟩ := lies_own hrow
    have cv := hv.cell
    have ccn := hI.cnt.cell
    have hS := sort_any (.slice ap P.length cp) P W0.heap.size W hrow (by omega)
    have hfr : ∀ M W1, Nms W1 (.slice ap P.length cp) M → Only (fun i => (Value.slice ap P.length cp).ownBlock = some i) W W1 → Below w.heap.size w W1 ∧ W1.cell? ⟨w.heap.size, 0, none⟩ = some (.slice ap P.length cp) ∧ W1.cell? ⟨w.heap.size + 1, 0, none⟩ = some (.int .i64 (pos P P.length : Nat)) ∧ W1.heap[D2]? = some (.deferred (some [])) := fun M W1 h1 h2 => by
      have hzz := hI.size
      have hb1 := h2.block w.heap.size (by omega) (fun e => by have := (hrow.lt _ e).1; omega)
      have hb2 := h2.block (w.heap.size + 1) (by omega) (fun e => by have := (hrow.lt _ e).1; omega)
      have hb3 := h2.block D2 (Array.getElem?_eq_some_iff.1 hKD).1 (fun e => by
        rcases hrow.2 with ⟨h0, _⟩ | ⟨g, cap, cur, h0, _, hgb2, _⟩
        · rw [h0] at e; simp [Value.ownBlock] at e
        · rw [h0] at e
          obtain rfl : g = D2 := by simpa [Value.ownBlock] using e
          rw [hKD] at hgb2
          cases hgb2)
      refine ⟨hI.below.trans (h2.below (by omega) (fun k hk => by have := (hrow.lt _ hk).1; omega)), ?_, ?_, hb3.trans hKD⟩
      · exact (World.cell?_of_block (w := W) hb1).trans cv
      · exact (World.cell?_of_block (w := W) hb2).trans ccn
    have HNEW : Hid (∀ g, (Value.slice ap P.length cp).ownBlock = some g → w.heap.size ≤ g) := fun g hg => by have := (hrow.lt g hg).1; omega
    have HS := Lib.hid hS
    have HFR := Lib.hid hfr
    have HR := Lib.hid hR
    have HD := Lib.hid hD0
    clear hI hst hrow hS hfr hR hD0 hv
    by_cases hpe : pos P P.length = s.size
    · have hq : (((pos P P.length : Nat) : Int) != (s.size : Int)) = false := by rw [hpe]; simp
      have HPE := Lib.hid hpe
      obtain ⟨p, hp⟩ : ∃ p, pos P P.length = p := ⟨_, rfl⟩
      rw [hp] at hq ccn
      simp only [hp] at HFR
      clear hpe hp
      gi_wp2_with (first
        | (gi_at_call 83; refine (callsIn_wide.2 HS.out).mono ?_; rintro e W1 ⟨rfl, M, hM1, hM2, hM3, hM4⟩; obtain ⟨hBe, cl, cr, hDe⟩ := HFR.out M W1 hM3 hM4; have HMs := Lib.hid (And.intro hM1 (And.intro hM2 (And.intro hM3 hBe))); have HTw := Lib.hid (isTwice_any (.slice ap P.length cp) M W1 hM3 (by rw [hM1.length_eq]; omega)); have HDe := Lib.hid hDe; clear hM1 hM2 hM3 hM4 hBe hDe)
        | (gi_at_call 86; refine (callsIn_wide.2 HTw.out).mono ?_; rintro e W2 ⟨hTT, hB2⟩; obtain ⟨tb, rfl, hT1, hT2⟩ := twice_bool hTT; have cl2 := (hB2.cell (p := ⟨w.heap.size, 0, none⟩) (World.block_lt_of_cell? _ _ cl)).trans cl; have HTS := Lib.hid (And.intro hT1 hT2); clear hTT hT1 hT2))
      · have htb : tb = true := by assumption
        obtain rfl : D = none := by
          cases D with
          | none => rfl
          | some L =>
            have h1 := (HR.out.of_dir HD.out).1
            have h2 : DirP s L := HD.out
            rw [← h1] at h2
            exact absurd h2.1 (twice_not HMs.out.1 (HTS.out.1 htb))
        refine ⟨by simp, .inl ⟨_, _, rfl, run_takeDeferred ((hB2.block D2 (Array.getElem?_eq_some_iff.1 HDe.out).1).trans HDe.out), ?_⟩⟩
        refine ⟨_, results_two rfl _ _, ?_⟩
        exact ⟨rfl, below_put (below_th HMs.out.2.2.2 hB2) (by omega) _⟩
      · have htb : tb = false := by first | assumption | simpa using (by assumption : ¬ tb = true)
        have hup := Rises.up HMs.out.2.1 (HTS.out.2 htb)
        have hnd : (P.map (·.name)).Nodup := ((HMs.out.1.map _).nodup_iff).1 hup.nodup
        have hdir : DirP s P := HR.out.dir HPE.out hs hnd
        have hD2 := (hB2.block D2 (Array.getElem?_eq_some_iff.1 HDe.out).1).trans HDe.out
        refine ⟨by simp, .inl ⟨_, _, rfl, run_takeDeferred hD2, ?_⟩⟩
        refine ⟨_, results_two rfl _ _, ?_⟩
        cases D with
        | none => exact absurd ⟨P, hdir⟩ HD.out
        | some L =>
          obtain rfl := (HR.out.of_dir HD.out).1
          exact ⟨_, M, rfl, ⟨HMs.out.1, hup⟩, (HMs.out.2.2.1.below hB2).putD hD2 _, below_put (below_th HMs.out.2.2.2 hB2) (by omega) _, HNEW.out⟩
    · have hq : (((pos P P.length : Nat) : Int) != (s.size : Int)) = true := by simp; omega
      obtain rfl : D = none := by
        cases D with
        | none => rfl
        | some L => exact absurd (HR.out.of_dir HD.out).2 hpe
      clear hpe
      obtain ⟨p, hp⟩ : ∃ p, pos P P.length = p := ⟨_, rfl⟩
      rw [hp] at hq ccn
      simp only [hp] at HFR
      clear hp
      gi_wp2_with (gi_at_call 83; refine (callsIn_wide.2 HS.out).mono ?_; rintro e W1 ⟨rfl, M, hM1, hM2, hM3, hM4⟩; obtain ⟨hBe, cl, cr, hDe⟩ := HFR.out M W1 hM3 hM4; have HMs := Lib.hid (And.intro hM1 (And.intro hM2 (And.intro hM3 hBe))); have HDe := Lib.hid hDe; clear hM1 hM2 hM3 hM4 hBe hDe)
      refine ⟨by simp, .inl ⟨_, _, rfl, run_takeDeferred HDe.out, ?_⟩⟩
      refine ⟨_, results_two rfl _ _, ?_⟩
      exact ⟨rfl, below_put HMs.out.2.2.2 (by omega) _⟩
  case stop =>
    rintro D c k W hD hk hf
    exact hf.elim
theorem list_new (s : ByteArray) (D : Option (List N)) (w : World) (hs : s.size ≤ 281474976710656) (h : DirO s D) : Calls Tryz.prog 49 #[.string s] w (ListNew D w) := by
  by_cases hbig : 20000 < s.size
  · obtain rfl : D = none := by
      cases D with
      | none => rfl
      | some L => have h2 : DirP s L := h; have := h2.2.2; omega
    have g1 : (20000 : Int) < (s.size : Int) := by omega
    clear h hbig hs
    unfold ListNew
    go_enter Tryz.func49, Tryz.ntmps49
    go_wp2
    go_returns
    exact ⟨rfl, Below.refl _ _⟩
  · obtain ⟨P, hP⟩ := Run.ex s
    exact callsIn_wide.1 (list_in s D P hP w (by omega) h)
theorem list_any (s : ByteArray) (D : Option (List N)) (w : World) (hs : s.size ≤ 281474976710656) (h : DirO s D) : Calls Tryz.prog 49 #[.string s] w (ListPost D w) := (list_new s D w hs h).mono fun _ _ k => k.post
theorem right_any (s : ByteArray) (D : Option (List N)) (w : World) (hs : s.size ≤ 281474976710656) (h : DirO s D) : Calls Tryz.prog 164 #[.string s] w (Ans w (.bool (rightO D))) := by
  have hL := Lib.hid (fun W => list_any s D W hs h)
  cases D with
  | none =>
    unfold ListPost at hL
    clear h hs
    go_enter Tryz.func164, Tryz.ntmps164
    go_wp2_with (go_at_call 49; (with_reducible refine Calls.mono (hL.out _) ?_); rintro e w1 ⟨rfl, hB⟩)
    go_ret
    exact ⟨rfl, hB⟩
  | some L =>
    unfold ListPost at hL
    clear h hs
    go_enter Tryz.func164, Tryz.ntmps164
    go_wp2_with (go_at_call 49; (with_reducible refine Calls.mono (hL.out _) ?_); rintro e w1 ⟨v, M, rfl, hM, hN, hB⟩)
    go_ret
    exact ⟨rfl, hB⟩
end
end Go.Proofs.YtkipkcmcolomcaaGreat.Dir
/- The program's count of names, given what it asks of a directory's bytes. -/
namespace Go.Proofs.YtkipkcmcolomcaaGreat.Pln
open Go.RowKit
open Dir (N nm Nms SortP DirP DirO)
attribute [local go_sem] Oper.semAt_some
set_option linter.unusedVariables false
set_option linter.unusedSimpArgs false
/-- what the list of a directory's names answers -/
def LstYes (L : List N) (w : World) (e : Ending) (w' : World) : Prop := ∃ a cap P, e = .returned (.tuple #[.slice a L.length cap, .int .i64 0]) ∧ P.length = L.length ∧ Nms w' (.slice a L.length cap) P ∧ P.Perm L ∧ Below w.heap.size w w' ∧ ∀ g, (Value.slice a L.length cap).ownBlock = some g → w.heap.size ≤ g
def LstNo (w : World) (e : Ending) (w' : World) : Prop := e = .returned (.tuple #[.slice none 0 0, .int .i64 110]) ∧ Below w.heap.size w w'
theorem lst_yes (s : ByteArray) (L : List N) (w : World) (hs : s.size ≤ 281474976710656) (h : DirP s L) : Calls Tryz.prog 49 #[.string s] w (LstYes L w) :=
  (Dir.list_new s (some L) w hs h).mono fun e w' k => by
    obtain ⟨v, M, h1, h2, h3, h4, h5⟩ := k
    obtain ⟨a, cap, rfl, _, _⟩ := h3.parts
    have hl := h2.1.length_eq
    rw [hl] at h1 h3 h5
    exact ⟨a, cap, M, h1, hl, h3, h2.1, h4, h5⟩
theorem lst_no (s : ByteArray) (w : World) (hs : s.size ≤ 281474976710656) (h : ¬ ∃ L, DirP s L) : Calls Tryz.prog 49 #[.string s] w (LstNo w) := Dir.list_new s none w hs h
/-- a list of names lies between S1 and S2, and the row of ways apart from it -/
structure PKeep (S1 S2 : Nat) (vP : Value) (P : List N) (v : Value) (W : World) : Prop where
  nm : Nms W vP P
  far : ∀ g, v.ownBlock = some g → g < S1 ∨ S2 ≤ g
  size : S2 ≤ W.heap.size
theorem PKeep.grown {S1 S2 : Nat} {vP : Value} {P : List N} {v : Value} {W W' : World} {row : Option Nat} (h : PKeep S1 S2 vP P v W) (hv : ∀ g, vP.ownBlock = some g → S1 ≤ g ∧ (0 < P.length → g < S2)) (hg : W.grownBy W' row) (hr : ∀ r, row = some r → r < S1 ∨ S2 ≤ r)
    (v' : Value) (hf : ∀ g, v'.ownBlock = some g → g < S1 ∨ S2 ≤ g) : PKeep S1 S2 vP P v' W' := by
  refine ⟨h.nm.keep fun g o k c e hk => ?_, hf, Nat.le_trans h.size hg.size⟩
  subst e
  obtain ⟨a9, c9, e9, _⟩ := h.nm.parts
  obtain ⟨_, hn, _⟩ := Value.slice.inj e9
  obtain ⟨h1, h2⟩ := hv g rfl
  have h3 := h2 (by omega)
  exact hg.block g (Nat.lt_of_lt_of_le h3 h.size) (fun e => by rcases hr g e.symm with h4 | h4 <;> omega)
theorem PKeep.th {S1 S2 : Nat} {vP : Value} {P : List N} {v : Value} {W W' : World} (h : PKeep S1 S2 vP P v W) (hB : Below W.heap.size W W') : PKeep S1 S2 vP P v W' := ⟨h.nm.below hB, h.far, Nat.le_trans h.size hB.size⟩
/-- what the count answers: the counts, or that the files are wrong -/
def CtdPost (l : List Nd) (w : World) (e : Ending) (w' : World) : Prop :=
  (∃ b n M dn, e = .returned (.tuple #[.map (some b), .bool true]) ∧ w.heap.size ≤ b ∧ MapM w' b n M ∧ CntI l M dn [] [] [] ∧ Below w.heap.size w w') ∨
  (e = .returned (.tuple #[.map none, .bool false]) ∧ ¬ RightL l ∧ Below w.heap.size w w')
def rowU (W : World) (base : Nat) (v : Value) (ws : List Nat) : Prop := W.ownsRow base 50 1 v ws.length (ws.map fun (n : Nat) => Value.int .u32 (n : Int))
/-- between two directories: c is how many are left to go through; amid one (d, of the names P, k of which are counted) -/
structure CtdI (l : List Nd) (w : World) (b : Nat) (dn cur : List Nat) (Q : List N) (v : Value) (W : World) : Prop where
  ex : ∃ ws M n, CntI l M dn cur ws Q ∧ rowU W w.heap.size v ws ∧ MapM W b n M ∧ n ≤ dn.length * 4000 + Q.length ∧ (∀ i, M i ≤ n)
  bel : Below w.heap.size w W
theorem rowU.parts {W : World} {base : Nat} {v : Value} {ws : List Nat} (h : rowU W base v ws) : ∃ a cap, v = .slice a ws.length cap ∧ ws.length ≤ cap ∧ cap ≤ 9223372036854775807 := (U32s.own h).parts
theorem rowU.far {W : World} {base b n : Nat} {v : Value} {ws : List Nat} {M : Nat → Nat} (h : rowU W base v ws) (hm : MapM W b n M) : v.ownBlock ≠ some b := fun e => by
  obtain ⟨es, ck, hb⟩ := hm.isMap
  rcases h.2 with ⟨hv, _⟩ | ⟨g, cap, cur, hv, _, hg, _⟩
  · rw [hv] at e; cases e
  · rw [hv] at e
    have : g = b := by simpa [Value.ownBlock] using e
    rw [this, hb] at hg
    cases hg
theorem rowU.below {W W' : World} {base : Nat} {v : Value} {ws : List Nat} (h : rowU W base v ws) (hB : Below W.heap.size W W') : rowU W' base v ws := by
  refine h.kept (row := none) ⟨hB.1, hB.2, hB.3, hB.4, fun k hk _ => hB.5 k hk⟩ ?_
  cases hv : v.ownBlock with
  | none => exact .inl rfl
  | some g => exact .inr (fun e => by cases e)
theorem CtdI.th {l : List Nd} {w : World} {b : Nat} {dn cur : List Nat} {Q : List N} {v : Value} {W W' : World} (h : CtdI l w b dn cur Q v W) (hB : Below W.heap.size W W') : CtdI l w b dn cur Q v W' := by
  obtain ⟨ws, M, n, h1, h2, h3, h4, h5⟩ := h.ex
  exact ⟨⟨ws, M, n, h1, h2.below hB, h3.th hB, h4, h5⟩, below_th h.bel hB⟩
theorem CtdI.start {l : List Nd} (hk : (nd l 2).kind = 2) (w : World) : CtdI l w w.heap.size [] [] [] (.slice (some ⟨w.heap.size + 1, 0, none⟩) 1 1) ((w.alloc (.map #[] 0)).alloc (.cells #[.int .u32 2] 50)) := by
  have h1 := MapM.made w
  have hs : (w.alloc (.map #[] 0)).heap.size = w.heap.size + 1 := World.size_alloc ..
  have h2 : ((w.alloc (.map #[] 0)).alloc (.cells #[.int .u32 2] 50)).heap[w.heap.size + 1]? = some (.cells #[.int .u32 ((2 : Nat) : Int)] 50 (0, 0)) := by
    have := World.alloc_heap_new (w.alloc (.map #[] 0)) (.cells #[.int .u32 2] 50)
    rw [hs] at this
    exact this
  exact ⟨⟨[2], fun _ => 0, 0, CntI.start hk, own_u32 h2 (Nat.le_succ _), h1.th (below_new _ _), Nat.zero_le _, fun i => Nat.le_refl _⟩, below_al (below_new _ _) _⟩
/-- a directory is taken from those to come -/
theorem CtdI.pop {l : List Nd} {w : World} {b : Nat} {dn : List Nat} {a : Option Addr} {m cap : Nat} {W : World} {ws : List Nat} {d : Nat} {M : Nat → Nat} {n : Nat}
    (h1 : CntI l M dn [] (ws ++ [d]) []) (h2 : rowU W w.heap.size (.slice a (m + 1) cap) (ws ++ [d])) (h3 : MapM W b n M) (h4 : n ≤ dn.length * 4000) (h5 : ∀ i, M i ≤ n) (hb : Below w.heap.size w W) (hd : ∃ L, DirP (nd l d).data L) :
    CtdI l w b dn [d] [] (.slice a m cap) W := by
  have := own_drop32 h2
  rw [List.dropLast_concat] at this
  exact ⟨⟨ws, M, n, h1.pop hd, this, h3, Nat.le_trans h4 (Nat.le_add_right _ _), h5⟩, hb⟩
/-- a name is counted, and nothing is to come of it -/
theorem CtdI.count {l : List Nd} {w : World} {b : Nat} {dn : List Nat} {d : Nat} {Q : List N} {v : Value} {W W3 W4 : World} {ws : List Nat} {M : Nat → Nat} {n : Nat} {e : N}
    (h1 : CntI l M dn [d] ws Q) (h2 : rowU W w.heap.size v ws) (h3 : MapM W b n M) (h4 : n ≤ dn.length * 4000 + Q.length) (h5 : ∀ i, M i ≤ n) (hb : Below w.heap.size w W) (hbb : w.heap.size ≤ b)
    (he : e ∈ ds (dirsOf l) d) (hok : okN l e) (hB : Below W.heap.size W W3) (hm : MapM W4 b (n + 1) (fun i => if i = e.ino then M e.ino + 1 else M i)) (hg : W3.grownBy W4 (some b)) :
    (∀ i, (if i = e.ino then M e.ino + 1 else M i) ≤ n + 1) ∧ Below w.heap.size w W4 ∧ rowU W4 w.heap.size v ws ∧ n + 1 ≤ dn.length * 4000 + (Q ++ [e]).length ∧
    CntI l (fun i => if i = e.ino then M e.ino + 1 else M i) dn [d] (if M e.ino = 0 ∧ (nd l e.ino).kind = 2 then ws ++ [e.ino] else ws) (Q ++ [e]) := by
  refine ⟨fun i => ?_, ?_, ?_, ?_, ?_⟩
  · have := h5 i; have := h5 e.ino; split <;> omega
  · exact (below_th hb hB).grown hg (Nat.le_trans hb.size hB.size) (fun k hk => by cases hk; exact hbb)
  · refine (h2.below hB).kept hg ?_
    cases hv : v.ownBlock with
    | none => exact .inl rfl
    | some g => exact .inr (fun e2 => (h2.below hB).far (h3.th hB) (by rw [hv, e2]))
  · rw [List.length_append]
    show n + 1 ≤ _ + (Q.length + 1)
    omega
  · refine h1.step he hok (fun i => ?_) _ ?_
    · by_cases hi : e.ino = i
      · rw [if_pos hi.symm, if_pos hi, hi]
      · rw [if_neg (fun e2 => hi e2.symm), if_neg hi]; rfl
    · rw [if_pos rfl]
      by_cases hc : M e.ino = 0 ∧ (nd l e.ino).kind = 2
      · rw [if_pos hc, if_pos ⟨by omega, hc.2⟩]
      · rw [if_neg hc, if_neg (fun hh => hc ⟨by omega, hh.2⟩)]
set_option maxRecDepth 100000 in
/-- all names of a directory are counted -/
theorem CtdI.close {l : List Nd} {w : World} {b : Nat} {dn : List Nat} {d : Nat} {P L : List N} {v : Value} {W : World} (h : CtdI l w b dn [d] P v W) (hp : P.Perm L) (hL : ds (dirsOf l) d = L) (hz : P.length ≤ 4000) : CtdI l w b (dn ++ [d]) [] [] v W := by
  obtain ⟨ws, M, n, h1, h2, h3, h4, h5⟩ := h.ex
  refine ⟨⟨ws, M, n, h1.close (by rw [hL]; exact hp), h2, h3, ?_, h5⟩, h.bel⟩
  have e1 : (dn ++ [d]).length = dn.length + 1 := by simp
  have e2 : ([] : List N).length = 0 := rfl
  rw [e1, e2]
  omega
theorem take_nm {P : List N} {k : Nat} (hk : k < P.length) : P.take (k + 1) = P.take k ++ [nm P k] := by
  rw [List.take_add_one, Dir.nm_get hk]
  rfl
section
set_option maxRecDepth 100000
set_option maxHeartbeats 8000000
theorem counted_any (v : Value) (l : List Nd) (w : World) (h : Nodes w v l) (hk : (nd l 2).kind = 2) (h240 : l.length ≤ 240) (hsz : ∀ i, (nd l i).kind = 2 → (nd l i).data.size ≤ 281474976710656) :
    Calls Tryz.prog 39 #[v] w (CtdPost l w) := by
  have h3 : 2 < l.length := Classical.byContradiction fun hn => by rw [nd_out (by omega)] at hk; exact absurd hk (by decide)
  obtain ⟨vb, voff, vcap, rfl, _⟩ := h.at h3
  obtain ⟨nl, hnl⟩ : ∃ nl, l.length = nl := ⟨_, rfl⟩
  rw [hnl] at h h240 h3 ⊢
  have HR := Lib.hid (fun W (hB : Below w.heap.size w W) i (hi : i < nl) => (h.below hB).get hnl hi)
  have HST := Lib.hid (CtdI.start hk w)
  have hmm := @run_makeMap Tryz.prog
  have HK := Lib.hid hk
  have HSZ := Lib.hid hsz
  have HNL := Lib.hid hnl
  obtain ⟨R, hR⟩ : ∃ R, CtdPost l w = R := ⟨_, rfl⟩
  have HYES : Hid (∀ b n M dn W, w.heap.size ≤ b → MapM W b n M → CntI l M dn [] [] [] → Below w.heap.size w W → R (.returned (.tuple #[.map (some b), .bool true])) W) := fun b n M dn W h1 h2 h3 h4 => by
    rw [← hR]; exact .inl ⟨b, n, M, dn, rfl, h1, h2, h3, h4⟩
  have HNO : Hid (∀ W, ¬ RightL l → Below w.heap.size w W → R (.returned (.tuple #[.map none, .bool false])) W) := fun W h1 h2 => by
    rw [← hR]; exact .inr ⟨rfl, h1, h2⟩
  rw [hR]
  clear h hk hsz hnl hR
  obtain ⟨W0, rfl⟩ : ∃ W0 : World, W0 = w := ⟨_, rfl⟩
  go_enter Tryz.func39, Tryz.ntmps39
  go_wp2
  go_loopg [5] nl (fun c ways wr => ∃ dn, Hid (CtdI l W0 W0.heap.size dn [] [] ways wr) ∧ c = nl - dn.length)
  case atStart => exact ⟨[], HST.out, by simp⟩
  case round =>
    obtain ⟨dn, HC, rfl⟩ := hrel
    obtain ⟨⟨ws, M, n, h1, h2, hm3, h4, h5⟩, hb⟩ := HC.out
    obtain ⟨a, cap, rfl, hc1, hc2⟩ := h2.parts
    rcases (show ws = [] ∨ ∃ ws' d, ws = ws' ++ [d] from (List.eq_nil_or_concat ws).imp id (fun ⟨A, x, e⟩ => ⟨A, x, by rw [e, List.concat_eq_append]⟩)) with rfl | ⟨ws', d, rfl⟩
    · have HF := Lib.hid (HYES.out _ _ _ _ _ (Nat.le_refl _) hm3 h1 hb)
      clear HC h1 h2 hm3 h4 h5 hb hc1 hc2
      have e0 : ([] : List Nat).length = 0 := rfl
      rw [e0]
      go_wp2
      first | exact HF.out | (go_returns; exact HF.out)
    · have hdk := h1.kind HK.out (i := d) (by simp)
      have hdl : d < nl := HNL.out ▸ h1.lt HK.out (i := d) (by simp)
      have hfew := h1.few HK.out
      rw [HNL.out] at hfew
      have hfw : dn.length < nl := by simp only [List.length_append, List.length_cons, List.length_nil] at hfew; omega
      have hln : (ws' ++ [d]).length = ws'.length + 1 := by simp
      obtain ⟨m, hm⟩ : ∃ m, ws'.length = m := ⟨_, rfl⟩
      rw [hln, hm] at h2 hc1 ⊢
      have h2' : wr.ownsRow W0.heap.size 50 1 (.slice a (m + 1) cap) (m + 1) ((ws' ++ [d]).map fun (n : Nat) => Value.int .u32 (n : Int)) := by
        have h9 := h2
        unfold rowU at h9
        rw [hln, hm] at h9
        exact h9
      obtain ⟨g, cap', e9, hg0, _, _⟩ := own_open32 (show 0 < m + 1 by omega) h2'
      cases e9
      have c1 : wr.cell? ⟨g, m, none⟩ = some (.int .u32 (d : Int)) := by
        refine (h2'.cellAt m (by omega)).trans ?_
        rw [← hm, List.map_append, List.getElem?_append_right (by simp)]
        simp
      obtain ⟨_, _, _, _, c4⟩ := HR.out _ hb d hdl
      have hsd := HSZ.out d hdk
      have HGW : Hid (∀ g9, (Value.slice (some ⟨g, 0, none⟩) m cap).ownBlock = some g9 → g9 < wr.heap.size) := fun g9 hg9 => (h2'.lt g9 hg9).2
      have hPOP := Lib.hid (fun hd => CtdI.pop h1 (show rowU wr W0.heap.size (.slice (some ⟨g, 0, none⟩) (m + 1) cap) (ws' ++ [d]) from h2) hm3 h4 h5 hb hd)
      have hWD : Hid ((¬ ∃ L, DirP (nd l d).data L) → ¬ RightL l) := fun hn => wrong_dir h1 HK.out (i := d) (by simp) hn
      have hLD : Hid (∀ L, DirP (nd l d).data L → ds (dirsOf l) d = L) := fun L hL => by rw [ds_dirsOf, if_pos hdk]; exact lsD_is hL
      obtain ⟨k1, hk1⟩ : ∃ k1, m + 1 = k1 := ⟨_, rfl⟩
      have hw1 : IntKind.i64.wrap ((k1 : Int) - 1) = (m : Int) := by rw [IntKind.wrap_i64] <;> omega
      have hpos : decide (0 < k1) = true := decide_eq_true (by omega)
      have hmc : m ≤ cap := by omega
      have hmk : m < k1 := by omega
      rw [hk1]
      obtain ⟨s, hs⟩ : ∃ s, (nd l d).data = s := ⟨_, rfl⟩
      rw [hs] at c4 hsd hWD hPOP hLD
      have HB := Lib.hid hb
      have HMB := Lib.hid hm3.lt
      clear HC h1 h2 h2' hm3 h4 h5 hb hc1 hln hm hs hk1
      by_cases hd : ∃ L, DirP s L
      · obtain ⟨L, hL⟩ := hd
        have HP := Lib.hid (hPOP.out ⟨L, hL⟩)
        have HLL := Lib.hid (lst_yes s L wr hsd hL)
        have HDL := Lib.hid (hLD.out L hL)
        have HFI := Lib.hid hL
        clear hPOP hWD hLD hL hsd
        unfold LstYes at HLL
        go_wp2_with (go_at_call 49; (with_reducible refine Calls.mono HLL.out ?_); rintro e w2 ⟨a9, cap9, P, rfl, hPL, hPN, hPP, hB2, hPG⟩; have HPG := Lib.hid hPG; have HKP : Hid (PKeep wr.heap.size w2.heap.size (.slice a9 L.length cap9) P (.slice (some ⟨g, 0, none⟩) m cap) w2) := ⟨hPN, fun g9 hg9 => .inl (HGW.out g9 hg9), Nat.le_refl _⟩; clear hPG; have HC2 := Lib.hid (HP.out.th hB2); have HN2 := Lib.hid hPN; have HPP := Lib.hid hPP; have HPL := Lib.hid hPL; clear hPN hPP hPL)
        obtain ⟨N, hN⟩ : ∃ N, L.length = N := ⟨_, rfl⟩
        have HIN : Hid (∀ k, k < N → nm P k ∈ ds (dirsOf l) d ∧ (nm P k).ino < 4294967296) := fun k hk9 => by
          have hm9 : nm P k ∈ L := HPP.out.mem_iff.1 (Dir.nm_mem (by rw [HPL.out, hN]; exact hk9))
          exact ⟨by rw [HDL.out]; exact hm9, (HFI.out.1.mem _ hm9).2.2⟩
        have HTK : Hid (∀ k, k < N → P.take (k + 1) = P.take k ++ [nm P k] ∧ (P.take k).length = k) := fun k hk9 => ⟨take_nm (by rw [HPL.out, hN]; exact hk9), by rw [List.length_take, HPL.out, hN]; omega⟩
        have HGP : Hid (∀ k, k < N → ∀ W, Nms W (.slice a9 N cap9) P → ∃ b off, a9 = some ⟨b, off, none⟩ ∧ Dir.Reads W b (off + k * 2) (nm P k)) := fun k hk9 W hW => by
          obtain ⟨b, off, cap8, e8, hr⟩ := hW.at (k := k) (by rw [HPL.out, hN]; exact hk9)
          injection e8 with e8a
          exact ⟨b, off, e8a, hr⟩
        have HVG : Hid (∀ g9, (Value.slice a9 N cap9).ownBlock = some g9 → wr.heap.size ≤ g9 ∧ (0 < P.length → g9 < w2.heap.size)) := fun g9 hg9 => ⟨HPG.out g9 (by rw [hN]; exact hg9), fun h0 => by
          obtain ⟨b, off, cap8, e8, hr⟩ := HN2.out.at h0
          obtain ⟨e8a, _, _⟩ := Value.slice.inj e8
          rw [e8a] at hg9
          obtain rfl : b = g9 := by simpa [Value.ownBlock] using hg9
          exact World.block_lt_of_cell? _ _ hr.1⟩
        have hPN4 : N ≤ 4000 := by
          have h8 := Dir.bytesL_many L
          rw [HFI.out.2.1] at h8
          have := HFI.out.2.2
          omega
        have HCL : Hid (∀ v W, CtdI l W0 W0.heap.size dn [d] (P.take N) v W → CtdI l W0 W0.heap.size (dn ++ [d]) [] [] v W) := fun v W h => by
          rw [List.take_of_length_le (by rw [HPL.out, hN]; exact Nat.le_refl _)] at h
          exact h.close HPP.out HDL.out (by rw [HPL.out, hN]; exact hPN4)
        have HWN : Hid (∀ k, k < N → ¬ okN l (nm P k) → ¬ RightL l) := fun k hk9 h => wrong_name (HIN.out k hk9).1 h
        rw [hN] at HKP ⊢
        obtain ⟨S1, hS1⟩ : ∃ S1, wr.heap.size = S1 := ⟨_, rfl⟩
        have hS10 : W0.heap.size < S1 := by rw [← hS1]; exact HMB.out
        rw [hS1] at HKP HVG
        clear HLL HP HPP HPL HDL HFI HN2 hN HPG HGW hS1
        go_loopw [5, 41] (fun ways i wr2 => ∃ k : Nat, k ≤ N ∧ i = .int .i64 (k : Int) ∧ Hid (CtdI l W0 W0.heap.size dn [d] (P.take k) ways wr2) ∧ Hid (PKeep S1 w2.heap.size (.slice a9 N cap9) P ways wr2)) (fun _ i _ => N - (intOf i).toNat)
        case atStart => exact ⟨0, by omega, rfl, HC2.out, HKP.out⟩
        case round =>
          obtain ⟨k, hkN, rfl, HJ, HW2⟩ := hrel
          by_cases hlt : k < N
          · obtain ⟨bp, op, e1, r0, r1⟩ := HGP.out k hlt _ HW2.out.nm
            subst e1
            obtain ⟨hin, hx32⟩ := HIN.out k hlt
            have hwn := HWN.out k hlt
            have htk := HTK.out k hlt
            obtain ⟨e, he⟩ : ∃ e, nm P k = e := ⟨_, rfl⟩
            rw [he] at r0 r1 hin hx32 hwn htk
            have hbel := (HJ.out).bel
            have hlt2 : (k : Int) < (N : Int) := by omega
            obtain ⟨es, x⟩ := e
            dsimp only at r0 r1 hx32
            have HNW := Lib.hid (fun W (h : Below wr.heap.size wr W) (h2 : ¬ RightL l) => HNO.out W h2 (below_th hbel h))
            have hnlw : IntKind.u32.wrap (nl : Int) = (nl : Int) := by rw [IntKind.wrap_u32]; omega
            by_cases hx3 : 3 ≤ x
            · by_cases hxl : x < nl
              · obtain ⟨z0, z1, z2, z3, z4⟩ := HR.out _ (below_al hbel (.cells #[.string es, .int .u32 (x : Int)] 52)) x hxl
                have hI := fun W => isNone_any (nd l x) W
                have hok2 : ¬ nd l x = Nd.zero → okN l ⟨es, x⟩ := fun h => ⟨hx3, HNL.out ▸ hxl, h⟩
                have hno2 : nd l x = Nd.zero → ¬ RightL l := fun h => hwn fun h2 => h2.2.2 h
                have gx3 : ¬ ((x : Int) < 3) := by omega
                have gxl : ¬ ((x : Int) ≥ (nl : Int)) := by omega
                obtain ⟨nz, hnz⟩ : ∃ nz, nd l x = nz := ⟨_, rfl⟩
                rw [hnz] at z0 z1 z2 z3 z4 hI hok2 hno2
                obtain ⟨ws2, M2, n2, j1, j2, j3, j4, j5⟩ := HJ.out.ex
                obtain ⟨a2, cap2, rfl, hc3, hc4⟩ := j2.parts
                by_cases hz0 : nz = Nd.zero
                · rw [decide_eq_true hz0] at hI
                  have HF := Lib.hid (fun W h => HNW.out W h (hno2 hz0))
                  clear HJ hwn htk HNW hx3 hin he hz0 hno2 hok2 hnz j1 j2 j3 j4 j5 hxl
                  obtain ⟨zk, zm, zl, zt, zd⟩ := nz
                  unfold Nd.val at hI
                  dsimp only at z0 z1 z2 z3 z4 hI
                  have HI := Lib.hid hI
                  clear hI
                  go_wp2_with (go_at_call 37; (with_reducible refine Calls.mono (HI.out _) ?_); rintro e w3 ⟨rfl, hB3⟩)
                  first | exact HF.out _ (below_th (below_new _ _) hB3) | (go_returns; exact HF.out _ (below_th (below_new _ _) hB3))
                · rw [decide_eq_false hz0] at hI
                  have hkx : (nd l x).kind = nz.kind := by rw [hnz]
                  have hfew2 := j1.few HK.out
                  rw [HNL.out] at hfew2
                  have hws : ws2.length ≤ 240 := by omega
                  have hQl := htk.2
                  have hn8 : n2 < 100000000 := by
                    rw [hQl] at j4
                    have : dn.length * 4000 ≤ 240 * 4000 := Nat.mul_le_mul_right _ (by omega)
                    omega
                  have hm8 : M2 x + 1 ≤ 100000000 := by have := j5 x; omega
                  have HMAP : Hid (∀ W3, Below (wr.alloc (.cells #[.string es, .int .u32 (x : Int)] 52)).heap.size (wr.alloc (.cells #[.string es, .int .u32 (x : Int)] 52)) W3 → ∃ W4, (Instr.mapUpdate 70 (.map (some W0.heap.size)) (.int .u32 (x : Int)) (.int .i64 ((M2 x + 1 : Nat) : Int))).run Tryz.prog W3 = .ok () W4 ∧
                      (Instr.lookup 70 (.map (some W0.heap.size)) (.int .u32 (x : Int)) false).run Tryz.prog W3 = .ok (.int .i64 (M2 x : Nat)) W3 ∧
                      (Instr.lookup 70 (.map (some W0.heap.size)) (.int .u32 (x : Int)) false).run Tryz.prog W4 = .ok (.int .i64 ((M2 x + 1 : Nat) : Int)) W4 ∧
                      W4.cell? ⟨vb, voff + x * 5, none⟩ = some (.int .i64 nz.kind) ∧ Below W0.heap.size W0 W4 ∧ rowU W4 W0.heap.size (.slice a2 ws2.length cap2) ws2 ∧ PKeep S1 w2.heap.size (.slice (some ⟨bp, op, none⟩) N cap9) P (.slice a2 ws2.length cap2) W4 ∧
                      (¬ (M2 x = 0 ∧ nz.kind = 2) → CtdI l W0 W0.heap.size dn [d] (P.take (k + 1)) (.slice a2 ws2.length cap2) W4) ∧
                      (M2 x = 0 ∧ nz.kind = 2 → ∀ v5 W5, W5.ownsRow W0.heap.size 50 1 v5 (ws2.length + [x].length) ((ws2.map fun (n : Nat) => Value.int .u32 (n : Int)) ++ [x].map fun (n : Nat) => Value.int .u32 (n : Int)) → (W4.alloc (.cells #[.int .u32 (x : Int)] 50)).grownBy W5 (Value.slice a2 ws2.length cap2).ownBlock → (v5.ownBlock = (Value.slice a2 ws2.length cap2).ownBlock ∨ v5.ownBlock = some (W4.alloc (.cells #[.int .u32 (x : Int)] 50)).heap.size) → CtdI l W0 W0.heap.size dn [d] (P.take (k + 1)) v5 W5 ∧ PKeep S1 w2.heap.size (.slice (some ⟨bp, op, none⟩) N cap9) P v5 W5)) := fun W3 hB3 => by
                    have hB3' : Below wr.heap.size wr W3 := below_th (below_new _ _) hB3
                    have hm3 := j3.th hB3'
                    obtain ⟨W4, u1, u2, u3⟩ := hm3.upd hn8 x (M2 x + 1) hx32 hm8
                    obtain ⟨q1, q2, q3, q4, q5⟩ := CtdI.count j1 j2 j3 j4 j5 hbel (Nat.le_refl _) hin (hok2 hz0) hB3' u2 u3
                    have l2 := u2.look x hx32
                    rw [if_pos rfl] at l2
                    have hw24 := (HW2.out.th hB3').grown HVG.out u3 (fun r hr => by cases hr; exact .inl hS10) _ HW2.out.far
                    refine ⟨W4, u1, hm3.look x hx32, l2, ?_, q2, q3, hw24, fun hc => ?_, fun hc v5 W5 o1 o2 o3 => ?_⟩
                    · have := (HR.out _ q2 x hxl).1
                      rw [hnz] at this
                      exact this
                    · rw [htk.1]
                      rw [if_neg (by rw [hkx]; exact hc)] at q5
                      exact ⟨⟨ws2, _, n2 + 1, q5, q3, u2, q4, q1⟩, q2⟩
                    · rw [htk.1]
                      rw [if_pos (by rw [hkx]; exact hc)] at q5
                      have hb4 : Below W0.heap.size W0 (W4.alloc (.cells #[.int .u32 (x : Int)] 50)) := below_al q2 _
                      have hrow := q3.below (below_new W4 (.cells #[.int .u32 (x : Int)] 50))
                      have hmm4 := u2.th (below_new W4 (.cells #[.int .u32 (x : Int)] 50))
                      have hm5 : MapM W5 W0.heap.size (n2 + 1) (fun i => if i = x then M2 x + 1 else M2 i) := hmm4.of_heap (o2.block _ hmm4.lt (fun e => hrow.far hmm4 e.symm))
                      refine ⟨⟨⟨ws2 ++ [x], _, n2 + 1, q5, ?_, hm5, q4, q1⟩, hb4.grown o2 hb4.size (fun g hg => (hrow.lt g hg).1)⟩, ?_⟩
                      · unfold rowU
                        rw [List.length_append, List.map_append]
                        exact o1
                      · refine (hw24.th (below_new W4 (.cells #[.int .u32 (x : Int)] 50))).grown HVG.out o2 hw24.far v5 (fun g9 hg9 => ?_)
                        rcases o3 with o3 | o3
                        · exact hw24.far g9 (by rw [← o3]; exact hg9)
                        · rw [o3] at hg9
                          cases hg9
                          exact .inr (Nat.le_trans hw24.size (below_new W4 _).size)
                  have hz2 := Lib.hid hz0
                  obtain ⟨S2, hS2⟩ : ∃ S2, w2.heap.size = S2 := ⟨_, rfl⟩
                  rw [hS2] at HMAP ⊢
                  obtain ⟨zk, zm, zl, zt, zd⟩ := nz
                  unfold Nd.val at hI
                  dsimp only at z0 z1 z2 z3 z4 hI HMAP
                  have HI := Lib.hid hI
                  obtain ⟨mx, hmx⟩ : ∃ mx, M2 x = mx := ⟨_, rfl⟩
                  rw [hmx] at HMAP hm8
                  obtain ⟨mv, hmv⟩ : ∃ mv, mx + 1 = mv := ⟨_, rfl⟩
                  rw [hmv] at HMAP hm8
                  have hwm : IntKind.i64.wrap ((mx : Int) + 1) = (mv : Int) := by rw [IntKind.wrap_i64] <;> omega
                  have hHW2s := HW2.out.size
                  have HWS := Lib.hid hws
                  have hk1N : k + 1 ≤ N := by omega
                  clear HJ hwn htk HNW hx3 hin he hz0 hno2 hok2 hnz j1 j2 j3 j4 j5 hI hkx hfew2 hws hQl hn8 HW2
                  by_cases hc0 : mx = 0
                  · by_cases hck : zk = 2
                    · subst hck
                      have HCC := Lib.hid (And.intro hc0 (rfl : (2 : Int) = 2))
                      have g8 : (mv : Int) ≤ 1 := by omega
                      have g9 : 1 ≤ (mv : Int) := by omega
                      clear hc0 hmv hmx
                      go_wp2_with (first
                        | (go_at_call 37; (with_reducible refine Calls.mono (HI.out _) ?_); rintro e w3 ⟨rfl, hB3⟩; obtain ⟨w4, hup, l1, l2, y0, y1, y2, y3, y4, y5⟩ := HMAP.out w3 hB3; have HY := Lib.hid (And.intro y1 (And.intro y2 (y5 HCC.out))); have hU := U32s.own (L := [x]) (own_u32 (base := 0) (World.alloc_heap_new w4 (.cells #[.int .u32 (x : Int)] 50)) (Nat.zero_le _)); clear y1 y2 y3 y4 y5)
                        | (at_builtin; refine wpList_append_u32s rfl _ _ rfl rfl W0.heap.size _ ws2.length (ws2.map fun (n : Nat) => Value.int .u32 (n : Int)) rfl (HY.out.2.1.below (below_new _ _)) _ [x] rfl hU (by have := HWS.out; simp; omega) (below_al HY.out.1 _).size ?_; intro v5 w5 o1 o2 o3))
                      have HZ := Lib.hid (HY.out.2.2 _ _ o1 o2 o3)
                      go_roundw
                      case rel => exact ⟨k + 1, hk1N, by go_num, HZ.out.1, HZ.out.2⟩
                      case measure => simp [intOf]; omega
                    · have HCC : Hid (¬ (mx = 0 ∧ zk = 2)) := fun h => hck h.2
                      have g8 : (mv : Int) ≤ 1 := by omega
                      have g9 : 1 ≤ (mv : Int) := by omega
                      clear hc0 hmv hmx
                      go_wp2_with (go_at_call 37; (with_reducible refine Calls.mono (HI.out _) ?_); rintro e w3 ⟨rfl, hB3⟩; obtain ⟨w4, hup, l1, l2, y0, y1, y2, y3, y4, y5⟩ := HMAP.out w3 hB3; have HY := Lib.hid (And.intro (y4 HCC.out) y3); clear y1 y2 y3 y4 y5)
                      go_roundw
                      case rel => exact ⟨k + 1, hk1N, by go_num, HY.out.1, HY.out.2⟩
                      case measure => simp [intOf]; omega
                  · have hne : ¬ ((mv : Int) = 1) := by omega
                    have HCC : Hid (¬ (mx = 0 ∧ zk = 2)) := fun h => hc0 h.1
                    go_wp2_with (go_at_call 37; (with_reducible refine Calls.mono (HI.out _) ?_); rintro e w3 ⟨rfl, hB3⟩; obtain ⟨w4, hup, l1, l2, y0, y1, y2, y3, y4, y5⟩ := HMAP.out w3 hB3; have HY := Lib.hid (And.intro (y4 HCC.out) y3); clear y1 y2 y3 y4 y5)
                    go_roundw
                    case rel => exact ⟨k + 1, hk1N, by go_num, HY.out.1, HY.out.2⟩
                    case measure => simp [intOf]; omega
              · have HF := Lib.hid (fun W h => HNW.out W h (hwn fun h2 => hxl (HNL.out ▸ h2.2.1)))
                have gx3 : ¬ ((x : Int) < 3) := by omega
                have gxl : ((x : Int) ≥ (nl : Int)) := by omega
                clear HJ hwn htk HNW hx3 hxl hin he
                go_wp2
                first | exact HF.out _ (below_new _ _) | (go_returns; exact HF.out _ (below_new _ _))
            · have HF := Lib.hid (fun W h => HNW.out W h (hwn fun h2 => hx3 h2.1))
              have gx3 : ((x : Int) < 3) := by omega
              clear HJ hwn htk HNW hx3 hin he
              go_wp2
              first | exact HF.out _ (below_new _ _) | (go_returns; exact HF.out _ (below_new _ _))
          · obtain rfl : k = N := by omega
            have HF := Lib.hid (HCL.out _ _ HJ.out)
            have hge : ¬ ((k : Int) < (k : Int)) := by omega
            clear HJ
            go_wp2
            go_roundg (nl - (dn ++ [d]).length)
            case measure => simp; omega
            case rel => exact ⟨dn ++ [d], HF.out, rfl⟩
      · have HF := Lib.hid (fun W2 (h : Below wr.heap.size wr W2) => HNO.out W2 (hWD.out hd) (below_th HB.out h))
        have HLL := Lib.hid (lst_no s wr hsd hd)
        clear hPOP hWD hLD hsd
        unfold LstNo at HLL
        go_wp2_with (go_at_call 49; (with_reducible refine Calls.mono HLL.out ?_); rintro e w2 ⟨rfl, hB2⟩)
        first | exact HF.out _ hB2 | (go_returns; exact HF.out _ hB2)
end
end Go.Proofs.YtkipkcmcolomcaaGreat.Pln
/- Which files are right, by the program: one node; all of them. -/
namespace Go.Proofs.YtkipkcmcolomcaaGreat.Pln
open Go.RowKit
open Pth (CellAt wide_scope wide_label below_putObj)
attribute [local go_sem] Oper.semAt_some
set_option linter.unusedVariables false
set_option linter.unusedSimpArgs false
def targetP (s : ByteArray) : Prop := 1 ≤ s.size ∧ s.size ≤ 500 ∧ bareP s
instance (s : ByteArray) : Decidable (targetP s) := by unfold targetP; infer_instance
theorem bare_iff (s : ByteArray) : bareP s ↔ Lib.indexByte s.data.toList 0 < 0 := by
  have hge := Lib.indexByte_ge s.data.toList 0
  constructor
  · intro h
    refine Classical.byContradiction fun hn => ?_
    obtain ⟨o, ho⟩ := Int.eq_ofNat_of_zero_le (Int.not_lt.1 hn)
    have h2 := (Lib.indexByte_some ho).1
    exact h 0 (List.mem_of_getElem? h2) rfl
  · intro h c hc he
    have h1 : Lib.indexByte s.data.toList 0 = -1 := by omega
    obtain ⟨k, hk⟩ := List.getElem?_of_mem hc
    exact Lib.indexByte_none h1 k (by rw [hk, he])
section
set_option maxRecDepth 100000
set_option maxHeartbeats 4000000
theorem isTarget_any (s : ByteArray) (w : World) : Calls Tryz.prog 76 #[.string s] w (Ans w (.bool (decide (targetP s)))) := by
  by_cases h1 : 1 ≤ s.size
  · by_cases h2 : s.size ≤ 500
    · have HI := Lib.hid (Shf.Tryz.strings_IndexByte s 0 w)
      have e0 : (0 : Int).toNat.toUInt8 = 0 := rfl
      rw [e0] at HI
      by_cases h3 : Lib.indexByte s.data.toList 0 < 0
      · rw [decide_eq_true (show targetP s from ⟨h1, h2, (bare_iff s).2 h3⟩)]
        obtain ⟨x, hx⟩ : ∃ x, Lib.indexByte s.data.toList 0 = x := ⟨_, rfl⟩
        rw [hx] at HI h3
        go_enter Tryz.func76, Tryz.ntmps76
        go_wp2_with (go_at_call 109; (with_reducible refine Calls.mono HI.out ?_); rintro e w9 ⟨rfl, hw⟩; rw [hw]; clear hw w9)
        go_ret
        first | exact ⟨rfl, Below.refl _ _⟩ | exact ⟨by simp <;> omega, Below.refl _ _⟩
      · rw [decide_eq_false (show ¬ targetP s from fun h => h3 ((bare_iff s).1 h.2.2))]
        obtain ⟨x, hx⟩ : ∃ x, Lib.indexByte s.data.toList 0 = x := ⟨_, rfl⟩
        rw [hx] at HI h3
        go_enter Tryz.func76, Tryz.ntmps76
        go_wp2_with (go_at_call 109; (with_reducible refine Calls.mono HI.out ?_); rintro e w9 ⟨rfl, hw⟩; rw [hw]; clear hw w9)
        go_ret
        first | exact ⟨rfl, Below.refl _ _⟩ | exact ⟨by simp <;> omega, Below.refl _ _⟩
    · rw [decide_eq_false (show ¬ targetP s from fun h => h2 h.2.1)]
      have g2 : ¬ ((s.size : Int) ≤ 500) := by omega
      go_enter Tryz.func76, Tryz.ntmps76
      go_wp2
      go_ret
      exact ⟨rfl, Below.refl _ _⟩
  · rw [decide_eq_false (show ¬ targetP s from fun h => h1 h.1)]
    have g2 : ¬ ((s.size : Int) ≥ 1) := by omega
    go_enter Tryz.func76, Tryz.ntmps76
    go_wp2
    go_ret
    exact ⟨rfl, Below.refl _ _⟩
theorem isNode_any (n : Nd) (w : World) : Calls Tryz.prog 41 #[n.val] w (Ans w (.bool (decide (nodeP n)))) := by
  obtain ⟨k, m, l, t, s⟩ := n
  have HN := Lib.hid (below_new w (boxO ⟨k, m, l, t, s⟩))
  unfold boxO at HN
  have HT := Lib.hid (fun W => isTarget_any s W)
  dsimp only at HN
  show Calls Tryz.prog 41 #[.agg #[.int .i64 k, .int .u16 m, .int .u16 l, .int .u64 t, .string s]] w _
  by_cases h0 : m ≤ 4095 ∧ t < 281474976710656 ∧ 1 ≤ l ∧ l ≤ 1000
  · obtain ⟨h1, h2, h3, h4⟩ := h0
    have g1 : ¬ ((m : Int) > 4095) := by omega
    have g2 : ¬ ((t : Int) ≥ 281474976710656) := by omega
    have g3 : ¬ ((l : Int) < 1) := by omega
    have g4 : ¬ ((l : Int) > 1000) := by omega
    by_cases k1 : k = 1
    · have hd : decide (nodeP ⟨k, m, l, t, s⟩) = decide (s.size ≤ 200000) := by
        apply decide_eq_decide.2
        unfold nodeP
        constructor
        · rintro ⟨_, _, _, _, h | h | h⟩
          · exact h.2
          · exact absurd h.1 (by show ¬ k = 2; omega)
          · exact absurd h.1 (by show ¬ k = 3; omega)
        · intro h; exact ⟨h1, h2, h3, h4, .inl ⟨k1, h⟩⟩
      rw [hd]
      by_cases hs : s.size ≤ 200000
      · rw [decide_eq_true hs]
        have g5 : ((s.size : Int) ≤ 200000) := by omega
        clear hd
        go_enter Tryz.func41, Tryz.ntmps41
        go_wp2
        go_ret
        first | exact ⟨rfl, below_new _ _⟩ | exact ⟨by simp <;> omega, below_new _ _⟩
      · rw [decide_eq_false hs]
        have g5 : ¬ ((s.size : Int) ≤ 200000) := by omega
        clear hd
        go_enter Tryz.func41, Tryz.ntmps41
        go_wp2
        go_ret
        first | exact ⟨rfl, below_new _ _⟩ | exact ⟨by simp <;> omega, below_new _ _⟩
    · by_cases k2 : k = 2
      · have hd : decide (nodeP ⟨k, m, l, t, s⟩) = decide (l = 1) := by
          apply decide_eq_decide.2
          unfold nodeP
          constructor
          · rintro ⟨_, _, _, _, h | h | h⟩
            · exact absurd h.1 k1
            · exact h.2
            · exact absurd h.1 (by show ¬ k = 3; omega)
          · intro h; exact ⟨h1, h2, h3, h4, .inr (.inl ⟨k2, h⟩)⟩
        rw [hd]
        by_cases hs : l = 1
        · rw [decide_eq_true hs]
          have g5 : (l : Int) ≤ 1 := by omega
          clear hd hs
          go_enter Tryz.func41, Tryz.ntmps41
          go_wp2
          go_ret
          first | exact ⟨rfl, below_new _ _⟩ | exact ⟨by simp <;> omega, below_new _ _⟩
        · rw [decide_eq_false hs]
          have g5 : ¬ ((l : Int) = 1) := by omega
          clear hd
          go_enter Tryz.func41, Tryz.ntmps41
          go_wp2
          go_ret
          first | exact ⟨rfl, below_new _ _⟩ | exact ⟨by simp <;> omega, below_new _ _⟩
      · by_cases k3 : k = 3
        · have hd : decide (nodeP ⟨k, m, l, t, s⟩) = decide (targetP s) := by
            apply decide_eq_decide.2
            unfold nodeP targetP
            constructor
            · rintro ⟨_, _, _, _, h | h | h⟩
              · exact absurd h.1 k1
              · exact absurd h.1 k2
              · exact h.2
            · intro h; exact ⟨h1, h2, h3, h4, .inr (.inr ⟨k3, h⟩)⟩
          rw [hd]
          clear hd
          obtain ⟨d, hd⟩ : ∃ d, decide (targetP s) = d := ⟨_, rfl⟩
          rw [hd] at HT ⊢
          clear hd
          have HN2 := Lib.hid (fun (W2 : World) h => below_th (v := W2) HN.out h)
          go_enter Tryz.func41, Tryz.ntmps41
          go_wp2_with (go_at_call 76; (with_reducible refine Calls.mono (HT.out _) ?_); rintro e w9 ⟨rfl, hB9⟩)
          go_ret
          exact ⟨rfl, below_th (below_new _ _) hB9⟩
        · rw [decide_eq_false (show ¬ nodeP ⟨k, m, l, t, s⟩ from by
            rintro ⟨_, _, _, _, h | h | h⟩
            · exact k1 h.1
            · exact k2 h.1
            · exact k3 h.1)]
          go_enter Tryz.func41, Tryz.ntmps41
          go_wp2
          go_ret
          first | exact ⟨rfl, below_new _ _⟩ | exact ⟨by simp <;> omega, below_new _ _⟩
  · rw [decide_eq_false (show ¬ nodeP ⟨k, m, l, t, s⟩ from fun h => h0 ⟨h.1, h.2.1, h.2.2.1, h.2.2.2.1⟩)]
    by_cases h1 : m ≤ 4095
    · by_cases h2 : t < 281474976710656
      · by_cases h3 : 1 ≤ l
        · have h4 : ¬ l ≤ 1000 := fun h => h0 ⟨h1, h2, h3, h⟩
          have g1 : ¬ ((m : Int) > 4095) := by omega
          have g2 : ¬ ((t : Int) ≥ 281474976710656) := by omega
          have g3 : ¬ ((l : Int) < 1) := by omega
          have g4 : ((l : Int) > 1000) := by omega
          clear h0
          go_enter Tryz.func41, Tryz.ntmps41
          go_wp2
          go_ret
          first | exact ⟨rfl, below_new _ _⟩ | exact ⟨by simp <;> omega, below_new _ _⟩
        · have g1 : ¬ ((m : Int) > 4095) := by omega
          have g2 : ¬ ((t : Int) ≥ 281474976710656) := by omega
          have g3 : ((l : Int) < 1) := by omega
          clear h0
          go_enter Tryz.func41, Tryz.ntmps41
          go_wp2
          go_ret
          first | exact ⟨rfl, below_new _ _⟩ | exact ⟨by simp <;> omega, below_new _ _⟩
      · have g1 : ¬ ((m : Int) > 4095) := by omega
        have g2 : ((t : Int) ≥ 281474976710656) := by omega
        clear h0
        go_enter Tryz.func41, Tryz.ntmps41
        go_wp2
        go_ret
        first | exact ⟨rfl, below_new _ _⟩ | exact ⟨by simp <;> omega, below_new _ _⟩
    · have g1 : ((m : Int) > 4095) := by omega
      clear h0
      go_enter Tryz.func41, Tryz.ntmps41
      go_wp2
      go_ret
      first | exact ⟨rfl, below_new _ _⟩ | exact ⟨by simp <;> omega, below_new _ _⟩
theorem isRoot_any (n : Nd) (w : World) : Calls Tryz.prog 38 #[n.val] w (Ans w (.bool (decide (n.kind = 2 ∧ nodeP n)))) := by
  have HI := Lib.hid (fun W => isNode_any n W)
  have HN := Lib.hid (below_new w (boxO n))
  have HN2 := Lib.hid (fun (W2 : World) h => below_th (v := W2) HN.out h)
  obtain ⟨d, hd⟩ : ∃ d, decide (nodeP n) = d := ⟨_, rfl⟩
  have hdd : decide (n.kind = 2 ∧ nodeP n) = (decide (n.kind = 2) && d) := by rw [← hd]; exact Bool.decide_and _ _
  rw [hdd]
  rw [hd] at HI
  clear hd hdd
  obtain ⟨k, m, l, t, s⟩ := n
  unfold Nd.val at HI
  unfold boxO at HN HN2
  dsimp only at HI HN HN2 ⊢
  show Calls Tryz.prog 38 #[.agg #[.int .i64 k, .int .u16 m, .int .u16 l, .int .u64 t, .string s]] w _
  by_cases k2 : k = 2
  · rw [decide_eq_true k2, Bool.true_and]
    clear HN2
    subst k2
    go_enter Tryz.func38, Tryz.ntmps38
    go_wp2_with (go_at_call 41; (with_reducible refine Calls.mono (HI.out _) ?_); rintro e w9 ⟨rfl, hB9⟩)
    go_ret
    exact ⟨rfl, below_th (below_new _ _) hB9⟩
  · rw [decide_eq_false k2, Bool.false_and]
    clear HN2
    go_enter Tryz.func38, Tryz.ntmps38
    go_wp2
    go_ret
    first | exact ⟨rfl, below_new _ _⟩ | exact ⟨by simp <;> omega, below_new _ _⟩
end
end Go.Proofs.YtkipkcmcolomcaaGreat.Pln
