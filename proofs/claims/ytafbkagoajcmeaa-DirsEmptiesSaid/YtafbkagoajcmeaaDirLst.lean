/- List, Right of the program. -/
import Derived.Maps.AppendAt
import Derived.Test.YtafbkagoajcmeaaDirSeq
import Derived.Test.YtafbkagoajcmeaaDirTwi
import Derived.Test.YtafbkagoajcmeaaDirSort
import Derived.Test.YtafbkagoajcmeaaDirRefI
namespace Go.Proofs.Ytafbkagoajcmeaa.Dir
open Go.RowKit
attribute [local go_sem] Oper.semAt_some
set_option linter.unusedVariables false
set_option linter.unusedSimpArgs false

theorem own_kept {w w' : World} {base e size n g c : Nat} {xs : List Value} (h : w.ownsRow base e size (.slice (some ⟨g, 0, none⟩) n c) n xs) (hk : w'.heap[g]? = w.heap[g]?) : w'.ownsRow base e size (.slice (some ⟨g, 0, none⟩) n c) n xs := by
  refine ⟨h.1, ?_⟩
  rcases h.2 with ⟨h1, h2⟩ | ⟨g1, cap, cur, e1, hb, hg, h3, h4, h5, h6⟩
  · exact .inl ⟨h1, h2⟩
  · obtain ⟨rfl, rfl⟩ : g = g1 ∧ c = cap := by simpa using e1
    exact .inr ⟨g, c, cur, rfl, hb, hk.trans hg, h3, h4, h5, h6⟩
theorem set_far (w : World) (b i k : Nat) (u : Value) (h : k ≠ b) : (w.setCell ⟨b, i, none⟩ u).heap[k]? = w.heap[k]? := Below.heap_setCell _ _ _ _ h
theorem results_two {fn : Func} {r t : Tmp} (h : fn.results = #[.tmp r, .tmp t]) (tmps : Array Value) (w : World) : (results fn tmps).run Try.prog w = .ok (.tuple #[tmps.getD r undef, tmps.getD t undef]) w := by
  simp [results, h, go_sem]
theorem AtT.not_row {W : World} {b base k : Nat} {t : Et} {v : Value} {xs : List Value} (h : AtT W b t) (hr : W.ownsRow base 40 2 v k xs) : ¬ v.ownBlock = some b := by
  rcases hr.2 with ⟨rfl, _⟩ | ⟨g, cap, cur, rfl, _, hgb, _⟩
  · simp [Value.ownBlock]
  · intro e
    obtain rfl : g = b := by simpa [Value.ownBlock] using e
    unfold AtT at h
    rw [h] at hgb
    simp at hgb
/-- between two rounds -/
structure LstI (P : List N) (w W0 : World) (k : Nat) (W : World) : Prop where
  got : ∃ v, Boxed W w.heap.size 24 v ∧ W.ownsRow W0.heap.size 40 2 v k (cellsL (P.take k))
  cnt : Boxed W (w.heap.size + 1) 3 (.int .i64 (pos P k : Nat))
  below : Below w.heap.size w W
  size : W0.heap.size ≤ W.heap.size
theorem lstI_own {P : List N} {w W0 : World} (hz : w.heap.size ≤ W0.heap.size) : OwnFrom W0.heap.size (LstI P w W0) := fun k W W' row h hg hr => by
  obtain ⟨v, hv, hrow⟩ := h.got
  refine ⟨⟨v, kept_cells hv hg hr, hrow.kept hg ?_⟩, kept_cells h.cnt hg hr, h.below.grown hg h.below.size (fun r e => Nat.le_trans hz (hr r e).1), Nat.le_trans h.size hg.size⟩
  rcases hrow.2 with ⟨rfl, _⟩ | ⟨g, cap, cur, rfl, _, hgb, _⟩
  · exact .inl rfl
  · refine .inr fun e' => ?_
    obtain ⟨_, o, ho, hc⟩ := hr g (by simpa [Value.ownBlock] using e'.symm)
    rw [hgb] at ho; cases ho; cases hc
def LstA (P : List N) (W0 : World) (T : Nat → Nat → Array Value) (k : Nat) (a' : Act) (W : World) : Prop :=
  ∃ Bx, W0.heap.size ≤ Bx ∧ AtT W Bx (etAt P k) ∧ a' = { tmps := T k Bx, defers := [] }
theorem lstA_own {P : List N} {W0 : World} {B : Nat} {T : Nat → Nat → Array Value} (k : Nat) (a' : Act) : OwnFrom B (fun (_ : Unit) W => LstA P W0 T k a' W) := fun _ W W' row hI hg hr => by
  obtain ⟨Bx, h1, h2, h3⟩ := hI
  exact ⟨Bx, h1, kept_cells h2 hg hr, h3⟩
theorem Nms.putD {W : World} {v : Value} {M : List N} {D : Nat} {d : Option (List Deferred)} (h : Nms W v M) (hD : W.heap[D]? = some (.deferred d)) (o : Obj) : Nms (W.putObj D o) v M := h.keep fun g o2 k c e hk => World.putObj_heap_other fun e2 => by
  obtain ⟨a, cap, e3, _⟩ := h.parts
  rw [e] at e3
  cases e3
  obtain ⟨b, off, cap2, e4, c0, _⟩ := h.at (k := 0) hk
  rw [e] at e4
  cases e4
  subst e2
  simp [World.cell?, hD] at c0
theorem twice_bool {M : List N} {e : Ending} (h : (e = .returned (.bool true) ∧ twiceP M) ∨ (e = .returned (.bool false) ∧ ¬ twiceP M)) : ∃ tb, e = .returned (.bool tb) ∧ (tb = true → twiceP M) ∧ (tb = false → ¬ twiceP M) := by
  rcases h with ⟨rfl, h⟩ | ⟨rfl, h⟩
  · exact ⟨true, rfl, fun _ => h, fun e => by cases e⟩
  · exact ⟨false, rfl, fun e => by (cases e), fun _ => h⟩
section
set_option maxRecDepth 100000
set_option maxHeartbeats 8000000
theorem list_in (s : ByteArray) (D : Option (List N)) (P : List N) (hR : Run s P) (w : World) (hs : s.size ≤ 20000) (hD0 : DirO s D) :
    CallsIn Fence.wide 9 Try.prog 11 #[.string s] w (ListPost D w) := by
  have hfn : ∀ f, Fence.wide.fn f := fun _ => trivial
  have g1 : ¬ (20000 : Int) < (s.size : Int) := by omega
  have g2 : ¬ (s.size : Int) > 20000 := by omega
  have g3 : decide ((20000 : Int) < (s.size : Int)) = false := decide_eq_false g1
  have hPn := hR.many
  refine callsIn_of_wp_marks Try.func11 rfl trivial ?_ rfl
  simp only [Try.ntmps11, List.size_toArray, List.length_cons, List.length_nil, Nat.reduceAdd, Nat.reduceSub, Array.replicate_succ, Array.replicate_zero, List.push_toArray, List.append_toArray, List.nil_append, List.cons_append]
  gi_wp2_with (gi_at_call 26; refine (entries_in _ _ _).mono ?_; rintro e w' ⟨rfl, rfl⟩)
  obtain ⟨W0, hW0⟩ : ∃ W0, ((w.alloc (.cells #[.slice none 0 0] 24)).alloc (.cells #[.int .i64 0] 3)).alloc (.cells #[.string s] 9) = W0 := ⟨_, rfl⟩
  have hs0 : W0.heap.size = w.heap.size + 3 := by rw [← hW0]; simp
  have hBW : Below w.heap.size w W0 := by
    rw [← hW0]
    exact below_al (below_al (below_new w _) _) _
  have hk0 : Boxed W0 w.heap.size 24 (.slice none 0 0) := by rw [← hW0]; exact ((Boxed.new _ _ _).alloc _).alloc _
  have hc0 : Boxed W0 (w.heap.size + 1) 3 (.int .i64 0) := by
    rw [← hW0]
    have := Boxed.new (w.alloc (.cells #[.slice none 0 0] 24)) 3 (.int .i64 0)
    rw [World.size_alloc] at this
    exact this.alloc _
  have hx0 : AtS W0 (w.heap.size + 1 + 1) s := by
    rw [← hW0]
    have := AtS.new ((w.alloc (.cells #[.slice none 0 0] 24)).alloc (.cells #[.int .i64 0] 3)) s
    simp only [World.size_alloc] at this
    exact this
  have hst := entries_steps (w.heap.size + 1 + 1) s P hR (by omega) W0 hx0
  have hI0 : LstI P w W0 0 W0 := ⟨⟨_, hk0, World.ownsRow_nil _ _ _ _⟩, hc0, hBW, Nat.le_refl _⟩
  rw [hW0]
  obtain ⟨i0, hi, hz0, hz1, hz2⟩ := info_parts infoNm
  refine wpIn_rangeFunc_steps rfl (by decide) (gf := 40) (lb := #[.pointer (some ⟨w.heap.size + 1 + 1, 0, none⟩)]) rfl trivial (enters_of Try.func40 (by kernel_rfl) rfl)
    hst keepE_t keepE_b (Below.refl _ _) (fun _ => rfl)
    (LstI P w W0) (fun _ _ _ => False) (lstI_own (by omega)) (fun c k W W' row h hg hr => h.elim) hI0
    (LstA P W0 (fun k Bx => #[.string s, undef, .slice none 0 0, .int .i64 0, .pointer (some ⟨w.heap.size, 0, none⟩), .pointer (some ⟨w.heap.size + 1, 0, none⟩), .pointer (some ⟨Bx, 0, none⟩), .string s, .int .i64 s.size, .bool false, .string s, .func (.func 40) #[] #[.pointer (some ⟨w.heap.size + 1 + 1, 0, none⟩)], (etAt P k).val, undef, undef, undef, undef, undef, undef, undef, undef, undef, undef, undef, undef, undef, undef, undef, undef, undef, undef])) (fun k a' => lstA_own k a') ?assign ?body ?done ?stop
  case assign =>
    intro l k W K hI hk hK
    have hz : W0.heap.size ≤ W.heap.size := hI.size
    have HK := Lib.hid (hK _ _ ((KeepsOthers.alloc W _).from _) (KeepE.of_below (below_new W _)) (lstI_own (by omega) _ _ _ none hI (World.grownBy_alloc W _ _) (fun r e => by cases e)) ⟨W.heap.size, hz, AtT.new W (etAt P k), rfl⟩)
    unfold encT
    clear hK hI hst
    unfold boxT Et.val at HK
    unfold Et.val
    dsimp only at HK
    generalize etAt P k = y at HK ⊢
    obtain ⟨y0, y1, y2, y3⟩ := y
    dsimp only at HK ⊢
    gi_wp2
    exact HK.out
  case body =>
    rintro l k a' W hl hrec hI ⟨Bx, hBx, hX, rfl⟩ hk
    obtain ⟨v, hv, hrow⟩ := hI.got
    obtain ⟨ap, cp, rfl, HLI, hcp1, hcp2⟩ := lies_own hrow
    have cv := hv.cell
    have hcn := hI.cnt
    have hzz := hI.size
    have hbz := hI.below.size
    have hxr := hX.not_row hrow
    obtain ⟨x0, x1, x2, x3⟩ := hX.c
    have HI := Lib.hid hI
    have hsucc : cellsL (P.take (k + 1)) = cellsL (P.take k) ++ [.string (etAt P k).name, .int .u32 (etAt P k).ino] := by rw [take_snoc hk, cellsL_snoc]; rfl
    have hps : (etAt P k).b = pos P (k + 1) := rfl
    have hkl : k ≤ 1000000 := by omega
    clear hI hst
    unfold Et.val
    dsimp only
    generalize etAt P k = y at x0 x1 x2 x3 hsucc hX hps ⊢
    obtain ⟨y0, y1, y2, y3⟩ := y
    dsimp only at x0 x1 x2 x3 hsucc hps ⊢
    have HSUCC := Lib.hid hsucc
    have HPS := Lib.hid hps
    have hnl : w.heap.size ≠ Bx := by omega
    have hnr : w.heap.size + 1 ≠ Bx := by omega
    clear hsucc hps
    gi_wp2_with (gi_at_builtin; refine wpListIn_append_own _ rfl _ _ 24 rfl W0.heap.size 40 i0 (.agg #[.string ⟨#[]⟩, .int .u32 0]) 2 24 Try.underlying24 hi hz0 hz1 hz2 rfl (by decide) (.slice ap k cp) k (cellsL (P.take k)) rfl (hrow.alloc _) ⟨W.heap.size, 0, none⟩ 1 1 [.string y0, .int .u32 (y1 : Int)] rfl rfl (World.news_of_block (World.alloc_heap_new W _)) (by simp [Value.oneCell']) (by unfold maxLen; omega) (by omega) (by simp; omega) ?_; intro v' w1 hown' hgrow _; obtain ⟨g', cap', rfl⟩ := ownsRow_succ hown'; have hv1 := (hv.alloc _).kept hgrow (hv.not_row (by decide) hrow); have hf1 := hv1.frozen; have hc1 := hv1.cell; have hr1 := ((hcn.alloc _).kept hgrow (hcn.not_row (by decide) hrow)).other (B' := w.heap.size) (by omega) (.slice (some ⟨g', 0, none⟩) (k + 1) cap'); have hfr := hr1.frozen; have hcr := hr1.cell; have hX0 : AtT w1 Bx ⟨y0, y1, y2, y3⟩ := ((hgrow.block Bx (by rw [World.size_alloc]; have := hX.lt; omega) (fun e => hxr e.symm)).trans ((below_new W _).block Bx hX.lt)).trans hX; have hX1 : AtT (w1.setCell ⟨w.heap.size, 0, none⟩ (.slice (some ⟨g', 0, none⟩) (k + 1) cap')) Bx ⟨y0, y1, y2, y3⟩ := hX0.of_heap (Below.heap_setCell _ _ _ _ (fun e => hnl e.symm)); obtain ⟨z0, z1, z2, z3⟩ := hX1.c; dsimp only at z0 z1 z2 z3)
    have hon : Only (fun i => (Value.slice ap k cp).ownBlock = some i ∨ i = w.heap.size ∨ i = w.heap.size + 1) W ((w1.setCell ⟨w.heap.size, 0, none⟩ (.slice (some ⟨g', 0, none⟩) (k + 1) cap')).setCell ⟨w.heap.size + 1, 0, none⟩ (.int .i64 (y3 : Int))) :=
      Only.setCell (p := ⟨w.heap.size + 1, 0, none⟩) (Only.setCell (p := ⟨w.heap.size, 0, none⟩) (((Only.refl _ W).alloc (.cells #[.string y0, .int .u32 (y1 : Int)] 40)).grown hgrow (fun r e => .inr (.inl e))) (.inr (.inr (.inl rfl))) _) (.inr (.inr (.inr rfl))) _
    have hlt3 : ∀ i, (Value.slice ap k cp).ownBlock = some i → W0.heap.size ≤ i := fun i hb => (hrow.lt i hb).1
    have hrt : ∀ i, (Value.slice ap k cp).ownBlock = some i → ∃ c f, W.heap[i]? = some (.cells c 40 f) := fun i hb => by
      rcases hrow.2 with ⟨h0, _⟩ | ⟨g, cap, cur, h0, _, hgb2, _⟩
      · rw [h0] at hb; simp [Value.ownBlock] at hb
      · rw [h0] at hb
        obtain rfl : g = i := by simpa [Value.ownBlock] using hb
        exact ⟨_, _, hgb2⟩
    have hgb := hown'.lt g' rfl
    refine ⟨keeps_of_only _ hon fun i hb => ?_, ⟨hon.size, fun b c t f ht hb => (hon.block b (Array.getElem?_eq_some_iff.1 hb).1 ?_).trans hb⟩, ⟨⟨_, (hv1.set _).other (by omega) _, ?_⟩, ?_, ?_, ?_⟩⟩
    · rcases hb with hb | rfl | rfl
      · obtain ⟨c, f, h⟩ := hrt i hb
        exact ⟨_, _, _, h⟩
      · exact ⟨_, _, _, hv⟩
      · exact ⟨_, _, _, hcn⟩
    · rintro (hh | rfl | rfl)
      · obtain ⟨c2, f2, h⟩ := hrt b hh
        rw [h] at hb
        cases hb
        rcases ht with ht | ht <;> exact absurd ht (by decide)
      · unfold Boxed at hv
        rw [hv] at hb
        cases hb
        rcases ht with ht | ht <;> exact absurd ht (by decide)
      · unfold Boxed at hcn
        rw [hcn] at hb
        cases hb
        rcases ht with ht | ht <;> exact absurd ht (by decide)
    · rw [HSUCC.out]
      exact own_kept hown' ((set_far _ (w.heap.size + 1) 0 g' _ (by omega)).trans (set_far w1 w.heap.size 0 g' _ (by omega)))
    · rw [← HPS.out]
      exact hr1.set _
    · exact HI.out.below.trans (hon.below (n := w.heap.size) (by omega) (fun i hb => by
        rcases hb with hb | rfl | rfl
        · have := hlt3 i hb; omega
        · omega
        · omega))
    · exact Nat.le_trans HI.out.size hon.size
  case done =>
    rintro D2 W hD hI hKD
    obtain ⟨v, hv, hrow⟩ := hI.got
    rw [List.take_length] at hrow
    obtain ⟨ap, cp, rfl, HLI, hcp1, hcp2⟩ := lies_own hrow
    have cv := hv.cell
    have ccn := hI.cnt.cell
    have hS := sort_any (.slice ap P.length cp) P W0.heap.size W hrow (by omega)
    have hfr : ∀ M W1, Nms W1 (.slice ap P.length cp) M → Only (fun i => (Value.slice ap P.length cp).ownBlock = some i) W W1 → Below w.heap.size w W1 ∧ W1.cell? ⟨w.heap.size, 0, none⟩ = some (.slice ap P.length cp) ∧ W1.cell? ⟨w.heap.size + 1, 0, none⟩ = some (.int .i64 (pos P P.length : Nat)) ∧ W1.heap[D2]? = some (.deferred (some [])) := fun M W1 h1 h2 => by
      have hzz := hI.size
      have hb1 := h2.block w.heap.size (by omega) (fun e => by have := (hrow.lt _ e).1; omega)
      have hb2 := h2.block (w.heap.size + 1) (by omega) (fun e => by have := (hrow.lt _ e).1; omega)
      have hb3 := h2.block D2 (Array.getElem?_eq_some_iff.1 hKD).1 (fun e => by
        rcases hrow.2 with ⟨h0, _⟩ | ⟨g, cap, cur, h0, _, hgb2, _⟩
        · rw [h0] at e; simp [Value.ownBlock] at e
        · rw [h0] at e
          obtain rfl : g = D2 := by simpa [Value.ownBlock] using e
          rw [hKD] at hgb2
          cases hgb2)
      refine ⟨hI.below.trans (h2.below (by omega) (fun k hk => by have := (hrow.lt _ hk).1; omega)), ?_, ?_, hb3.trans hKD⟩
      · exact (World.cell?_of_block (w := W) hb1).trans cv
      · exact (World.cell?_of_block (w := W) hb2).trans ccn
    have HS := Lib.hid hS
    have HFR := Lib.hid hfr
    have HR := Lib.hid hR
    have HD := Lib.hid hD0
    clear hI hst hrow hS hfr hR hD0 hv
    by_cases hpe : pos P P.length = s.size
    · have hq : (((pos P P.length : Nat) : Int) != (s.size : Int)) = false := by rw [hpe]; simp
      have HPE := Lib.hid hpe
      obtain ⟨p, hp⟩ : ∃ p, pos P P.length = p := ⟨_, rfl⟩
      rw [hp] at hq ccn
      simp only [hp] at HFR
      clear hpe hp
      gi_wp2_with (first
        | (gi_at_call 27; refine (callsIn_wide.2 HS.out).mono ?_; rintro e W1 ⟨rfl, M, hM1, hM2, hM3, hM4⟩; obtain ⟨hBe, cl, cr, hDe⟩ := HFR.out M W1 hM3 hM4; have HMs := Lib.hid (And.intro hM1 (And.intro hM2 (And.intro hM3 hBe))); have HTw := Lib.hid (isTwice_any (.slice ap P.length cp) M W1 hM3 (by rw [hM1.length_eq]; omega)); have HDe := Lib.hid hDe; clear hM1 hM2 hM3 hM4 hBe hDe)
        | (gi_at_call 30; refine (callsIn_wide.2 HTw.out).mono ?_; rintro e W2 ⟨hTT, hB2⟩; obtain ⟨tb, rfl, hT1, hT2⟩ := twice_bool hTT; have cl2 := (hB2.cell (p := ⟨w.heap.size, 0, none⟩) (World.block_lt_of_cell? _ _ cl)).trans cl; have HTS := Lib.hid (And.intro hT1 hT2); clear hTT hT1 hT2))
      · have htb : tb = true := by assumption
        obtain rfl : D = none := by
          cases D with
          | none => rfl
          | some L =>
            have h1 := (HR.out.of_dir HD.out).1
            have h2 : DirP s L := HD.out
            rw [← h1] at h2
            exact absurd h2.1 (twice_not HMs.out.1 (HTS.out.1 htb))
        refine ⟨by simp, .inl ⟨_, _, rfl, run_takeDeferred ((hB2.block D2 (Array.getElem?_eq_some_iff.1 HDe.out).1).trans HDe.out), ?_⟩⟩
        refine ⟨_, results_two rfl _ _, ?_⟩
        exact ⟨rfl, below_put (below_th HMs.out.2.2.2 hB2) (by omega) _⟩
      · have htb : tb = false := by first | assumption | simpa using (by assumption : ¬ tb = true)
        have hup := Rises.up HMs.out.2.1 (HTS.out.2 htb)
        have hnd : (P.map (·.name)).Nodup := ((HMs.out.1.map _).nodup_iff).1 hup.nodup
        have hdir : DirP s P := HR.out.dir HPE.out hs hnd
        have hD2 := (hB2.block D2 (Array.getElem?_eq_some_iff.1 HDe.out).1).trans HDe.out
        refine ⟨by simp, .inl ⟨_, _, rfl, run_takeDeferred hD2, ?_⟩⟩
        refine ⟨_, results_two rfl _ _, ?_⟩
        cases D with
        | none => exact absurd ⟨P, hdir⟩ HD.out
        | some L =>
          obtain rfl := (HR.out.of_dir HD.out).1
          exact ⟨_, M, rfl, ⟨HMs.out.1, hup⟩, (HMs.out.2.2.1.below hB2).putD hD2 _, below_put (below_th HMs.out.2.2.2 hB2) (by omega) _⟩
    · have hq : (((pos P P.length : Nat) : Int) != (s.size : Int)) = true := by simp; omega
      obtain rfl : D = none := by
        cases D with
        | none => rfl
        | some L => exact absurd (HR.out.of_dir HD.out).2 hpe
      clear hpe
      obtain ⟨p, hp⟩ : ∃ p, pos P P.length = p := ⟨_, rfl⟩
      rw [hp] at hq ccn
      simp only [hp] at HFR
      clear hp
      gi_wp2_with (gi_at_call 27; refine (callsIn_wide.2 HS.out).mono ?_; rintro e W1 ⟨rfl, M, hM1, hM2, hM3, hM4⟩; obtain ⟨hBe, cl, cr, hDe⟩ := HFR.out M W1 hM3 hM4; have HMs := Lib.hid (And.intro hM1 (And.intro hM2 (And.intro hM3 hBe))); have HDe := Lib.hid hDe; clear hM1 hM2 hM3 hM4 hBe hDe)
      refine ⟨by simp, .inl ⟨_, _, rfl, run_takeDeferred HDe.out, ?_⟩⟩
      refine ⟨_, results_two rfl _ _, ?_⟩
      exact ⟨rfl, below_put HMs.out.2.2.2 (by omega) _⟩
  case stop =>
    rintro D c k W hD hk hf
    exact hf.elim
theorem list_any (s : ByteArray) (D : Option (List N)) (w : World) (hs : s.size ≤ 281474976710656) (h : DirO s D) : Calls Try.prog 11 #[.string s] w (ListPost D w) := by
  by_cases hbig : 20000 < s.size
  · obtain rfl : D = none := by
      cases D with
      | none => rfl
      | some L => have h2 : DirP s L := h; have := h2.2.2; omega
    have g1 : (20000 : Int) < (s.size : Int) := by omega
    clear h hbig hs
    unfold ListPost
    go_enter Try.func11, Try.ntmps11
    go_wp2
    go_returns
    exact ⟨rfl, Below.refl _ _⟩
  · obtain ⟨P, hP⟩ := Run.ex s
    exact callsIn_wide.1 (list_in s D P hP w (by omega) h)
theorem right_any (s : ByteArray) (D : Option (List N)) (w : World) (hs : s.size ≤ 281474976710656) (h : DirO s D) : Calls Try.prog 15 #[.string s] w (Ans w (.bool (rightO D))) := by
  have hL := Lib.hid (fun W => list_any s D W hs h)
  cases D with
  | none =>
    unfold ListPost at hL
    clear h hs
    go_enter Try.func15, Try.ntmps15
    go_wp2_with (go_at_call 11; (with_reducible refine Calls.mono (hL.out _) ?_); rintro e w1 ⟨rfl, hB⟩)
    go_ret
    exact ⟨rfl, hB⟩
  | some L =>
    unfold ListPost at hL
    clear h hs
    go_enter Try.func15, Try.ntmps15
    go_wp2_with (go_at_call 11; (with_reducible refine Calls.mono (hL.out _) ?_); rintro e w1 ⟨v, M, rfl, hM, hN, hB⟩)
    go_ret
    exact ⟨rfl, hB⟩
end
end Go.Proofs.Ytafbkagoajcmeaa.Dir
