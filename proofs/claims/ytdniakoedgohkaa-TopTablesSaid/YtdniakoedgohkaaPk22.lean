/- Several texts in one, each under its own heading. -/
import Derived.Test.YtdniakoedgohkaaPk20
import Derived.Test.YtdniakoedgohkaaPk21
import Derived.Test.YtdniakoedgohkaaPk18
/- Decode of the program's package dat, of a table's blocks: the table, without free places at its end. -/
namespace Go.Proofs.Ytdniakoedgohkaa.Dat
open Go.RowKit Go.Shelf
attribute [local go_sem] Oper.semAt_some
set_option linter.unusedVariables false
set_option linter.unusedSimpArgs false
def BackPost (L : List T) (w : World) (e : Ending) (w' : World) : Prop := ∃ v, e = .returned (.tuple #[v, .int .i64 0]) ∧ Trs w' v (bare L) ∧ Below w.heap.size w w'
section
set_option maxRecDepth 100000
set_option maxHeartbeats 4000000
theorem back_in (a : Option Addr) (N cap : Nat) (L : List T) (w : World) (hN : (encV L).length = N) (hr : RightP L) (hT : Strs w (.slice a N cap) (encV L)) :
    CallsIn Fence.wide 9 Try.prog 22 #[.slice a N cap] w (BackPost L w) := by
  have hfn : ∀ f, Fence.wide.fn f := fun _ => trivial
  have hl := enc_len hr
  have h60 : N ≤ 60 := by
    rw [← hN, hl]
    have := hr.1.2
    unfold nBl
    omega
  have hfull : plT (encV L) (31 * (encV L).length) = full L := by unfold full; rw [hl]
  have hc := collect_in a N cap (encV L) w.heap.size (w.alloc (.cells #[.slice a N cap] 42)) hN (hT.below (below_new w _)) (World.alloc_heap_new w _) h60 (enc_sizes hr)
  unfold ColPost at hc
  rw [hfull] at hc
  have hE := fun v W (h : Trs W v (full L)) => encode_any v (full L) W h
  unfold EncPost at hE
  rw [full_enc hr, show encE (full L) = 0 from if_pos (full_right hr)] at hE
  have hEq := fun v W (h : Strs W v (encV L)) (h2 : Strs W (.slice a N cap) (encV L)) => Cps.equalS_any v (.slice a N cap) (encV L) (encV L) W h h2
  rw [decide_eq_true (rfl : encV L = encV L)] at hEq
  unfold Cps.Ans at hEq
  have hF1 : 1 ≤ (full L).length := (full_right hr).1.1
  have hTrim := fun b off cp W (h : Trs W (.slice (some ⟨b, off, none⟩) (full L).length cp) (full L)) => trim_any b off cp (full L).length (full L) W rfl h hF1 (by have := (full_right hr).1.2; omega)
  unfold Ans at hTrim
  have HFIN : Hid (∀ W b off cp, Trs W (.slice (some ⟨b, off, none⟩) (full L).length cp) (full L) → Below w.heap.size w W → BackPost L w (.returned (.tuple #[.slice (some ⟨b, off, none⟩) (bareN (full L)) cp, .int .i64 0])) W) := fun W b off cp h1 h2 => by
    refine ⟨_, rfl, ?_, h2⟩
    have := h1.cut (bareN (full L)) (bareN_le hF1).2
    rw [show (full L).take (bareN (full L)) = bare L from full_bare hr] at this
    exact this
  have HO : Hid (∀ W v, Trs W v (full L) → ∃ b off cp, v = .slice (some ⟨b, off, none⟩) (full L).length cp) := fun W v h => by
    rcases h.open with ⟨a9, c9, rfl, e9⟩ | ⟨b, off, cp, rfl, _⟩
    · rw [e9] at hF1; exact absurd hF1 (by decide)
    · exact ⟨b, off, cp, rfl⟩
  obtain ⟨F, hF⟩ : ∃ F, full L = F := ⟨_, rfl⟩
  obtain ⟨TS, hTS⟩ : ∃ TS, encV L = TS := ⟨_, rfl⟩
  rw [hF] at hc hTrim HFIN HO
  simp only [hF, hTS] at hE
  simp only [hTS] at hEq
  rw [hTS] at hT
  obtain ⟨m, hm⟩ : ∃ m, F.length = m := ⟨_, rfl⟩
  simp only [hm] at hTrim HFIN HO
  obtain ⟨bn, hbn⟩ : ∃ n, bareN F = n := ⟨_, rfl⟩
  simp only [hbn] at hTrim HFIN
  have HC := Lib.hid hc
  have HE := Lib.hid hE
  have HEQ := Lib.hid hEq
  have HTR := Lib.hid hTrim
  have HT := Lib.hid (hT.below (below_new w (.cells #[.slice a N cap] 42)))
  have HBN := Lib.hid (below_new w (.cells #[.slice a N cap] 42))
  have g60 : decide ((60 : Int) < (N : Int)) = false := decide_eq_false (by omega)
  have HP := Lib.hid (fun (W : World) v (h : Trs W v F) => h.parts)
  have HP2 := Lib.hid (fun (W : World) v (h : Strs W v TS) => h.parts)
  clear hc hE hEq hTrim hT hr hN hl h60 hfull hF1 hF hTS hm hbn
  refine callsIn_of_wp Try.func22 rfl trivial ?_ rfl
  simp only [Try.ntmps22, List.size_toArray, List.length_cons, List.length_nil, Nat.reduceAdd, Nat.reduceSub, Array.replicate_succ, Array.replicate_zero, List.push_toArray, List.append_toArray, List.nil_append, List.cons_append]
  gi_wp2_with (first
    | (gi_at_call 53; refine (placesIn_in _ _ _ _ _).mono ?_; rintro e w1 ⟨rfl, rfl⟩)
    | (gi_at_call 52; refine (HC.out).mono ?_; rintro e w2 ⟨v1, rfl, hv1, hB2⟩; obtain ⟨b1, o1, p1, rfl⟩ := HO.out _ _ hv1; have HT2 := Lib.hid (HT.out.below hB2); have HV1 := Lib.hid hv1; clear hv1)
    | (gi_at_call 19; refine (callsIn_wide.2 (HE.out _ _ HV1.out)).mono ?_; rintro e w3 ⟨v2, rfl, hv2, hB3⟩; obtain ⟨a2, c2, rfl, _, _⟩ := HP2.out _ _ hv2; have HV2 := Lib.hid hv2; clear hv2)
    | (gi_at_call 54; refine (callsIn_wide.2 (HEQ.out _ _ HV2.out (HT2.out.below hB3))).mono ?_; rintro e w4 ⟨rfl, hB4⟩; have HV4 := Lib.hid ((HV1.out.below hB3).below hB4))
    | (gi_at_call 45; refine (callsIn_wide.2 (HTR.out _ _ _ _ HV4.out)).mono ?_; rintro e w5 ⟨rfl, hB5⟩))
  refine bodyPost_ret (results_two rfl _ _) rfl ?_
  exact HFIN.out _ _ _ _ (HV4.out.below hB5) (below_th (below_th (below_th (below_th HBN.out hB2) hB3) hB4) hB5)
theorem back_any (v : Value) (L : List T) (w : World) (hr : RightP L) (hT : Strs w v (encV L)) : Calls Try.prog 22 #[v] w (BackPost L w) := by
  obtain ⟨a, cap, rfl, _⟩ := hT.parts
  exact callsIn_wide.1 (back_in a _ cap L w rfl hr hT)
end
end Go.Proofs.Ytdniakoedgohkaa.Dat
/- Sweep of the program. -/
namespace Go.Proofs.Ytdniakoedgohkaa.Dat
open Go.RowKit Go.Shelf
attribute [local go_sem] Oper.semAt_some
set_option linter.unusedVariables false

theorem results_tmps {fn : Func} {r t u : Tmp} (h : fn.results = #[.tmp r, .tmp t, .tmp u]) (tmps : Array Value) (w : World) :
    (results fn tmps).run Try.prog w = .ok (.tuple #[tmps.getD r undef, tmps.getD t undef, tmps.getD u undef]) w := by
  simp [results, h, go_sem]
/-- what Sweep leaves -/
def SwpPost (L : List T) (C : List Int) (w : World) (e : Ending) (w' : World) : Prop := ∃ v, e = .returned (.tuple #[v, .int .i64 (swpN L C : Nat), .int .i64 (swpE L)]) ∧ Trs w' v (swpV L C) ∧ Below w.heap.size w w'
theorem own_setZ {w : World} {base n cap g k : Nat} {L : List T} (hn : L.length = n) (h : w.ownsRow base 79 3 (.slice (some ⟨g, 0, none⟩) n cap) n (cellsL L)) (hk : k < n) :
    (∃ u, w.cell? ⟨g, k * 3, none⟩ = some u) ∧ w.frozen? ⟨g, k * 3, none⟩ = false ∧
    (∃ u, (w.setCell ⟨g, k * 3, none⟩ (.int .u32 0)).cell? ⟨g, k * 3 + 1, none⟩ = some u) ∧ (w.setCell ⟨g, k * 3, none⟩ (.int .u32 0)).frozen? ⟨g, k * 3 + 1, none⟩ = false ∧
    (∃ u, ((w.setCell ⟨g, k * 3, none⟩ (.int .u32 0)).setCell ⟨g, k * 3 + 1, none⟩ (.int .u64 0)).cell? ⟨g, k * 3 + 2, none⟩ = some u) ∧ ((w.setCell ⟨g, k * 3, none⟩ (.int .u32 0)).setCell ⟨g, k * 3 + 1, none⟩ (.int .u64 0)).frozen? ⟨g, k * 3 + 2, none⟩ = false ∧
    (((w.setCell ⟨g, k * 3, none⟩ (.int .u32 0)).setCell ⟨g, k * 3 + 1, none⟩ (.int .u64 0)).setCell ⟨g, k * 3 + 2, none⟩ (.int .u64 0)).ownsRow base 79 3 (.slice (some ⟨g, 0, none⟩) n cap) n (cellsL (L.set k T.zero)) ∧
    Below g w (((w.setCell ⟨g, k * 3, none⟩ (.int .u32 0)).setCell ⟨g, k * 3 + 1, none⟩ (.int .u64 0)).setCell ⟨g, k * 3 + 2, none⟩ (.int .u64 0)) := own_set hn h hk T.zero
/-- what has been swept behind k places -/
def SwI (W0 : World) (L : List T) (C : List Int) (g c s : Nat) (k : Nat) (W : World) : Prop :=
  Only (fun i => i = g ∨ i = s) W0 W ∧ IntAt W s (dead L C ((cnd L).take k)) ∧ ∃ M rest, swK L C M ((cnd L).take k) ∧ Row W g 79 (cellsL M ++ rest) ∧ (cellsL M ++ rest).length = c * 3
theorem swI_own {W0 : World} {L : List T} {C : List Int} {g c s : Nat} : OwnFrom W0.heap.size (SwI W0 L C g c s) := fun k W W' row hI hg hr => by
  obtain ⟨h1, h2, M, rest, h3, h4, h5⟩ := hI
  exact ⟨h1.grown hg (fun r e => .inl (hr r e).1), kept_cells h2 hg hr, M, rest, h3, kept_cells h4 hg hr, h5⟩
def SwA (tmps : Nat → Nat → Array Value) (W0 : World) (L : List T) (k : Nat) (a' : Act) (W : World) : Prop :=
  ∃ Bx, W0.heap.size ≤ Bx ∧ At W Bx (tr L (ix L k)) ∧ a' = { tmps := tmps k Bx, defers := [] }
theorem swA_own {tmps : Nat → Nat → Array Value} {W0 : World} {L : List T} {B : Nat} (k : Nat) (a' : Act) : OwnFrom B (fun (_ : Unit) W => SwA tmps W0 L k a' W) := fun _ W W' row hI hg hr => by
  obtain ⟨Bx, h1, h2, h3⟩ := hI
  exact ⟨Bx, h1, kept_cells h2 hg hr, h3⟩
section
set_option maxRecDepth 100000
set_option maxHeartbeats 4000000
theorem sweep_in (b off cap N : Nat) (L : List T) (C : List Int) (vc : Value) (w : World) (hN : L.length = N) (hL : Trs w (.slice (some ⟨b, off, none⟩) N cap) L) (hC : Cps w vc C) (hr : RightP L) :
    CallsIn Fence.wide 9 Try.prog 17 #[.slice (some ⟨b, off, none⟩) N cap, vc] w (SwpPost L C w) := by
  have hfn : ∀ f, Fence.wide.fn f := fun _ => trivial
  have hN1 : 1 ≤ N := by have := hr.1; omega
  have hN2 : N ≤ 1860 := by have := hr.1; omega
  have hR := fun W (h : Below w.heap.size w W) => right_any _ L W (hL.below h)
  rw [rightB_yes hr] at hR
  have hCl := fun W (h : Below w.heap.size w W) => clone_any _ L W (hL.below h) (by omega) (by omega)
  rw [hN] at hCl
  have HR := Lib.hid hR
  have HCl := Lib.hid hCl
  obtain ⟨ac, nc, capc, hvc⟩ : ∃ ac nc capc, vc = .slice ac nc capc := by
    obtain ⟨a, c, e, _⟩ := hC.parts
    exact ⟨a, _, c, e⟩
  subst hvc
  have HB0 := Lib.hid (below_new w (.cells #[.slice ac nc capc] 40))
  clear hR hCl
  refine callsIn_of_wp_marks Try.func17 rfl trivial ?_ rfl
  simp only [Try.ntmps17, List.size_toArray, List.length_cons, List.length_nil, Nat.reduceAdd, Nat.reduceSub, Array.replicate_succ, Array.replicate_zero, List.push_toArray, List.append_toArray, List.nil_append, List.cons_append]
  gi_wp2_with (first
    | (gi_at_call 41; refine (callsIn_wide.2 (HR.out _ HB0.out)).mono ?_; rintro e w1 ⟨rfl, hB1⟩; have HB1 := Lib.hid (below_th HB0.out hB1))
    | (gi_at_call 42; refine (callsIn_wide.2 (HCl.out _ HB1.out)).mono ?_; rintro e w2 ⟨v2, rfl, hown, hB2⟩; obtain ⟨g, cg, rfl, hg, hcg1, hcg2⟩ := own_open hown (by omega))
    | (gi_at_call 43; refine (used_in _ _ _ _ _).mono ?_; rintro e w4 ⟨rfl, rfl⟩))
  obtain ⟨s, hs⟩ : ∃ s, w2.heap.size = s := ⟨_, rfl⟩
  obtain ⟨q, hq⟩ : ∃ q, w.heap.size = q := ⟨_, rfl⟩
  obtain ⟨W0, hW0⟩ : ∃ W0, ((w2.alloc (.cells #[.slice (some ⟨g, 0, none⟩) N cg] 36)).alloc (.cells #[.int .i64 0] 3)).alloc (.cells #[.slice (some ⟨b, off, none⟩) N cap] 36) = W0 := ⟨_, rfl⟩
  have hs0 : W0.heap.size = s + 3 := by rw [← hW0, ← hs]; simp
  have hB20 : Below w2.heap.size w2 W0 := by rw [← hW0]; exact below_al (below_al (below_al (Below.refl _ _) _) _) _
  have hB12 := below_th HB1.out hB2
  have hBW : Below w.heap.size w W0 := below_th hB12 hB20
  have hz : ∀ (W : World) (o : Obj) (k : Nat) (x : Obj), W.heap[k]? = some x → (W.alloc o).heap[k]? = some x := fun W o k x h => (Below.heap_alloc _ _ _ (Array.getElem?_eq_some_iff.1 h).1).trans h
  have hn : ∀ (W : World) (o : Obj) (n : Nat), W.heap.size = n → (W.alloc o).heap[n]? = some o := fun W o n h => h ▸ World.alloc_heap_new W o
  have hbs : W0.heap[s]? = some (.cells #[.slice (some ⟨g, 0, none⟩) N cg] 36 (0, 0)) := by rw [← hW0, ← hs]; exact hz _ _ _ _ (hz _ _ _ _ (hn _ _ _ rfl))
  have hbi : IntAt W0 (s + 1) 0 := by rw [← hW0, ← hs]; exact hz _ _ _ _ (hn _ _ _ (by simp))
  have hb6 : W0.cell? ⟨s + 1 + 1, 0, none⟩ = some (.slice (some ⟨b, off, none⟩) N cap) := by
    have : W0.heap[s + 1 + 1]? = some (.cells #[.slice (some ⟨b, off, none⟩) N cap] 36 (0, 0)) := by rw [← hW0, ← hs]; exact hn _ _ _ (by simp)
    simp only [World.cell?, this]; rfl
  have hbq : W0.heap[q]? = some (.cells #[.slice ac nc capc] 40 (0, 0)) := by
    have h0 : (w.alloc (.cells #[.slice ac nc capc] 40)).heap[q]? = some (.cells #[.slice ac nc capc] 40 (0, 0)) := by rw [← hq]; exact World.alloc_heap_new w _
    have hlt := (Array.getElem?_eq_some_iff.1 h0).1
    have h1 := (hB1.block q hlt).trans h0
    have h2 := (hB2.block q (by have := hB1.size; omega)).trans h1
    exact (hB20.block q (by have := hB1.size; have := hB2.size; omega)).trans h2
  have hqg : q < g := by
    have h1 := hB1.size
    simp at h1
    omega
  have hgs : g < s := by
    obtain ⟨rest, hrow, _⟩ := row_of_own hown
    have := hrow.lt
    omega
  have hrow0 : ∃ rest, Row W0 g 79 (cellsL L ++ rest) ∧ (cellsL L ++ rest).length = cg * 3 := by
    obtain ⟨rest, hrow, hl, _⟩ := row_of_own hown
    exact ⟨rest, hrow.of_heap (hB20.block g (by omega)), hl⟩
  rw [hW0]
  rw [hs, hq]
  have hL0 := hL.below hBW
  have hblt : b < w.heap.size := hL.lt (by omega)
  have hsq : SeqSteps Fence.wide 8 Try.prog 67 #[.pointer (some ⟨s + 1 + 1, 0, none⟩)] (enc L) (Same [b]) (cnd L).length W0 := by
    intro l J Jx W' hB hJ _ hY h0
    exact used1_in 8 (by decide) l _ b off cap N L hN (by omega) J Jx _ hJ hY W' ((hB.cell (p := ⟨s + 1 + 1, 0, none⟩) (by show s + 1 + 1 < _; omega)).trans hb6) (hL0.below hB) h0
  have hmax : cg ≤ maxLen := by unfold maxLen; omega
  have hxk := fun k (hk : k < (cnd L).length) => ix_ok hk
  have hdl : ∀ k, dead L C ((cnd L).take k) ≤ 1860 := fun k => by
    have h1 := dead_le L C ((cnd L).take k)
    have h2 : (cnd L).length ≤ L.length := cand_le L L.length
    rw [List.length_take] at h1
    omega
  clear hW0 hL hL0 hz hn hown HR HCl HB0
  refine wpIn_rangeFunc_steps rfl (by decide) (gf := 67) (lb := #[.pointer (some ⟨s + 1 + 1, 0, none⟩)]) rfl trivial (enters_of Try.func67 (by kernel_rfl) rfl)
    hsq sameK_t (sameK_b (by simp; omega)) (Below.refl _ _) (fun k => by unfold enc; rfl)
    (SwI W0 L C g cg (s + 1)) (fun c k W => False) swI_own (fun c k W W' row hI hg hr => hI) ⟨Only.refl _ _, by rw [List.take_zero]; exact hbi, by obtain ⟨rest, h1, h2⟩ := hrow0; exact ⟨L, rest, by rw [List.take_zero]; exact swK_nil L C, h1, h2⟩⟩
    (SwA (fun k Bx => #[.slice (some ⟨b, off, none⟩) N cap, .slice ac nc capc, undef, .pointer (some ⟨q, 0, none⟩), .slice none 0 0, .int .i64 0, .int .i64 0, .pointer (some ⟨s, 0, none⟩), .pointer (some ⟨s + 1, 0, none⟩), .int .i64 (ix L k : Nat), .pointer (some ⟨Bx, 0, none⟩), .slice (some ⟨b, off, none⟩) N cap, .bool true, .bool false, .slice (some ⟨b, off, none⟩) N cap, .slice (some ⟨g, 0, none⟩) N cg, .slice (some ⟨b, off, none⟩) N cap, .func (.func 67) #[] #[.pointer (some ⟨s + 1 + 1, 0, none⟩)], .int .i64 (ix L k : Nat), (tr L (ix L k)).val, undef, undef, undef, undef, undef, undef, undef, undef, undef, undef, undef, undef, undef]) W0 L) (fun k a' => swA_own k a') ?assign ?body ?done ?stop
  case assign =>
    intro l k W K hI hk hK
    have hz : W0.heap.size ≤ W.heap.size := hI.1.size
    have HK := Lib.hid (hK _ _ ((KeepsOthers.alloc W _).from _) (Same.below (below_new W _) (by intro x hx; simp at hx; omega)) (swI_own _ _ _ none hI (World.grownBy_alloc W _ _) (fun r e => by cases e)) ⟨W.heap.size, hz, At.new W (tr L (ix L k)), rfl⟩)
    unfold enc
    clear hK hI hsq
    dsimp only at HK
    unfold boxO T.val at HK
    unfold T.val
    dsimp only at HK ⊢
    generalize tr L (ix L k) = y at HK ⊢
    obtain ⟨ph, st, fi⟩ := y
    dsimp only at HK ⊢
    gi_wp2
    exact HK.out
  case body =>
    rintro l k a' W hl hrec ⟨hon, hA, M, rest, hM, hrow, hlen⟩ ⟨Bx, hBx, hX, rfl⟩ hk
    have hsz := hon.size
    have hBwW : Below w.heap.size w W := hBW.trans (hon.below (by omega) (by rintro j (rfl | rfl) <;> omega))
    have hcq : W.cell? ⟨q, 0, none⟩ = some (.slice ac nc capc) := by simp only [World.cell?, (hon.block q (by omega) (by omega)).trans hbq]; rfl
    have hbsW := (hon.block s (by omega) (by omega)).trans hbs
    have hLv := lives_any (tr L (ix L k)) (.slice ac nc capc) C W (hC.below hBwW)
    obtain ⟨x0, x1, x2⟩ := hX.c
    have hMl : M.length = N := by rw [hM.1, hN]
    have hixl := (hxk k hk).1
    have hix2 : ix L k < N := by omega
    have htk := take_ix hk
    obtain ⟨i, hi⟩ : ∃ i, ix L k = i := ⟨_, rfl⟩
    have hF : ∀ W2, Below W.heap.size W W2 → Row W2 g 79 (cellsL M ++ rest) ∧ IntAt W2 (s + 1) (dead L C ((cnd L).take k)) ∧ W2.cell? ⟨s, 0, none⟩ = some (.slice (some ⟨g, 0, none⟩) N cg) := fun W2 h =>
      ⟨hrow.of_heap (h.block g hrow.lt), hA.of_heap (h.block _ hA.lt), by
        have := (h.block s (Array.getElem?_eq_some_iff.1 hbsW).1).trans hbsW
        simp only [World.cell?, this]; rfl⟩
    have hP : ∀ W2, Only (fun i => i = g ∨ i = s + 1) W W2 → SwI W0 L C g cg (s + 1) (k + 1) W2 → KeepsFrom W0.heap.size W W2 ∧ Same [b] W W2 ∧ SwI W0 L C g cg (s + 1) (k + 1) W2 := fun W2 h1 h2 =>
      ⟨keeps_of_only _ h1 (by rintro j (rfl | rfl); exact ⟨_, _, _, hrow⟩; exact ⟨_, _, _, hA⟩), fun x hx => h1.block x (by simp at hx; omega) (by simp at hx; omega), h2⟩
    have hdk := hdl k
    obtain ⟨d, hd⟩ : ∃ d, dead L C ((cnd L).take k) = d := ⟨_, rfl⟩
    by_cases hlv : livesP (tr L (ix L k)) C
    · rw [show livesB (tr L (ix L k)) C = true from decide_eq_true hlv] at hLv
      have hI2 : ∀ W2, Below W.heap.size W W2 → SwI W0 L C g cg (s + 1) (k + 1) W2 := fun W2 h => by
        obtain ⟨g1, g2, _⟩ := hF W2 h
        refine ⟨hon.step (Only.of_below h) (fun i _ hi => hi), ?_, M, rest, ?_, g1, hlen⟩
        · rw [htk, dead_snoc, if_pos hlv]; exact g2
        · rw [htk]; exact swK_live hM hlv
      have HP := Lib.hid (fun W2 (h : Below W.heap.size W W2) => hP W2 (Only.of_below h) (hI2 W2 h))
      rw [hi] at hLv x0 x1 x2
      dsimp only
      rw [hi]
      obtain ⟨y, hy⟩ : ∃ y, tr L i = y := ⟨_, rfl⟩
      rw [hy] at hLv x0 x1 x2 ⊢
      have HLV := Lib.hid hLv
      clear hLv hF hP hon hA hM hrow hlen hX hsq hxk hdl hBwW hbsW hMl hixl htk hdk hd hlv hI2 hrec hi hy hix2
      obtain ⟨ph, st, fi⟩ := y
      unfold T.val at HLV ⊢
      dsimp only at HLV x0 x1 x2 ⊢
      gi_wp2_with (gi_at_call 44; refine (CallsIn.inRound l (callsIn_wide.2 HLV.out)).mono ?_; rintro e W2 ⟨rfl, hB2⟩)
      exact HP.out _ hB2
    · rw [show livesB (tr L (ix L k)) C = false from decide_eq_false hlv] at hLv
      have hG : ∀ W2, Below W.heap.size W W2 → _ := fun W2 h => own_setZ (base := g) (k := i) hMl (own_of_row (n := N) (size := 3) (base := g) (hF W2 h).1 hlen hcg1 hmax (by rw [cellsL_length, hMl]) (Nat.le_refl _)) (by omega)
      have hI2 : ∀ W2, Below W.heap.size W W2 → Hid (IntAt (((W2.setCell ⟨g, i * 3, none⟩ (.int .u32 0)).setCell ⟨g, i * 3 + 1, none⟩ (.int .u64 0)).setCell ⟨g, i * 3 + 2, none⟩ (.int .u64 0)) (s + 1) d) ∧ Hid (KeepsFrom W0.heap.size W ((((W2.setCell ⟨g, i * 3, none⟩ (.int .u32 0)).setCell ⟨g, i * 3 + 1, none⟩ (.int .u64 0)).setCell ⟨g, i * 3 + 2, none⟩ (.int .u64 0)).setCell ⟨s + 1, 0, none⟩ (.int .i64 ((d + 1 : Nat) : Int))) ∧ Same [b] W ((((W2.setCell ⟨g, i * 3, none⟩ (.int .u32 0)).setCell ⟨g, i * 3 + 1, none⟩ (.int .u64 0)).setCell ⟨g, i * 3 + 2, none⟩ (.int .u64 0)).setCell ⟨s + 1, 0, none⟩ (.int .i64 ((d + 1 : Nat) : Int))) ∧
          SwI W0 L C g cg (s + 1) (k + 1) ((((W2.setCell ⟨g, i * 3, none⟩ (.int .u32 0)).setCell ⟨g, i * 3 + 1, none⟩ (.int .u64 0)).setCell ⟨g, i * 3 + 2, none⟩ (.int .u64 0)).setCell ⟨s + 1, 0, none⟩ (.int .i64 ((d + 1 : Nat) : Int)))) := fun W2 h => by
        obtain ⟨g1, g2, _⟩ := hF W2 h
        obtain ⟨_, _, _, _, _, _, hown3, hB3⟩ := hG W2 h
        have ho : ∀ (V : World) (p o j : Nat) (u : Value), j ≠ p → (V.setCell ⟨p, o, none⟩ u).heap[j]? = V.heap[j]? := fun V p o j u hj => Below.heap_setCell _ _ _ _ hj
        have hA3 : IntAt (((W2.setCell ⟨g, i * 3, none⟩ (.int .u32 0)).setCell ⟨g, i * 3 + 1, none⟩ (.int .u64 0)).setCell ⟨g, i * 3 + 2, none⟩ (.int .u64 0)) (s + 1) d := by
          rw [hd] at g2
          exact g2.of_heap ((ho _ g _ (s + 1) _ (by omega)).trans ((ho _ g _ (s + 1) _ (by omega)).trans (ho _ g _ (s + 1) _ (by omega))))
        have hon3 : Only (fun i => i = g ∨ i = s + 1) W ((((W2.setCell ⟨g, i * 3, none⟩ (.int .u32 0)).setCell ⟨g, i * 3 + 1, none⟩ (.int .u64 0)).setCell ⟨g, i * 3 + 2, none⟩ (.int .u64 0)).setCell ⟨s + 1, 0, none⟩ (.int .i64 ((d + 1 : Nat) : Int))) :=
          ((((Only.of_below h).setCell (p := ⟨g, i * 3, none⟩) (.inr (.inl rfl)) _).setCell (p := ⟨g, i * 3 + 1, none⟩) (.inr (.inl rfl)) _).setCell (p := ⟨g, i * 3 + 2, none⟩) (.inr (.inl rfl)) _).setCell (p := ⟨s + 1, 0, none⟩) (.inr (.inr rfl)) _
        refine ⟨hA3, hP _ hon3 ⟨hon.step hon3 (fun i _ hi => hi), ?_, ?_⟩⟩
        · rw [htk, dead_snoc, if_neg hlv, hd]; exact hA3.put _
        · obtain ⟨rest3, hrow3, hl3, _⟩ := row_of_own hown3
          refine ⟨_, rest3, ?_, hrow3.of_heap (ho _ (s + 1) 0 g _ (by omega)), hl3⟩
          rw [htk, ← hi]
          exact swK_dead hM hixl hlv
      rw [hi] at hLv x0 x1 x2
      dsimp only
      rw [hi]
      obtain ⟨y, hy⟩ : ∃ y, tr L i = y := ⟨_, rfl⟩
      rw [hy] at hLv x0 x1 x2 ⊢
      have HLV := Lib.hid hLv
      have HG := Lib.hid hG
      have HI2 := Lib.hid hI2
      have HF3 := Lib.hid (fun W2 h => (hF W2 h).2.2)
      have hiN : i < N := by omega
      have hw1 : IntKind.i64.wrap ((d : Int) + 1) = ((d + 1 : Nat) : Int) := by rw [IntKind.wrap_i64]; omega
      clear hLv hF hP hon hA hM hrow hlen hX hsq hxk hdl hBwW hbsW hMl hixl htk hdk hd hlv hI2 hG hrec hi hy hix2
      obtain ⟨ph, st, fi⟩ := y
      unfold T.val at HLV ⊢
      dsimp only at HLV x0 x1 x2 ⊢
      gi_wp2_with (gi_at_call 44; refine (CallsIn.inRound l (callsIn_wide.2 HLV.out)).mono ?_; rintro e W2 ⟨rfl, hB2⟩; obtain ⟨⟨u0, k0⟩, f0, ⟨u1, k1⟩, f1, ⟨u2, k2⟩, f2, _, _⟩ := HG.out _ hB2; obtain ⟨HA3, HFin⟩ := HI2.out _ hB2; have ca := HA3.out.c; have fa := HA3.out.f; have hcs := HF3.out _ hB2)
      exact HFin.out
  case done =>
    rintro D W hD ⟨hon, hA, M, rest, hM, hrow, hlen⟩ hKD
    have hsz := hon.size
    rw [List.take_length] at hA hM
    have hMe := swK_all hM
    have hMl : M.length = N := by rw [hM.1, hN]
    have hT := Trs.own (base := g) (by rw [hMl]; exact own_of_row (n := N) (size := 3) (base := g) hrow hlen hcg1 hmax (by rw [cellsL_length, hMl]) (Nat.le_refl _))
    have hbsW := (hon.block s (by omega) (by omega)).trans hbs
    have hBwW : Below w.heap.size w W := hBW.trans (hon.below (by omega) (by rintro j (rfl | rfl) <;> omega))
    have HTr := Lib.hid (fun W' (h : Below W.heap.size W W') => trim_any g 0 cg N M W' hMl (hT.below h) hN1 (by omega))
    have hbM := bareN_le (L := M) (by omega)
    rw [hMl] at hbM
    have HFin : Hid (∀ W', Below W.heap.size W W' → SwpPost L C w (.returned (.tuple #[.slice (some ⟨g, 0, none⟩) (bareN M) cg, .int .i64 (dead L C (cnd L) : Nat), .int .i64 0])) W') := fun W' h => by
      refine ⟨_, by unfold swpN swpE; rw [if_pos hr, if_pos hr], ?_, hBwW.trans (h.mono hBwW.size)⟩
      unfold swpV
      rw [if_pos hr, ← hMe]
      exact (hT.below h).cut _ (by omega)
    obtain ⟨d, hd⟩ : ∃ d, dead L C (cnd L) = d := ⟨_, rfl⟩
    rw [hd] at hA HFin
    have HCC : Hid (∀ W', Below W.heap.size W W' → W'.cell? ⟨s, 0, none⟩ = some (.slice (some ⟨g, 0, none⟩) N cg) ∧ W'.cell? ⟨s + 1, 0, none⟩ = some (.int .i64 (d : Nat)) ∧ W'.heap[D]? = some (.deferred (some []))) := fun W' h =>
      ⟨by
        have := (h.block s (Array.getElem?_eq_some_iff.1 hbsW).1).trans hbsW
        simp only [World.cell?, this]; rfl, (hA.of_heap (h.block _ hA.lt)).c, (h.block D (Array.getElem?_eq_some_iff.1 hKD).1).trans hKD⟩
    have hself : Below W.heap.size W W := Below.refl _ _
    have hself2 : Below W.heap.size W W.drew := hself.drew
    obtain ⟨c1, c2, _⟩ := HCC.out W hself
    have hDs : W.heap.size ≤ W.heap.size := Nat.le_refl _
    have HP2 : Hid (∀ W', Below W.heap.size W W' → SwpPost L C w (.returned (.tuple #[.slice (some ⟨g, 0, none⟩) (bareN M) cg, .int .i64 (d : Nat), .int .i64 0])) (W'.putObj D (.deferred none))) := fun W' h => by
      obtain ⟨v, e, hTv, hBv⟩ := HFin.out W' h
      exact ⟨v, e, hTv.keep (fun g2 o2 k2 c2 e2 hk2 => World.putObj_heap_other (by
        have h1 : v = .slice (some ⟨g, 0, none⟩) (bareN M) cg := by
          simp only [Ending.returned.injEq, Value.tuple.injEq, Array.mk.injEq, List.cons.injEq] at e
          exact e.1.symm
        rw [h1] at e2
        cases e2
        omega)), below_putObj hBv D (by omega) _⟩
    obtain ⟨m, hm⟩ : ∃ m, bareN M = m := ⟨_, rfl⟩
    rw [hm] at HTr HP2
    clear hon hA hM hrow hlen hMe hMl hT hbsW hBwW hbM hd hKD hm HFin hsq hxk hdl hbs hbi hb6 hbq hrow0 hfn
    gi_wp2
    refine wpIn_wide.2 ?_
    go_region_held3 (fun w' => w'.cell? ⟨s, 0, none⟩ = some (.slice (some ⟨g, 0, none⟩) N cg) ∧ w'.cell? ⟨s + 1, 0, none⟩ = some (.int .i64 (d : Nat))) (exact ⟨(HCC.out _ (by assumption)).1, (HCC.out _ (by assumption)).2.1⟩) ((go_at_call 45; (with_reducible refine Calls.mono (HTr.out _ (by assumption)) ?_); rintro e w' ⟨rfl, hBn⟩; have := below_th (by assumption : Below W.heap.size W _) hBn))
    gi_wp2
    refine ⟨by simp, .inl ⟨_, _, rfl, run_takeDeferred (HCC.out _ (by assumption)).2.2, ?_⟩⟩
    refine ⟨_, results_tmps rfl _ _, ?_⟩
    exact HP2.out _ (by assumption)
  case stop =>
    rintro D c k W hD hk hf
    exact hf.elim
theorem swpV_no {L : List T} {C : List Int} (h : ¬ RightP L) : swpV L C = [] ∧ swpN L C = 0 ∧ swpE L = 80 := ⟨if_neg h, if_neg h, if_neg h⟩
theorem sweep_any (v vc : Value) (L : List T) (C : List Int) (w : World) (hL : Trs w v L) (hC : Cps w vc C) : Calls Try.prog 17 #[v, vc] w (SwpPost L C w) := by
  by_cases hr : RightP L
  · obtain ⟨b, off, cap, rfl, _⟩ := hL.at (k := 0) (by have := hr.1; omega)
    exact callsIn_wide.1 (sweep_in b off cap L.length L C vc w rfl hL hC hr)
  · obtain ⟨e1, e2, e3⟩ := swpV_no (C := C) hr
    have HF : Hid (∀ W, Below w.heap.size w W → SwpPost L C w (.returned (.tuple #[.slice none 0 0, .int .i64 0, .int .i64 80])) W) := fun W h => ⟨_, by rw [e2, e3]; rfl, by rw [e1]; exact Trs.nil W, h⟩
    have hR := fun W (h : Below w.heap.size w W) => right_any v L W (hL.below h)
    rw [rightB_no hr] at hR
    obtain ⟨a, cap, rfl, hn, hm⟩ := hL.parts
    obtain ⟨ac, capc, rfl, hnc, hmc⟩ := hC.parts
    obtain ⟨N, hN⟩ : ∃ N, L.length = N := ⟨_, rfl⟩
    rw [hN] at hR hn ⊢
    have HR := Lib.hid hR
    have HB0 := Lib.hid (below_new w (.cells #[.slice ac C.length capc] 40))
    clear hR hL hC hr hN e1 e2 e3
    go_enter Try.func17, Try.ntmps17
    go_wp2_with (go_at_call 41; (with_reducible refine Calls.mono (HR.out _ HB0.out) ?_); rintro e w1 ⟨rfl, hB1⟩)
    go_returns
    exact HF.out _ (below_th HB0.out hB1)
end
end Go.Proofs.Ytdniakoedgohkaa.Dat
/- A table with a place another one, of the program. -/
namespace Go.Proofs.Ytdniakoedgohkaa.Dat
open Go.RowKit
attribute [local go_sem] Oper.semAt_some
set_option linter.unusedVariables false

theorem set3 (a b c : Value) : ∀ (xs rest : List Value), rest.length = 3 → (((xs ++ rest).set xs.length a).set (xs.length + 1) b).set (xs.length + 2) c = xs ++ [a, b, c]
  | [], rest, h => by
    match rest, h with
    | [x, y, z], _ => rfl
  | x :: xs, rest, h => by
    have ih := set3 a b c xs rest h
    rw [List.cons_append, List.length_cons, show xs.length + 1 + 2 = xs.length + 2 + 1 by omega]
    simp only [List.set_cons_succ]
    rw [ih]
    rfl
theorem cells_put (L : List T) (i K : Nat) (t : T) (xs : List Value) (hi : i ≤ L.length) (hK : K = max L.length (i + 1)) (hx : xs.length = K * 3) (ht : xs.take (L.length * 3) = cellsL L) :
    ((xs.set (i * 3) (.int .u32 t.phys)).set (i * 3 + 1) (.int .u64 t.start)).set (i * 3 + 2) (.int .u64 t.fin) = cellsL (putAt L i t) := by
  unfold putAt
  split
  · rename_i hlt
    have e : K = L.length := by omega
    subst e
    rw [← hx, List.take_length] at ht
    rw [ht]
    exact cellsL_set t L i hlt
  · have e : i = L.length := by omega
    have hl := cellsL_length L
    have e2 : xs = cellsL L ++ xs.drop (L.length * 3) := by rw [← ht, List.take_append_drop]
    rw [e2, e, ← hl, set3 _ _ _ _ _ (by rw [List.length_drop]; omega)]
    unfold cellsL
    rw [List.flatMap_append]
    rfl
/-- a place is laid into a row of one's own that begins as a table -/
theorem own_put {w : World} {base K g i : Nat} {L : List T} {xs : List Value} (hi : i ≤ L.length) (hK : K = max L.length (i + 1)) (h : w.ownsRow base 79 3 (.slice (some ⟨g, 0, none⟩) K K) K xs) (ht : xs.take (L.length * 3) = cellsL L) (s : T) :
    (∃ u, w.cell? ⟨g, i * 3, none⟩ = some u) ∧ w.frozen? ⟨g, i * 3, none⟩ = false ∧
    (∃ u, (w.setCell ⟨g, i * 3, none⟩ (.int .u32 s.phys)).cell? ⟨g, i * 3 + 1, none⟩ = some u) ∧ (w.setCell ⟨g, i * 3, none⟩ (.int .u32 s.phys)).frozen? ⟨g, i * 3 + 1, none⟩ = false ∧
    (∃ u, ((w.setCell ⟨g, i * 3, none⟩ (.int .u32 s.phys)).setCell ⟨g, i * 3 + 1, none⟩ (.int .u64 s.start)).cell? ⟨g, i * 3 + 2, none⟩ = some u) ∧ ((w.setCell ⟨g, i * 3, none⟩ (.int .u32 s.phys)).setCell ⟨g, i * 3 + 1, none⟩ (.int .u64 s.start)).frozen? ⟨g, i * 3 + 2, none⟩ = false ∧
    Trs (((w.setCell ⟨g, i * 3, none⟩ (.int .u32 s.phys)).setCell ⟨g, i * 3 + 1, none⟩ (.int .u64 s.start)).setCell ⟨g, i * 3 + 2, none⟩ (.int .u64 s.fin)) (.slice (some ⟨g, 0, none⟩) K K) (putAt L i s) ∧
    Below g w (((w.setCell ⟨g, i * 3, none⟩ (.int .u32 s.phys)).setCell ⟨g, i * 3 + 1, none⟩ (.int .u64 s.start)).setCell ⟨g, i * 3 + 2, none⟩ (.int .u64 s.fin)) := by
  have hl := h.1
  have h1 := (h.stored (i * 3) (.int .u32 s.phys)).1
  have h2 := (h1.stored (i * 3 + 1) (.int .u64 s.start)).1
  have h3 := (h2.stored (i * 3 + 2) (.int .u64 s.fin)).1
  rw [cells_put L i K s xs hi hK hl ht] at h3
  refine ⟨⟨_, (h.cellAt (i * 3) (by omega)).trans (List.getElem?_eq_getElem (by omega))⟩, h.frozenAt _, ⟨_, (h1.cellAt (i * 3 + 1) (by omega)).trans (List.getElem?_eq_getElem (by simp; omega))⟩, h1.frozenAt _, ⟨_, (h2.cellAt (i * 3 + 2) (by omega)).trans (List.getElem?_eq_getElem (by simp; omega))⟩, h2.frozenAt _, Trs.own (base := base) (by rw [putAt_length L hi, ← hK]; exact h3), ?_⟩
  exact (((Below.refl g w).setCell (p := ⟨g, i * 3, none⟩) (Nat.le_refl _) _).setCell (p := ⟨g, i * 3 + 1, none⟩) (Nat.le_refl _) _).setCell (p := ⟨g, i * 3 + 2, none⟩) (Nat.le_refl _) _
/-- what with leaves -/
def WithPost (M : List T) (w : World) (e : Ending) (w' : World) : Prop := ∃ v, e = .returned v ∧ Trs w' v M ∧ Below w.heap.size w w'
section
set_option maxRecDepth 100000
set_option maxHeartbeats 2000000
end
end Go.Proofs.Ytdniakoedgohkaa.Dat
