/- Counts of the program. -/
import Derived.Test.YthfcjbfldokanaaBagRow
import Derived.Test.YthfcjbfldokanaaDatLow
namespace Go.Proofs.Ythfcjbfldokanaa.Dat
open Go.RowKit Go.Shelf
attribute [local go_sem] Oper.semAt_some
set_option linter.unusedVariables false

/-- one value lies at block q -/
def CellAt (W : World) (q : Nat) (t : TypeId) (v : Value) : Prop := W.heap[q]? = some (.cells #[v] t (0, 0))
theorem CellAt.c {W : World} {q : Nat} {t : TypeId} {v : Value} (h : CellAt W q t v) : W.cell? ⟨q, 0, none⟩ = some v := by unfold CellAt at h; simp only [World.cell?, h]; rfl
theorem CellAt.f {W : World} {q : Nat} {t : TypeId} {v : Value} (h : CellAt W q t v) : W.frozen? ⟨q, 0, none⟩ = false := by unfold CellAt at h; simp [World.frozen?, h]
theorem CellAt.put {W : World} {q : Nat} {t : TypeId} {v : Value} (h : CellAt W q t v) (u : Value) : CellAt (W.setCell ⟨q, 0, none⟩ u) q t u := by unfold CellAt at h ⊢; rw [heap_setCell_same W q 0 _ _ u h]; rfl
theorem CellAt.lt {W : World} {q : Nat} {t : TypeId} {v : Value} (h : CellAt W q t v) : q < W.heap.size := (Array.getElem?_eq_some_iff.1 h).1
theorem CellAt.of_heap {W W' : World} {q : Nat} {t : TypeId} {v : Value} (h : CellAt W q t v) (hb : W'.heap[q]? = W.heap[q]?) : CellAt W' q t v := hb.trans h
theorem CellAt.th {W W' : World} {q : Nat} {t : TypeId} {v : Value} (h : CellAt W q t v) (hB : Below W.heap.size W W') : CellAt W' q t v := h.of_heap (hB.block q h.lt)
theorem CellAt.other {W : World} {q : Nat} {t : TypeId} {v : Value} (h : CellAt W q t v) (p o : Nat) (u : Value) (hp : q ≠ p) : CellAt (W.setCell ⟨p, o, none⟩ u) q t v := h.of_heap (Below.heap_setCell _ _ _ _ hp)
theorem row_put {W : World} {g : Nat} {t : TypeId} {cur : List Value} (h : Row W g t cur) (j : Nat) (u : Value) : Row (W.setCell ⟨g, j, none⟩ u) g t (cur.set j u) := by
  unfold Row at h ⊢
  rw [heap_setCell_same W g j _ _ u h]
  simp
theorem results_cc {fn : Func} {r e : Tmp} (h : fn.results = #[.cell r 46, .cell e 27]) (tmps : Array Value) (w : World) {b1 b2 : Nat} {a : Option Addr} {n c : Nat} {m : Int} (hp : tmps.getD r undef = .pointer (some ⟨b1, 0, none⟩)) (hq : tmps.getD e undef = .pointer (some ⟨b2, 0, none⟩))
    (c1 : CellAt w b1 46 (.slice a n c)) (c2 : CellAt w b2 27 (.int .i64 m)) : (results fn tmps).run Try.prog w = .ok (.tuple #[.slice a n c, .int .i64 m]) w := by
  have k1 := c1.c
  have k2 := c2.c
  rw [Array.getD_eq_getD_getElem?] at hp hq
  simp [results, h, hp, hq, go_sem, k1, k2]
/-- whole numbers -/
def Ints (w : World) (v : Value) (C : List Int) : Prop := Lies w v C.length 1 (C.map (.int .i64))
theorem Ints.below {w w' : World} {v : Value} {C : List Int} (h : Ints w v C) (hB : Below w.heap.size w w') : Ints w' v C := Lies.below h hB
theorem Ints.nil (w : World) : Ints w (.slice none 0 0) [] := Lies.nil w 1
def CntPost (L : List T) (n : Int) (w : World) (e : Ending) (w' : World) : Prop := ∃ v, e = .returned (.tuple #[v, .int .i64 (cntE L n)]) ∧ Ints w' v (cntV L n) ∧ Below w.heap.size w w'
theorem cntV_no {L : List T} {n : Int} (h : ¬ cntOk L n) : cntV L n = [] := if_neg h
theorem cnt_no {L : List T} {n : Int} {w w' : World} (h : ¬ cntOk L n) (hB : Below w.heap.size w w') : CntPost L n w (.returned (.tuple #[.slice none 0 0, .int .i64 80])) w' := ⟨_, by rw [show cntE L n = 80 from if_neg h], by rw [cntV_no h]; exact Ints.nil w', hB⟩
theorem infoInt : (Try.prog.info? 3).map (fun i => (i.zero, i.size, i.bytes)) = some (some (.int .i64 0), 1, 8) := by kernel_rfl
def cntC (L : List T) (l : List Nat) (n : Nat) : List Value := (cntL L l n).map (.int .i64)
theorem cntC_length (L : List T) (l : List Nat) (n : Nat) : (cntC L l n).length = n := by unfold cntC; rw [List.length_map, cntL_length]
theorem cntC_get {L : List T} {l : List Nat} {n s : Nat} (h : s < n) : (cntC L l n)[s]? = some (.int .i64 (cnt L l s : Int)) := by
  unfold cntC
  rw [List.getElem?_map, cntL_get h]
  rfl
theorem cntC_snoc {L : List T} {l : List Nat} {n i : Nat} (h : segOf L i < n) : cntC L (l ++ [i]) n = (cntC L l n).set (segOf L i) (.int .i64 ((cnt L l (segOf L i) + 1 : Nat) : Int)) := by
  unfold cntC
  rw [cntL_snoc h, List.map_set]
  rfl
theorem cntC_nil (L : List T) (n : Nat) : cntC L [] n = List.replicate n (.int .i64 0) := by
  unfold cntC
  rw [cntL_nil, List.map_replicate]
/-- what has been counted behind k places -/
def CntI (W0 : World) (L : List T) (n g q : Nat) (k : Nat) (W : World) : Prop :=
  Only (fun i => i = g ∨ i = q + 1 ∨ i = q + 1 + 1) W0 W ∧ fitP L ((cnd L).take k) n ∧ Row W g 3 (cntC L ((cnd L).take k) n) ∧ CellAt W (q + 1) 46 (.slice none 0 0) ∧ CellAt W (q + 1 + 1) 27 (.int .i64 0)
def CntX (W0 : World) (L : List T) (n g q : Nat) (c : Code) (k : Nat) (W : World) : Prop :=
  c = .ret ∧ ¬ segOf L (ix L k) < n ∧ Only (fun i => i = g ∨ i = q + 1 ∨ i = q + 1 + 1) W0 W ∧ CellAt W (q + 1) 46 (.slice none 0 0) ∧ CellAt W (q + 1 + 1) 27 (.int .i64 80)
theorem cntI_own {W0 : World} {L : List T} {n g q : Nat} : OwnFrom W0.heap.size (CntI W0 L n g q) := fun k W W' row hI hg hr => by
  obtain ⟨h1, h2, h3, h4, h5⟩ := hI
  exact ⟨h1.grown hg (fun r e => .inl (hr r e).1), h2, kept_cells h3 hg hr, kept_cells h4 hg hr, kept_cells h5 hg hr⟩
theorem cntX_own {W0 : World} {L : List T} {n g q : Nat} (c : Code) : OwnFrom W0.heap.size (CntX W0 L n g q c) := fun k W W' row hI hg hr => by
  obtain ⟨h0, h1, h2, h4, h5⟩ := hI
  exact ⟨h0, h1, h2.grown hg (fun r e => .inl (hr r e).1), kept_cells h4 hg hr, kept_cells h5 hg hr⟩
def CntA (tmps : Nat → Nat → Array Value) (W0 : World) (L : List T) (k : Nat) (a' : Act) (W : World) : Prop :=
  ∃ Bx, W0.heap.size ≤ Bx ∧ At W Bx (tr L (ix L k)) ∧ a' = { tmps := tmps k Bx, defers := [] }
theorem cntA_own {tmps : Nat → Nat → Array Value} {W0 : World} {L : List T} {B : Nat} (k : Nat) (a' : Act) : OwnFrom B (fun (_ : Unit) W => CntA tmps W0 L k a' W) := fun _ W W' row hI hg hr => by
  obtain ⟨Bx, h1, h2, h3⟩ := hI
  exact ⟨Bx, h1, kept_cells h2 hg hr, h3⟩
section
set_option maxRecDepth 100000
set_option maxHeartbeats 4000000
theorem counts_in (b off cap N n : Nat) (L : List T) (w : World) (hN : L.length = N) (hL : Trs w (.slice (some ⟨b, off, none⟩) N cap) L) (hr : RightP L) (hn1 : 1 ≤ n) (hn2 : n ≤ 256) :
    CallsIn Fence.wide 9 Try.prog 26 #[.slice (some ⟨b, off, none⟩) N cap, .int .i64 n] w (CntPost L n w) := by
  have hfn : ∀ f, Fence.wide.fn f := fun _ => trivial
  obtain ⟨i0, hin, hz0, hz1, hz2⟩ := info_parts infoInt
  have hN1 : 1 ≤ N := by have := hr.1; omega
  have hN2 : N ≤ 1860 := by have := hr.1; omega
  have hR := fun W (h : Below w.heap.size w W) => right_any _ L W (hL.below h)
  rw [rightB_yes hr] at hR
  have HR := Lib.hid hR
  obtain ⟨WA, hWA⟩ : ∃ WA, ((w.alloc (.cells #[.int .i64 n] 3)).alloc (.cells #[.slice none 0 0] 46)).alloc (.cells #[.int .i64 0] 27) = WA := ⟨_, rfl⟩
  have hBA : Below w.heap.size w WA := by rw [← hWA]; exact below_al (below_al (below_al (Below.refl _ _) _) _) _
  have hz : ∀ (W : World) (o : Obj) (k : Nat) (x : Obj), W.heap[k]? = some x → (W.alloc o).heap[k]? = some x := fun W o k x h => (Below.heap_alloc _ _ _ (Array.getElem?_eq_some_iff.1 h).1).trans h
  have hn : ∀ (W : World) (o : Obj) (n : Nat), W.heap.size = n → (W.alloc o).heap[n]? = some o := fun W o n h => h ▸ World.alloc_heap_new W o
  obtain ⟨q, hq⟩ : ∃ q, w.heap.size = q := ⟨_, rfl⟩
  have a0 : CellAt WA q 3 (.int .i64 n) := by rw [← hWA, ← hq]; exact hz _ _ _ _ (hz _ _ _ _ (hn _ _ _ rfl))
  have a1 : CellAt WA (q + 1) 46 (.slice none 0 0) := by rw [← hWA, ← hq]; exact hz _ _ _ _ (hn _ _ _ (by simp))
  have a2 : CellAt WA (q + 1 + 1) 27 (.int .i64 0) := by rw [← hWA, ← hq]; exact hn _ _ _ (by simp)
  have hsA : WA.heap.size = q + 3 := by rw [← hWA, ← hq]; simp
  have HBA := Lib.hid hBA
  have HA0 := Lib.hid a0
  have g1 : ¬ (n : Int) < 1 := by omega
  have g2 : ¬ (256 : Int) < (n : Int) := by omega
  have g1' : decide ((n : Int) < 1) = false := decide_eq_false g1
  have g2' : decide ((256 : Int) < (n : Int)) = false := decide_eq_false g2
  have hmk := fun W (h : Below w.heap.size w W) => run_make_full (P := Try.prog) W WA.heap.size 46 3 i0 (.int .i64 0) 1 Try.underlying46 hin hz0 hz1 .i64 .i64 n (by rw [hz2]; omega) (by unfold maxLen; omega)
  have HMK := Lib.hid (fun W (h : Below w.heap.size w W) (h2 : WA.heap.size ≤ W.heap.size) => hmk W h h2)
  have HQ := Lib.hid hq
  clear hR hmk a0
  refine callsIn_of_wp_marks Try.func26 rfl trivial ?_ rfl
  simp only [Try.ntmps26, List.size_toArray, List.length_cons, List.length_nil, Nat.reduceAdd, Nat.reduceSub, Array.replicate_succ, Array.replicate_zero, List.push_toArray, List.append_toArray, List.nil_append, List.cons_append]
  gi_wp2_with (first
    | (gi_at_call 15; refine (callsIn_wide.2 (HR.out _ HBA.out)).mono ?_; rintro e w1 ⟨rfl, hB1⟩; have c0 := (HA0.out.th hB1).c; obtain ⟨w2, hm2, hown2, hgrow2⟩ := HMK.out w1 (below_th HBA.out hB1) hB1.size)
    | (gi_at_call 42; refine (used_in _ _ _ _ _).mono ?_; rintro e w4 ⟨rfl, rfl⟩))
  obtain ⟨g, hg⟩ : ∃ g, w1.heap.size = g := ⟨_, rfl⟩
  obtain ⟨s, hs⟩ : ∃ s, w2.heap.size = s := ⟨_, rfl⟩
  rw [hg] at hown2
  obtain ⟨W0, hW0⟩ : ∃ W0, (w2.alloc (.cells #[.slice (some ⟨g, 0, none⟩) n n] 46)).alloc (.cells #[.slice (some ⟨b, off, none⟩) N cap] 22) = W0 := ⟨_, rfl⟩
  have hs0 : W0.heap.size = s + 2 := by rw [← hW0, ← hs]; simp
  have hB20 : Below w2.heap.size w2 W0 := by rw [← hW0]; exact below_al (below_al (Below.refl _ _) _) _
  have hB12 : Below w1.heap.size w1 w2 := (Below.refl _ _).grown hgrow2 (Nat.le_refl _) (fun r e => by cases e)
  have hB10 : Below WA.heap.size WA W0 := below_th hB1 (below_th hB12 hB20)
  have hBW : Below w.heap.size w W0 := below_th hBA hB10
  have b0 : CellAt W0 q 3 (.int .i64 n) := HA0.out.th hB10
  have b1 : CellAt W0 (q + 1) 46 (.slice none 0 0) := a1.th hB10
  have b2 : CellAt W0 (q + 1 + 1) 27 (.int .i64 0) := a2.th hB10
  have b3 : CellAt W0 s 46 (.slice (some ⟨g, 0, none⟩) n n) := by rw [← hW0, ← hs]; exact hz _ _ _ _ (hn _ _ _ rfl)
  have hb6 : W0.cell? ⟨s + 1, 0, none⟩ = some (.slice (some ⟨b, off, none⟩) N cap) := by
    have : W0.heap[s + 1]? = some (.cells #[.slice (some ⟨b, off, none⟩) N cap] 22 (0, 0)) := by rw [← hW0, ← hs]; exact hn _ _ _ (by simp)
    simp only [World.cell?, this]; rfl
  have hqg : q + 1 + 1 < g := by have := hB1.size; omega
  have hrow : Row w2 g 3 (cntC L [] n) := by
    obtain ⟨rest, hrow, hl, _, _, hxl, _⟩ := row_of_own hown2
    have hr0 : rest = [] := List.eq_nil_of_length_eq_zero (by rw [List.length_append] at hl; omega)
    rw [hr0, List.append_nil, Nat.mul_one, show (Value.int IntKind.i64 0).cells = #[.int .i64 0] from rfl, toList_madeCells_one] at hrow
    rw [cntC_nil]
    exact hrow
  have hgs : g < s := by have := hrow.lt; omega
  have hrow0 : Row W0 g 3 (cntC L ((cnd L).take 0) n) := by rw [List.take_zero]; exact hrow.of_heap (hB20.block g (by omega))
  rw [hg, hs]
  rw [hW0]
  have hL0 := hL.below hBW
  have hblt : b < w.heap.size := hL.lt (by omega)
  have hsq : SeqSteps Fence.wide 8 Try.prog 52 #[.pointer (some ⟨s + 1, 0, none⟩)] (enc L) (Same [b]) (cnd L).length W0 := by
    intro l J Jx W' hB hJ _ hY h0
    exact used1_in 8 (by decide) l _ b off cap N L hN (by omega) J Jx _ hJ hY W' ((hB.cell (p := ⟨s + 1, 0, none⟩) (by show s + 1 < _; omega)).trans hb6) (hL0.below hB) h0
  have hxk := fun k (hk : k < (cnd L).length) => ix_ok hk
  have hcl : ∀ k sg, cnt L ((cnd L).take k) sg ≤ 1860 := fun k sg => by
    have h1 := cnt_le L ((cnd L).take k) sg
    have h2 : (cnd L).length ≤ L.length := cand_le L L.length
    rw [List.length_take] at h1
    omega
  have hnoX : ∀ k, k < (cnd L).length → ¬ segOf L (ix L k) < n → ¬ cntOk L n := fun k hk hs hh => hs (by have := hh.2.2 (ix L k) (ix_mem hk); rwa [Int.toNat_natCast] at this)
  have hyes : fitP L (cnd L) n → cntOk L n := fun h => ⟨hr, by omega, by rw [Int.toNat_natCast]; exact h⟩
  clear hW0 hL hL0 hz hn hown2 hgrow2 HR HMK hWA hBA HBA HA0 a1 a2 hsA hrow hB12 hB20 hB1 hm2 hz0 hz1 hz2 hin c0 hB10
  refine wpIn_rangeFunc_steps rfl (by decide) (gf := 52) (lb := #[.pointer (some ⟨s + 1, 0, none⟩)]) rfl trivial (enters_of Try.func52 (by kernel_rfl) rfl)
    hsq sameK_t (sameK_b (by simp; omega)) (Below.refl _ _) (fun k => by unfold enc; rfl)
    (CntI W0 L n g q) (CntX W0 L n g q) cntI_own cntX_own ⟨Only.refl _ _, fun i hi => by simp at hi, hrow0, b1, b2⟩
    (CntA (fun k Bx => #[.slice (some ⟨b, off, none⟩) N cap, .int .i64 n, undef, .pointer (some ⟨q, 0, none⟩), .pointer (some ⟨q + 1, 0, none⟩), .pointer (some ⟨q + 1 + 1, 0, none⟩), .pointer (some ⟨s, 0, none⟩), undef, .pointer (some ⟨Bx, 0, none⟩), undef, .slice (some ⟨b, off, none⟩) N cap, .bool true, .bool false, .bool false, .int .i64 n, .bool false, .bool false, .bool false, .int .i64 n, .bool false, .bool false, .int .i64 n, .slice (some ⟨g, 0, none⟩) n n, .slice (some ⟨b, off, none⟩) N cap, .func (.func 52) #[] #[.pointer (some ⟨s + 1, 0, none⟩)], .int .i64 (ix L k : Nat), (tr L (ix L k)).val, undef, undef, undef, undef, undef, undef, undef, undef, undef, undef, undef, undef, undef, undef]) W0 L) (fun k a' => cntA_own k a') ?assign ?body ?done ?stop
  case assign =>
    intro l k W K hI hk hK
    have hz : W0.heap.size ≤ W.heap.size := hI.1.size
    have HK := Lib.hid (hK _ _ ((KeepsOthers.alloc W _).from _) (Same.below (below_new W _) (by intro x hx; simp at hx; omega)) (cntI_own _ _ _ none hI (World.grownBy_alloc W _ _) (fun r e => by cases e)) ⟨W.heap.size, hz, At.new W (tr L (ix L k)), rfl⟩)
    unfold enc
    clear hK hI hsq
    dsimp only at HK
    unfold boxO T.val at HK
    unfold T.val
    dsimp only at HK ⊢
    generalize tr L (ix L k) = y at HK ⊢
    obtain ⟨ph, st, fi⟩ := y
    dsimp only at HK ⊢
    gi_wp2
    exact HK.out
  case body =>
    rintro l k a' W hl hrec ⟨hon, hfit, hrow, e1, e2⟩ ⟨Bx, hBx, hX, rfl⟩ hk
    have hsz := hon.size
    have e0 := b0.of_heap (hon.block q (by omega) (by omega))
    have e3 := b3.of_heap (hon.block s (by omega) (by omega))
    obtain ⟨x0, x1, x2⟩ := hX.c
    have c0 := e0.c
    have c1 := e1.c
    have c3 := e3.c
    have f1 := e1.f
    have hixl := (hxk k hk).1
    have htk := take_ix hk
    obtain ⟨sg, hsg⟩ : ∃ sg, segOf L (ix L k) = sg := ⟨_, rfl⟩
    have hsgd : (tr L (ix L k)).phys / 16 = sg := hsg
    have hd1 : ((tr L (ix L k)).phys : Int) / 16 = (sg : Int) := by omega
    have hd2 : ((tr L (ix L k)).phys : Int).tdiv 16 = (sg : Int) := by rw [Int.tdiv_eq_ediv_of_nonneg (by omega)]; exact hd1
    have hst := hr.stands (hxk k hk).2
    have hsg256 : sg < 256 := by have := hst.1.2; omega
    have hw1 : IntKind.u32.wrap (sg : Int) = (sg : Int) := by rw [IntKind.wrap_u32]; omega
    have hw2 : IntKind.i64.wrap (sg : Int) = (sg : Int) := by rw [IntKind.wrap_i64]; omega
    by_cases hlt : sg < n
    · have hge : ¬ (n : Int) ≤ (sg : Int) := by omega
      have hge' : decide ((n : Int) ≤ (sg : Int)) = false := decide_eq_false hge
      have hgeN : decide (n ≤ sg) = false := decide_eq_false (by omega)
      obtain ⟨d, hd⟩ : ∃ d, cnt L ((cnd L).take k) sg = d := ⟨_, rfl⟩
      have hdl := hcl k sg
      have c4 : W.cell? ⟨g, sg, none⟩ = some (.int .i64 (d : Nat)) := by rw [hrow.at_, cntC_get hlt, hd]
      have f4 : W.frozen? ⟨g, sg, none⟩ = false := hrow.frozen sg
      have hw3 : IntKind.i64.wrap ((d : Int) + 1) = ((d + 1 : Nat) : Int) := by rw [IntKind.wrap_i64]; omega
      have hon3 : Only (fun i => i = g ∨ i = q + 1 ∨ i = q + 1 + 1) W (W.setCell ⟨g, sg, none⟩ (.int .i64 ((d + 1 : Nat) : Int))) := (Only.refl _ W).setCell (p := ⟨g, sg, none⟩) (.inr (.inl rfl)) _
      have HI : Hid (CntI W0 L n g q (k + 1) (W.setCell ⟨g, sg, none⟩ (.int .i64 ((d + 1 : Nat) : Int)))) := by
        refine ⟨hon.step hon3 (fun i _ hi => hi), ?_, ?_, e1.other g sg _ (by omega), e2.other g sg _ (by omega)⟩
        · rw [htk]; exact fit_snoc hfit (by rw [hsg]; exact hlt)
        · rw [htk, cntC_snoc (by rw [hsg]; exact hlt), hsg, hd]; exact row_put hrow sg _
      have HK : Hid (KeepsFrom W0.heap.size W (W.setCell ⟨g, sg, none⟩ (.int .i64 ((d + 1 : Nat) : Int))) ∧ Same [b] W (W.setCell ⟨g, sg, none⟩ (.int .i64 ((d + 1 : Nat) : Int)))) :=
        ⟨keeps_of_only _ hon3 (by rintro j (rfl | rfl | rfl); exact ⟨_, _, _, hrow⟩; exact ⟨_, _, _, e1⟩; exact ⟨_, _, _, e2⟩), fun x hx => hon3.block x (by simp at hx; omega) (by simp at hx; omega)⟩
      clear hon hfit hrow e1 e2 hX hsq hxk hcl hnoX hyes e0 e3 hixl htk hsg hsgd hst hd hdl hon3 hrec b0 b1 b2 b3 hb6 hrow0
      unfold T.val
      dsimp only
      generalize tr L (ix L k) = y at x0 x1 x2 hd1 hd2 ⊢
      obtain ⟨ph, st, fi⟩ := y
      dsimp only at x0 x1 x2 hd1 hd2 ⊢
      gi_wp2
      simp only [← hs0]
      exact ⟨HK.out.1, HK.out.2, HI.out⟩
    · have hge : (n : Int) ≤ (sg : Int) := by omega
      have hge' : decide ((n : Int) ≤ (sg : Int)) = true := decide_eq_true hge
      have hgeN : decide (n ≤ sg) = true := decide_eq_true (by omega)
      have e2b := e2.other (q + 1) 0 (.slice none 0 0) (by omega)
      have c2 := e2b.c
      have f2 := e2b.f
      have hon3 : Only (fun i => i = g ∨ i = q + 1 ∨ i = q + 1 + 1) W ((W.setCell ⟨q + 1, 0, none⟩ (.slice none 0 0)).setCell ⟨q + 1 + 1, 0, none⟩ (.int .i64 80)) :=
        ((Only.refl _ W).setCell (p := ⟨q + 1, 0, none⟩) (.inr (.inr (.inl rfl))) _).setCell (p := ⟨q + 1 + 1, 0, none⟩) (.inr (.inr (.inr rfl))) _
      have HI : Hid (KeepsFrom W0.heap.size W ((W.setCell ⟨q + 1, 0, none⟩ (.slice none 0 0)).setCell ⟨q + 1 + 1, 0, none⟩ (.int .i64 80)) ∧ CntX W0 L n g q .ret k ((W.setCell ⟨q + 1, 0, none⟩ (.slice none 0 0)).setCell ⟨q + 1 + 1, 0, none⟩ (.int .i64 80))) :=
        ⟨keeps_of_only _ hon3 (by rintro j (rfl | rfl | rfl); exact ⟨_, _, _, hrow⟩; exact ⟨_, _, _, e1⟩; exact ⟨_, _, _, e2⟩), rfl, by rw [hsg]; exact hlt, hon.step hon3 (fun i _ hi => hi), (e1.put _).other (q + 1 + 1) 0 _ (by omega), e2b.put _⟩
      clear hon hfit hrow e1 e2 e2b hX hsq hxk hcl hnoX hyes e0 e3 hixl htk hsg hsgd hst hon3 hrec b0 b1 b2 b3 hb6 hrow0
      unfold T.val
      dsimp only
      generalize tr L (ix L k) = y at x0 x1 x2 hd1 hd2 ⊢
      obtain ⟨ph, st, fi⟩ := y
      dsimp only at x0 x1 x2 hd1 hd2 ⊢
      gi_wp2
      exact HI.out
  case done =>
    rintro D W hD ⟨hon, hfit, hrow, e1, e2⟩ hKD
    have hsz := hon.size
    rw [List.take_length] at hfit hrow
    have e3 := b3.of_heap (hon.block s (by omega) (by omega))
    have c1 := e1.c
    have c3 := e3.c
    have f1 := e1.f
    have hok := hyes hfit
    have e2b := e2.other (q + 1) 0 (.slice (some ⟨g, 0, none⟩) n n) (by omega)
    have c2 := e2b.c
    have f2 := e2b.f
    have hV : cntV L n = cntL L (cnd L) n := by unfold cntV; rw [if_pos hok, Int.toNat_natCast]
    have hE : cntE L n = 0 := if_pos hok
    have hon3 : Only (fun i => i = g ∨ i = q + 1 ∨ i = q + 1 + 1) W0 ((W.setCell ⟨q + 1, 0, none⟩ (.slice (some ⟨g, 0, none⟩) n n)).setCell ⟨q + 1 + 1, 0, none⟩ (.int .i64 0)) :=
      (hon.setCell (p := ⟨q + 1, 0, none⟩) (.inr (.inr (.inl rfl))) _).setCell (p := ⟨q + 1 + 1, 0, none⟩) (.inr (.inr (.inr rfl))) _
    have ho : ∀ (V : World) (p o j : Nat) (u : Value), j ≠ p → (V.setCell ⟨p, o, none⟩ u).heap[j]? = V.heap[j]? := fun V p o j u hj => Below.heap_setCell _ _ _ _ hj
    obtain ⟨W3, hW3⟩ : ∃ W3, ((W.setCell ⟨q + 1, 0, none⟩ (.slice (some ⟨g, 0, none⟩) n n)).setCell ⟨q + 1 + 1, 0, none⟩ (.int .i64 0)) = W3 := ⟨_, rfl⟩
    have r1 : CellAt (W3.putObj D (.deferred none)) (q + 1) 46 (.slice (some ⟨g, 0, none⟩) n n) := by rw [← hW3]; exact ((e1.put _).other (q + 1 + 1) 0 _ (by omega)).of_heap (World.putObj_heap_other (by omega))
    have r2 : CellAt (W3.putObj D (.deferred none)) (q + 1 + 1) 27 (.int .i64 0) := by rw [← hW3]; exact (e2b.put _).of_heap (World.putObj_heap_other (by omega))
    have hrow3 : Row (W3.putObj D (.deferred none)) g 3 (cntC L (cnd L) n ++ []) := by
      rw [List.append_nil, ← hW3]
      exact hrow.of_heap ((World.putObj_heap_other (by omega)).trans ((ho _ (q + 1 + 1) 0 g _ (by omega)).trans (ho _ (q + 1) 0 g _ (by omega))))
    have hlen := cntC_length L (cnd L) n
    have hown3 := own_of_row (n := n) (size := 1) (base := g) hrow3 (by rw [List.append_nil, hlen, Nat.mul_one]) (Nat.le_refl _) (by unfold maxLen; omega) (by rw [hlen, Nat.mul_one]) (Nat.le_refl _)
    have HP : Hid (CntPost L n w (.returned (.tuple #[.slice (some ⟨g, 0, none⟩) n n, .int .i64 0])) (W3.putObj D (.deferred none))) := by
      refine ⟨_, by rw [hE], ?_, ?_⟩
      · rw [hV]
        have := Lies.own hown3
        unfold Ints
        rw [cntL_length]
        exact this
      · have : Below w.heap.size w W3 := by rw [← hW3]; exact hBW.trans (hon3.below (by omega) (by rintro j (rfl | rfl | rfl) <;> omega))
        exact below_putObj this D (by omega) _
    have HKD : Hid (W3.heap[D]? = some (.deferred (some []))) := by
      rw [← hW3]
      exact (ho _ (q + 1 + 1) 0 D _ (by omega)).trans ((ho _ (q + 1) 0 D _ (by omega)).trans hKD)
    have HR1 := Lib.hid r1
    have HR2 := Lib.hid r2
    clear hon hfit hrow e1 e2 e2b hsq hxk hcl hnoX hyes e3 hok hV hE hon3 ho r1 r2 hrow3 hown3 hlen hKD b0 b1 b2 b3 hb6 hrow0
    gi_wp2
    refine ⟨by simp, .inl ⟨_, _, rfl, run_takeDeferred HKD.out, ?_⟩⟩
    exact ⟨_, results_cc rfl _ _ rfl rfl HR1.out HR2.out, HP.out⟩
  case stop =>
    rintro D c k W hD hk ⟨rfl, hnl, hon, e1, e2⟩ hKD
    have hsz := hon.size
    have r1 : CellAt (W.putObj D (.deferred none)) (q + 1) 46 (.slice none 0 0) := e1.of_heap (World.putObj_heap_other (by omega))
    have r2 : CellAt (W.putObj D (.deferred none)) (q + 1 + 1) 27 (.int .i64 80) := e2.of_heap (World.putObj_heap_other (by omega))
    have HP : Hid (CntPost L n w (.returned (.tuple #[.slice none 0 0, .int .i64 80])) (W.putObj D (.deferred none))) := by
      refine cnt_no (hnoX k hk hnl) (below_putObj ?_ D (by omega) _)
      exact hBW.trans (hon.below (by omega) (by rintro j (rfl | rfl | rfl) <;> omega))
    have HKD := Lib.hid hKD
    have HR1 := Lib.hid r1
    have HR2 := Lib.hid r2
    clear hon e1 e2 hsq hxk hcl hnoX hyes r1 r2 hKD b0 b1 b2 b3 hb6 hrow0 hnl
    gi_wp2
    refine ⟨by simp, .inl ⟨_, _, rfl, run_takeDeferred HKD.out, ?_⟩⟩
    exact ⟨_, results_cc rfl _ _ rfl rfl HR1.out HR2.out, HP.out⟩
theorem counts_no (v : Value) (L : List T) (n : Int) (w : World) (hL : Trs w v L) (h : ¬ (RightP L ∧ 1 ≤ n ∧ n ≤ 256)) : Calls Try.prog 26 #[v, .int .i64 n] w (CntPost L n w) := by
  obtain ⟨a, cap, rfl, hn, hm⟩ := hL.parts
  obtain ⟨N, hN⟩ : ∃ N, L.length = N := ⟨_, rfl⟩
  have hR := fun W (h : Below w.heap.size w W) => right_any _ L W (hL.below h)
  rw [hN] at hR hn ⊢
  obtain ⟨WA, hWA⟩ : ∃ WA, ((w.alloc (.cells #[.int .i64 n] 3)).alloc (.cells #[.slice none 0 0] 46)).alloc (.cells #[.int .i64 0] 27) = WA := ⟨_, rfl⟩
  have hBA : Below w.heap.size w WA := by rw [← hWA]; exact below_al (below_al (below_al (Below.refl _ _) _) _) _
  have hz : ∀ (W : World) (o : Obj) (k : Nat) (x : Obj), W.heap[k]? = some x → (W.alloc o).heap[k]? = some x := fun W o k x h => (Below.heap_alloc _ _ _ (Array.getElem?_eq_some_iff.1 h).1).trans h
  have hnw : ∀ (W : World) (o : Obj) (n : Nat), W.heap.size = n → (W.alloc o).heap[n]? = some o := fun W o n h => h ▸ World.alloc_heap_new W o
  obtain ⟨q, hq⟩ : ∃ q, w.heap.size = q := ⟨_, rfl⟩
  have a0 : CellAt WA q 3 (.int .i64 n) := by rw [← hWA, ← hq]; exact hz _ _ _ _ (hz _ _ _ _ (hnw _ _ _ rfl))
  have a1 : CellAt WA (q + 1) 46 (.slice none 0 0) := by rw [← hWA, ← hq]; exact hz _ _ _ _ (hnw _ _ _ (by simp))
  have a2 : CellAt WA (q + 1 + 1) 27 (.int .i64 0) := by rw [← hWA, ← hq]; exact hnw _ _ _ (by simp)
  have HA : Hid (∀ W, Below WA.heap.size WA W → CellAt W q 3 (.int .i64 n) ∧ CellAt W (q + 1) 46 (.slice none 0 0) ∧ CellAt W (q + 1 + 1) 27 (.int .i64 0)) := fun W h => ⟨a0.th h, a1.th h, a2.th h⟩
  have HBA := Lib.hid hBA
  have HF : Hid (∀ W, Below WA.heap.size WA W → CntPost L n w (.returned (.tuple #[.slice none 0 0, .int .i64 80])) ((W.setCell ⟨q + 1, 0, none⟩ (.slice none 0 0)).setCell ⟨q + 1 + 1, 0, none⟩ (.int .i64 80))) := fun W hB => by
    refine cnt_no (fun hh => h ⟨hh.1, hh.2.1⟩) ?_
    exact ((below_th hBA hB).setCell (p := ⟨q + 1, 0, none⟩) (by show w.heap.size ≤ q + 1; omega) _).setCell (p := ⟨q + 1 + 1, 0, none⟩) (by show w.heap.size ≤ q + 1 + 1; omega) _
  have HS : Hid (∀ W, CellAt W (q + 1) 46 (.slice none 0 0) → CellAt W (q + 1 + 1) 27 (.int .i64 0) → CellAt (W.setCell ⟨q + 1, 0, none⟩ (.slice none 0 0)) (q + 1 + 1) 27 (.int .i64 0) ∧ CellAt ((W.setCell ⟨q + 1, 0, none⟩ (.slice none 0 0)).setCell ⟨q + 1 + 1, 0, none⟩ (.int .i64 80)) (q + 1) 46 (.slice none 0 0) ∧ CellAt ((W.setCell ⟨q + 1, 0, none⟩ (.slice none 0 0)).setCell ⟨q + 1 + 1, 0, none⟩ (.int .i64 80)) (q + 1 + 1) 27 (.int .i64 80)) := fun W h1 h2 =>
    ⟨h2.other (q + 1) 0 _ (by omega), (h1.put _).other (q + 1 + 1) 0 _ (by omega), (h2.other (q + 1) 0 (.slice none 0 0) (by omega)).put _⟩
  have fin : ∀ x : Bool, (x = true → decide (n < 1) = true ∨ decide (n < 1) = false ∧ decide (256 < n) = true) → (∀ W, Below w.heap.size w W → Calls Try.prog 15 #[.slice a N cap] W (Ans W (.bool x))) → Calls Try.prog 26 #[.slice a N cap, .int .i64 n] w (CntPost L n w) := fun x hx hR => by
    have HR := Lib.hid hR
    clear hR hL hN hBA a0 a1 a2 hz hnw h
    cases x with
    | true =>
      rcases hx rfl with g1 | ⟨g1, g2⟩
      · go_enter Try.func26, Try.ntmps26
        go_wp2_with (go_at_call 15; (with_reducible refine Calls.mono (HR.out _ HBA.out) ?_); rintro e w1 ⟨rfl, hB1⟩; obtain ⟨c0, c1, c2⟩ := HA.out _ hB1; have k0 := c0.c; have k1 := c1.c; have k2 := c2.c; have f1 := c1.f; obtain ⟨c3, c4, c5⟩ := HS.out _ c1 c2; have k3 := c3.c; have f3 := c3.f; have HC4 := Lib.hid c4; have HC5 := Lib.hid c5; clear c0 c1 c2 c3 c4 c5)
        refine bodyPost_ret (results_cc rfl _ _ rfl rfl HC4.out HC5.out) rfl ?_
        exact HF.out _ hB1
      · go_enter Try.func26, Try.ntmps26
        go_wp2_with (go_at_call 15; (with_reducible refine Calls.mono (HR.out _ HBA.out) ?_); rintro e w1 ⟨rfl, hB1⟩; obtain ⟨c0, c1, c2⟩ := HA.out _ hB1; have k0 := c0.c; have k1 := c1.c; have k2 := c2.c; have f1 := c1.f; obtain ⟨c3, c4, c5⟩ := HS.out _ c1 c2; have k3 := c3.c; have f3 := c3.f; have HC4 := Lib.hid c4; have HC5 := Lib.hid c5; clear c0 c1 c2 c3 c4 c5)
        refine bodyPost_ret (results_cc rfl _ _ rfl rfl HC4.out HC5.out) rfl ?_
        exact HF.out _ hB1
    | false =>
      clear hx
      go_enter Try.func26, Try.ntmps26
      go_wp2_with (go_at_call 15; (with_reducible refine Calls.mono (HR.out _ HBA.out) ?_); rintro e w1 ⟨rfl, hB1⟩; obtain ⟨c0, c1, c2⟩ := HA.out _ hB1; have k0 := c0.c; have k1 := c1.c; have k2 := c2.c; have f1 := c1.f; obtain ⟨c3, c4, c5⟩ := HS.out _ c1 c2; have k3 := c3.c; have f3 := c3.f; have HC4 := Lib.hid c4; have HC5 := Lib.hid c5; clear c0 c1 c2 c3 c4 c5)
      refine bodyPost_ret (results_cc rfl _ _ rfl rfl HC4.out HC5.out) rfl ?_
      exact HF.out _ hB1
  refine fin (rightB L) (fun hx => ?_) hR
  have hr : RightP L := of_decide_eq_true hx
  by_cases h1 : n < 1
  · exact .inl (decide_eq_true h1)
  · exact .inr ⟨decide_eq_false h1, decide_eq_true (Classical.byContradiction fun h2 => h ⟨hr, by omega, by omega⟩)⟩
theorem counts_any (v : Value) (L : List T) (n : Int) (w : World) (hL : Trs w v L) : Calls Try.prog 26 #[v, .int .i64 n] w (CntPost L n w) := by
  by_cases h : RightP L ∧ 1 ≤ n ∧ n ≤ 256
  · obtain ⟨hr, h1, h2⟩ := h
    obtain ⟨n, rfl⟩ := Int.eq_ofNat_of_zero_le (show 0 ≤ n by omega)
    obtain ⟨b, off, cap, rfl, _⟩ := hL.at (k := 0) (by have := hr.1; omega)
    exact callsIn_wide.1 (counts_in b off cap L.length n L w rfl hL hr (by omega) (by omega))
  · exact counts_no v L n w hL h
end
end Go.Proofs.Ythfcjbfldokanaa.Dat
