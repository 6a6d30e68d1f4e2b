/- Choose of the program. -/
import Derived.Shelf.Abstract
import Derived.Test.YtgadclbenbakfaaUsgIter
namespace Go.Proofs.Ytgadclbenbakfaa.Usage
open Go.RowKit Go.Shelf
attribute [local go_sem] Oper.semAt_some
set_option linter.unusedVariables false

theorem run_store_func {P : Program} {w : World} (a : Addr) (m : Mode) (f : Fn) (x y : Array Value) : (store a (.func f x y) m).run P w = stored P w a (.func f x y) m := run_store P w a _ m rfl
attribute [local go_sem] run_store_func
section
set_option maxRecDepth 100000
theorem choosable_in (n : Nat) (a : Option Addr) (N cap : Nat) (w : World) :
    CallsIn Fence.wide n Try.prog 28 #[.slice a N cap] w fun e w' => e = .returned (.func (.func 34) #[] #[.pointer (some ⟨w.heap.size, 0, none⟩)]) ∧ w.alloc (.cells #[.slice a N cap] 22) = w' := by
  refine callsIn_of_wp Try.func28 rfl trivial ?_ rfl
  simp only [Try.ntmps28, List.size_toArray, List.length_cons, List.length_nil, Nat.reduceAdd, Nat.reduceSub, Array.replicate_succ, Array.replicate_zero, List.push_toArray, List.append_toArray, List.nil_append, List.cons_append]
  gi_wp2
  go_ret
  exact ⟨rfl, rfl⟩
theorem worthBy_in (n : Nat) (way now : Int) (w : World) :
    CallsIn Fence.wide n Try.prog 27 #[.int .i64 way, .int .u64 now] w fun e w' => e = .returned (.func (.func 33) #[] #[.pointer (some ⟨w.heap.size, 0, none⟩), .pointer (some ⟨w.heap.size + 1, 0, none⟩)]) ∧ (w.alloc (.cells #[.int .i64 way] 3)).alloc (.cells #[.int .u64 now] 29) = w' := by
  refine callsIn_of_wp Try.func27 rfl trivial ?_ rfl
  simp only [Try.ntmps27, List.size_toArray, List.length_cons, List.length_nil, Nat.reduceAdd, Nat.reduceSub, Array.replicate_succ, Array.replicate_zero, List.push_toArray, List.append_toArray, List.nil_append, List.cons_append]
  gi_wp2
  go_ret
  exact ⟨rfl, rfl⟩

/-- what has been chosen behind k of those that may be, and what it is worth -/
def curB (L : List S) (way : Int) (now k : Nat) : Nat := bst L way now ((cnd L).take k)
def curM (L : List S) (way : Int) (now k : Nat) : Nat := if curB L way now k = 0 then 0 else worth way now (seg L (curB L way now k))
theorem take_ix {L : List S} {k : Nat} (h : k < (cnd L).length) : (cnd L).take (k + 1) = (cnd L).take k ++ [ix L k] := by
  unfold ix
  rw [List.take_add_one, List.getD_eq_getElem?_getD, List.getElem?_eq_getElem h]
  rfl
theorem ix_ok {L : List S} {k : Nat} (h : k < (cnd L).length) : ix L k < L.length ∧ okS (ix L k) (seg L (ix L k)) := by
  refine cand_mem (k := L.length) ?_
  show ix L k ∈ cnd L
  unfold ix
  rw [List.getD_eq_getElem?_getD, List.getElem?_eq_getElem h]
  exact List.getElem_mem h
theorem curB_next {L : List S} {way : Int} {now k : Nat} (h : k < (cnd L).length) : curB L way now (k + 1) = if curB L way now k = 0 ∨ worth way now (seg L (curB L way now k)) < worth way now (seg L (ix L k)) then ix L k else curB L way now k := by
  unfold curB
  rw [take_ix h, bst_snoc]
theorem curB_all (L : List S) (way : Int) (now : Nat) : curB L way now (cnd L).length = bst L way now (cand L L.length) := by
  unfold curB
  rw [List.take_length]
  rfl
theorem next_yes {L : List S} {way : Int} {now k : Nat} (h : k < (cnd L).length) (hh : curB L way now k = 0 ∨ curM L way now k < worth way now (seg L (ix L k))) : curB L way now (k + 1) = ix L k ∧ curM L way now (k + 1) = worth way now (seg L (ix L k)) ∧ 0 < ix L k := by
  have h0 : 0 < ix L k := by have := (ix_ok h).2.1; omega
  have e : curB L way now (k + 1) = ix L k := by
    rw [curB_next h, if_pos]
    rcases hh with hh | hh
    · exact .inl hh
    · by_cases hz : curB L way now k = 0
      · exact .inl hz
      · unfold curM at hh; rw [if_neg hz] at hh; exact .inr hh
  refine ⟨e, ?_, h0⟩
  unfold curM
  rw [e, if_neg (by omega)]
theorem next_no2 {L : List S} {way : Int} {now k : Nat} (h : k < (cnd L).length) (h1 : ¬ curB L way now k = 0) (h2 : ¬ curM L way now k < worth way now (seg L (ix L k))) : curB L way now (k + 1) = curB L way now k ∧ curM L way now (k + 1) = curM L way now k := by
  have e : curB L way now (k + 1) = curB L way now k := by
    rw [curB_next h, if_neg]
    rintro (hh | hh)
    · exact h1 hh
    · unfold curM at h2; rw [if_neg h1] at h2; exact h2 hh
  refine ⟨e, ?_⟩
  unfold curM
  rw [e]
/-- the three cells of the loop -/
structure Three (q c m : Nat) (f : Bool) (W : World) : Prop where
  c : W.heap[q]? = some (.cells #[.int .i64 c] 3 (0, 0))
  m : W.heap[q + 1]? = some (.cells #[.int .u64 m] 29 (0, 0))
  f : W.heap[q + 1 + 1]? = some (.cells #[.bool f] 4 (0, 0))
namespace Three
variable {q c m : Nat} {f : Bool} {W : World}
theorem k0 (h : Three q c m f W) : W.cell? ⟨q, 0, none⟩ = some (.int .i64 c) := by simp only [World.cell?, h.c]; rfl
theorem k1 (h : Three q c m f W) : W.cell? ⟨q + 1, 0, none⟩ = some (.int .u64 m) := by simp only [World.cell?, h.m]; rfl
theorem k2 (h : Three q c m f W) : W.cell? ⟨q + 1 + 1, 0, none⟩ = some (.bool f) := by simp only [World.cell?, h.f]; rfl
theorem g0 (h : Three q c m f W) : W.frozen? ⟨q, 0, none⟩ = false := by simp [World.frozen?, h.c]
theorem g1 (h : Three q c m f W) : W.frozen? ⟨q + 1, 0, none⟩ = false := by simp [World.frozen?, h.m]
theorem g2 (h : Three q c m f W) : W.frozen? ⟨q + 1 + 1, 0, none⟩ = false := by simp [World.frozen?, h.f]
theorem r1 (h : Three q c m f W) (u : Value) : (W.setCell ⟨q, 0, none⟩ u).cell? ⟨q + 1, 0, none⟩ = some (.int .u64 m) := by
  simp only [World.cell?, (Below.heap_setCell W ⟨q, 0, none⟩ u (q + 1) (by show q + 1 ≠ q; omega)).trans h.m]; rfl
theorem r2 (h : Three q c m f W) (u v : Value) : ((W.setCell ⟨q, 0, none⟩ u).setCell ⟨q + 1, 0, none⟩ v).cell? ⟨q + 1 + 1, 0, none⟩ = some (.bool f) := by
  simp only [World.cell?, (Below.heap_setCell _ ⟨q + 1, 0, none⟩ v (q + 1 + 1) (by show q + 1 + 1 ≠ q + 1; omega)).trans ((Below.heap_setCell W ⟨q, 0, none⟩ u (q + 1 + 1) (by show q + 1 + 1 ≠ q; omega)).trans h.f)]; rfl
theorem z1 (h : Three q c m f W) (u : Value) : (W.setCell ⟨q, 0, none⟩ u).frozen? ⟨q + 1, 0, none⟩ = false := by
  simp [World.frozen?, (Below.heap_setCell W ⟨q, 0, none⟩ u (q + 1) (by show q + 1 ≠ q; omega)).trans h.m]
theorem z2 (h : Three q c m f W) (u v : Value) : ((W.setCell ⟨q, 0, none⟩ u).setCell ⟨q + 1, 0, none⟩ v).frozen? ⟨q + 1 + 1, 0, none⟩ = false := by
  simp [World.frozen?, (Below.heap_setCell _ ⟨q + 1, 0, none⟩ v (q + 1 + 1) (by show q + 1 + 1 ≠ q + 1; omega)).trans ((Below.heap_setCell W ⟨q, 0, none⟩ u (q + 1 + 1) (by show q + 1 + 1 ≠ q; omega)).trans h.f)]
theorem lay (h : Three q c m f W) (i x : Nat) (g : Bool) : (∀ W0, Only (fun j => j = q ∨ j = q + 1 ∨ j = q + 1 + 1) W0 W → Only (fun j => j = q ∨ j = q + 1 ∨ j = q + 1 + 1) W0 (((W.setCell ⟨q, 0, none⟩ (.int .i64 i)).setCell ⟨q + 1, 0, none⟩ (.int .u64 x)).setCell ⟨q + 1 + 1, 0, none⟩ (.bool g))) ∧
    Three q i x g (((W.setCell ⟨q, 0, none⟩ (.int .i64 i)).setCell ⟨q + 1, 0, none⟩ (.int .u64 x)).setCell ⟨q + 1 + 1, 0, none⟩ (.bool g)) := by
  have ho : ∀ (V : World) (p j : Nat) (u : Value), j ≠ p → (V.setCell ⟨p, 0, none⟩ u).heap[j]? = V.heap[j]? := fun V p j u hj => Below.heap_setCell _ _ _ _ hj
  refine ⟨fun W0 hW => ((hW.setCell (p := ⟨q, 0, none⟩) (.inr (.inl rfl)) _).setCell (p := ⟨q + 1, 0, none⟩) (.inr (.inr (.inl rfl))) _).setCell (p := ⟨q + 1 + 1, 0, none⟩) (.inr (.inr (.inr rfl))) _, ?_, ?_, ?_⟩
  · rw [ho _ (q + 1 + 1) q _ (by omega), ho _ (q + 1) q _ (by omega), heap_setCell_same W q 0 _ _ (.int .i64 i) h.c]; rfl
  · rw [ho _ (q + 1 + 1) (q + 1) _ (by omega), heap_setCell_same _ (q + 1) 0 _ _ (.int .u64 x) ((ho W q (q + 1) _ (by omega)).trans h.m)]; rfl
  · rw [heap_setCell_same _ (q + 1 + 1) 0 _ _ (.bool g) ((ho _ (q + 1) (q + 1 + 1) _ (by omega)).trans ((ho W q (q + 1 + 1) _ (by omega)).trans h.f))]; rfl
end Three
theorem below_putObj {n : Nat} {w W : World} (h : Below n w W) (D : Nat) (hD : n ≤ D) (o : Obj) : Below n w (W.putObj D o) := ⟨h.1, h.2, h.3, by simpa [World.putObj] using h.4, fun k hk => (World.putObj_heap_other (by omega)).trans (h.5 k hk)⟩
theorem results_tmps {fn : Func} {r t u : Tmp} (h : fn.results = #[.tmp r, .tmp t, .tmp u]) (tmps : Array Value) (w : World) :
    (results fn tmps).run Try.prog w = .ok (.tuple #[tmps.getD r undef, tmps.getD t undef, tmps.getD u undef]) w := by
  simp [results, h, go_sem]
def ChI (W0 : World) (q : Nat) (L : List S) (way : Int) (now : Nat) (k : Nat) (W : World) : Prop :=
  Only (fun i => i = q ∨ i = q + 1 ∨ i = q + 1 + 1) W0 W ∧ Three q (curB L way now k) (curM L way now k) (decide (0 < curB L way now k)) W
theorem chI_own {W0 : World} {q : Nat} {L : List S} {way : Int} {now : Nat} : OwnFrom W0.heap.size (ChI W0 q L way now) := fun k W W' row hI hg hr =>
  ⟨hI.1.grown hg (fun r e => .inl (hr r e).1), kept_cells hI.2.c hg hr, kept_cells hI.2.m hg hr, kept_cells hI.2.f hg hr⟩
def ChA (tmps : Nat → Nat → Array Value) (W0 : World) (L : List S) (k : Nat) (a' : Act) (W : World) : Prop :=
  ∃ Bx, W0.heap.size ≤ Bx ∧ At W Bx (seg L (ix L k)) ∧ a' = { tmps := tmps k Bx, defers := [] }
theorem chA_own {tmps : Nat → Nat → Array Value} {W0 : World} {L : List S} {B : Nat} (k : Nat) (a' : Act) : OwnFrom B (fun (_ : Unit) W => ChA tmps W0 L k a' W) := fun _ W W' row hI hg hr => by
  obtain ⟨Bx, h1, h2, h3⟩ := hI
  exact ⟨Bx, h1, kept_cells h2 hg hr, h3⟩

set_option maxHeartbeats 4000000 in
theorem choose_in (b off cap N : Nat) (L : List S) (way : Int) (now : Nat) (w : World) (hN : L.length = N) (hL : Segs w (.slice (some ⟨b, off, none⟩) N cap) L) (hR : RightP L) (hw : isWayP way) (hnow : now < 18446744073709551616) :
    CallsIn Fence.wide 9 Try.prog 16 #[.slice (some ⟨b, off, none⟩) N cap, .int .i64 way, .int .u64 now] w (Ans w (.tuple #[.int .i64 (bst L way now (cand L L.length) : Nat), .bool (decide (0 < bst L way now (cand L L.length))), .int .i64 0])) := by
  have hfn : ∀ f, Fence.wide.fn f := fun _ => trivial
  have HFIN := Lib.hid (curB_all L way now)
  obtain ⟨r, hr⟩ : ∃ r, bst L way now (cand L L.length) = r := ⟨_, rfl⟩
  rw [hr] at HFIN ⊢
  clear hr
  have HR := right_any _ L w hL
  rw [show rightB L = true from decide_eq_true hR] at HR
  have HWy := isWay_any way
  rw [decide_eq_true hw] at HWy
  refine callsIn_of_wp_marks Try.func16 rfl trivial ?_ rfl
  simp only [Try.ntmps16, List.size_toArray, List.length_cons, List.length_nil, Nat.reduceAdd, Nat.reduceSub, Array.replicate_succ, Array.replicate_zero, List.push_toArray, List.append_toArray, List.nil_append, List.cons_append]
  gi_wp2_with (first
    | (gi_at_call 12; refine (callsIn_wide.2 HR).mono ?_; rintro e w1 ⟨rfl, hB1⟩)
    | (gi_at_call 26; refine (callsIn_wide.2 (HWy _)).mono ?_; rintro e w2 ⟨rfl, rfl⟩)
    | (gi_at_call 27; refine (worthBy_in _ _ _ _).mono ?_; rintro e w3 ⟨rfl, rfl⟩)
    | (gi_at_call 28; refine (choosable_in _ _ _ _ _).mono ?_; rintro e w4 ⟨rfl, rfl⟩))
  obtain ⟨s, hs⟩ : ∃ s, w1.heap.size = s := ⟨_, rfl⟩
  obtain ⟨W0, hW0⟩ : ∃ W0, (((((((w1.alloc (.cells #[.int .i64 way] 3)).alloc (.cells #[.int .u64 now] 29)).alloc (.cells #[.func (.func 33) #[] #[.pointer (some ⟨w1.heap.size, 0, none⟩), .pointer (some ⟨w1.heap.size + 1, 0, none⟩)]] 46)).alloc (.cells #[.int .i64 0] 3)).alloc (.cells #[.int .u64 0] 29)).alloc (.cells #[.bool false] 4)).alloc (.cells #[.slice (some ⟨b, off, none⟩) N cap] 22)) = W0 := ⟨_, rfl⟩
  have hs0 : W0.heap.size = s + 7 := by rw [← hW0, ← hs]; simp
  have hB0 : Below w1.heap.size w1 W0 := by
    rw [← hW0]
    exact below_al (below_al (below_al (below_al (below_al (below_al (below_al (Below.refl _ _) _) _) _) _) _) _) _
  have hBW : Below w.heap.size w W0 := below_th hB1 hB0
  have hz : ∀ (W : World) (o : Obj) (k : Nat) (x : Obj), W.heap[k]? = some x → (W.alloc o).heap[k]? = some x := fun W o k x h => (Below.heap_alloc _ _ _ (Array.getElem?_eq_some_iff.1 h).1).trans h
  have hn : ∀ (W : World) (o : Obj) (n : Nat), W.heap.size = n → (W.alloc o).heap[n]? = some o := fun W o n h => h ▸ World.alloc_heap_new W o
  have hb0 : W0.heap[s]? = some (.cells #[.int .i64 way] 3 (0, 0)) := by rw [← hW0, ← hs]; exact hz _ _ _ _ (hz _ _ _ _ (hz _ _ _ _ (hz _ _ _ _ (hz _ _ _ _ (hz _ _ _ _ (hn _ _ _ rfl))))))
  have hb1 : W0.heap[s + 1]? = some (.cells #[.int .u64 now] 29 (0, 0)) := by rw [← hW0, ← hs]; exact hz _ _ _ _ (hz _ _ _ _ (hz _ _ _ _ (hz _ _ _ _ (hz _ _ _ _ (hn _ _ _ (by simp))))))
  have hb2 : W0.heap[s + 1 + 1]? = some (.cells #[.func (.func 33) #[] #[.pointer (some ⟨s, 0, none⟩), .pointer (some ⟨s + 1, 0, none⟩)]] 46 (0, 0)) := by rw [← hW0, ← hs]; exact hz _ _ _ _ (hz _ _ _ _ (hz _ _ _ _ (hz _ _ _ _ (hn _ _ _ (by simp)))))
  have hb3 : W0.heap[s + 1 + 1 + 1]? = some (.cells #[.int .i64 0] 3 (0, 0)) := by rw [← hW0, ← hs]; exact hz _ _ _ _ (hz _ _ _ _ (hz _ _ _ _ (hn _ _ _ (by simp))))
  have hb4 : W0.heap[s + 1 + 1 + 1 + 1]? = some (.cells #[.int .u64 0] 29 (0, 0)) := by rw [← hW0, ← hs]; exact hz _ _ _ _ (hz _ _ _ _ (hn _ _ _ (by simp)))
  have hb5 : W0.heap[s + 1 + 1 + 1 + 1 + 1]? = some (.cells #[.bool false] 4 (0, 0)) := by rw [← hW0, ← hs]; exact hz _ _ _ _ (hn _ _ _ (by simp))
  have hb6 : W0.cell? ⟨s + 1 + 1 + 1 + 1 + 1 + 1, 0, none⟩ = some (.slice (some ⟨b, off, none⟩) N cap) := by
    have : W0.heap[s + 1 + 1 + 1 + 1 + 1 + 1]? = some (.cells #[.slice (some ⟨b, off, none⟩) N cap] 22 (0, 0)) := by rw [← hW0, ← hs]; exact hn _ _ _ (by simp)
    simp only [World.cell?, this]; rfl
  rw [hW0]
  rw [hs]
  have hL0 := hL.below hBW
  have hblt : b < w.heap.size := hL.lt (by have := hR.1; omega)
  have hws : w.heap.size ≤ s := by rw [← hs]; exact hB1.size
  have hB1s : Below w.heap.size w1 W0 := hB0.mono hB1.size
  have hsq : SeqSteps Fence.wide 8 Try.prog 34 #[.pointer (some ⟨s + 1 + 1 + 1 + 1 + 1 + 1, 0, none⟩)] (enc L) (Same [b]) (cnd L).length W0 := by
    intro l J Jx W' hB hJ _ hY h0
    exact cands_in 8 (by decide) l _ b off cap N L hN (by have := hR.1; omega) J Jx _ hJ hY W' ((hB.cell (p := ⟨s + 1 + 1 + 1 + 1 + 1 + 1, 0, none⟩) (by show s + 1 + 1 + 1 + 1 + 1 + 1 < _; omega)).trans hb6) (hL0.below hB) h0
  have hst0 : curB L way now 0 = 0 := rfl
  have hsm0 : curM L way now 0 = 0 := rfl
  have hone := fun k (hk : k < (cnd L).length) => hR.one (ix_ok hk).1
  clear hz hn hW0 hs HWy HR hL hL0
  refine wpIn_rangeFunc_steps rfl (by decide) (gf := 34) (lb := #[.pointer (some ⟨s + 1 + 1 + 1 + 1 + 1 + 1, 0, none⟩)]) rfl trivial (enters_of Try.func34 (by kernel_rfl) rfl)
    hsq sameK_t (sameK_b (by simp; omega)) (Below.refl _ _) (fun k => by unfold enc; rfl)
    (ChI W0 (s + 1 + 1 + 1) L way now) (fun c k W => False) chI_own (fun c k W W' row hI hg hr => hI) ⟨Only.refl _ _, by rw [hst0]; exact hb3, by rw [hsm0]; exact hb4, by rw [hst0]; exact hb5⟩
    (ChA (fun k Bx => #[.slice (some ⟨b, off, none⟩) N cap, .int .i64 way, .int .u64 now, undef, undef, undef, .int .i64 0, .bool false, .int .i64 0, .pointer (some ⟨s + 1 + 1, 0, none⟩), .pointer (some ⟨s + 1 + 1 + 1, 0, none⟩), .pointer (some ⟨s + 1 + 1 + 1 + 1, 0, none⟩), .pointer (some ⟨s + 1 + 1 + 1 + 1 + 1, 0, none⟩), .int .i64 (ix L k : Nat), .pointer (some ⟨Bx, 0, none⟩), undef, .bool false, .slice (some ⟨b, off, none⟩) N cap, .bool true, .bool false, .bool false, .int .i64 way, .bool true, .bool false, .int .i64 way, .int .u64 now, .func (.func 33) #[] #[.pointer (some ⟨s, 0, none⟩), .pointer (some ⟨s + 1, 0, none⟩)], .slice (some ⟨b, off, none⟩) N cap, .func (.func 34) #[] #[.pointer (some ⟨s + 1 + 1 + 1 + 1 + 1 + 1, 0, none⟩)], .int .i64 (ix L k : Nat), (seg L (ix L k)).val, undef, undef, undef, undef, undef, undef, undef, undef, undef, undef, undef, undef, undef, undef]) W0 L) (fun k a' => chA_own k a') ?assign ?body ?done ?stop
  case assign =>
    intro l k W K hI hk hK
    have hz : W0.heap.size ≤ W.heap.size := hI.1.size
    have HK := Lib.hid (hK _ _ ((KeepsOthers.alloc W _).from _) (Same.below (below_new W _) (by intro x hx; simp at hx; omega)) (chI_own _ _ _ none hI (World.grownBy_alloc W _ _) (fun r e => by cases e)) ⟨W.heap.size, hz, At.new W (seg L (ix L k)), rfl⟩)
    unfold enc
    clear hK hI hsq
    unfold boxO S.val at HK
    unfold S.val
    dsimp only at HK
    generalize seg L (ix L k) = y at HK ⊢
    obtain ⟨lv, bg, st⟩ := y
    dsimp only at HK ⊢
    gi_wp2
    exact HK.out
  case body =>
    rintro l k a' W hl hrec ⟨hon, hT⟩ ⟨Bx, hBx, hX, rfl⟩ hk
    have hsz := hon.size
    have c0 : W.cell? ⟨s, 0, none⟩ = some (.int .i64 way) := by simp only [World.cell?, (hon.block s (by omega) (by omega)).trans hb0]; rfl
    have c1 : W.cell? ⟨s + 1, 0, none⟩ = some (.int .u64 now) := by simp only [World.cell?, (hon.block (s + 1) (by omega) (by omega)).trans hb1]; rfl
    have c2 : W.cell? ⟨s + 1 + 1, 0, none⟩ = some (.func (.func 33) #[] #[.pointer (some ⟨s, 0, none⟩), .pointer (some ⟨s + 1, 0, none⟩)]) := by simp only [World.cell?, (hon.block (s + 1 + 1) (by omega) (by omega)).trans hb2]; rfl
    have hW1 := worth1_any (seg L (ix L k)) way now s (s + 1) W (hone k hk) hw hnow c0 c1
    obtain ⟨x0, x1, x2⟩ := hX.c
    have hF : ∀ W2, Below W.heap.size W W2 → Three (s + 1 + 1 + 1) (curB L way now k) (curM L way now k) (decide (0 < curB L way now k)) W2 := fun W2 h =>
      ⟨(h.block _ (Array.getElem?_eq_some_iff.1 hT.c).1).trans hT.c, (h.block _ (Array.getElem?_eq_some_iff.1 hT.m).1).trans hT.m, (h.block _ (Array.getElem?_eq_some_iff.1 hT.f).1).trans hT.f⟩
    have hP : ∀ W2, Only (fun i => i = s + 1 + 1 + 1 ∨ i = s + 1 + 1 + 1 + 1 ∨ i = s + 1 + 1 + 1 + 1 + 1) W W2 → Three (s + 1 + 1 + 1) (curB L way now (k + 1)) (curM L way now (k + 1)) (decide (0 < curB L way now (k + 1))) W2 → KeepsFrom W0.heap.size W W2 ∧ Same [b] W W2 ∧ ChI W0 (s + 1 + 1 + 1) L way now (k + 1) W2 := fun W2 h1 h2 =>
      ⟨keeps_of_only _ h1 (by rintro j (rfl | rfl | rfl); exact ⟨_, _, _, hT.c⟩; exact ⟨_, _, _, hT.m⟩; exact ⟨_, _, _, hT.f⟩), fun x hx => h1.block x (by simp at hx; omega) (by simp at hx; omega), hon.step h1 (fun i _ hi => hi), h2⟩
    have hY := next_yes (way := way) (now := now) hk
    have hNo := next_no2 (way := way) (now := now) hk
    obtain ⟨c, hc⟩ : ∃ c, curB L way now k = c := ⟨_, rfl⟩
    obtain ⟨m, hm⟩ : ∃ m, curM L way now k = m := ⟨_, rfl⟩
    obtain ⟨i, hi⟩ : ∃ i, ix L k = i := ⟨_, rfl⟩
    obtain ⟨x, hx⟩ : ∃ x, worth way now (seg L i) = x := ⟨_, rfl⟩
    rw [hi] at hW1 x0 x1 x2 hY hNo
    rw [hx] at hW1 hY hNo
    rw [hc] at hF hY hNo
    rw [hm] at hF hY hNo
    dsimp only
    rw [hi]
    obtain ⟨y, hy⟩ : ∃ y, seg L i = y := ⟨_, rfl⟩
    rw [hy] at hW1 x0 x1 x2 ⊢
    have HW1 := Lib.hid hW1
    have HF := Lib.hid hF
    have HP := Lib.hid hP
    clear hW1 hF hP hT hX hsq hone hc hm hi hx hy hrec hb0 hb1 hb2 hb3 hb4 hb5 hb6 hon c0 c1
    obtain ⟨lv, bg, st⟩ := y
    unfold S.val at HW1 ⊢
    dsimp only at HW1 x0 x1 x2 ⊢
    by_cases hc0 : c = 0
    · obtain ⟨n1, n2, n3⟩ := hY (.inl hc0)
      rw [n1, n2, decide_eq_true n3] at HP
      rw [show decide (0 < c) = false from decide_eq_false (by omega)] at HF
      clear hY hNo n1 n2 n3 hc0
      gi_wp2_with (gi_at_call 33; refine (CallsIn.inRound l (callsIn_wide.2 HW1.out)).mono ?_; rintro e W2 ⟨rfl, hB2⟩; have hT2 := HF.out _ hB2; have q0 := hT2.k0; have q1 := hT2.k1; have q2 := hT2.k2; have g0 := hT2.g0; have g1 := hT2.g1; have g2 := hT2.g2; have r1 := hT2.r1 (.int .i64 (i : Nat)); have r2 := hT2.r2 (.int .i64 (i : Nat)) (.int .u64 (x : Nat)); have z1 := hT2.z1 (.int .i64 (i : Nat)); have z2 := hT2.z2 (.int .i64 (i : Nat)) (.int .u64 (x : Nat)); have HL2 := Lib.hid (hT2.lay i x true); clear hT2)
      exact HP.out _ (HL2.out.1 _ (Only.of_below hB2)) HL2.out.2
    · by_cases hlt : m < x
      · obtain ⟨n1, n2, n3⟩ := hY (.inr hlt)
        rw [n1, n2, decide_eq_true n3] at HP
        rw [show decide (0 < c) = true from decide_eq_true (by omega)] at HF
        have hlt2 : (m : Int) < x := by omega
        clear hY hNo n1 n2 n3 hc0 hlt
        gi_wp2_with (gi_at_call 33; refine (CallsIn.inRound l (callsIn_wide.2 HW1.out)).mono ?_; rintro e W2 ⟨rfl, hB2⟩; have hT2 := HF.out _ hB2; have q0 := hT2.k0; have q1 := hT2.k1; have q2 := hT2.k2; have g0 := hT2.g0; have g1 := hT2.g1; have g2 := hT2.g2; have r1 := hT2.r1 (.int .i64 (i : Nat)); have r2 := hT2.r2 (.int .i64 (i : Nat)) (.int .u64 (x : Nat)); have z1 := hT2.z1 (.int .i64 (i : Nat)); have z2 := hT2.z2 (.int .i64 (i : Nat)) (.int .u64 (x : Nat)); have HL2 := Lib.hid (hT2.lay i x true); clear hT2)
        exact HP.out _ (HL2.out.1 _ (Only.of_below hB2)) HL2.out.2
      · obtain ⟨n1, n2⟩ := hNo hc0 hlt
        rw [n1, n2] at HP
        have hlt2 : ¬ (m : Int) < x := by omega
        have hpos : 0 < c := by omega
        rw [show decide (0 < c) = true from decide_eq_true hpos] at HF HP
        clear hY hNo n1 n2 hc0 hlt hpos
        gi_wp2_with (gi_at_call 33; refine (CallsIn.inRound l (callsIn_wide.2 HW1.out)).mono ?_; rintro e W2 ⟨rfl, hB2⟩; have hT2 := HF.out _ hB2; have q0 := hT2.k0; have q1 := hT2.k1; have q2 := hT2.k2; have HT2 := Lib.hid hT2; clear hT2)
        exact HP.out _ (Only.of_below hB2) HT2.out
  case done =>
    rintro D W hD ⟨hon, hT⟩ hKD
    have hsz := hon.size
    rw [HFIN.out] at hT
    have q0 := hT.k0
    have q1 := hT.k1
    have q2 := hT.k2
    have HBW := Lib.hid (show ∀ W', Below w.heap.size W W' → Below w.heap.size w W' from fun W' h => (hBW.trans (hon.below (by omega) (by rintro j (rfl | rfl | rfl) <;> omega))).trans h)
    have HKD := Lib.hid hKD
    clear hT hon hsq hone hKD hb0 hb1 hb2 hb3 hb4 hb5 hb6 HFIN
    gi_wp2
    gi_region
    all_goals
      gi_wp2
      refine ⟨by simp, .inl ⟨_, _, rfl, run_takeDeferred HKD.out, ?_⟩⟩
      exact ⟨_, results_tmps rfl _ _, rfl, HBW.out _ (below_putObj (Below.refl _ W).drew D (by omega) _)⟩
  case stop =>
    rintro D c k W hD hk hf
    exact hf.elim
end
end Go.Proofs.Ytgadclbenbakfaa.Usage
