/- Newest of the program. -/
import Derived.Test.YtmknjnmbdnlkpaaSupIter
namespace Go.Proofs.Ytmknjnmbdnlkpaa.Super
open Go.RowKit Go.Shelf
attribute [local go_sem] Oper.semAt_some
set_option linter.unusedVariables false

section
set_option maxRecDepth 100000
theorem supers_in (n : Nat) (one two : ByteArray) (nb : Int) (w : World) :
    CallsIn Fence.wide n Try.prog 28 #[.string one, .string two, .int .i64 nb] w fun e w' => e = .returned (.func (.func 32) #[] #[.pointer (some ⟨w.heap.size, 0, none⟩), .pointer (some ⟨w.heap.size + 1, 0, none⟩), .pointer (some ⟨w.heap.size + 1 + 1, 0, none⟩)]) ∧ ((w.alloc (.cells #[.string one] 9)).alloc (.cells #[.string two] 9)).alloc (.cells #[.int .i64 nb] 3) = w' := by
  refine callsIn_of_wp Try.func28 rfl trivial ?_ rfl
  simp only [Try.ntmps28, List.size_toArray, List.length_cons, List.length_nil, Nat.reduceAdd, Nat.reduceSub, Array.replicate_succ, Array.replicate_zero, List.push_toArray, List.append_toArray, List.nil_append, List.cons_append]
  gi_wp2
  go_ret
  exact ⟨rfl, rfl⟩

/-- what the rounds have found: the newest so far, and which one it is -/
def NewI (W0 : World) (p : Nat) (cur nx : Nat → S × Int) (k : Nat) (W : World) : Prop := (∀ j, j < k → ¬ (nx j).1.seq ≤ (cur j).1.seq) ∧ Only (fun i => i = p ∨ i = p + 1) W0 W ∧ At W p (cur k).1 ∧ W.heap[p + 1]? = some (.cells #[.int .i64 (cur k).2] 3 (0, 0))
theorem newI_own {W0 : World} {p : Nat} {cur nx : Nat → S × Int} : OwnFrom W0.heap.size (NewI W0 p cur nx) := fun k W W' row hI hg hr =>
  ⟨hI.1, hI.2.1.grown hg (fun r e => .inl (hr r e).1), kept_cells hI.2.2.1 hg hr, kept_cells hI.2.2.2 hg hr⟩
def NewIx (W0 : World) (p : Nat) (cur nx : Nat → S × Int) (c : Code) (k : Nat) (W : World) : Prop := c = .exit 0 ∧ (nx k).1.seq ≤ (cur k).1.seq ∧ NewI W0 p cur nx k W
theorem newIx_own {W0 : World} {p : Nat} {cur nx : Nat → S × Int} (c : Code) : OwnFrom W0.heap.size (NewIx W0 p cur nx c) := fun k W W' row hI hg hr => ⟨hI.1, hI.2.1, newI_own k W W' row hI.2.2 hg hr⟩
def NewA (one two : ByteArray) (nb : Int) (W0 : World) (s : Nat) (nx : Nat → S × Int) (k : Nat) (a' : Act) (W : World) : Prop :=
  ∃ Bx, W0.heap.size ≤ Bx ∧ At W Bx (nx k).1 ∧ a' = { tmps := #[.string one, .string two, .int .i64 nb, undef, undef, undef, .pointer (some ⟨s, 0, none⟩), .int .i64 0, .int .i64 0, .pointer (some ⟨s + 1, 0, none⟩), .pointer (some ⟨s + 1 + 1, 0, none⟩), .pointer (some ⟨s + 1 + 1 + 1, 0, none⟩), .int .i64 (nx k).2, .pointer (some ⟨Bx, 0, none⟩), .agg #[.int .i64 0, .int .u64 0, .int .i64 0, .int .u64 0], .agg #[.int .i64 0, .int .u64 0, .int .i64 0, .int .u64 0], .string one, .string two, .int .i64 nb, .func (.func 32) #[] #[.pointer (some ⟨s + 1 + 1 + 1 + 1, 0, none⟩), .pointer (some ⟨s + 1 + 1 + 1 + 1 + 1, 0, none⟩), .pointer (some ⟨s + 1 + 1 + 1 + 1 + 1 + 1, 0, none⟩)], .int .i64 (nx k).2, (nx k).1.val, undef, undef, undef, undef, undef, undef, undef, undef, undef, undef, undef, undef, undef], defers := [] }
theorem newA_own {one two : ByteArray} {nb : Int} {W0 : World} {s B : Nat} {nx : Nat → S × Int} (k : Nat) (a' : Act) : OwnFrom B (fun (_ : Unit) W => NewA one two nb W0 s nx k a' W) := fun _ W W' row hI hg hr => by
  obtain ⟨Bx, h1, h2, h3⟩ := hI
  exact ⟨Bx, h1, kept_cells h2 hg hr, h3⟩
theorem put4_other (W : World) (b : Nat) (u0 u1 u2 u3 : Value) (j : Nat) (hj : j ≠ b) : ((((W.setCell ⟨b, 0, none⟩ u0).setCell ⟨b, 1, none⟩ u1).setCell ⟨b, 2, none⟩ u2).setCell ⟨b, 3, none⟩ u3).heap[j]? = W.heap[j]? :=
  (Below.heap_setCell _ _ _ _ hj).trans ((Below.heap_setCell _ _ _ _ hj).trans ((Below.heap_setCell _ _ _ _ hj).trans (Below.heap_setCell _ _ _ _ hj)))
theorem below_putObj {n : Nat} {w W : World} (h : Below n w W) (D : Nat) (hD : n ≤ D) (o : Obj) : Below n w (W.putObj D o) := ⟨h.1, h.2, h.3, by simpa [World.putObj] using h.4, fun k hk => (World.putObj_heap_other (by omega)).trans (h.5 k hk)⟩
/-- how it ends -/
def NewFin (Z : S × Int × Int) (c : S × Int) : Prop := (c = (S.none, 0) ∧ Z = (S.none, 0, 50)) ∨ (1 ≤ c.1.seq ∧ Z = (c.1, c.2, 0))

set_option maxHeartbeats 4000000 in
theorem newest_in (one two : ByteArray) (nb : Int) (w : World) (Z : S × Int × Int) (N : Nat) (encs : Nat → Array Value) (cur nx : Nat → S × Int)
    (hst : ∀ W : World, ∀ a b c : Nat, W.cell? ⟨a, 0, none⟩ = some (.string one) → W.cell? ⟨b, 0, none⟩ = some (.string two) → W.cell? ⟨c, 0, none⟩ = some (.int .i64 nb) → SeqSteps Fence.wide 8 Try.prog 32 #[.pointer (some ⟨a, 0, none⟩), .pointer (some ⟨b, 0, none⟩), .pointer (some ⟨c, 0, none⟩)] encs (Same [c]) N W)
    (henc : ∀ k, encs k = #[.int .i64 (nx k).2, (nx k).1.val]) (hcur0 : cur 0 = (S.none, 0))
    (hnext : ∀ k, k < N → ¬ (nx k).1.seq ≤ (cur k).1.seq → cur (k + 1) = nx k)
    (hstop : ∀ k, k < N → (nx k).1.seq ≤ (cur k).1.seq → NewFin Z (cur k)) (hdone : (∀ j, j < N → ¬ (nx j).1.seq ≤ (cur j).1.seq) → NewFin Z (cur N)) :
    CallsIn Fence.wide 9 Try.prog 15 #[.string one, .string two, .int .i64 nb] w (NewPost w Z) := by
  have hfn : ∀ f, Fence.wide.fn f := fun _ => trivial
  refine callsIn_of_wp_marks Try.func15 rfl trivial ?_ rfl
  simp only [Try.ntmps15, List.size_toArray, List.length_cons, List.length_nil, Nat.reduceAdd, Nat.reduceSub, Array.replicate_succ, Array.replicate_zero, List.push_toArray, List.append_toArray, List.nil_append, List.cons_append]
  gi_wp2
  apply wide_scope
  gi_wp2
  apply wide_label
  gi_wp2_with (gi_at_call 28; refine (supers_in _ _ _ _ _).mono ?_; rintro e w' ⟨rfl, rfl⟩)
  obtain ⟨W0, hW0⟩ : ∃ W0, ((((((w.alloc (.cells #[.int .i64 0, .int .u64 0, .int .i64 0, .int .u64 0] 24)).alloc (.cells #[.int .i64 0, .int .u64 0, .int .i64 0, .int .u64 0] 24)).alloc (.cells #[.int .i64 0, .int .u64 0, .int .i64 0, .int .u64 0] 24)).alloc (.cells #[.int .i64 0] 3)).alloc (.cells #[.string one] 9)).alloc (.cells #[.string two] 9)).alloc (.cells #[.int .i64 nb] 3) = W0 := ⟨_, rfl⟩
  have hs0 : W0.heap.size = w.heap.size + 7 := by rw [← hW0]; simp
  have hBW : Below w.heap.size w W0 := by
    rw [← hW0]
    exact below_al2 (below_al2 (below_al2 (below_al2 (below_al2 (below_al2 (below_al2 (Below.refl _ _) _) _) _) _) _) _) _
  have hz : ∀ (W : World) (o : Obj) (k : Nat) (x : Obj), W.heap[k]? = some x → (W.alloc o).heap[k]? = some x := fun W o k x h => (Below.heap_alloc _ _ _ (Array.getElem?_eq_some_iff.1 h).1).trans h
  have hn : ∀ (W : World) (o : Obj) (n : Nat), W.heap.size = n → (W.alloc o).heap[n]? = some o := fun W o n h => h ▸ World.alloc_heap_new W o
  have hb0 : At W0 w.heap.size S.none := by rw [← hW0]; exact hz _ _ _ _ (hz _ _ _ _ (hz _ _ _ _ (hz _ _ _ _ (hz _ _ _ _ (hz _ _ _ _ (hn _ _ _ rfl))))))
  have hb1 : At W0 (w.heap.size + 1) S.none := by rw [← hW0]; exact hz _ _ _ _ (hz _ _ _ _ (hz _ _ _ _ (hz _ _ _ _ (hz _ _ _ _ (hn _ _ _ (by simp))))))
  have hb2 : At W0 (w.heap.size + 1 + 1) S.none := by rw [← hW0]; exact hz _ _ _ _ (hz _ _ _ _ (hz _ _ _ _ (hz _ _ _ _ (hn _ _ _ (by simp)))))
  have hb3 : W0.heap[w.heap.size + 1 + 1 + 1]? = some (.cells #[.int .i64 0] 3 (0, 0)) := by rw [← hW0]; exact hz _ _ _ _ (hz _ _ _ _ (hz _ _ _ _ (hn _ _ _ (by simp))))
  have hb4 : W0.cell? ⟨w.heap.size + 1 + 1 + 1 + 1, 0, none⟩ = some (.string one) := by
    have : W0.heap[w.heap.size + 1 + 1 + 1 + 1]? = some (.cells #[.string one] 9 (0, 0)) := by rw [← hW0]; exact hz _ _ _ _ (hz _ _ _ _ (hn _ _ _ (by simp)))
    simp only [World.cell?, this]; rfl
  have hb5 : W0.cell? ⟨w.heap.size + 1 + 1 + 1 + 1 + 1, 0, none⟩ = some (.string two) := by
    have : W0.heap[w.heap.size + 1 + 1 + 1 + 1 + 1]? = some (.cells #[.string two] 9 (0, 0)) := by rw [← hW0]; exact hz _ _ _ _ (hn _ _ _ (by simp))
    simp only [World.cell?, this]; rfl
  have hb6 : W0.cell? ⟨w.heap.size + 1 + 1 + 1 + 1 + 1 + 1, 0, none⟩ = some (.int .i64 nb) := by
    have : W0.heap[w.heap.size + 1 + 1 + 1 + 1 + 1 + 1]? = some (.cells #[.int .i64 nb] 3 (0, 0)) := by rw [← hW0]; exact hn _ _ _ (by simp)
    simp only [World.cell?, this]; rfl
  have hsq := hst W0 _ _ _ hb4 hb5 hb6
  clear hst hz hn
  rw [hW0]
  refine wpIn_rangeFunc_steps rfl (by decide) (gf := 32) (lb := #[.pointer (some ⟨w.heap.size + 1 + 1 + 1 + 1, 0, none⟩), .pointer (some ⟨w.heap.size + 1 + 1 + 1 + 1 + 1, 0, none⟩), .pointer (some ⟨w.heap.size + 1 + 1 + 1 + 1 + 1 + 1, 0, none⟩)]) rfl trivial (enters_of Try.func32 (by kernel_rfl) rfl)
    hsq sameK_t (sameK_b (by simp; omega)) (Below.refl _ _) (fun k => by rw [henc]; rfl)
    (NewI W0 (w.heap.size + 1 + 1) cur nx) (NewIx W0 (w.heap.size + 1 + 1) cur nx) newI_own newIx_own ⟨by omega, Only.refl _ _, by rw [hcur0]; exact hb2, by rw [hcur0]; exact hb3⟩
    (NewA one two nb W0 w.heap.size nx) (fun k a' => newA_own k a') ?assign ?body ?done ?stop
  case assign =>
    intro l k W K hI hk hK
    rw [henc]
    have hz : W0.heap.size ≤ W.heap.size := hI.2.1.size
    have HK := Lib.hid (hK _ _ ((KeepsOthers.alloc W _).from _) (Same.alloc W _ (by intro b hb; simp at hb; omega)) (newI_own _ _ _ none hI (World.grownBy_alloc W _ _) (fun r e => by cases e)) ⟨W.heap.size, hz, At.new W (nx k).1, rfl⟩)
    clear hK hI hsq henc hnext hstop hdone
    unfold boxO S.val at HK
    unfold S.val
    generalize nx k = y at HK ⊢
    obtain ⟨⟨b1, q1, a1, p1⟩, ix⟩ := y
    dsimp only at HK ⊢
    gi_wp2
    exact HK.out
  case body =>
    rintro l k a' W hl hrec ⟨hno, hon, hA, hq⟩ ⟨Bx, hBx, hX, rfl⟩ hk
    have hnx := hnext k hk
    have hsz := hon.size
    have f0 := hA.f 0
    have f1 := hA.f 1
    have f2 := hA.f 2
    have f3 := hA.f 3
    have fq : W.frozen? ⟨w.heap.size + 1 + 1 + 1, 0, none⟩ = false := by simp [World.frozen?, hq]
    have cq : W.cell? ⟨w.heap.size + 1 + 1 + 1, 0, none⟩ = some (.int .i64 (cur k).2) := by simp only [World.cell?, hq]; rfl
    obtain ⟨x0, x1, x2, x3⟩ := hX.c
    obtain ⟨y0, y1, y2, y3⟩ := hA.c
    by_cases hle : (nx k).1.seq ≤ (cur k).1.seq
    · have hle2 : ((nx k).1.seq : Int) ≤ ((cur k).1.seq : Int) := by omega
      have HI := Lib.hid (show NewIx W0 (w.heap.size + 1 + 1) cur nx (.exit 0) k W from ⟨rfl, hle, hno, hon, hA, hq⟩)
      clear hno hon hA hq hX hsq henc hnext hstop hdone hnx hle hrec
      unfold S.val
      gi_wp2
      exact ⟨(KeepsOthers.refl W).from _, HI.out⟩
    · have hle2 : ¬ ((nx k).1.seq : Int) ≤ ((cur k).1.seq : Int) := by omega
      have hc := hnx hle
      have hno' : ∀ j, j < k + 1 → ¬ (nx j).1.seq ≤ (cur j).1.seq := fun j hj => by
        by_cases h : j < k
        · exact hno j h
        · have e : j = k := by omega
          rw [e]
          exact hle
      obtain ⟨k0, k1, k2, k3, hAp, hBp⟩ := hA.put4 (nx k).1
      have ho : ∀ u, Only (fun i => i = w.heap.size + 1 + 1 ∨ i = w.heap.size + 1 + 1 + 1) W (((((W.setCell ⟨w.heap.size + 1 + 1, 0, none⟩ (.int .i64 (nx k).1.blocks)).setCell ⟨w.heap.size + 1 + 1, 1, none⟩ (.int .u64 (nx k).1.seq)).setCell ⟨w.heap.size + 1 + 1, 2, none⟩ (.int .i64 (nx k).1.at_)).setCell ⟨w.heap.size + 1 + 1, 3, none⟩ (.int .u64 (nx k).1.cp)).setCell ⟨w.heap.size + 1 + 1 + 1, 0, none⟩ u) := fun u =>
        (((((Only.refl _ W).setCell (p := ⟨w.heap.size + 1 + 1, 0, none⟩) (.inr (.inl rfl)) _).setCell (p := ⟨w.heap.size + 1 + 1, 1, none⟩) (.inr (.inl rfl)) _).setCell (p := ⟨w.heap.size + 1 + 1, 2, none⟩) (.inr (.inl rfl)) _).setCell (p := ⟨w.heap.size + 1 + 1, 3, none⟩) (.inr (.inl rfl)) _).setCell (p := ⟨w.heap.size + 1 + 1 + 1, 0, none⟩) (.inr (.inr rfl)) _
      have HO := Lib.hid (ho (.int .i64 (nx k).2))
      have hI' : ∀ W', Only (fun i => i = w.heap.size + 1 + 1 ∨ i = w.heap.size + 1 + 1 + 1) W W' → At W' (w.heap.size + 1 + 1) (nx k).1 → W'.heap[w.heap.size + 1 + 1 + 1]? = some (.cells #[.int .i64 (nx k).2] 3 (0, 0)) → KeepsFrom W0.heap.size W W' ∧ Same [w.heap.size + 1 + 1 + 1 + 1 + 1 + 1] W W' ∧ NewI W0 (w.heap.size + 1 + 1) cur nx (k + 1) W' := fun W' h1 h2 h3 =>
        ⟨keeps_of_only _ h1 (by rintro j (rfl | rfl); exact ⟨_, _, _, hA⟩; exact ⟨_, _, _, hq⟩), fun b hb => h1.block b (by simp at hb; omega) (by simp at hb; omega), hno', hon.step h1 (fun i _ hi => hi), by rw [hc]; exact h2, by rw [hc]; exact h3⟩
      rw [hs0] at hI'
      have HI := Lib.hid hI'
      have HAp := Lib.hid hAp
      have hqq : ∀ W' : World, W'.heap[w.heap.size + 1 + 1 + 1]? = some (.cells #[.int .i64 (cur k).2] 3 (0, 0)) → (W'.setCell ⟨w.heap.size + 1 + 1 + 1, 0, none⟩ (.int .i64 (nx k).2)).heap[w.heap.size + 1 + 1 + 1]? = some (.cells #[.int .i64 (nx k).2] 3 (0, 0)) := fun W' h => by rw [heap_setCell_same _ _ _ _ _ _ h]; rfl
      have hoth : ∀ (V : World) (i j : Nat) (u : Value), j ≠ w.heap.size + 1 + 1 → (V.setCell ⟨w.heap.size + 1 + 1, i, none⟩ u).heap[j]? = V.heap[j]? := fun V i j u h => Below.heap_setCell _ _ _ _ h
      have HQ := Lib.hid (hqq _ ((hoth _ 3 _ (.int .u64 (nx k).1.cp) (by omega)).trans ((hoth _ 2 _ (.int .i64 (nx k).1.at_) (by omega)).trans ((hoth _ 1 _ (.int .u64 (nx k).1.seq) (by omega)).trans ((hoth W 0 _ (.int .i64 (nx k).1.blocks) (by omega)).trans hq)))))
      clear hno hon hA hq hX hsq henc hnext hstop hdone hnx hle hrec hAp hI' ho hqq hoth hBp hc hno'
      unfold S.val
      gi_wp2
      exact HI.out _ HO.out ((HAp.out).of_heap (Below.heap_setCell _ _ _ _ (by show w.heap.size + 1 + 1 ≠ w.heap.size + 1 + 1 + 1; omega))) HQ.out
  case done =>
    rintro D W hD ⟨hno, hon, hA, hq⟩ hKD
    have hsz := hon.size
    have hA0 : At W w.heap.size S.none := hb0.of_heap (hon.block w.heap.size (by omega) (by omega))
    have hA1 : At W (w.heap.size + 1) S.none := hb1.of_heap (hon.block (w.heap.size + 1) (by omega) (by omega))
    have f0 := hA0.f 0
    have f1 := hA0.f 1
    have f2 := hA0.f 2
    have f3 := hA0.f 3
    obtain ⟨x0, x1, x2, x3⟩ := hA0.c
    obtain ⟨y0, y1, y2, y3⟩ := hA1.c
    have cq : W.cell? ⟨w.heap.size + 1 + 1 + 1, 0, none⟩ = some (.int .i64 (cur N).2) := by simp only [World.cell?, hq]; rfl
    have hBw : ∀ W', Below w.heap.size W W' → Below w.heap.size w W' := fun W' h => (hBW.trans (hon.below (by omega) (by rintro j (rfl | rfl) <;> omega))).trans h
    have HBW := Lib.hid hBw
    have hF := hdone hno
    clear hstop hdone
    rcases hF with ⟨hc, rfl⟩ | ⟨h1, rfl⟩
    · rw [hc] at hA cq
      obtain ⟨u0, u1, u2, u3⟩ := hA.c
      obtain ⟨k0, k1, k2, k3, hAp, hBp⟩ := hA0.put4 S.none
      dsimp only [S.none] at x0 x1 x2 x3 y0 y1 y2 y3 u0 u1 u2 u3 k0 k1 k2 k3 cq hBp
      have HKD := Lib.hid hKD
      have HAp := Lib.hid hAp
      clear hno hon hA hq hsq henc hnext hA0 hA1 hBw hKD hAp hb0 hb1 hb2 hb3
      have hset : ∀ j, j ≠ w.heap.size → ((((W.setCell ⟨w.heap.size, 0, none⟩ (.int .i64 0)).setCell ⟨w.heap.size, 1, none⟩ (.int .u64 0)).setCell ⟨w.heap.size, 2, none⟩ (.int .i64 0)).setCell ⟨w.heap.size, 3, none⟩ (.int .u64 0)).heap[j]? = W.heap[j]? := fun j hj => put4_other _ _ _ _ _ _ _ hj
      have HSET := Lib.hid hset
      clear hset
      gi_wp2
      refine ⟨by simp, .inl ⟨_, _, rfl, run_takeDeferred ((HSET.out D (by omega)).trans HKD.out), ?_⟩⟩
      exact ⟨_, results_three rfl _ _ rfl (HAp.out.of_heap (World.putObj_heap_other (by omega))), new_end rfl (HBW.out _ (below_putObj hBp D (by omega) _))⟩
    · have hq0 : (((cur N).1.seq : Int) == 0) = false := by simp; omega
      obtain ⟨u0, u1, u2, u3⟩ := hA.c
      obtain ⟨k0, k1, k2, k3, hAp, hBp⟩ := hA0.put4 (cur N).1
      dsimp only [S.none] at x0 x1 x2 x3 y0 y1 y2 y3
      have HKD := Lib.hid hKD
      have HAp := Lib.hid hAp
      have hset := put4_other W w.heap.size (.int .i64 (cur N).1.blocks) (.int .u64 (cur N).1.seq) (.int .i64 (cur N).1.at_) (.int .u64 (cur N).1.cp)
      have HSET := Lib.hid hset
      clear hset hno hon hA hq hsq henc hnext hA0 hA1 hBw hKD hAp hb0 hb1 hb2 hb3
      gi_wp2
      gi_region
      all_goals
        gi_wp2
        refine ⟨by simp, .inl ⟨_, _, rfl, run_takeDeferred ((HSET.out D (by omega)).trans HKD.out), ?_⟩⟩
        exact ⟨_, results_three rfl _ _ rfl (HAp.out.of_heap (World.putObj_heap_other (by omega))), new_end rfl (HBW.out _ (below_putObj hBp.drew D (by omega) _))⟩
  case stop =>
    rintro D c k W hD hk ⟨rfl, hle, hno, hon, hA, hq⟩ hKD
    have hsz := hon.size
    have hA0 : At W w.heap.size S.none := hb0.of_heap (hon.block w.heap.size (by omega) (by omega))
    have hA1 : At W (w.heap.size + 1) S.none := hb1.of_heap (hon.block (w.heap.size + 1) (by omega) (by omega))
    have f0 := hA0.f 0
    have f1 := hA0.f 1
    have f2 := hA0.f 2
    have f3 := hA0.f 3
    obtain ⟨x0, x1, x2, x3⟩ := hA0.c
    obtain ⟨y0, y1, y2, y3⟩ := hA1.c
    have cq : W.cell? ⟨w.heap.size + 1 + 1 + 1, 0, none⟩ = some (.int .i64 (cur k).2) := by simp only [World.cell?, hq]; rfl
    have hBw : ∀ W', Below w.heap.size W W' → Below w.heap.size w W' := fun W' h => (hBW.trans (hon.below (by omega) (by rintro j (rfl | rfl) <;> omega))).trans h
    have HBW := Lib.hid hBw
    have hF := hstop k hk hle
    clear hstop hdone
    rcases hF with ⟨hc, rfl⟩ | ⟨h1, rfl⟩
    · rw [hc] at hA cq
      obtain ⟨u0, u1, u2, u3⟩ := hA.c
      obtain ⟨k0, k1, k2, k3, hAp, hBp⟩ := hA0.put4 S.none
      dsimp only [S.none] at x0 x1 x2 x3 y0 y1 y2 y3 u0 u1 u2 u3 k0 k1 k2 k3 cq hBp
      have HKD := Lib.hid hKD
      have HAp := Lib.hid hAp
      clear hno hon hA hq hsq henc hnext hA0 hA1 hBw hKD hAp hb0 hb1 hb2 hb3
      have hset : ∀ j, j ≠ w.heap.size → ((((W.setCell ⟨w.heap.size, 0, none⟩ (.int .i64 0)).setCell ⟨w.heap.size, 1, none⟩ (.int .u64 0)).setCell ⟨w.heap.size, 2, none⟩ (.int .i64 0)).setCell ⟨w.heap.size, 3, none⟩ (.int .u64 0)).heap[j]? = W.heap[j]? := fun j hj => put4_other _ _ _ _ _ _ _ hj
      have HSET := Lib.hid hset
      clear hset
      gi_wp2
      refine ⟨by simp, .inl ⟨_, _, rfl, run_takeDeferred ((HSET.out D (by omega)).trans HKD.out), ?_⟩⟩
      exact ⟨_, results_three rfl _ _ rfl (HAp.out.of_heap (World.putObj_heap_other (by omega))), new_end rfl (HBW.out _ (below_putObj hBp D (by omega) _))⟩
    · have hq0 : (((cur k).1.seq : Int) == 0) = false := by simp; omega
      obtain ⟨u0, u1, u2, u3⟩ := hA.c
      obtain ⟨k0, k1, k2, k3, hAp, hBp⟩ := hA0.put4 (cur k).1
      dsimp only [S.none] at x0 x1 x2 x3 y0 y1 y2 y3
      have HKD := Lib.hid hKD
      have HAp := Lib.hid hAp
      have hset := put4_other W w.heap.size (.int .i64 (cur k).1.blocks) (.int .u64 (cur k).1.seq) (.int .i64 (cur k).1.at_) (.int .u64 (cur k).1.cp)
      have HSET := Lib.hid hset
      clear hset hno hon hA hq hsq henc hnext hA0 hA1 hBw hKD hAp hb0 hb1 hb2 hb3
      gi_wp2
      gi_region
      all_goals
        gi_wp2
        refine ⟨by simp, .inl ⟨_, _, rfl, run_takeDeferred ((HSET.out D (by omega)).trans HKD.out), ?_⟩⟩
        exact ⟨_, results_three rfl _ _ rfl (HAp.out.of_heap (World.putObj_heap_other (by omega))), new_end rfl (HBW.out _ (below_putObj hBp.drew D (by omega) _))⟩

/-- what the iterator hands out -/
def firsts (b : ByteArray) (i : Nat) (n : Int) : List (Nat × S) := if first b n then [(i, decS b)] else []
def blkL (one two : ByteArray) (n : Int) : List (Nat × S) := firsts one 0 n ++ firsts two 1 n
def blkN (L : List (Nat × S)) (k : Nat) : S × Int := ((L.getD k (0, S.none)).2, ((L.getD k (0, S.none)).1 : Int))
def blkC (L : List (Nat × S)) : Nat → S × Int
  | 0 => (S.none, 0)
  | k + 1 => blkN L k
def blkE (L : List (Nat × S)) (k : Nat) : Array Value := #[.int .i64 (blkN L k).2, (blkN L k).1.val]

theorem seq_pos {b : ByteArray} {n : Int} (h : first b n) : 1 ≤ (decS b).seq := h.1.2.1.2.2.2.1.1

theorem newest_any (one two : ByteArray) (n : Int) (w : World) (h1 : one.size ≤ 281474976710656) (h2 : two.size ≤ 281474976710656) :
    Calls Try.prog 15 #[.string one, .string two, .int .i64 n] w (NewPost w (New one two n)) := by
  refine callsIn_wide.1 (newest_in one two n w (New one two n) (blkL one two n).length (blkE (blkL one two n)) (blkC (blkL one two n)) (blkN (blkL one two n)) ?_ (fun _ => rfl) rfl (fun _ _ _ => rfl) ?_ ?_)
  · intro W a b c ha hb hc l J Jx W' hB hJ _ hY h0
    have ha' := (hB.cell (p := ⟨a, 0, none⟩) (World.block_lt_of_cell? _ _ ha)).trans ha
    have hb' := (hB.cell (p := ⟨b, 0, none⟩) (World.block_lt_of_cell? _ _ hb)).trans hb
    have hc' := (hB.cell (p := ⟨c, 0, none⟩) (World.block_lt_of_cell? _ _ hc)).trans hc
    refine blocks1_in 8 (by decide) l a b c one two n (decV one) (decV two) (decE one) (decE two) _ _ (blkE (blkL one two n)) (blkL one two n).length (firsts one 0 n).length J Jx _ hJ (fun W => decode_any one W h1) (fun W => decode_any two W h2) (held_of one n) (held_of two n) ?_ ?_ hY W' ha' hb' hc' h0
    · refine ⟨fun h => ?_, fun h => ?_⟩
      · have h := of_decide_eq_false h
        simp [firsts, h]
      · have h := of_decide_eq_true h
        rw [decV_yes h.1]
        simp [firsts, blkL, blkE, blkN, h]
    · refine ⟨fun h => ?_, fun h => ?_⟩
      · have h := of_decide_eq_false h
        simp [firsts, blkL, h]
      · have h := of_decide_eq_true h
        rw [decV_yes h.1]
        by_cases k : first one n <;> simp [firsts, blkL, blkE, blkN, h, k]
  · intro k hk hle
    by_cases f1 : first one n
    · have p1 := seq_pos f1
      by_cases f2 : first two n
      · have hL : blkL one two n = [(0, decS one), (1, decS two)] := by simp [blkL, firsts, f1, f2]
        rw [hL] at hk hle ⊢
        match k, hk, hle with
        | 0, _, hle =>
          simp [blkC, blkN, S.none] at hle
          omega
        | 1, _, hle =>
          simp [blkC, blkN] at hle
          rw [new_one f1 (.inr hle)]
          exact .inr ⟨by simpa [blkC, blkN] using p1, by simp [blkC, blkN]⟩
      · have hL : blkL one two n = [(0, decS one)] := by simp [blkL, firsts, f1, f2]
        rw [hL] at hk hle ⊢
        obtain rfl : k = 0 := by simpa using hk
        simp [blkC, blkN, S.none] at hle
        omega
    · by_cases f2 : first two n
      · have p2 := seq_pos f2
        have hL : blkL one two n = [(1, decS two)] := by simp [blkL, firsts, f1, f2]
        rw [hL] at hk hle ⊢
        obtain rfl : k = 0 := by simpa using hk
        simp [blkC, blkN, S.none] at hle
        omega
      · have hL : blkL one two n = [] := by simp [blkL, firsts, f1, f2]
        rw [hL] at hk
        simp at hk
  · intro hno
    by_cases f1 : first one n
    · have p1 := seq_pos f1
      by_cases f2 : first two n
      · have p2 := seq_pos f2
        have hL : blkL one two n = [(0, decS one), (1, decS two)] := by simp [blkL, firsts, f1, f2]
        rw [hL] at hno ⊢
        have h := hno 1 (by simp)
        simp [blkC, blkN] at h
        rw [new_two (.inr h) f2]
        exact .inr ⟨by simpa [blkC, blkN] using p2, by simp [blkC, blkN]⟩
      · have hL : blkL one two n = [(0, decS one)] := by simp [blkL, firsts, f1, f2]
        rw [hL, new_one f1 (.inl f2)]
        exact .inr ⟨by simpa [blkC, blkN] using p1, by simp [blkC, blkN]⟩
    · by_cases f2 : first two n
      · have p2 := seq_pos f2
        have hL : blkL one two n = [(1, decS two)] := by simp [blkL, firsts, f1, f2]
        rw [hL, new_two (.inl f1) f2]
        exact .inr ⟨by simpa [blkC, blkN] using p2, by simp [blkC, blkN]⟩
      · have hL : blkL one two n = [] := by simp [blkL, firsts, f1, f2]
        rw [hL, new_none f1 f2]
        exact .inl ⟨rfl, rfl⟩
end
end Go.Proofs.Ytmknjnmbdnlkpaa.Super
