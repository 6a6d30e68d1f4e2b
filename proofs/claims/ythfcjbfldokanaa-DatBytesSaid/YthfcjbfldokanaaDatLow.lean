/- The lowest free place, and a table without free places at its end, of the program. -/
import Derived.Test.YthfcjbfldokanaaDatIter
namespace Go.Proofs.Ythfcjbfldokanaa.Dat
open Go.RowKit Go.Shelf
attribute [local go_sem] Oper.semAt_some
set_option linter.unusedVariables false

theorem wide_scope {n : Nat} {P : Program} {c : Code} {Q : Exit → Act → World → Prop} {a : Act} {w : World} (h : c.wpIn Fence.wide n P (Exit.noGoto Q) a w) : (Code.scope c).wpIn Fence.wide n P Q a w := wpIn_wide.2 (wp_scope_straight (wpIn_wide.1 h))
theorem wide_label {n l : Nat} {P : Program} {Q : Exit → Act → World → Prop} {a : Act} {w : World} (h : Q .normal a w) : (Code.label l).wpIn Fence.wide n P Q a w := wpIn_wide.2 (wp_label h)
theorem below_putObj {n : Nat} {w W : World} (h : Below n w W) (D : Nat) (hD : n ≤ D) (o : Obj) : Below n w (W.putObj D o) := ⟨h.1, h.2, h.3, by simpa [World.putObj] using h.4, fun k hk => (World.putObj_heap_other (by omega)).trans (h.5 k hk)⟩
theorem results_tmp1 {fn : Func} {r : Tmp} (h : fn.results = #[.tmp r]) (tmps : Array Value) (w : World) : (results fn tmps).run Try.prog w = .ok (tmps.getD r undef) w := by
  simp [results, h, go_sem]
/-- a number lies at block q -/
def IntAt (W : World) (q : Nat) (n : Nat) : Prop := W.heap[q]? = some (.cells #[.int .i64 n] 3 (0, 0))
theorem IntAt.c {W : World} {q n : Nat} (h : IntAt W q n) : W.cell? ⟨q, 0, none⟩ = some (.int .i64 n) := by unfold IntAt at h; simp only [World.cell?, h]; rfl
theorem IntAt.f {W : World} {q n : Nat} (h : IntAt W q n) : W.frozen? ⟨q, 0, none⟩ = false := by unfold IntAt at h; simp [World.frozen?, h]
theorem IntAt.put {W : World} {q n : Nat} (h : IntAt W q n) (m : Nat) : IntAt (W.setCell ⟨q, 0, none⟩ (.int .i64 m)) q m := by unfold IntAt at h ⊢; rw [heap_setCell_same W q 0 _ _ (.int .i64 m) h]; rfl
theorem IntAt.lt {W : World} {q n : Nat} (h : IntAt W q n) : q < W.heap.size := (Array.getElem?_eq_some_iff.1 h).1
theorem IntAt.new (w : World) (n : Nat) : IntAt (w.alloc (.cells #[.int .i64 n] 3)) w.heap.size n := World.alloc_heap_new w _
theorem IntAt.of_heap {W W' : World} {q n : Nat} (h : IntAt W q n) (hb : W'.heap[q]? = W.heap[q]?) : IntAt W' q n := hb.trans h
theorem IntAt.alloc {W : World} {q n : Nat} (h : IntAt W q n) (o : Obj) : IntAt (W.alloc o) q n := h.of_heap (Below.heap_alloc _ _ _ h.lt)
/-- what a loop that writes one number comes to -/
def OneI (W0 : World) (q : Nat) (P : Nat → Prop) (cur : Nat → Nat) (k : Nat) (W : World) : Prop := P k ∧ Only (fun i => i = q) W0 W ∧ IntAt W q (cur k)
theorem oneI_own {W0 : World} {q : Nat} {P : Nat → Prop} {cur : Nat → Nat} : OwnFrom W0.heap.size (OneI W0 q P cur) := fun k W W' row hI hg hr =>
  ⟨hI.1, hI.2.1.grown hg (fun r e => .inl (hr r e).1), kept_cells hI.2.2 hg hr⟩
def OneX (W0 : World) (q : Nat) (P E : Nat → Prop) (cur : Nat → Nat) (c : Code) (k : Nat) (W : World) : Prop := c = .exit 0 ∧ E k ∧ OneI W0 q P cur k W
theorem oneX_own {W0 : World} {q : Nat} {P E : Nat → Prop} {cur : Nat → Nat} (c : Code) : OwnFrom W0.heap.size (OneX W0 q P E cur c) := fun k W W' row hI hg hr => ⟨hI.1, hI.2.1, oneI_own k W W' row hI.2.2 hg hr⟩
def ActA (tmps : Nat → Array Value) (k : Nat) (a' : Act) (W : World) : Prop := a' = { tmps := tmps k, defers := [] }
theorem actA_own {tmps : Nat → Array Value} {B : Nat} (k : Nat) (a' : Act) : OwnFrom B (fun (_ : Unit) W => ActA tmps k a' W) := fun _ W W' row hI hg hr => hI
theorem below_one {w W0 W : World} {q : Nat} (h0 : Below w.heap.size w W0) (hq : w.heap.size ≤ q) (h : Only (fun i => i = q) W0 W) : Below w.heap.size w W :=
  h0.trans (h.below h0.size (by rintro j rfl; exact hq))

section
set_option maxRecDepth 100000
set_option maxHeartbeats 4000000
theorem lowest_in (b off cap N : Nat) (L : List T) (w : World) (hN : L.length = N) (hL : Trs w (.slice (some ⟨b, off, none⟩) N cap) L) (h0 : tr L 0 = T.zero) (h1 : 1 ≤ N) (h2 : N ≤ 1000000) :
    CallsIn Fence.wide 9 Try.prog 30 #[.slice (some ⟨b, off, none⟩) N cap] w (Ans w (.int .i64 (low L : Nat))) := by
  have hfn : ∀ f, Fence.wide.fn f := fun _ => trivial
  refine callsIn_of_wp_marks Try.func30 rfl trivial ?_ rfl
  simp only [Try.ntmps30, List.size_toArray, List.length_cons, List.length_nil, Nat.reduceAdd, Nat.reduceSub, Array.replicate_succ, Array.replicate_zero, List.push_toArray, List.append_toArray, List.nil_append, List.cons_append]
  gi_wp2
  apply wide_scope
  gi_wp2
  apply wide_label
  gi_wp2_with (gi_at_call 42; refine (used_in _ _ _ _ _).mono ?_; rintro e w4 ⟨rfl, rfl⟩)
  obtain ⟨s, hs⟩ : ∃ s, w.heap.size = s := ⟨_, rfl⟩
  obtain ⟨W0, hW0⟩ : ∃ W0, (w.alloc (.cells #[.int .i64 1] 3)).alloc (.cells #[.slice (some ⟨b, off, none⟩) N cap] 22) = W0 := ⟨_, rfl⟩
  have hs0 : W0.heap.size = s + 2 := by rw [← hW0, ← hs]; simp
  have hBW : Below w.heap.size w W0 := by rw [← hW0]; exact below_al (below_al (Below.refl _ _) _) _
  have hb0 : IntAt W0 s 1 := by rw [← hW0, ← hs]; exact (IntAt.new w 1).alloc _
  have hb6 : W0.cell? ⟨s + 1, 0, none⟩ = some (.slice (some ⟨b, off, none⟩) N cap) := by
    have : W0.heap[s + 1]? = some (.cells #[.slice (some ⟨b, off, none⟩) N cap] 22 (0, 0)) := by
      rw [← hW0, ← hs]
      have := World.alloc_heap_new (w.alloc (.cells #[.int .i64 1] 3)) (.cells #[.slice (some ⟨b, off, none⟩) N cap] 22)
      rwa [World.size_alloc] at this
    simp only [World.cell?, this]; rfl
  rw [hW0]
  rw [hs]
  have hL0 := hL.below hBW
  have hblt : b < w.heap.size := hL.lt (by omega)
  have hsq : SeqSteps Fence.wide 8 Try.prog 52 #[.pointer (some ⟨s + 1, 0, none⟩)] (enc L) (Same [b]) (cnd L).length W0 := by
    intro l J Jx W' hB hJ _ hY h0
    exact used1_in 8 (by decide) l _ b off cap N L hN (by omega) J Jx _ hJ hY W' ((hB.cell (p := ⟨s + 1, 0, none⟩) (by show s + 1 < _; omega)).trans hb6) (hL0.below hB) h0
  have hcl : (cnd L).length ≤ N := by have := cand_le L L.length; unfold cnd; omega
  have hlow := fun k (hk : k ≤ (cnd L).length) hp he => low_of (L := L) h0 (by omega) (k := k) hk hp he
  have hnx := fun k hk hp he => low_next (L := L) h0 (k := k) hk hp he
  have hixl := fun k (hk : k < (cnd L).length) => (ix_ok hk).1
  clear hW0 hL hL0 h0
  refine wpIn_rangeFunc_steps rfl (by decide) (gf := 52) (lb := #[.pointer (some ⟨s + 1, 0, none⟩)]) rfl trivial (enters_of Try.func52 (by kernel_rfl) rfl)
    hsq sameK_t (sameK_b (by simp; omega)) (Below.refl _ _) (fun k => by unfold enc; rfl)
    (OneI W0 s (fun k => ∀ j, j < k → ix L j = j + 1) (fun k => k + 1)) (OneX W0 s (fun k => ∀ j, j < k → ix L j = j + 1) (fun k => k + 1 < ix L k) (fun k => k + 1)) oneI_own oneX_own ⟨fun j hj => by omega, Only.refl _ _, hb0⟩
    (ActA (fun k => #[.slice (some ⟨b, off, none⟩) N cap, undef, .int .i64 0, .pointer (some ⟨s, 0, none⟩), .int .i64 (ix L k : Nat), .slice (some ⟨b, off, none⟩) N cap, .func (.func 52) #[] #[.pointer (some ⟨s + 1, 0, none⟩)], .int .i64 (ix L k : Nat), (tr L (ix L k)).val, undef, undef, undef, undef, undef, undef])) (fun k a' => actA_own k a') ?assign ?body ?done ?stop
  case assign =>
    intro l k W K hI hk hK
    have HK := Lib.hid (hK _ _ (KeepsFrom.refl _ _) (Same.refl _ _) hI rfl)
    unfold enc
    clear hK hI hsq
    dsimp only at HK
    unfold T.val at HK ⊢
    dsimp only at HK ⊢
    generalize tr L (ix L k) = y at HK ⊢
    obtain ⟨ph, st, fi⟩ := y
    dsimp only at HK ⊢
    gi_wp2
    exact HK.out
  case body =>
    rintro l k a' W hl hrec ⟨hp, hon, hA⟩ rfl hk
    have hsz := hon.size
    have c0 := hA.c
    have f0 := hA.f
    have hx1 := hnx k hk hp
    have hlt := hixl k hk
    by_cases hle : k + 1 < ix L k
    · have HI := Lib.hid (show OneX W0 s (fun k => ∀ j, j < k → ix L j = j + 1) (fun k => k + 1 < ix L k) (fun k => k + 1) (.exit 0) k W from ⟨rfl, hle, hp, hon, hA⟩)
      clear hp hon hA hsq hlow hnx hixl hrec hx1
      unfold T.val
      dsimp only
      generalize ix L k = i at hle hlt ⊢
      have hle2 : ((k : Int) + 1) < (i : Int) := by omega
      have hle3 : (((k + 1 : Nat) : Int)) < (i : Int) := by omega
      clear hle
      gi_wp2
      exact ⟨(KeepsOthers.refl W).from _, HI.out⟩
    · have hi := hx1 hle
      have HI : Hid (OneI W0 s (fun k => ∀ j, j < k → ix L j = j + 1) (fun k => k + 1) (k + 1) (W.setCell ⟨s, 0, none⟩ (.int .i64 ((k + 1 + 1 : Nat) : Int)))) :=
        ⟨fun j hj => by rcases Nat.lt_succ_iff_lt_or_eq.1 hj with h | h; exact hp j h; rw [h]; exact hi, hon.setCell (p := ⟨s, 0, none⟩) (.inr rfl) _, hA.put _⟩
      have HK : Hid (KeepsFrom W0.heap.size W (W.setCell ⟨s, 0, none⟩ (.int .i64 ((k + 1 + 1 : Nat) : Int))) ∧ Same [b] W (W.setCell ⟨s, 0, none⟩ (.int .i64 ((k + 1 + 1 : Nat) : Int)))) :=
        ⟨keeps_of_only _ ((Only.refl (fun i => i = s) W).setCell (p := ⟨s, 0, none⟩) (.inr rfl) _) (by rintro j rfl; exact ⟨_, _, _, hA⟩), fun x hx => by simp at hx; subst hx; exact Below.heap_setCell _ _ _ _ (by show x ≠ s; omega)⟩
      rw [hs0] at HK
      clear hp hon hA hsq hlow hnx hixl hrec hx1
      unfold T.val
      dsimp only
      rw [hi]
      have hle2 : ¬ ((k : Int) + 1) < ((k + 1 : Nat) : Int) := by omega
      have hw1 : IntKind.i64.wrap (((k + 1 : Nat) : Int) + 1) = ((k + 1 + 1 : Nat) : Int) := by rw [IntKind.wrap_i64]; omega
      clear hle hi hlt
      gi_wp2
      exact ⟨HK.out.1, HK.out.2, HI.out⟩
  case done =>
    rintro D W hD ⟨hp, hon, hA⟩ hKD
    have hsz := hon.size
    have c0 := hA.c
    have HV := Lib.hid (hlow _ (Nat.le_refl _) hp (fun h => absurd h (Nat.lt_irrefl _)))
    have HBW := Lib.hid (show ∀ W', Below w.heap.size W W' → Below w.heap.size w W' from fun W' h => (below_one hBW (by omega) hon).trans h)
    have HKD := Lib.hid hKD
    clear hp hon hA hsq hlow hnx hixl hKD hb0 hb6
    generalize (cnd L).length = m at *
    gi_wp2
    refine ⟨by simp, .inl ⟨_, _, rfl, run_takeDeferred HKD.out, ?_⟩⟩
    exact ⟨_, results_tmp1 rfl _ _, by rw [← HV.out]; rfl, HBW.out _ (below_putObj (Below.refl _ W) D (by omega) _)⟩
  case stop =>
    rintro D c k W hD hk ⟨rfl, hle, hp, hon, hA⟩ hKD
    have hsz := hon.size
    have c0 := hA.c
    have HV := Lib.hid (hlow k (by omega) hp (fun _ => hle))
    have HBW := Lib.hid (show ∀ W', Below w.heap.size W W' → Below w.heap.size w W' from fun W' h => (below_one hBW (by omega) hon).trans h)
    have HKD := Lib.hid hKD
    clear hp hon hA hsq hlow hnx hixl hKD hb0 hb6 hle
    gi_wp2
    refine ⟨by simp, .inl ⟨_, _, rfl, run_takeDeferred HKD.out, ?_⟩⟩
    exact ⟨_, results_tmp1 rfl _ _, by rw [← HV.out]; rfl, HBW.out _ (below_putObj (Below.refl _ W) D (by omega) _)⟩
theorem lowest_any (v : Value) (L : List T) (w : World) (hL : Trs w v L) (h : RightP L) : Calls Try.prog 30 #[v] w (Ans w (.int .i64 (low L : Nat))) := by
  obtain ⟨b, off, cap, rfl, _⟩ := hL.at (k := 0) (by have := h.1; omega)
  exact callsIn_wide.1 (lowest_in b off cap L.length L w rfl hL h.2.1 h.1.1 (by have := h.1; omega))
end
end Go.Proofs.Ythfcjbfldokanaa.Dat
