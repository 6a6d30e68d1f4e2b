/- Several texts in one, each under its own heading. -/
import Derived.Test.YtkipkcmcolomcaaGreatPk21
import Derived.Scope
import Derived.Test.YtkipkcmcolomcaaGreatPk20
/- Right of the program: whether files are. -/
namespace Go.Proofs.YtkipkcmcolomcaaGreat.Pln
open Go.RowKit
open Pth (CellAt wide_scope wide_label below_putObj)
attribute [local go_sem] Oper.semAt_some
set_option linter.unusedVariables false
set_option linter.unusedSimpArgs false
theorem noGoto_ret {Q : Exit → Act → World → Prop} {a : Act} {w : World} (h : Q .ret a w) : Exit.noGoto Q .ret a w := h
/-- what is seen ahead of the count -/
def lowP (l : List Nd) : Prop := 3 ≤ l.length ∧ l.length ≤ 240 ∧ nd l 0 = Nd.zero ∧ nd l 1 = Nd.zero ∧ (nd l 2).kind = 2 ∧ nodeP (nd l 2)
theorem right_low {l : List Nd} (h : RightL l) : lowP l := by
  obtain ⟨D, hD⟩ := h
  refine ⟨hD.low, hD.high, hD.z0, hD.z1, hD.root.1, ?_⟩
  obtain ⟨o1, o2, o3, o4, o5⟩ := fit_set (hD.one 2 (by have := hD.low; omega)) hD.root_big
  exact ⟨o1, o2, o3, o4, .inr (.inl hD.root)⟩
instance (l : List Nd) (M : Nat → Nat) (k : Nat) : Decidable (∀ j, j < k → nd l (3 + j) = Nd.zero ∨ (nodeP (nd l (3 + j)) ∧ M (3 + j) = (nd l (3 + j)).links)) := Nat.decidableBallLT _ _
/-- all is well as far as the k-th place of new files -/
def rbAt (l : List Nd) (M : Nat → Nat) (r0 : Bool) (k : Nat) : Bool := r0 && decide (∀ j, j < k → nd l (3 + j) = Nd.zero ∨ (nodeP (nd l (3 + j)) ∧ M (3 + j) = (nd l (3 + j)).links))
theorem rb_zero (l : List Nd) (M : Nat → Nat) (r0 : Bool) : rbAt l M r0 0 = r0 := by
  unfold rbAt
  rw [decide_eq_true (fun j hj => absurd hj (Nat.not_lt_zero _)), Bool.and_true]
theorem rb_succ (l : List Nd) (M : Nat → Nat) (r0 : Bool) (k : Nat) : rbAt l M r0 (k + 1) = (rbAt l M r0 k && decide (nd l (3 + k) = Nd.zero ∨ (nodeP (nd l (3 + k)) ∧ M (3 + k) = (nd l (3 + k)).links))) := by
  unfold rbAt
  rw [Bool.and_assoc]
  congr 1
  rw [← Bool.decide_and]
  apply decide_eq_decide.2
  constructor
  · intro h; exact ⟨fun j hj => h j (by omega), h k (by omega)⟩
  · rintro ⟨h1, h2⟩ j hj
    rcases Nat.lt_succ_iff_lt_or_eq.1 hj with h3 | h3
    · exact h1 j h3
    · rw [h3]; exact h2
theorem rb_all {l : List Nd} {M : Nat → Nat} (h3 : 3 ≤ l.length) : rbAt l M true (l.length - 3) = true ↔ allP l M := by
  unfold rbAt
  rw [Bool.true_and, decide_eq_true_iff]
  constructor
  · intro h i hi1 hi2
    have := h (i - 3) (by omega)
    rw [show 3 + (i - 3) = i by omega] at this
    exact this
  · intro h j hj
    exact h (3 + j) (by omega) (by omega)
theorem rb_mono {l : List Nd} {M : Nat → Nat} {r0 : Bool} {k m : Nat} (hkm : k ≤ m) (h : rbAt l M r0 k = false) : rbAt l M r0 m = false := by
  induction m with
  | zero => rw [show k = 0 by omega] at h; exact h
  | succ m ih =>
    by_cases hk : k ≤ m
    · rw [rb_succ, ih hk, Bool.false_and]
    · rw [show k = m + 1 by omega] at h; exact h
/-- what the count left: the counts and whether it went through -/
structure Cnted (l : List Nd) (W : World) (v : Value) (M : Nat → Nat) (r0 : Bool) : Prop where
  yes : r0 = true → ∃ b n, v = .map (some b) ∧ MapM W b n M ∧ ∃ dn, CntI l M dn [] [] []
  no : r0 = false → ¬ RightL l
theorem Cnted.tell {l : List Nd} {W : World} {v : Value} {M : Nat → Nat} {r0 : Bool} (h : Cnted l W v M r0) (hl : lowP l) : decide (RightL l) = rbAt l M r0 (l.length - 3) := by
  obtain ⟨h3, h240, z0, z1, hk, hr⟩ := hl
  cases r0 with
  | false =>
    rw [decide_eq_false (h.no rfl)]
    unfold rbAt
    rw [Bool.false_and]
  | true =>
    obtain ⟨b, n, _, _, dn, hC⟩ := h.yes rfl
    by_cases ha : allP l M
    · rw [(rb_all h3).2 ha, decide_eq_true ⟨_, right_of h3 h240 z0 z1 hk hr hC ha⟩]
    · rw [Bool.eq_false_iff.2 fun e => ha ((rb_all h3).1 e), decide_eq_false fun hR => ha (right_to hR hC)]
theorem ctd_cnted {l : List Nd} {w : World} {e : Ending} {w' : World} (h : CtdPost l w e w') : ∃ v M r0, e = .returned (.tuple #[v, .bool r0]) ∧ Cnted l w' v M r0 ∧ Below w.heap.size w w' ∧ (∃ o, v = .map o) := by
  rcases h with ⟨b, n, M, dn, rfl, _, h2, h3, h4⟩ | ⟨rfl, h1, h2⟩
  · exact ⟨_, M, true, rfl, ⟨fun _ => ⟨b, n, rfl, h2, dn, h3⟩, fun e => by cases e⟩, h4, ⟨_, rfl⟩⟩
  · exact ⟨_, fun _ => 0, false, rfl, ⟨fun e => (by cases e), fun _ => h1⟩, h2, ⟨_, rfl⟩⟩
section
set_option maxRecDepth 100000
set_option maxHeartbeats 8000000
/-- what is wrong ahead of the count -/
theorem right_no (v : Value) (l : List Nd) (w : World) (h : Nodes w v l) (hn : ¬ lowP l) : Calls Tryz.prog 18 #[v] w (Ans w (.bool false)) := by
  obtain ⟨a, cap, rfl, hc1, hc2⟩ := h.parts
  obtain ⟨N, hN⟩ : ∃ N, l.length = N := ⟨_, rfl⟩
  rw [hN] at h hc1 ⊢
  by_cases h3 : 3 ≤ N
  · by_cases h240 : N ≤ 240
    · obtain ⟨b, off, cap2, e, _⟩ := h.at (k := 0) (by omega)
      rw [hN] at e
      cases e
      obtain ⟨p0, p1, p2, p3, p4⟩ := h.get hN (k := 0) (by omega)
      obtain ⟨q0, q1, q2, q3, q4⟩ := h.get hN (k := 1) (by omega)
      obtain ⟨r0, r1, r2, r3, r4⟩ := h.get hN (k := 2) (by omega)
      have HBL := Lib.hid (fun W (hB : Below w.heap.size w W) => And.intro ((h.below hB).get hN (k := 1) (by omega)) ((h.below hB).get hN (k := 2) (by omega)))
      have hI0 := fun W => isNone_any (nd l 0) W
      have hI1 := fun W => isNone_any (nd l 1) W
      have hI2 := fun W => isRoot_any (nd l 2) W
      have hlow : lowP l = (3 ≤ l.length ∧ l.length ≤ 240 ∧ nd l 0 = Nd.zero ∧ nd l 1 = Nd.zero ∧ (nd l 2).kind = 2 ∧ nodeP (nd l 2)) := rfl
      rw [hlow, hN] at hn
      have hn2 : nd l 0 = Nd.zero → nd l 1 = Nd.zero → ¬ ((nd l 2).kind = 2 ∧ nodeP (nd l 2)) := fun e0 e1 e2 => hn ⟨h3, h240, e0, e1, e2⟩
      clear hn hlow
      generalize nd l 0 = x0 at *
      generalize nd l 1 = x1 at *
      generalize nd l 2 = x2 at *
      have g3 : ¬ ((N : Int) < 3) := by omega
      have g4 : ¬ ((N : Int) > 240) := by omega
      simp only [Nat.zero_mul, Nat.one_mul, Nat.add_zero] at p0 p1 p2 p3 p4 q0 q1 q2 q3 q4 r0 r1 r2 r3 r4 HBL
      by_cases e0 : x0 = Nd.zero
      · rw [decide_eq_true e0] at hI0
        by_cases e1 : x1 = Nd.zero
        · rw [decide_eq_true e1] at hI1
          rw [decide_eq_false (hn2 e0 e1)] at hI2
          clear hn2 h hN e0 e1
          obtain ⟨x00, x01, x02, x03, x04⟩ := x0
          obtain ⟨x10, x11, x12, x13, x14⟩ := x1
          obtain ⟨x20, x21, x22, x23, x24⟩ := x2
          unfold Nd.val at hI0 hI1 hI2
          dsimp only at hI0 hI1 hI2 p0 p1 p2 p3 p4 q0 q1 q2 q3 q4 r0 r1 r2 r3 r4 HBL
          have HI0 := Lib.hid hI0
          have HI1 := Lib.hid hI1
          have HI2 := Lib.hid hI2
          clear hI0 hI1 hI2 q0 q1 q2 q3 q4 r0 r1 r2 r3 r4
          go_enter Tryz.func18, Tryz.ntmps18
          go_wp2
          apply wp_scope_straight
          go_wp2_with (first
            | (go_at_call 37; (with_reducible refine Calls.mono (HI0.out _) ?_); rintro e w1 ⟨rfl, hB1⟩; obtain ⟨⟨q0, q1, q2, q3, q4⟩, _⟩ := HBL.out _ hB1)
            | (go_at_call 37; (with_reducible refine Calls.mono (HI1.out _) ?_); rintro e w2 ⟨rfl, hB2⟩; have hB12 := Lib.hid (below_th hB1 hB2); obtain ⟨_, ⟨r0, r1, r2, r3, r4⟩⟩ := HBL.out _ hB12.out)
            | (go_at_call 38; (with_reducible refine Calls.mono (HI2.out _) ?_); rintro e w3 ⟨rfl, hB3⟩))
          refine noGoto_ret ?_
          go_ret
          exact ⟨rfl, below_th hB12.out hB3⟩
        · rw [decide_eq_false e1] at hI1
          clear hn2 h hN e0 e1
          obtain ⟨x00, x01, x02, x03, x04⟩ := x0
          obtain ⟨x10, x11, x12, x13, x14⟩ := x1
          obtain ⟨x20, x21, x22, x23, x24⟩ := x2
          unfold Nd.val at hI0 hI1 hI2
          dsimp only at hI0 hI1 hI2 p0 p1 p2 p3 p4 q0 q1 q2 q3 q4 r0 r1 r2 r3 r4 HBL
          have HI0 := Lib.hid hI0
          have HI1 := Lib.hid hI1
          have HI2 := Lib.hid hI2
          clear hI0 hI1 hI2 q0 q1 q2 q3 q4 r0 r1 r2 r3 r4
          go_enter Tryz.func18, Tryz.ntmps18
          go_wp2
          apply wp_scope_straight
          go_wp2_with (first
            | (go_at_call 37; (with_reducible refine Calls.mono (HI0.out _) ?_); rintro e w1 ⟨rfl, hB1⟩; obtain ⟨⟨q0, q1, q2, q3, q4⟩, _⟩ := HBL.out _ hB1)
            | (go_at_call 37; (with_reducible refine Calls.mono (HI1.out _) ?_); rintro e w2 ⟨rfl, hB2⟩; have hB12 := Lib.hid (below_th hB1 hB2); obtain ⟨_, ⟨r0, r1, r2, r3, r4⟩⟩ := HBL.out _ hB12.out))
          refine noGoto_ret ?_
          go_ret
          exact ⟨rfl, hB12.out⟩
      · rw [decide_eq_false e0] at hI0
        clear hn2 h hN e0
        obtain ⟨x00, x01, x02, x03, x04⟩ := x0
        obtain ⟨x10, x11, x12, x13, x14⟩ := x1
        obtain ⟨x20, x21, x22, x23, x24⟩ := x2
        unfold Nd.val at hI0 hI1 hI2
        dsimp only at hI0 hI1 hI2 p0 p1 p2 p3 p4 q0 q1 q2 q3 q4 r0 r1 r2 r3 r4 HBL
        have HI0 := Lib.hid hI0
        have HI1 := Lib.hid hI1
        have HI2 := Lib.hid hI2
        clear hI0 hI1 hI2 q0 q1 q2 q3 q4 r0 r1 r2 r3 r4
        go_enter Tryz.func18, Tryz.ntmps18
        go_wp2
        apply wp_scope_straight
        go_wp2_with (first
            | (go_at_call 37; (with_reducible refine Calls.mono (HI0.out _) ?_); rintro e w1 ⟨rfl, hB1⟩; obtain ⟨⟨q0, q1, q2, q3, q4⟩, _⟩ := HBL.out _ hB1))
        refine noGoto_ret ?_
        go_ret
        exact ⟨rfl, hB1⟩
    · have g3 : ¬ ((N : Int) < 3) := by omega
      have g4 : ((N : Int) > 240) := by omega
      clear hn h hN
      go_enter Tryz.func18, Tryz.ntmps18
      go_wp2
      apply wp_scope_straight
      go_wp2
      refine noGoto_ret ?_
      go_ret
      exact ⟨rfl, Below.refl _ _⟩
  · have g3 : ((N : Int) < 3) := by omega
    clear hn h hN
    go_enter Tryz.func18, Tryz.ntmps18
    go_wp2
    apply wp_scope_straight
    go_wp2
    refine noGoto_ret ?_
    go_ret
    exact ⟨rfl, Below.refl _ _⟩
/-- between two places -/
structure RgtI (l : List Nd) (M : Nat → Nat) (r0 : Bool) (q : Nat) (W0 : World) (k : Nat) (W : World) : Prop where
  only : Only (fun i => i = q) W0 W
  at_ : CellAt W q 4 (.bool (rbAt l M r0 k))
structure RgtX (l : List Nd) (M : Nat → Nat) (r0 : Bool) (q : Nat) (W0 : World) (c : Code) (k : Nat) (W : World) : Prop where
  code : c = .exit 0
  bad : rbAt l M r0 k = false
  only : Only (fun i => i = q) W0 W
  at_ : CellAt W q 4 (.bool false)
theorem rgtI_own {l : List Nd} {M : Nat → Nat} {r0 : Bool} {q : Nat} {W0 : World} : OwnFrom W0.heap.size (RgtI l M r0 q W0) := fun k W W' row h hg hr =>
  ⟨h.only.grown hg (fun r e => .inl (hr r e).1), kept_cells h.at_ hg hr⟩
theorem rgtX_own {l : List Nd} {M : Nat → Nat} {r0 : Bool} {q : Nat} {W0 : World} (c : Code) : OwnFrom W0.heap.size (RgtX l M r0 q W0 c) := fun k W W' row h hg hr =>
  ⟨h.code, h.bad, h.only.grown hg (fun r e => .inl (hr r e).1), kept_cells h.at_ hg hr⟩
theorem right_in (b off cap N : Nat) (l : List Nd) (w : World) (hN : l.length = N) (hlow : lowP l) (h : Nodes w (.slice (some ⟨b, off, none⟩) N cap) l) (hsz : ∀ i, (nd l i).kind = 2 → (nd l i).data.size ≤ 281474976710656) :
    CallsIn Fence.wide 9 Tryz.prog 18 #[.slice (some ⟨b, off, none⟩) N cap] w (Ans w (.bool (decide (RightL l)))) := by
  have hfn : ∀ f, Fence.wide.fn f := fun _ => trivial
  obtain ⟨h3, h240, hz0, hz1, hk2, hn2⟩ := hlow
  have hlow : lowP l := ⟨h3, h240, hz0, hz1, hk2, hn2⟩
  rw [hN] at h3 h240
  have HC := Lib.hid (fun W (hB : Below w.heap.size w W) => counted_any _ l W (h.below hB) hk2 (by omega) hsz)
  have HCN := Lib.hid (fun W e w' (k : CtdPost l W e w') => ctd_cnted k)
  have HNB := Lib.hid (fun W (hB : Below w.heap.size w W) => h.below hB)
  obtain ⟨p0, p1, p2, p3, p4⟩ := h.get hN (k := 0) (by omega)
  have HBL := Lib.hid (fun W (hB : Below w.heap.size w W) => And.intro ((h.below hB).get hN (k := 1) (by omega)) ((h.below hB).get hN (k := 2) (by omega)))
  have hI0 := fun W => isNone_any (nd l 0) W
  have hI1 := fun W => isNone_any (nd l 1) W
  have hI2 := fun W => isRoot_any (nd l 2) W
  rw [decide_eq_true hz0] at hI0
  rw [decide_eq_true hz1] at hI1
  rw [decide_eq_true ⟨hk2, hn2⟩] at hI2
  have HLOW := Lib.hid hlow
  have hblt : b < w.heap.size := h.lt (by omega)
  obtain ⟨x0, hx0⟩ : ∃ x, nd l 0 = x := ⟨_, rfl⟩
  obtain ⟨x1, hx1⟩ : ∃ x, nd l 1 = x := ⟨_, rfl⟩
  obtain ⟨x2, hx2⟩ : ∃ x, nd l 2 = x := ⟨_, rfl⟩
  rw [hx0] at p0 p1 p2 p3 p4 hI0
  rw [hx1] at HBL hI1
  rw [hx2] at HBL hI2
  have g3 : ¬ ((N : Int) < 3) := by omega
  have q3 : decide ((N : Int) < 3) = false := decide_eq_false g3
  have q4 : decide ((N : Int) > 240) = false := decide_eq_false (by omega)
  have g4 : ¬ ((N : Int) > 240) := by omega
  simp only [Nat.zero_mul, Nat.one_mul, Nat.add_zero] at p0 p1 p2 p3 p4 HBL
  clear hx0 hx1 hx2 hz0 hz1 hk2 hn2 hlow hsz h
  obtain ⟨x00, x01, x02, x03, x04⟩ := x0
  obtain ⟨x10, x11, x12, x13, x14⟩ := x1
  obtain ⟨x20, x21, x22, x23, x24⟩ := x2
  unfold Nd.val at hI0 hI1 hI2
  dsimp only at hI0 hI1 hI2 p0 p1 p2 p3 p4 HBL
  have HI0 := Lib.hid hI0
  have HI1 := Lib.hid hI1
  have HI2 := Lib.hid hI2
  clear hI0 hI1 hI2
  refine callsIn_of_wp_marks Tryz.func18 rfl trivial ?_ rfl
  simp only [Tryz.ntmps18, List.size_toArray, List.length_cons, List.length_nil, Nat.reduceAdd, Nat.reduceSub, Array.replicate_succ, Array.replicate_zero, List.push_toArray, List.append_toArray, List.nil_append, List.cons_append]
  gi_wp2
  apply wide_scope
  gi_wp2_with (first
    | (gi_at_call 37; refine (callsIn_wide.2 (HI0.out _)).mono ?_; rintro e w1 ⟨rfl, hB1⟩; obtain ⟨⟨q0, q1, q2, q3, q4⟩, _⟩ := HBL.out _ hB1)
    | (gi_at_call 37; refine (callsIn_wide.2 (HI1.out _)).mono ?_; rintro e w2 ⟨rfl, hB2⟩; have hB12 := Lib.hid (below_th hB1 hB2); obtain ⟨_, ⟨r0, r1, r2, r3, r4⟩⟩ := HBL.out _ hB12.out)
    | (gi_at_call 38; refine (callsIn_wide.2 (HI2.out _)).mono ?_; rintro e w3 ⟨rfl, hB3⟩; have hB13 := Lib.hid (below_th hB12.out hB3))
    | (gi_at_call 39; refine (callsIn_wide.2 (HC.out _ hB13.out)).mono ?_; rintro e w4 hP; obtain ⟨_, M, rb0, rfl, hcn, hB4, mo, rfl⟩ := HCN.out _ _ _ hP; have HCT := Lib.hid hcn; have hB14 := Lib.hid (below_th hB13.out hB4); clear hP hcn))
  apply wide_label
  gi_wp2_with (gi_at_call 40; refine (nodesOf_in _ _ _ _ (HNB.out _ (below_al (below_al hB14.out _) _))).mono ?_; rintro e w' ⟨rfl, rfl⟩)
  obtain ⟨W0, hW0⟩ : ∃ W0, ((w4.alloc (.cells #[.map mo] 70)).alloc (.cells #[.bool rb0] 4)).alloc (.cells #[.slice (some ⟨b, off, none⟩) N cap] 25) = W0 := ⟨_, rfl⟩
  obtain ⟨s, hs⟩ : ∃ s, w4.heap.size = s := ⟨_, rfl⟩
  have hs0 : W0.heap.size = s + 3 := by rw [← hW0, ← hs]; simp
  have hB40 : Below w4.heap.size w4 W0 := by rw [← hW0]; exact below_al (below_al (below_new _ _) _) _
  have hBW : Below w.heap.size w W0 := below_th hB14.out hB40
  have hL0 := HNB.out _ hBW
  have hmc : CellAt W0 s 70 (.map mo) := by
    rw [← hW0, ← hs]
    exact ((CellAt.th (World.alloc_heap_new w4 _) (below_new _ _)).th (below_new _ _))
  have hq0 : CellAt W0 (s + 1) 4 (.bool rb0) := by
    have h1 := World.alloc_heap_new (w4.alloc (.cells #[.map mo] 70)) (.cells #[.bool rb0] 4)
    rw [World.size_alloc, hs] at h1
    rw [← hW0]
    exact CellAt.th h1 (below_new _ _)
  have hbx : W0.cell? ⟨s + 1 + 1, 0, none⟩ = some (.slice (some ⟨b, off, none⟩) N cap) := by
    have h1 := World.alloc_heap_new ((w4.alloc (.cells #[.map mo] 70)).alloc (.cells #[.bool rb0] 4)) (.cells #[.slice (some ⟨b, off, none⟩) N cap] 25)
    rw [hW0, World.size_alloc, World.size_alloc, hs] at h1
    simp only [World.cell?, h1]
    rfl
  have hbs : b < s := by rw [← hs]; have := hB14.out.size; omega
  have hws : w.heap.size ≤ s := by rw [← hs]; exact hB14.out.size
  have hst := nodes_steps (s + 1 + 1) b off cap N l hN h3 h240 W0 hbx (by omega) hL0
  have hCT : Cnted l W0 (.map mo) M rb0 := by
    refine ⟨fun e => ?_, HCT.out.no⟩
    obtain ⟨mb, mn, e2, hm, hd⟩ := HCT.out.yes e
    exact ⟨mb, mn, e2, hm.th hB40, hd⟩
  have HTELL := Lib.hid (hCT.tell HLOW.out)
  have HQ0 := Lib.hid hq0
  have hI00 : RgtI l M rb0 (s + 1) W0 0 W0 := ⟨Only.refl _ _, by rw [rb_zero]; exact hq0⟩
  obtain ⟨R, hR⟩ : ∃ R, decide (RightL l) = R := ⟨_, rfl⟩
  rw [hR] at HTELL
  rw [hN] at HTELL
  have HRD := Lib.hid hR
  rw [hW0, hs]
  clear hW0 hs hB4 hB1 hB2 hB3 HCT hR hbx hq0 HC HCN HNB HBL HI0 HI1 HI2 HLOW hB12 hB13 hB14 hB40
  refine wpIn_rangeFunc_steps rfl (by decide) (gf := 75) (lb := #[.pointer (some ⟨s + 1 + 1, 0, none⟩)]) rfl trivial (enters_of Tryz.func75 (by kernel_rfl) rfl)
    hst sameK_t (sameK_b (by simp; omega)) (Below.refl _ _) (fun _ => rfl)
    (RgtI l M rb0 (s + 1) W0) (RgtX l M rb0 (s + 1) W0) rgtI_own rgtX_own hI00
    (NdA l W0 (fun k Bx => #[.slice (some ⟨b, off, none⟩) N cap, undef, .bool false, .pointer (some ⟨s, 0, none⟩), .pointer (some ⟨s + 1, 0, none⟩), .int .u32 ((3 + k : Nat) : Int), .pointer (some ⟨Bx, 0, none⟩), .slice (some ⟨b, off, none⟩) N cap, .int .i64 (N : Int), .bool false, .bool false, .slice (some ⟨b, off, none⟩) N cap, .int .i64 (N : Int), .bool false, .bool false, .bool false, .slice (some ⟨b, off, none⟩) N cap, .pointer (some ⟨b, off, none⟩), .agg #[.int .i64 x00, .int .u16 (x01 : Int), .int .u16 (x02 : Int), .int .u64 (x03 : Int), .string x04], .bool true, .bool false, .bool false, .bool false, .slice (some ⟨b, off, none⟩) N cap, .pointer (some ⟨b, off + 5, none⟩), .agg #[.int .i64 x10, .int .u16 (x11 : Int), .int .u16 (x12 : Int), .int .u64 (x13 : Int), .string x14], .bool true, .bool false, .bool false, .bool false, .slice (some ⟨b, off, none⟩) N cap, .pointer (some ⟨b, off + 10, none⟩), .agg #[.int .i64 x20, .int .u16 (x21 : Int), .int .u16 (x22 : Int), .int .u64 (x23 : Int), .string x24], .bool true, .bool false, .bool false, .tuple #[.map mo, .bool rb0], .slice (some ⟨b, off, none⟩) N cap, .tuple #[.map mo, .bool rb0], .map mo, .bool rb0, .slice (some ⟨b, off, none⟩) N cap, .func (.func 75) #[] #[.pointer (some ⟨s + 1 + 1, 0, none⟩)], .int .u32 ((3 + k : Nat) : Int), (nd l (3 + k)).val, undef, undef, undef, undef, undef, undef, undef, undef, undef, undef, undef, undef, undef, undef, undef, undef, undef, undef])) (fun k a' => ndA_own k a') ?assign ?body ?done ?stop
  case assign =>
    intro l9 k W K hI hk hK
    have hz : W0.heap.size ≤ W.heap.size := hI.only.size
    have HK := Lib.hid (hK _ _ ((KeepsOthers.alloc W _).from _) (Same.below (below_new W _) (by intro x hx; simp at hx; omega)) (rgtI_own _ _ _ none hI (World.grownBy_alloc W _ _) (fun r e => by cases e)) ⟨W.heap.size, hz, At.new W (nd l (3 + k)), rfl⟩)
    unfold encN
    clear hK hI hst
    unfold boxO Nd.val at HK
    unfold Nd.val
    dsimp only at HK
    generalize nd l (3 + k) = y at HK ⊢
    obtain ⟨y0, y1, y2, y3, y4⟩ := y
    dsimp only at HK ⊢
    gi_wp2
    exact HK.out
  case body =>
    rintro l9 k a' W hl hrec hI ⟨Bx, hBx, hX, rfl⟩ hk
    have hsz := hI.only.size
    obtain ⟨x0, x1, x2, x3, x4⟩ := hX.c
    have hIN := fun W => isNone_any (nd l (3 + k)) W
    have hNN := fun W => isNode_any (nd l (3 + k)) W
    have hsucc := rb_succ l M rb0 k
    have HF := Lib.hid (fun W2 (h : Below W.heap.size W W2) => show (W2.cell? ⟨s + 1, 0, none⟩ = some (.bool (rbAt l M rb0 k)) ∧ W2.frozen? ⟨s + 1, 0, none⟩ = false) ∧ W2.cell? ⟨s, 0, none⟩ = some (.map mo) ∧ At W2 Bx (nd l (3 + k)) from
      ⟨⟨(hI.at_.th h).c, (hI.at_.th h).f⟩, ((CellAt.of_heap hmc (hI.only.block s (by omega) (by omega))).th h).c, hX.th h⟩)
    have HX1 := Lib.hid (fun W2 (h : Below W.heap.size W W2) (e : rbAt l M rb0 (k + 1) = rbAt l M rb0 k) => show KeepsFrom W0.heap.size W W2 ∧ Same [b, s + 1 + 1] W W2 ∧ RgtI l M rb0 (s + 1) W0 (k + 1) W2 from
      ⟨keeps_of_only (S := fun i => i = s + 1) _ (Only.of_below h) (by rintro j rfl; exact ⟨_, _, _, hI.at_⟩), Same.below h (by intro x hx; simp at hx; omega), hI.only.step (Only.of_below (S := fun i => i = s + 1) h) (fun i _ hi => hi), by rw [e]; exact hI.at_.th h⟩)
    have HX2 := Lib.hid (fun W2 (h : Below W.heap.size W W2) (v : Bool) (e : rbAt l M rb0 (k + 1) = v) => show KeepsFrom W0.heap.size W (W2.setCell ⟨s + 1, 0, none⟩ (.bool v)) ∧ Same [b, s + 1 + 1] W (W2.setCell ⟨s + 1, 0, none⟩ (.bool v)) ∧ RgtI l M rb0 (s + 1) W0 (k + 1) (W2.setCell ⟨s + 1, 0, none⟩ (.bool v)) from
      have hon2 : Only (fun i => i = s + 1) W (W2.setCell ⟨s + 1, 0, none⟩ (.bool v)) := (Only.of_below (S := fun i => i = s + 1) h).setCell (p := ⟨s + 1, 0, none⟩) (.inr rfl) _
      ⟨keeps_of_only _ hon2 (by rintro j rfl; exact ⟨_, _, _, hI.at_⟩), fun x hx => hon2.block x (by simp at hx; omega) (by simp at hx; omega), hI.only.step hon2 (fun i _ hi => hi), by rw [e]; exact (hI.at_.th h).put _⟩)
    have HXB := Lib.hid (fun (e : rbAt l M rb0 k = false) => show KeepsFrom W0.heap.size W W ∧ RgtX l M rb0 (s + 1) W0 (.exit 0) k W from
      ⟨KeepsFrom.refl _ _, rfl, e, hI.only, e ▸ hI.at_⟩)
    have c1 := hI.at_.c
    have hmap : rbAt l M rb0 k = true → ∃ mb, mo = some mb ∧ ∀ W2, Below W.heap.size W W2 → (Instr.lookup 70 (.map (some mb)) (.int .u32 (3 + (k : Int))) false).run Tryz.prog W2 = .ok (.int .i64 (M (3 + k) : Nat)) W2 := fun e => by
      have hr0 : rb0 = true := by
        unfold rbAt at e
        rw [Bool.and_eq_true] at e
        exact e.1
      obtain ⟨mb, mn, e2, hm, _⟩ := hCT.yes hr0
      cases e2
      refine ⟨mb, rfl, fun W2 h2 => ?_⟩
      rw [show (3 + (k : Int)) = ((3 + k : Nat) : Int) by omega]
      refine MapM.look (n := mn) ?_ (3 + k) (by omega)
      refine (hm.of_heap (hI.only.block mb hm.lt ?_)).th h2
      intro e3
      obtain ⟨es, ck, hb9⟩ := hm.isMap
      rw [e3, show W0.heap[s + 1]? = _ from (show CellAt W0 (s + 1) 4 (.bool rb0) from HQ0.out)] at hb9
      cases hb9
    clear hst hrec hI hCT hX
    by_cases hr : rbAt l M rb0 k = true
    · obtain ⟨mb, rfl, hlook⟩ := hmap hr
      rw [hr] at HF c1 HX1 hsucc
      rw [Bool.true_and] at hsucc
      by_cases hz : nd l (3 + k) = Nd.zero
      · rw [decide_eq_true hz] at hIN
        rw [decide_eq_true (Or.inl hz)] at hsucc
        have HXX := Lib.hid (fun W2 h => HX1.out W2 h hsucc)
        clear hz hNN hmap hlook HX2 HXB HX1 hsucc
        obtain ⟨y, hy⟩ : ∃ y, nd l (3 + k) = y := ⟨_, rfl⟩
        simp only [hy] at x0 x1 x2 x3 x4 hIN
        dsimp only
        rw [hy]
        clear hy
        obtain ⟨y0, y1, y2, y3, y4⟩ := y
        unfold Nd.val at hIN ⊢
        dsimp only at x0 x1 x2 x3 x4 hIN ⊢
        have HI := Lib.hid hIN
        clear hIN
        gi_wp2_with (gi_at_call 37; refine (CallsIn.inRound l9 (callsIn_wide.2 (HI.out _))).mono ?_; rintro e W2 ⟨rfl, hB2⟩)
        exact HXX.out _ hB2
      · rw [decide_eq_false hz] at hIN
        by_cases hn : nodeP (nd l (3 + k))
        · rw [decide_eq_true hn] at hNN
          have HXX := Lib.hid (fun W2 h (v : Bool) (e : decide (M (3 + k) = (nd l (3 + k)).links) = v) => HX2.out W2 h v (by
            rw [hsucc, ← e]
            apply decide_eq_decide.2
            exact ⟨fun h => (h.resolve_left hz).2, fun h => .inr ⟨hn, h⟩⟩))
          have hlk := hn.2.2.2.1
          clear hz hn hmap HX2 HXB HX1 hsucc
          obtain ⟨mm, hmm⟩ : ∃ mm, M (3 + k) = mm := ⟨_, rfl⟩
          rw [hmm] at hlook HXX
          have HLK := Lib.hid hlook
          obtain ⟨y, hy⟩ : ∃ y, nd l (3 + k) = y := ⟨_, rfl⟩
          simp only [hy] at x0 x1 x2 x3 x4 hIN hNN HF HXX hlk
          dsimp only
          rw [hy]
          clear hy hmm hlook
          obtain ⟨y0, y1, y2, y3, y4⟩ := y
          unfold Nd.val at hIN hNN ⊢
          dsimp only at x0 x1 x2 x3 x4 hIN hNN HXX hlk ⊢
          have hwl : IntKind.i64.wrap (y2 : Int) = (y2 : Int) := by rw [IntKind.wrap_i64] <;> omega
          have HI := Lib.hid hIN
          have HI2 := Lib.hid hNN
          clear hIN hNN
          gi_wp2_with (first
            | (gi_at_call 37; refine (CallsIn.inRound l9 (callsIn_wide.2 (HI.out _))).mono ?_; rintro e W2 ⟨rfl, hB2⟩; obtain ⟨z0, z1, z2, z3, z4⟩ := (HF.out _ hB2).2.2.c)
            | (gi_at_call 41; refine (CallsIn.inRound l9 (callsIn_wide.2 (HI2.out _))).mono ?_; rintro e W3 ⟨rfl, hB3⟩; have hB23 := below_th hB2 hB3; obtain ⟨⟨q0, q1⟩, q2, q3⟩ := HF.out _ hB23; obtain ⟨t0, t1, t2, t3, t4⟩ := q3.c; have hlk3 := HLK.out _ hB23; clear q3))
          exact HXX.out _ hB23 _ (by first | rfl | exact decide_eq_decide.2 (by omega))
        · rw [decide_eq_false hn] at hNN
          have HX9 := Lib.hid (fun W2 h => HX2.out W2 h false (by
            rw [hsucc]
            exact decide_eq_false (fun h => h.elim hz (fun h2 => hn h2.1))))
          clear hz hn hmap HX2 HXB HX1 hsucc hlook
          obtain ⟨y, hy⟩ : ∃ y, nd l (3 + k) = y := ⟨_, rfl⟩
          simp only [hy] at x0 x1 x2 x3 x4 hIN hNN HF
          dsimp only
          rw [hy]
          clear hy
          obtain ⟨y0, y1, y2, y3, y4⟩ := y
          unfold Nd.val at hIN hNN ⊢
          dsimp only at x0 x1 x2 x3 x4 hIN hNN ⊢
          have HI := Lib.hid hIN
          have HI2 := Lib.hid hNN
          clear hIN hNN
          gi_wp2_with (first
            | (gi_at_call 37; refine (CallsIn.inRound l9 (callsIn_wide.2 (HI.out _))).mono ?_; rintro e W2 ⟨rfl, hB2⟩; obtain ⟨z0, z1, z2, z3, z4⟩ := (HF.out _ hB2).2.2.c)
            | (gi_at_call 41; refine (CallsIn.inRound l9 (callsIn_wide.2 (HI2.out _))).mono ?_; rintro e W3 ⟨rfl, hB3⟩; have hB23 := below_th hB2 hB3; obtain ⟨⟨q0, q1⟩, q2, q3⟩ := HF.out _ hB23; clear q3))
          exact HX9.out _ hB23
    · have hr := Bool.eq_false_iff.2 hr
      have HXX := Lib.hid (HXB.out hr)
      rw [hr] at c1
      clear hmap HX2 HXB HX1 hsucc HF hIN hNN x0 x1 x2 x3 x4
      gi_wp2
      exact HXX.out
  case done =>
    rintro D W hD hI hKD
    have cq := hI.at_.c
    rw [← HTELL.out] at cq
    have HBW := Lib.hid (hBW.trans (hI.only.below (n := w.heap.size) (by omega) (by rintro j rfl; omega)))
    have hsz := hI.only.size
    have HKD := Lib.hid hKD
    clear hI hst hKD hCT
    gi_wp2
    refine ⟨by simp, .inl ⟨_, _, rfl, run_takeDeferred HKD.out, ?_⟩⟩
    refine ⟨_, results_1 rfl _ _, ?_⟩
    exact ⟨by rw [HRD.out]; rfl, below_putObj HBW.out _ (by omega) _⟩
  case stop =>
    rintro D c k W hD hk ⟨rfl, hbad, hon, hat⟩ hKD
    have cq := hat.c
    have HRR : Hid (decide (RightL l) = false) := by unfold Hid; rw [HRD.out, HTELL.out]; exact rb_mono (by omega) hbad
    have HBW := Lib.hid (hBW.trans (hon.below (n := w.heap.size) (by omega) (by rintro j rfl; omega)))
    have hsz := hon.size
    have HKD := Lib.hid hKD
    clear hbad hon hat hst hKD hCT
    gi_wp2
    refine ⟨by simp, .inl ⟨_, _, rfl, run_takeDeferred HKD.out, ?_⟩⟩
    refine ⟨_, results_1 rfl _ _, ?_⟩
    exact ⟨by rw [HRR.out]; rfl, below_putObj HBW.out _ (by omega) _⟩
end
end Go.Proofs.YtkipkcmcolomcaaGreat.Pln
/- Right of any files that the laws take; New; Asks. -/
namespace Go.Proofs.YtkipkcmcolomcaaGreat.Pln
open Go.RowKit
attribute [local go_sem] Oper.semAt_some
set_option linter.unusedVariables false
set_option linter.unusedSimpArgs false
theorem Able.sizes {l : List Nd} (h : Able l) : ∀ i, (nd l i).kind = 2 → (nd l i).data.size ≤ 20000 := fun i hk => by
  have hi : i < l.length := Classical.byContradiction fun hn => by rw [nd_out (by omega)] at hk; exact absurd hk (by decide)
  rcases h.2 with ⟨D, hD⟩ | hf
  · exact (hD.dir i hi hk).2.2
  · have h1 := hf.1 i hi
    exact Nat.le_of_not_lt fun hn => h1 ⟨hk, by omega⟩
theorem right_any (v : Value) (l : List Nd) (w : World) (h : Nodes w v l) (k : Able l) : Calls Tryz.prog 18 #[v] w (Ans w (.bool (decide (RightL l)))) := by
  by_cases hl : lowP l
  · obtain ⟨b, off, cap, rfl, _⟩ := h.at (k := 0) (by have := hl.1; omega)
    exact callsIn_wide.1 (right_in b off cap _ l w rfl hl h (fun i hi => Nat.le_trans (k.sizes i hi) (by decide)))
  · rw [decide_eq_false (fun e => hl (right_low e))]
    exact right_no v l w h hl
section
set_option maxRecDepth 100000
set_option maxHeartbeats 4000000
theorem asks_any (op : Int) (w : World) : Calls Tryz.prog 19 #[.int .i64 op] w (Ans w (.bool (decide (op = 4 ∨ op = 11 ∨ op = 12 ∨ op = 13)))) := by
  by_cases h4 : op = 4
  · rw [decide_eq_true (.inl h4)]
    go_enter Tryz.func19, Tryz.ntmps19
    go_wp2
    go_ret
    exact ⟨rfl, Below.refl _ _⟩
  by_cases h11 : op = 11
  · rw [decide_eq_true (.inr (.inl h11))]
    go_enter Tryz.func19, Tryz.ntmps19
    go_wp2
    go_ret
    exact ⟨rfl, Below.refl _ _⟩
  by_cases h12 : op = 12
  · rw [decide_eq_true (.inr (.inr (.inl h12)))]
    go_enter Tryz.func19, Tryz.ntmps19
    go_wp2
    go_ret
    exact ⟨rfl, Below.refl _ _⟩
  by_cases h13 : op = 13
  · rw [decide_eq_true (.inr (.inr (.inr h13)))]
    go_enter Tryz.func19, Tryz.ntmps19
    go_wp2
    go_ret
    exact ⟨rfl, Below.refl _ _⟩
  rw [decide_eq_false (by omega)]
  go_enter Tryz.func19, Tryz.ntmps19
  go_wp2
  go_ret
  exact ⟨rfl, Below.refl _ _⟩
theorem follows_any (op : Int) (w : World) : Calls Tryz.prog 44 #[.int .i64 op] w (fun e w' => e = .returned (.bool (decide (op = 1 ∨ op = 3 ∨ op = 5 ∨ op = 4 ∨ op = 13 ∨ op = 14 ∨ op = 15))) ∧ w' = w) := by
  by_cases h : op = 1 ∨ op = 3 ∨ op = 5 ∨ op = 4 ∨ op = 13 ∨ op = 14 ∨ op = 15
  · rw [decide_eq_true h]
    rcases h with rfl | rfl | rfl | rfl | rfl | rfl | rfl
    all_goals
      go_enter Tryz.func44, Tryz.ntmps44
      go_wp2
      go_ret
      exact ⟨rfl, rfl⟩
  · rw [decide_eq_false h]
    have h1 : ¬ op = 1 := fun e => h (by omega)
    have h2 : ¬ op = 3 := fun e => h (by omega)
    have h3 : ¬ op = 5 := fun e => h (by omega)
    have h4 : ¬ op = 4 := fun e => h (by omega)
    have h5 : ¬ op = 13 := fun e => h (by omega)
    have h6 : ¬ op = 14 := fun e => h (by omega)
    have h7 : ¬ op = 15 := fun e => h (by omega)
    clear h
    go_enter Tryz.func44, Tryz.ntmps44
    go_wp2
    go_ret
    exact ⟨rfl, rfl⟩
theorem makes_any (op : Int) (w : World) : Calls Tryz.prog 45 #[.int .i64 op] w (fun e w' => e = .returned (.bool (decide (op = 1 ∨ op = 2 ∨ op = 10))) ∧ w' = w) := by
  by_cases h : op = 1 ∨ op = 2 ∨ op = 10
  · rw [decide_eq_true h]
    rcases h with rfl | rfl | rfl
    all_goals
      go_enter Tryz.func45, Tryz.ntmps45
      go_wp2
      go_ret
      exact ⟨rfl, rfl⟩
  · rw [decide_eq_false h]
    have h1 : ¬ op = 1 := fun e => h (by omega)
    have h2 : ¬ op = 2 := fun e => h (by omega)
    have h3 : ¬ op = 10 := fun e => h (by omega)
    clear h
    go_enter Tryz.func45, Tryz.ntmps45
    go_wp2
    go_ret
    exact ⟨rfl, rfl⟩
end
end Go.Proofs.YtkipkcmcolomcaaGreat.Pln
/- find of the program: where a name stands. -/
namespace Go.Proofs.YtkipkcmcolomcaaGreat.Dir
open Go.RowKit
attribute [local go_sem] Oper.semAt_some
set_option linter.unusedVariables false
set_option linter.unusedSimpArgs false

/-- the entry that is found -/
def fndT (D : Option (List N)) (name : ByteArray) : Et := match D with
  | some L => if findE L name = 0 then etAt L (idx L name) else Et.zero
  | none => Et.zero
theorem fndT_no {D : Option (List N)} {name : ByteArray} (h : ¬ findEo D name = 0) : fndT D name = Et.zero := by
  cases D with
  | none => rfl
  | some L => exact if_neg h
theorem fnd_end {D : Option (List N)} {name : ByteArray} {w W : World} {t : Et} {n : Int} (h : fndT D name = t) (h2 : findEo D name = n) (hB : Below w.heap.size w W) :
    Ans w (.tuple #[(fndT D name).val, .int .i64 (findEo D name)]) (.returned (.tuple #[t.val, .int .i64 n])) W := by
  rw [h, h2]
  exact ⟨rfl, hB⟩
theorem put4_other (W : World) (b : Nat) (u0 u1 u2 u3 : Value) (j : Nat) (hj : j ≠ b) : ((((W.setCell ⟨b, 0, none⟩ u0).setCell ⟨b, 1, none⟩ u1).setCell ⟨b, 2, none⟩ u2).setCell ⟨b, 3, none⟩ u3).heap[j]? = W.heap[j]? :=
  (Below.heap_setCell _ _ _ _ hj).trans ((Below.heap_setCell _ _ _ _ hj).trans ((Below.heap_setCell _ _ _ _ hj).trans (Below.heap_setCell _ _ _ _ hj)))
section
set_option maxRecDepth 100000
set_option maxHeartbeats 8000000
theorem find_none (s name : ByteArray) (w : World) (hs : s.size ≤ 281474976710656) (h : DirO s none) : Calls Tryz.prog 124 #[.string s, .string name] w (Ans w (.tuple #[(fndT none name).val, .int .i64 (findEo none name)])) := by
  have hR := Lib.hid (fun W => right_any s none W hs h)
  have HF := Lib.hid (fun W (hB : Below w.heap.size w W) => fnd_end (D := none) (name := name) (w := w) (W := W) (t := Et.zero) (n := 110) rfl rfl hB)
  have HZ := Lib.hid (AtT.newZ (w.alloc (.cells #[.string name] 9)))
  have HB0 := Lib.hid (below_al (below_new w (.cells #[.string name] 9)) boxTZ)
  unfold rightO Ans at hR
  rw [World.size_alloc] at HZ
  unfold boxTZ at HZ HB0
  clear h hs
  go_enter Tryz.func124, Tryz.ntmps124
  go_wp2
  apply wp_scope_straight
  go_wp2_with (go_at_call 164; (with_reducible refine Calls.mono (hR.out _) ?_); rintro e w1 ⟨rfl, hB1⟩; have hZ9 := HZ.out.th hB1; obtain ⟨c0, c1, c2, c3⟩ := hZ9.cZ; have f0 := hZ9.f 0; have f1 := hZ9.f 1; have f2 := hZ9.f 2; have f3 := hZ9.f 3; obtain ⟨p0, p1, p2, p3, hP, hBp⟩ := hZ9.putZ; have HP := Lib.hid hP; have HBp := Lib.hid hBp; clear hP hBp hZ9)
  refine noGoto_ret ?_
  refine bodyPost_ret (results_et rfl _ _ rfl HP.out) rfl ?_
  exact HF.out _ ((below_th HB0.out hB1).trans (HBp.out.mono (by omega)))
theorem find_bad (s name : ByteArray) (L : List N) (w : World) (hs : s.size ≤ 281474976710656) (hn : name.size ≤ 281474976710656) (h : DirP s L) (h1 : ¬ nameP name) : Calls Tryz.prog 124 #[.string s, .string name] w (Ans w (.tuple #[(fndT (some L) name).val, .int .i64 (findEo (some L) name)])) := by
  have hR := Lib.hid (fun W => right_any s (some L) W hs h)
  have hN := Lib.hid (fun W => isName_any name W hn)
  rw [nameB_no h1] at hN
  have hE : findEo (some L) name = 111 := by unfold findEo findE; simp [h1]
  have HF := Lib.hid (fun W (hB : Below w.heap.size w W) => fnd_end (D := some L) (name := name) (w := w) (W := W) (t := Et.zero) (n := 111) (fndT_no (by rw [hE]; decide)) hE hB)
  have HZ := Lib.hid (AtT.newZ (w.alloc (.cells #[.string name] 9)))
  have HB0 := Lib.hid (below_al (below_new w (.cells #[.string name] 9)) boxTZ)
  have HS : Hid (AtS ((w.alloc (.cells #[.string name] 9)).alloc boxTZ) w.heap.size name) := (AtS.new w name).th (below_new _ _)
  unfold rightO Ans at hR
  unfold Ans at hN
  rw [World.size_alloc] at HZ
  unfold boxTZ at HZ HB0 HS
  clear h hs hE hn h1
  go_enter Tryz.func124, Tryz.ntmps124
  go_wp2
  apply wp_scope_straight
  go_wp2_with (first
    | (go_at_call 164; (with_reducible refine Calls.mono (hR.out _) ?_); rintro e w1 ⟨rfl, hB1⟩; have hs1 := (HS.out.th hB1).c)
    | (go_at_call 112; (with_reducible refine Calls.mono (hN.out _) ?_); rintro e w2 ⟨rfl, hB2⟩; have hZ9 := (HZ.out.th hB1).th hB2; obtain ⟨c0, c1, c2, c3⟩ := hZ9.cZ; have f0 := hZ9.f 0; have f1 := hZ9.f 1; have f2 := hZ9.f 2; have f3 := hZ9.f 3; obtain ⟨p0, p1, p2, p3, hP, hBp⟩ := hZ9.putZ; have HP := Lib.hid hP; have HBp := Lib.hid hBp; clear hP hBp hZ9))
  refine noGoto_ret ?_
  refine bodyPost_ret (results_et rfl _ _ rfl HP.out) rfl ?_
  exact HF.out _ ((below_th (below_th HB0.out hB1) hB2).trans (HBp.out.mono (by omega)))
/-- between two rounds -/
structure FndI (L : List N) (name : ByteArray) (nB rB fB : Nat) (w W0 : World) (k : Nat) (W : World) : Prop where
  no : ∀ j, j < k → ¬ (nm L j).name = name
  only : Only (fun i => i = fB ∨ i = fB + 1) W0 W
  at_ : AtT W fB Et.zero
  err : Boxed W (fB + 1) 29 (.int .i64 112)
def FndX (L : List N) (name : ByteArray) (fB : Nat) (W0 : World) (c : Code) (k : Nat) (W : World) : Prop :=
  c = .exit 1 ∧ (nm L k).name = name ∧ (∀ j, j < k → ¬ (nm L j).name = name) ∧ Only (fun i => i = fB ∨ i = fB + 1) W0 W ∧ AtT W fB (etAt L k) ∧ Boxed W (fB + 1) 29 (.int .i64 0)
theorem fndI_own {L : List N} {name : ByteArray} {nB rB fB : Nat} {w W0 : World} : OwnFrom W0.heap.size (FndI L name nB rB fB w W0) := fun k W W' row h hg hr =>
  ⟨h.no, h.only.grown hg (fun r e => .inl (hr r e).1), kept_cells h.at_ hg hr, kept_cells h.err hg hr⟩
theorem fndX_own {L : List N} {name : ByteArray} {fB : Nat} {W0 : World} (c : Code) : OwnFrom W0.heap.size (FndX L name fB W0 c) := fun k W W' row h hg hr =>
  ⟨h.1, h.2.1, h.2.2.1, h.2.2.2.1.grown hg (fun r e => .inl (hr r e).1), kept_cells h.2.2.2.2.1 hg hr, kept_cells h.2.2.2.2.2 hg hr⟩
theorem find_in (s name : ByteArray) (L : List N) (hR : Run s L) (w : World) (hs : s.size ≤ 20000) (h : DirP s L) (h1 : nameP name) :
    CallsIn Fence.wide 9 Tryz.prog 124 #[.string s, .string name] w (Ans w (.tuple #[(fndT (some L) name).val, .int .i64 (findEo (some L) name)])) := by
  have hfn : ∀ f, Fence.wide.fn f := fun _ => trivial
  have hRi := Lib.hid (fun W => right_any s (some L) W (by omega) h)
  have hN := Lib.hid (fun W => isName_any name W (by have := h1.2.1; omega))
  rw [nameB_yes h1] at hN
  have HZ := Lib.hid (AtT.newZ (w.alloc (.cells #[.string name] 9)))
  have HB0 := Lib.hid (below_al (below_new w (.cells #[.string name] 9)) boxTZ)
  have HS : Hid (AtS ((w.alloc (.cells #[.string name] 9)).alloc boxTZ) w.heap.size name) := (AtS.new w name).th (below_new _ _)
  unfold rightO Ans at hRi
  unfold Ans at hN
  rw [World.size_alloc] at HZ
  unfold boxTZ at HZ HB0 HS
  refine callsIn_of_wp_marks Tryz.func124 rfl trivial ?_ rfl
  simp only [Tryz.ntmps124, List.size_toArray, List.length_cons, List.length_nil, Nat.reduceAdd, Nat.reduceSub, Array.replicate_succ, Array.replicate_zero, List.push_toArray, List.append_toArray, List.nil_append, List.cons_append]
  gi_wp2
  apply wide_scope
  gi_wp2_with (first
    | (gi_at_call 164; refine (callsIn_wide.2 (hRi.out _)).mono ?_; rintro e w1 ⟨rfl, hB1⟩; have hs1 := (HS.out.th hB1).c)
    | (gi_at_call 112; refine (callsIn_wide.2 (hN.out _)).mono ?_; rintro e w2 ⟨rfl, hB2⟩; have hs2 := ((HS.out.th hB1).th hB2).c))
  apply wide_label
  gi_wp2_with (gi_at_call 82; refine (entries_in _ _ _).mono ?_; rintro e w' ⟨rfl, rfl⟩)
  obtain ⟨W0, hW0⟩ : ∃ W0, ((w2.alloc (.cells #[.string ⟨#[]⟩, .int .u32 0, .int .i64 0, .int .i64 0] 123)).alloc (.cells #[.int .i64 112] 29)).alloc (.cells #[.string s] 9) = W0 := ⟨_, rfl⟩
  have hb2 := hB2.size
  have hb1 := hB1.size
  simp only [World.size_alloc] at hb1
  have hs0 : W0.heap.size = w2.heap.size + 3 := by rw [← hW0]; simp
  have hW2 : Below w2.heap.size w2 W0 := by
    rw [← hW0]
    exact below_al (below_al (below_new w2 _) _) _
  have hBW : Below w.heap.size w W0 := below_th (below_th (below_th HB0.out hB1) hB2) hW2
  have hn0 : AtS W0 w.heap.size name := ((HS.out.th hB1).th hB2).th hW2
  have hr0 : AtT W0 (w.heap.size + 1) Et.zero := ((HZ.out.th hB1).th hB2).th hW2
  have hf0 : AtT W0 w2.heap.size Et.zero := by
    rw [← hW0]
    exact ((AtT.newZ w2).th (below_new _ _)).th (below_new _ _)
  have he0 : Boxed W0 (w2.heap.size + 1) 29 (.int .i64 112) := by
    rw [← hW0]
    have := Boxed.new (w2.alloc (.cells #[.string ⟨#[]⟩, .int .u32 0, .int .i64 0, .int .i64 0] 123)) 29 (.int .i64 112)
    rw [World.size_alloc] at this
    exact this.alloc _
  have hx0 : AtS W0 (w2.heap.size + 1 + 1) s := by
    rw [← hW0]
    have := AtS.new ((w2.alloc (.cells #[.string ⟨#[]⟩, .int .u32 0, .int .i64 0, .int .i64 0] 123)).alloc (.cells #[.int .i64 112] 29)) s
    simp only [World.size_alloc] at this
    exact this
  have hst := entries_steps (w2.heap.size + 1 + 1) s L hR (by omega) W0 hx0
  obtain ⟨fB, hfB⟩ : ∃ fB, w2.heap.size = fB := ⟨_, rfl⟩
  rw [hW0]
  rw [hfB] at hs0 hf0 he0 hx0 hst hb2 ⊢
  have hI0 : FndI L name w.heap.size (w.heap.size + 1) fB w W0 0 W0 := ⟨fun j hj => absurd hj (Nat.not_lt_zero _), Only.refl _ _, hf0, he0⟩
  clear hW0 hW2 hB1 hB2 hfB hs1 hs2
  refine wpIn_rangeFunc_steps rfl (by decide) (gf := 116) (lb := #[.pointer (some ⟨fB + 1 + 1, 0, none⟩)]) rfl trivial (enters_of Tryz.func116 (by kernel_rfl) rfl)
    hst keepE_t keepE_b (Below.refl _ _) (fun _ => rfl)
    (FndI L name w.heap.size (w.heap.size + 1) fB w W0) (FndX L name fB W0) fndI_own fndX_own hI0
    (LstA L W0 (fun k Bx => #[.string s, .string name, undef, .pointer (some ⟨w.heap.size, 0, none⟩), .pointer (some ⟨w.heap.size + 1, 0, none⟩), .int .i64 0, .pointer (some ⟨fB, 0, none⟩), .pointer (some ⟨fB + 1, 0, none⟩), .pointer (some ⟨Bx, 0, none⟩), .bool false, .string s, .bool true, .bool false, undef, .bool false, .string name, .bool true, .bool false, undef, .agg #[.string ⟨#[]⟩, .int .u32 0, .int .i64 0, .int .i64 0], .string s, .func (.func 116) #[] #[.pointer (some ⟨fB + 1 + 1, 0, none⟩)], (etAt L k).val, undef, undef, undef, undef, undef, undef, undef, undef])) (fun k a' => lstA_own k a') ?assign ?body ?done ?stop
  case assign =>
    intro l k W K hI hk hK
    have hz : W0.heap.size ≤ W.heap.size := hI.only.size
    have HK := Lib.hid (hK _ _ ((KeepsOthers.alloc W _).from _) (KeepE.of_below (below_new W _)) (fndI_own _ _ _ none hI (World.grownBy_alloc W _ _) (fun r e => by cases e)) ⟨W.heap.size, hz, AtT.new W (etAt L k), rfl⟩)
    unfold encT
    clear hK hI hst
    unfold boxT Et.val at HK
    unfold Et.val
    dsimp only at HK
    generalize etAt L k = y at HK ⊢
    obtain ⟨y0, y1, y2, y3⟩ := y
    dsimp only at HK ⊢
    gi_wp2
    exact HK.out
  case body =>
    rintro l k a' W hl hrec ⟨hno, hon, hA, hE⟩ ⟨Bx, hBx, hX, rfl⟩ hk
    have hsz := hon.size
    have hnm : AtS W w.heap.size name := (hon.block w.heap.size (by omega) (by omega)).trans hn0
    have cn := hnm.c
    obtain ⟨x0, x1, x2, x3⟩ := hX.c
    have f0 := hA.f 0
    have f1 := hA.f 1
    have f2 := hA.f 2
    have f3 := hA.f 3
    obtain ⟨y0, y1, y2, y3⟩ := hA.cZ
    have fq := hE.frozen
    have cq := hE.cell
    have hen : (etAt L k).name = (nm L k).name := rfl
    by_cases heq : (nm L k).name = name
    · have hb := beq_yes heq
      rw [← hen] at hb
      obtain ⟨k0, k1, k2, k3, hAp, hBp⟩ := hA.put4 (etAt L k)
      have hon2 : Only (fun i => i = fB ∨ i = fB + 1) W (((((W.setCell ⟨fB, 0, none⟩ (.string (etAt L k).name)).setCell ⟨fB, 1, none⟩ (.int .u32 (etAt L k).ino)).setCell ⟨fB, 2, none⟩ (.int .i64 (etAt L k).a)).setCell ⟨fB, 3, none⟩ (.int .i64 (etAt L k).b)).setCell ⟨fB + 1, 0, none⟩ (.int .i64 0)) :=
        (((((Only.refl _ W).setCell (p := ⟨fB, 0, none⟩) (.inr (.inl rfl)) _).setCell (p := ⟨fB, 1, none⟩) (.inr (.inl rfl)) _).setCell (p := ⟨fB, 2, none⟩) (.inr (.inl rfl)) _).setCell (p := ⟨fB, 3, none⟩) (.inr (.inl rfl)) _).setCell (p := ⟨fB + 1, 0, none⟩) (.inr (.inr rfl)) _
      have hE2 : Boxed (((((W.setCell ⟨fB, 0, none⟩ (.string (etAt L k).name)).setCell ⟨fB, 1, none⟩ (.int .u32 (etAt L k).ino)).setCell ⟨fB, 2, none⟩ (.int .i64 (etAt L k).a)).setCell ⟨fB, 3, none⟩ (.int .i64 (etAt L k).b)).setCell ⟨fB + 1, 0, none⟩ (.int .i64 0)) (fB + 1) 29 (.int .i64 0) :=
        Boxed.set (v := .int .i64 112) _ ((put4_other W fB _ _ _ _ (fB + 1) (by omega)).trans hE)
      have HX := Lib.hid (show KeepsFrom W0.heap.size W _ ∧ FndX L name fB W0 (.exit 1) k _ from ⟨keeps_of_only _ hon2 (by rintro j (rfl | rfl); exact ⟨_, _, _, hA⟩; exact ⟨_, _, _, hE⟩), rfl, heq, hno, hon.step hon2 (fun i _ hi => hi), hAp.of_heap (Below.heap_setCell _ _ _ _ (by show fB ≠ fB + 1; omega)), hE2⟩)
      obtain ⟨t, ht⟩ : ∃ t, etAt L k = t := ⟨_, rfl⟩
      simp only [ht] at x0 x1 x2 x3 hb k0 k1 k2 k3 HX
      clear hno hon hA hE hX hst hAp hBp hon2 hE2 hen heq ht hnm hrec
      obtain ⟨t0, t1, t2, t3⟩ := t
      dsimp only at x0 x1 x2 x3 hb k0 k1 k2 k3 HX
      gi_wp2
      exact HX.out
    · have hb := beq_no heq
      rw [← hen] at hb
      have HI := Lib.hid (show KeepsFrom W0.heap.size W W ∧ KeepE W W ∧ FndI L name w.heap.size (w.heap.size + 1) fB w W0 (k + 1) W from ⟨KeepsFrom.refl _ _, KeepE.refl _, ⟨fun j hj => by
        rcases Nat.lt_succ_iff_lt_or_eq.1 hj with h | h
        · exact hno j h
        · rw [h]; exact heq, hon, hA, hE⟩⟩)
      obtain ⟨t, ht⟩ : ∃ t, etAt L k = t := ⟨_, rfl⟩
      simp only [ht] at x0 x1 x2 x3 hb
      clear hno hon hA hE hX hst hen heq ht hnm hrec
      obtain ⟨t0, t1, t2, t3⟩ := t
      dsimp only at x0 x1 x2 x3 hb
      gi_wp2
      exact HI.out
  case done =>
    rintro D2 W hD ⟨hno, hon, hA, hE⟩ hKD
    have hidx : idx L name = L.length := idx_none.2 hno
    have hEE : findEo (some L) name = 112 := by unfold findEo findE; simp [h1, hidx]
    have HFI := Lib.hid (fun W (hB : Below w.heap.size w W) => fnd_end (D := some L) (name := name) (w := w) (W := W) (t := Et.zero) (n := 112) (fndT_no (by rw [hEE]; decide)) hEE hB)
    have hsz := hon.size
    have hA0 : AtT W (w.heap.size + 1) Et.zero := hr0.of_heap (hon.block (w.heap.size + 1) (by omega) (by omega))
    have f0 := hA0.f 0
    have f1 := hA0.f 1
    have f2 := hA0.f 2
    have f3 := hA0.f 3
    obtain ⟨x0, x1, x2, x3⟩ := hA0.cZ
    have cq := hE.cell
    obtain ⟨y0, y1, y2, y3, hyz⟩ : ∃ y0 y1 y2 y3, Et.zero = ⟨y0, y1, y2, y3⟩ := ⟨_, _, _, _, rfl⟩
    rw [hyz] at hA HFI
    clear hyz
    obtain ⟨u0, u1, u2, u3⟩ := hA.c
    obtain ⟨k0, k1, k2, k3, hAp, hBp⟩ := hA0.put4 ⟨y0, y1, y2, y3⟩
    dsimp only at u0 u1 u2 u3 k0 k1 k2 k3 hBp hAp
    have hBw : Below w.heap.size w W := hBW.trans (hon.below (by omega) (by rintro j (rfl | rfl) <;> omega))
    have HBB := Lib.hid (hBw.trans (hBp.mono (by omega)))
    have HKD := Lib.hid hKD
    have HAp := Lib.hid hAp
    have hset := put4_other W (w.heap.size + 1) (.string y0) (.int .u32 (y1 : Int)) (.int .i64 (y2 : Int)) (.int .i64 (y3 : Int))
    have HSET := Lib.hid hset
    clear hset hno hon hA hA0 hE hBw hKD hAp hBp hst hx0 hr0 hf0 he0 hn0 hBW hRi hN HZ HB0 HS hfn
    gi_wp2
    gi_region
    all_goals
      gi_wp2
      refine ⟨by simp, .inl ⟨_, _, rfl, run_takeDeferred ((HSET.out D2 (by omega)).trans HKD.out), ?_⟩⟩
      refine ⟨_, results_et rfl _ _ rfl (HAp.out.of_heap (World.putObj_heap_other (by omega))), ?_⟩
      exact HFI.out _ (below_put HBB.out.drew (b := D2) (by omega) _)
  case stop =>
    rintro D2 c k W hD hk ⟨rfl, heq, hno, hon, hA, hE⟩ hKD
    have hidx : idx L name = k := idx_eq h.1 hk heq
    have hEE : findEo (some L) name = 0 := find_zero.2 ⟨h1, by rw [hidx]; exact hk⟩
    have hTT : fndT (some L) name = etAt L k := by
      have : findE L name = 0 := hEE
      unfold fndT
      simp only [this, if_true, hidx]
    have HFI := Lib.hid (fun W (hB : Below w.heap.size w W) => fnd_end (D := some L) (name := name) (w := w) (W := W) (t := etAt L k) (n := 0) hTT hEE hB)
    have hsz := hon.size
    have hA0 : AtT W (w.heap.size + 1) Et.zero := hr0.of_heap (hon.block (w.heap.size + 1) (by omega) (by omega))
    have f0 := hA0.f 0
    have f1 := hA0.f 1
    have f2 := hA0.f 2
    have f3 := hA0.f 3
    obtain ⟨x0, x1, x2, x3⟩ := hA0.cZ
    have cq := hE.cell
    obtain ⟨⟨y0, y1, y2, y3⟩, hyz⟩ : ∃ y, etAt L k = y := ⟨_, rfl⟩
    rw [hyz] at hA HFI
    clear hyz hTT hidx heq
    obtain ⟨u0, u1, u2, u3⟩ := hA.c
    obtain ⟨k0, k1, k2, k3, hAp, hBp⟩ := hA0.put4 ⟨y0, y1, y2, y3⟩
    dsimp only at u0 u1 u2 u3 k0 k1 k2 k3 hBp hAp
    have hBw : Below w.heap.size w W := hBW.trans (hon.below (by omega) (by rintro j (rfl | rfl) <;> omega))
    have HBB := Lib.hid (hBw.trans (hBp.mono (by omega)))
    have HKD := Lib.hid hKD
    have HAp := Lib.hid hAp
    have hset := put4_other W (w.heap.size + 1) (.string y0) (.int .u32 (y1 : Int)) (.int .i64 (y2 : Int)) (.int .i64 (y3 : Int))
    have HSET := Lib.hid hset
    clear hset hno hon hA hA0 hE hBw hKD hAp hBp hst hx0 hr0 hf0 he0 hn0 hBW hRi hN HZ HB0 HS hfn
    gi_wp2
    gi_region
    all_goals
      gi_wp2
      refine ⟨by simp, .inl ⟨_, _, rfl, run_takeDeferred ((HSET.out D2 (by omega)).trans HKD.out), ?_⟩⟩
      refine ⟨_, results_et rfl _ _ rfl (HAp.out.of_heap (World.putObj_heap_other (by omega))), ?_⟩
      exact HFI.out _ (below_put HBB.out.drew (b := D2) (by omega) _)
end
end Go.Proofs.YtkipkcmcolomcaaGreat.Dir
/- The program's contracts: Find, Add, Drop, Set. -/
namespace Go.Proofs.YtkipkcmcolomcaaGreat.Dir
open Go.RowKit
attribute [local go_sem] Oper.semAt_some
set_option linter.unusedVariables false
set_option linter.unusedSimpArgs false
theorem ext_left (a b : ByteArray) : (a ++ b).extract 0 a.size = a := by
  have := extract_mid ⟨#[]⟩ a b
  have h0 : (⟨#[]⟩ : ByteArray).size = 0 := rfl
  rw [none_app, h0, Nat.zero_add] at this
  exact this
theorem ext_right (a b : ByteArray) : (a ++ b).extract a.size (a ++ b).size = b := by
  have := extract_mid a b ⟨#[]⟩
  rw [app_none] at this
  rw [ByteArray.size_append]
  exact this
/-- a directory's bytes, parted at a name -/
theorem dir_parts {s : ByteArray} {L : List N} (h : DirP s L) {i : Nat} (hi : i < L.length) :
    s.extract 0 (pos L i) = bytesL (L.take i) ∧ s.extract (pos L (i + 1)) s.size = bytesL (L.drop (i + 1)) ∧ s.extract (pos L i + 4) s.size = numB (nm L i).name.size 2 ++ (nm L i).name ++ bytesL (L.drop (i + 1)) ∧ pos L i + 6 + (nm L i).name.size = pos L (i + 1) ∧ pos L (i + 1) ≤ s.size := by
  have hl : L = L.take i ++ nm L i :: L.drop (i + 1) := (erase_split hi).1
  have hs : s = bytesL (L.take i) ++ (ent (nm L i) ++ bytesL (L.drop (i + 1))) := by
    rw [← h.2.1]
    conv => lhs; rw [hl]
    rw [bytesL_app, bytesL]
  have hp : pos L (i + 1) = pos L i + 6 + (nm L i).name.size := pos_succ hi
  have hle : pos L (i + 1) ≤ s.size := by
    have := pos_mono L (k := i + 1)
    rw [pos_all, h.2.1] at this
    exact this
  refine ⟨?_, ?_, ?_, hp.symm, hle⟩
  · conv => lhs; rw [hs]
    exact ext_left _ _
  · have hs2 : s = (bytesL (L.take i) ++ ent (nm L i)) ++ bytesL (L.drop (i + 1)) := by rw [← app_assoc]; exact hs
    have h2 : (bytesL (L.take i) ++ ent (nm L i)).size = pos L (i + 1) := by rw [ByteArray.size_append, ent_size, hp]; show pos L i + _ = _; omega
    have := ext_right (bytesL (L.take i) ++ ent (nm L i)) (bytesL (L.drop (i + 1)))
    rw [← hs2, h2] at this
    exact this
  · have hs3 : s = (bytesL (L.take i) ++ numB (nm L i).ino 4) ++ (numB (nm L i).name.size 2 ++ (nm L i).name ++ bytesL (L.drop (i + 1))) := by
      conv => lhs; rw [hs]
      unfold ent
      simp only [app_assoc]
    have h2 : (bytesL (L.take i) ++ numB (nm L i).ino 4).size = pos L i + 4 := by rw [ByteArray.size_append, numB_size]; rfl
    have := ext_right (bytesL (L.take i) ++ numB (nm L i).ino 4) (numB (nm L i).name.size 2 ++ (nm L i).name ++ bytesL (L.drop (i + 1)))
    rw [← hs3, h2] at this
    exact this
theorem dir_drop {s : ByteArray} {L : List N} (h : DirP s L) {i : Nat} (hi : i < L.length) : s.extract 0 (pos L i) ++ s.extract (pos L (i + 1)) s.size = bytesL (L.eraseIdx i) := by
  obtain ⟨h1, h2, _⟩ := dir_parts h hi
  rw [h1, h2, (erase_split hi).2, bytesL_app]
theorem dir_set {s : ByteArray} {L : List N} (h : DirP s L) {i : Nat} (hi : i < L.length) (ino : Nat) : s.extract 0 (pos L i) ++ numB ino 4 ++ s.extract (pos L i + 4) s.size = bytesL (L.set i ⟨(nm L i).name, ino⟩) := by
  obtain ⟨h1, _, h3, _⟩ := dir_parts h hi
  rw [h1, h3, show L.set i ⟨(nm L i).name, ino⟩ = L.take i ++ ⟨(nm L i).name, ino⟩ :: L.drop (i + 1) from List.set_eq_take_append_cons_drop.trans (if_pos hi), bytesL_app, bytesL]
  unfold ent
  simp only [app_assoc]
section
set_option maxRecDepth 100000
set_option maxHeartbeats 4000000
theorem fnd_any (s name : ByteArray) (D : Option (List N)) (w : World) (hs : s.size ≤ 281474976710656) (hn : name.size ≤ 281474976710656) (h : DirO s D) : Calls Tryz.prog 124 #[.string s, .string name] w (Ans w (.tuple #[(fndT D name).val, .int .i64 (findEo D name)])) := by
  cases D with
  | none => exact find_none s name w hs h
  | some L =>
    by_cases h1 : nameP name
    · obtain ⟨P, hP⟩ := Run.ex s
      obtain rfl := (hP.of_dir h).1
      exact callsIn_wide.1 (find_in s name P hP w h.2.2 h h1)
    · exact find_bad s name L w hs hn h h1
theorem putN_any (ino : Nat) (w : World) (hi : ino < 4294967296) : Calls Tryz.prog 157 #[.int .u32 (ino : Int)] w (Ans w (.string (numB ino 4))) := by
  have hP := Lib.hid (fun W => put_any ino 4 W (by rw [show (256 : Nat) ^ 8 = 18446744073709551616 by decide]; omega))
  have hok : putOk ino 4 := ⟨by omega, by omega, by rw [show (4 : Int).toNat = 4 from rfl, show (256 : Nat) ^ 4 = 4294967296 by decide]; exact hi⟩
  rw [putS_yes hok, putE_yes hok] at hP
  have hw : IntKind.u64.wrap (ino : Int) = ino := by rw [IntKind.wrap_u64]; omega
  have e4 : numB ino (4 : Int).toNat = numB ino 4 := rfl
  rw [e4] at hP
  obtain ⟨B, hB⟩ : ∃ B, numB ino 4 = B := ⟨_, rfl⟩
  rw [hB] at hP ⊢
  clear hB hi hok e4
  go_enter Tryz.func157, Tryz.ntmps157
  go_wp2_with (go_at_call 180; (with_reducible refine Calls.mono (hP.out _) ?_); rintro e w1 ⟨rfl, hB1⟩)
  go_ret
  exact ⟨rfl, hB1⟩
theorem textN_any (s : ByteArray) (w : World) (hs : s.size ≤ 59) : Calls Tryz.prog 158 #[.string s] w (Ans w (.string (numB s.size 2 ++ s))) := by
  have hP := Lib.hid (fun W => text_any s W (by omega))
  have hok : textOk s := by unfold textOk; omega
  rw [textS_yes hok] at hP
  generalize textE s = ee at hP
  obtain ⟨B, hB⟩ : ∃ B, numB s.size 2 ++ s = B := ⟨_, rfl⟩
  rw [hB] at hP ⊢
  clear hB hok hs
  go_enter Tryz.func158, Tryz.ntmps158
  go_wp2_with (go_at_call 181; (with_reducible refine Calls.mono (hP.out _) ?_); rintro e w1 ⟨rfl, hB1⟩)
  go_ret
  exact ⟨rfl, hB1⟩
theorem find_any (s name : ByteArray) (D : Option (List N)) (w : World) (hs : s.size ≤ 281474976710656) (hn : name.size ≤ 281474976710656) (h : DirO s D) :
    Calls Tryz.prog 113 #[.string s, .string name] w (Ans w (.tuple #[.int .u32 (findVo D name), .int .i64 (findEo D name)])) := by
  have hF := Lib.hid (fun W => fnd_any s name D W hs hn h)
  have hv : findVo D name = (fndT D name).ino := by
    cases D with
    | none => rfl
    | some L =>
      show (if findE L name = 0 then (nm L (idx L name)).ino else 0) = (if findE L name = 0 then etAt L (idx L name) else Et.zero).ino
      split <;> rfl
  rw [hv]
  obtain ⟨E, hE⟩ : ∃ E, findEo D name = E := ⟨_, rfl⟩
  obtain ⟨T, hT⟩ : ∃ T, fndT D name = T := ⟨_, rfl⟩
  simp only [hE, hT] at hF
  rw [hE, hT]
  clear hv hE hT h hs hn
  obtain ⟨t0, t1, t2, t3⟩ := T
  unfold Et.val Ans at hF
  dsimp only at hF ⊢
  have HN := Lib.hid (fun W (hB : Below w.heap.size w W) => below_al hB (boxT ⟨t0, t1, t2, t3⟩))
  unfold boxT at HN
  dsimp only at HN
  go_enter Tryz.func113, Tryz.ntmps113
  go_wp2_with (go_at_call 124; (with_reducible refine Calls.mono (hF.out _) ?_); rintro e w1 ⟨rfl, hB1⟩)
  go_returns
  exact ⟨rfl, HN.out _ hB1⟩
theorem drop_any (s name : ByteArray) (D : Option (List N)) (w : World) (hs : s.size ≤ 281474976710656) (hn : name.size ≤ 281474976710656) (h : DirO s D) :
    Calls Tryz.prog 94 #[.string s, .string name] w (Ans w (.tuple #[.string (dropVo D name), .int .i64 (findEo D name)])) := by
  have hF := Lib.hid (fun W => fnd_any s name D W hs hn h)
  by_cases hE : findEo D name = 0
  · cases D with
    | none => exact absurd hE (by show ¬ (110 : Int) = 0; decide)
    | some L =>
      obtain ⟨h1, h2⟩ := find_zero.1 hE
      have hT : fndT (some L) name = etAt L (idx L name) := if_pos hE
      have hV : dropVo (some L) name = bytesL (L.eraseIdx (idx L name)) := if_pos hE
      have hd := dir_drop h h2
      obtain ⟨_, _, _, hp, hle⟩ := dir_parts h h2
      have hss : s.size ≤ 20000 := h.2.2
      rw [hE, hV, ← hd]
      simp only [hE, hT] at hF
      unfold etAt at hF
      unfold Et.val Ans at hF
      dsimp only at hF
      generalize (nm L (idx L name)).name = t0 at hF hp
      generalize (nm L (idx L name)).ino = t1 at hF
      obtain ⟨pa, hpa⟩ : ∃ pa, pos L (idx L name) = pa := ⟨_, rfl⟩
      obtain ⟨pb, hpb⟩ : ∃ pb, pos L (idx L name + 1) = pb := ⟨_, rfl⟩
      simp only [hpa, hpb] at hF hp hle ⊢
      clear hE hV hd hT h1 h2 hpa hpb h
      have b1 : (pa : Int) ≤ (s.size : Int) := by omega
      have b2 : (pb : Int) ≤ (s.size : Int) := by omega
      have b3 : pa ≤ s.size := by omega
      have b4 : pb ≤ s.size := by omega
      have hx1 : (s.extract 0 pa).size ≤ 20000 := by rw [ByteArray.size_extract]; omega
      have hx2 : (s.extract pb s.size).size ≤ 20000 := by rw [ByteArray.size_extract]; omega
      obtain ⟨X1, hX1⟩ : ∃ X, s.extract 0 pa = X := ⟨_, rfl⟩
      obtain ⟨X2, hX2⟩ : ∃ X, s.extract pb s.size = X := ⟨_, rfl⟩
      rw [hX1] at hx1
      rw [hX2] at hx2
      rw [hX1, hX2]
      have hadd := fun W => run_string_add_sum (P := Tryz.prog) (w := W) X1 X2 (by omega)
      have hC := Lib.hid (fun W => clone_any (X1 ++ X2) W (by rw [ByteArray.size_append]; omega))
      have HZ := Lib.hid (fun W => AtT.new W ⟨t0, t1, pa, pb⟩)
      have HN := Lib.hid (fun W (hB : Below w.heap.size w W) => below_al hB (boxT ⟨t0, t1, pa, pb⟩))
      unfold boxT at HN HZ
      dsimp only at HN HZ
      clear hp hle hx1 hx2 hs hn hss
      go_enter Tryz.func94, Tryz.ntmps94
      go_wp2_with (go_at_call 124; (with_reducible refine Calls.mono (hF.out _) ?_); rintro e w1 ⟨rfl, hB1⟩; have hNB := Lib.hid (HN.out _ hB1); obtain ⟨c0, c1, c2, c3⟩ := (HZ.out w1).c; dsimp only at c0 c1 c2 c3)
      obtain ⟨Wn, hWn⟩ : ∃ Wn, w1.alloc (.cells #[.string t0, .int .u32 (t1 : Int), .int .i64 (pa : Int), .int .i64 (pb : Int)] 123) = Wn := ⟨_, rfl⟩
      rw [hWn] at c0 c1 c2 c3 hNB ⊢
      have HC : Hid (∀ W', Below Wn.heap.size Wn W' → W'.cell? ⟨w1.heap.size, 2, none⟩ = some (.int .i64 (pa : Int)) ∧ W'.cell? ⟨w1.heap.size, 3, none⟩ = some (.int .i64 (pb : Int))) := fun W' h =>
        ⟨(h.cell (p := ⟨w1.heap.size, 2, none⟩) (World.block_lt_of_cell? _ _ c2)).trans c2, (h.cell (p := ⟨w1.heap.size, 3, none⟩) (World.block_lt_of_cell? _ _ c3)).trans c3⟩
      have hself : Below Wn.heap.size Wn Wn := Below.refl _ _
      have hself2 : Below Wn.heap.size Wn Wn.drew := hself.drew
      clear hWn c0 c1
      go_region_held3 (fun w' => w'.cell? ⟨w1.heap.size, 2, none⟩ = some (.int .i64 (pa : Int)) ∧ w'.cell? ⟨w1.heap.size, 3, none⟩ = some (.int .i64 (pb : Int))) (exact HC.out _ (by assumption)) ((go_at_call 47; (with_reducible refine Calls.mono (hC.out _) ?_); rintro e w' ⟨rfl, hBn⟩; have := below_th (by assumption : Below Wn.heap.size Wn _) hBn))
      have hBF := below_th hNB.out (by assumption : Below Wn.heap.size Wn _)
      go_wp2
      go_returns
      exact ⟨rfl, hBF⟩
  · have hV := R.dropVo_not (D := D) (s := name) hE
    obtain ⟨E, hEE⟩ : ∃ E, findEo D name = E := ⟨_, rfl⟩
    obtain ⟨T, hT⟩ : ∃ T, fndT D name = T := ⟨_, rfl⟩
    simp only [hEE, hT] at hF
    rw [hV, hEE]
    rw [hEE] at hE
    have hne : (E != 0) = true := by simpa using hE
    clear hV hE hEE hT h hs hn
    obtain ⟨t0, t1, t2, t3⟩ := T
    unfold Et.val Ans at hF
    dsimp only at hF
    have HN := Lib.hid (fun W (hB : Below w.heap.size w W) => below_al hB (boxT ⟨t0, t1, t2, t3⟩))
    unfold boxT at HN
    dsimp only at HN
    go_enter Tryz.func94, Tryz.ntmps94
    go_wp2_with (go_at_call 124; (with_reducible refine Calls.mono (hF.out _) ?_); rintro e w1 ⟨rfl, hB1⟩)
    go_returns
    exact ⟨rfl, HN.out _ hB1⟩
theorem set_any (s name : ByteArray) (ino : Nat) (D : Option (List N)) (w : World) (hs : s.size ≤ 281474976710656) (hn : name.size ≤ 281474976710656) (hi : ino < 4294967296) (h : DirO s D) :
    Calls Tryz.prog 127 #[.string s, .string name, .int .u32 ino] w (Ans w (.tuple #[.string (setVo D name ino), .int .i64 (setEo D name ino)])) := by
  have hF := Lib.hid (fun W => fnd_any s name D W hs hn h)
  by_cases hE : findEo D name = 0
  · cases D with
    | none => exact absurd hE (by show ¬ (110 : Int) = 0; decide)
    | some L =>
      obtain ⟨h1, h2⟩ := find_zero.1 hE
      have hE2 : findE L name = 0 := hE
      have hT : fndT (some L) name = etAt L (idx L name) := if_pos hE
      simp only [hE, hT] at hF
      unfold etAt at hF
      unfold Et.val Ans at hF
      dsimp only at hF
      by_cases hz : ino = 0
      · have hV : setVo (some L) name ino = ⟨#[]⟩ := R.setVo_not (by show ¬ setE L name ino = 0; unfold setE; simp [hE2, hz])
        have hEE : setEo (some L) name ino = 110 := by show setE L name ino = 110; unfold setE; simp [hE2, hz]
        rw [hV, hEE]
        have q0 : ((ino : Int) == 0) = true := by simp [hz]
        generalize (nm L (idx L name)).name = t0 at hF
        generalize (nm L (idx L name)).ino = t1 at hF
        generalize pos L (idx L name) = pa at hF
        generalize pos L (idx L name + 1) = pb at hF
        clear hE hE2 hT h1 h2 hz hV hEE h hs hn hi
        have HN := Lib.hid (fun W (hB : Below w.heap.size w W) => below_al hB (boxT ⟨t0, t1, pa, pb⟩))
        unfold boxT at HN
        dsimp only at HN
        go_enter Tryz.func127, Tryz.ntmps127
        go_wp2_with (go_at_call 124; (with_reducible refine Calls.mono (hF.out _) ?_); rintro e w1 ⟨rfl, hB1⟩)
        go_returns
        exact ⟨rfl, HN.out _ hB1⟩
      · have hSE : setE L name ino = 0 := by unfold setE; simp [hE2, hz]
        have hEE : setEo (some L) name ino = 0 := hSE
        have hV : setVo (some L) name ino = bytesL (L.set (idx L name) ⟨name, ino⟩) := if_pos hSE
        have hd := dir_set h h2 ino
        rw [idx_is h2] at hd
        obtain ⟨_, _, _, hp, hle⟩ := dir_parts h h2
        have hss : s.size ≤ 20000 := h.2.2
        have q0 : ((ino : Int) == 0) = false := beq_eq_false_iff_ne.2 (by omega)
        have hPu := Lib.hid (fun W => putN_any ino W hi)
        rw [hEE, hV, ← hd]
        generalize (nm L (idx L name)).name = t0 at hF hp
        generalize (nm L (idx L name)).ino = t1 at hF
        obtain ⟨pa, hpa⟩ : ∃ pa, pos L (idx L name) = pa := ⟨_, rfl⟩
        obtain ⟨pb, hpb⟩ : ∃ pb, pos L (idx L name + 1) = pb := ⟨_, rfl⟩
        simp only [hpa, hpb] at hF hp hle ⊢
        obtain ⟨pc, hpc⟩ : ∃ pc, pa + 4 = pc := ⟨_, rfl⟩
        rw [hpc]
        have b1 : (pa : Int) ≤ (s.size : Int) := by omega
        have b2 : (pc : Int) ≤ (s.size : Int) := by omega
        have b3 : pa ≤ s.size := by omega
        have b4 : pc ≤ s.size := by omega
        have hwc : IntKind.i64.wrap ((pa : Int) + 4) = (pc : Int) := by rw [IntKind.wrap_i64]; omega
        have hx1 : (s.extract 0 pa).size ≤ 20000 := by rw [ByteArray.size_extract]; omega
        have hx2 : (s.extract pc s.size).size ≤ 20000 := by rw [ByteArray.size_extract]; omega
        have hx3 : (numB ino 4).size = 4 := numB_size _ _
        clear hE hE2 hT h1 h2 hz hSE hEE hV hd hpa hpb h hpc hp hle
        obtain ⟨X1, hX1⟩ : ∃ X, s.extract 0 pa = X := ⟨_, rfl⟩
        obtain ⟨X2, hX2⟩ : ∃ X, s.extract pc s.size = X := ⟨_, rfl⟩
        obtain ⟨X3, hX3⟩ : ∃ X, numB ino 4 = X := ⟨_, rfl⟩
        rw [hX1] at hx1
        rw [hX2] at hx2
        rw [hX3] at hx3 hPu
        rw [hX1, hX2, hX3]
        have hadd := fun W => run_string_add_sum (P := Tryz.prog) (w := W) X1 X3 (by omega)
        have hadd2 := fun W => run_string_add_sum (P := Tryz.prog) (w := W) (X1 ++ X3) X2 (by rw [ByteArray.size_append]; omega)
        have HZ := Lib.hid (fun W => AtT.new W ⟨t0, t1, pa, pb⟩)
        have HN := Lib.hid (fun W (hB : Below w.heap.size w W) => below_al hB (boxT ⟨t0, t1, pa, pb⟩))
        unfold boxT at HN HZ
        dsimp only at HN HZ
        clear hx1 hx2 hx3 hs hn hss hX3 hi
        go_enter Tryz.func127, Tryz.ntmps127
        go_wp2_with (go_at_call 124; (with_reducible refine Calls.mono (hF.out _) ?_); rintro e w1 ⟨rfl, hB1⟩; have hNB := Lib.hid (HN.out _ hB1); obtain ⟨c0, c1, c2, c3⟩ := (HZ.out w1).c; dsimp only at c0 c1 c2 c3)
        obtain ⟨Wn, hWn⟩ : ∃ Wn, w1.alloc (.cells #[.string t0, .int .u32 (t1 : Int), .int .i64 (pa : Int), .int .i64 (pb : Int)] 123) = Wn := ⟨_, rfl⟩
        rw [hWn] at c0 c1 c2 c3 hNB ⊢
        have HC : Hid (∀ W', Below Wn.heap.size Wn W' → W'.cell? ⟨w1.heap.size, 2, none⟩ = some (.int .i64 (pa : Int))) := fun W' h =>
          (h.cell (p := ⟨w1.heap.size, 2, none⟩) (World.block_lt_of_cell? _ _ c2)).trans c2
        have hself : Below Wn.heap.size Wn Wn := Below.refl _ _
        have hself2 : Below Wn.heap.size Wn Wn.drew := hself.drew
        clear hWn c0 c1 c3
        go_region_held3 (fun w' => w'.cell? ⟨w1.heap.size, 2, none⟩ = some (.int .i64 (pa : Int))) (exact HC.out _ (by assumption)) ((go_at_call 157; (with_reducible refine Calls.mono (hPu.out _) ?_); rintro e w' ⟨rfl, hBn⟩; have := below_th (by assumption : Below Wn.heap.size Wn _) hBn))
        have hBF := below_th hNB.out (by assumption : Below Wn.heap.size Wn _)
        go_wp2
        go_returns
        exact ⟨rfl, hBF⟩
  · have hV := R.setVo_not (D := D) (s := name) (i := ino) (by
      cases D with
      | none => exact hE
      | some L => show ¬ setE L name ino = 0; unfold setE; rw [if_pos (show ¬ findE L name = 0 from hE)]; exact hE)
    have hEE2 : setEo D name ino = findEo D name := by
      cases D with
      | none => rfl
      | some L => show setE L name ino = _; unfold setE; rw [if_pos (show ¬ findE L name = 0 from hE)]; rfl
    rw [hV, hEE2]
    obtain ⟨E, hEE⟩ : ∃ E, findEo D name = E := ⟨_, rfl⟩
    obtain ⟨T, hT⟩ : ∃ T, fndT D name = T := ⟨_, rfl⟩
    simp only [hEE, hT] at hF
    rw [hEE]
    rw [hEE] at hE
    have hne : (E != 0) = true := by simpa using hE
    clear hV hE hEE hEE2 hT h hs hn hi
    obtain ⟨t0, t1, t2, t3⟩ := T
    unfold Et.val Ans at hF
    dsimp only at hF
    have HN := Lib.hid (fun W (hB : Below w.heap.size w W) => below_al hB (boxT ⟨t0, t1, t2, t3⟩))
    unfold boxT at HN
    dsimp only at HN
    go_enter Tryz.func127, Tryz.ntmps127
    go_wp2_with (go_at_call 124; (with_reducible refine Calls.mono (hF.out _) ?_); rintro e w1 ⟨rfl, hB1⟩)
    go_returns
    exact ⟨rfl, HN.out _ hB1⟩
theorem add_any (s name : ByteArray) (ino : Nat) (D : Option (List N)) (w : World) (hs : s.size ≤ 281474976710656) (hn : name.size ≤ 281474976710656) (hi : ino < 4294967296) (h : DirO s D) :
    Calls Tryz.prog 122 #[.string s, .string name, .int .u32 ino] w (Ans w (.tuple #[.string (addVo D name ino), .int .i64 (addEo D name ino)])) := by
  have hF := Lib.hid (fun W => fnd_any s name D W hs hn h)
  obtain ⟨T, hT⟩ : ∃ T, fndT D name = T := ⟨_, rfl⟩
  simp only [hT] at hF
  clear hT
  obtain ⟨t0, t1, t2, t3⟩ := T
  unfold Et.val Ans at hF
  dsimp only at hF
  have HN := Lib.hid (fun W (hB : Below w.heap.size w W) => below_al hB (boxT ⟨t0, t1, t2, t3⟩))
  unfold boxT at HN
  dsimp only at HN
  by_cases hE : findEo D name = 0
  · cases D with
    | none => exact absurd hE (by show ¬ (110 : Int) = 0; decide)
    | some L =>
      obtain ⟨h1, h2⟩ := find_zero.1 hE
      have hEE : addEo (some L) name ino = 113 := by unfold addEo addE; simp [h1, h2]
      have hV := R.addVo_not (D := some L) (s := name) (i := ino) (by rw [hEE]; decide)
      rw [hV, hEE]
      simp only [hE] at hF
      clear hE hEE hV h1 h2 h hs hn hi
      go_enter Tryz.func122, Tryz.ntmps122
      go_wp2_with (go_at_call 124; (with_reducible refine Calls.mono (hF.out _) ?_); rintro e w1 ⟨rfl, hB1⟩)
      go_returns
      exact ⟨rfl, HN.out _ hB1⟩
  · by_cases hE2 : findEo D name = 112
    · cases D with
      | none => exact absurd hE2 (by show ¬ (110 : Int) = 112; decide)
      | some L =>
        have h1 : nameP name := by
          by_cases h1 : nameP name
          · exact h1
          · exact absurd hE2 (by show ¬ findE L name = 112; unfold findE; simp [h1])
        have h2 : ¬ idx L name < L.length := fun h2 => hE (find_zero.2 ⟨h1, h2⟩)
        simp only [hE2] at hF
        by_cases hz : ino = 0
        · have hEE : addEo (some L) name ino = 110 := by unfold addEo addE; simp [h1, h2, hz]
          have hV := R.addVo_not (D := some L) (s := name) (i := ino) (by rw [hEE]; decide)
          rw [hV, hEE]
          have q0 : ((ino : Int) == 0) = true := by simp [hz]
          clear hE hE2 hEE hV h1 h2 h hs hn hi hz
          go_enter Tryz.func122, Tryz.ntmps122
          go_wp2_with (go_at_call 124; (with_reducible refine Calls.mono (hF.out _) ?_); rintro e w1 ⟨rfl, hB1⟩)
          go_returns
          exact ⟨rfl, HN.out _ hB1⟩
        · have q0 : ((ino : Int) == 0) = false := beq_eq_false_iff_ne.2 (by omega)
          have hnz := h1.2.1
          have hss : s.size ≤ 20000 := h.2.2
          have hbs : bytesL L = s := h.2.1
          have hPu := Lib.hid (fun W => putN_any ino W hi)
          have hTx := Lib.hid (fun W => textN_any name W hnz)
          have hsum : s ++ numB ino 4 ++ (numB name.size 2 ++ name) = bytesL (L ++ [(⟨name, ino⟩ : N)]) := by
            rw [bytesL_snoc, hbs]
            unfold ent
            simp only [app_assoc]
          have hx3 : (numB ino 4).size = 4 := numB_size _ _
          have hx4 : (numB name.size 2 ++ name).size = 2 + name.size := by rw [ByteArray.size_append, numB_size]
          obtain ⟨X3, hX3⟩ : ∃ X, numB ino 4 = X := ⟨_, rfl⟩
          obtain ⟨X4, hX4⟩ : ∃ X, numB name.size 2 ++ name = X := ⟨_, rfl⟩
          rw [hX3] at hPu hsum hx3
          rw [hX4] at hTx hsum hx4
          have hadd := fun W => run_string_add_sum (P := Tryz.prog) (w := W) s X3 (by omega)
          have hadd2 := fun W => run_string_add_sum (P := Tryz.prog) (w := W) (s ++ X3) X4 (by rw [ByteArray.size_append]; omega)
          have hsz : (s ++ X3 ++ X4).size = s.size + 6 + name.size := by rw [ByteArray.size_append, ByteArray.size_append]; omega
          by_cases h4 : 20000 < s.size + 6 + name.size
          · have hEE : addEo (some L) name ino = 114 := by
              show addE L name ino = 114
              unfold addE
              rw [hbs]
              simp [h1, h2, hz, h4]
            have hV := R.addVo_not (D := some L) (s := name) (i := ino) (by rw [hEE]; decide)
            rw [hV, hEE]
            have q4 : (20000 : Int) < ((s ++ X3 ++ X4).size : Int) := by omega
            obtain ⟨SB, hSB⟩ : ∃ SB, s ++ X3 ++ X4 = SB := ⟨_, rfl⟩
            simp only [hSB] at hadd2 q4
            clear hE hE2 hEE hV h1 h2 h hs hn hi hz h4 hsz hSB hsum hx3 hx4 hX3 hX4 hnz hss hbs
            go_enter Tryz.func122, Tryz.ntmps122
            go_wp2_with (first
              | (go_at_call 124; (with_reducible refine Calls.mono (hF.out _) ?_); rintro e w1 ⟨rfl, hB1⟩)
              | (go_at_call 157; (with_reducible refine Calls.mono (hPu.out _) ?_); rintro e w2 ⟨rfl, hB2⟩)
              | (go_at_call 158; (with_reducible refine Calls.mono (hTx.out _) ?_); rintro e w3 ⟨rfl, hB3⟩))
            go_returns
            exact ⟨rfl, below_th (below_th (HN.out _ hB1) hB2) hB3⟩
          · have hAE : addE L name ino = 0 := by
              unfold addE
              rw [hbs]
              simp [h1, h2, hz, h4]
            have hEE : addEo (some L) name ino = 0 := hAE
            have hV : addVo (some L) name ino = bytesL (L ++ [(⟨name, ino⟩ : N)]) := R.addV_zero hAE
            rw [hV, hEE, ← hsum]
            have q4 : ¬ (20000 : Int) < ((s ++ X3 ++ X4).size : Int) := by omega
            obtain ⟨SB, hSB⟩ : ∃ SB, s ++ X3 ++ X4 = SB := ⟨_, rfl⟩
            simp only [hSB] at hadd2 q4
            rw [hSB]
            clear hE hE2 hEE hAE hV h1 h2 h hs hn hi hz h4 hsz hSB hsum hx3 hx4 hX3 hX4 hnz hss hbs
            go_enter Tryz.func122, Tryz.ntmps122
            go_wp2_with (first
              | (go_at_call 124; (with_reducible refine Calls.mono (hF.out _) ?_); rintro e w1 ⟨rfl, hB1⟩)
              | (go_at_call 157; (with_reducible refine Calls.mono (hPu.out _) ?_); rintro e w2 ⟨rfl, hB2⟩)
              | (go_at_call 158; (with_reducible refine Calls.mono (hTx.out _) ?_); rintro e w3 ⟨rfl, hB3⟩))
            go_returns
            exact ⟨rfl, below_th (below_th (HN.out _ hB1) hB2) hB3⟩
    · have hEE2 : addEo D name ino = findEo D name := by
        cases D with
        | none => rfl
        | some L =>
          show addE L name ino = findE L name
          have a1 : ¬ findE L name = 0 := hE
          have a2 : ¬ findE L name = 112 := hE2
          unfold findE at a1 a2 ⊢
          unfold addE
          by_cases h1 : nameP name
          · by_cases h2 : idx L name < L.length
            · simp [h1, h2] at a1
            · simp [h1, h2] at a2
          · simp [h1]
      have hV := R.addVo_not (D := D) (s := name) (i := ino) (by rw [hEE2]; exact hE)
      rw [hV, hEE2]
      obtain ⟨E, hEE⟩ : ∃ E, findEo D name = E := ⟨_, rfl⟩
      simp only [hEE] at hF
      rw [hEE]
      rw [hEE] at hE hE2
      have hne : (E == 0) = false := beq_eq_false_iff_ne.2 hE
      have hne2 : (E != 112) = true := bne_iff_ne.2 hE2
      clear hV hE hE2 hEE hEE2 h hs hn hi
      go_enter Tryz.func122, Tryz.ntmps122
      go_wp2_with (go_at_call 124; (with_reducible refine Calls.mono (hF.out _) ?_); rintro e w1 ⟨rfl, hB1⟩)
      go_returns
      exact ⟨rfl, HN.out _ hB1⟩
end
end Go.Proofs.YtkipkcmcolomcaaGreat.Dir
