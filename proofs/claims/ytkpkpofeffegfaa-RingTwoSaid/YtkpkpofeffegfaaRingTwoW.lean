/- The walk of RingTwo: it answers true. -/
import Derived.Test.YtkpkpofeffegfaaRingArgs
namespace Go.Proofs.Ytkpkpofeffegfaa
open Go.RowKit Go.Shelf
open I (IsQ)
set_option linter.unusedVariables false

structure TwoI (w : World) (q1 c1 q2 c2 size : Nat) (S1 S2 : Value) (N1 N2 : Nat) (L1 L2 : List (Int × Int)) (W : World) (l1 : List Int) (v1 : Value) (l2 : List Int) (v2 : Value) : Prop where
  qa : IsQ W q1 c1 size l1
  la : Lies W v1 l1.length 1 (I.valsOf l1)
  qb : IsQ W q2 c2 size l2
  lb : Lies W v2 l2.length 1 (I.valsOf l2)
  sa : Lies W S1 N1 2 (opsOf L1)
  sb : Lies W S2 N2 2 (opsOf L2)
  below : Below w.heap.size w W

theorem TwoI.first {w : World} {q1 c1 q2 c2 size : Nat} {S1 S2 : Value} {N1 N2 : Nat} {L1 L2 : List (Int × Int)} {W W' : World} {l1 l1' : List Int} {v1 v1' : Value} {l2 : List Int} {v2 : Value} (h : TwoI w q1 c1 q2 c2 size S1 S2 N1 N2 L1 L2 W l1 v1 l2 v2)
    (hq : IsQ W' q1 c1 size l1') (hl : Lies W' v1' l1'.length 1 (I.valsOf l1')) (hg : W.grownBy W' (some c1)) (hne : c1 ≠ c2) (hc : w.heap.size ≤ c1) : TwoI w q1 c1 q2 c2 size S1 S2 N1 N2 L1 L2 W' l1' v1' l2 v2 :=
  ⟨hq, hl, h.qb.other h.qa hne hg, h.lb.grown hg (IsQ.chan_only h.qa), h.sa.grown hg (IsQ.chan_only h.qa), h.sb.grown hg (IsQ.chan_only h.qa), h.below.grown hg h.below.size (fun k e => by cases e; exact hc)⟩
theorem TwoI.second {w : World} {q1 c1 q2 c2 size : Nat} {S1 S2 : Value} {N1 N2 : Nat} {L1 L2 : List (Int × Int)} {W W' : World} {l1 l2' : List Int} {v1 v2' : Value} {l2 : List Int} {v2 : Value} (h : TwoI w q1 c1 q2 c2 size S1 S2 N1 N2 L1 L2 W l1 v1 l2 v2)
    (hq : IsQ W' q2 c2 size l2') (hl : Lies W' v2' l2'.length 1 (I.valsOf l2')) (hg : W.grownBy W' (some c2)) (hne : c1 ≠ c2) (hc : w.heap.size ≤ c2) : TwoI w q1 c1 q2 c2 size S1 S2 N1 N2 L1 L2 W' l1 v1 l2' v2' :=
  ⟨h.qa.other h.qb (Ne.symm hne) hg, h.la.grown hg (IsQ.chan_only h.qb), hq, hl, h.sa.grown hg (IsQ.chan_only h.qb), h.sb.grown hg (IsQ.chan_only h.qb), h.below.grown hg h.below.size (fun k e => by cases e; exact hc)⟩

/-- one call of a script, as it lies -/
theorem ops_read {w : World} {a : Option Addr} {N cap : Nat} {L : List (Int × Int)} (h : Lies w (.slice a N cap) N 2 (opsOf L)) {k : Nat} (hk : k < N) : ∃ b off x, a = some ⟨b, off, none⟩ ∧ x ∈ L ∧ w.cell? ⟨b, off + k * 2, none⟩ = some (.int .i64 x.1) ∧ w.cell? ⟨b, off + k * 2 + 1, none⟩ = some (.int .i64 x.2) := by
  obtain ⟨_, _, h1, _, _, h4, h5⟩ := h
  cases h1
  rw [opsOf_length] at h4
  obtain ⟨b, off, rfl, hc⟩ := h5 (by omega)
  obtain ⟨x, hx⟩ : ∃ x, L[k]? = some x := ⟨L[k]'(by omega), by simp⟩
  obtain ⟨u0, u1⟩ := opsOf_at L k x hx
  exact ⟨b, off, x, rfl, List.mem_of_getElem? hx, hc _ _ u0, by rw [Nat.add_assoc]; exact hc _ _ u1⟩

set_option maxRecDepth 100000 in
set_option maxHeartbeats 4000000 in
theorem RingTwo_walk (a0 : Int) (v1 : Value) (L1 : List (Int × Int)) (v2 : Value) (L2 : List (Int × Int)) (w : World) (w0 : (Lit.int .i64 a0).wf = true) (hL1 : Lies w v1 L1.length 2 (opsOf L1)) (wL1 : ∀ o ∈ L1, (Lit.int .i64 o.1).wf = true) (hL2 : Lies w v2 L2.length 2 (opsOf L2)) (wL2 : ∀ o ∈ L2, (Lit.int .i64 o.1).wf = true) :
    Calls Try.prog 7 #[.int .i64 a0, v1, v2] w fun e w' => e = .returned (.bool true) ∧ Below w.heap.size w w' := by
  obtain ⟨a1, cap1, rfl, HL1, hn1, hm1⟩ := hL1.parts
  obtain ⟨a2, cap2, rfl, HL2, hn2, hm2⟩ := hL2.parts
  obtain ⟨N1, hN1⟩ : ∃ N, L1.length = N := ⟨_, rfl⟩
  obtain ⟨N2, hN2⟩ : ∃ N, L2.length = N := ⟨_, rfl⟩
  rw [hN1] at HL1 hn1 ⊢
  rw [hN2] at HL2 hn2 ⊢
  clear hL1 hL2 hN1 hN2
  by_cases hr : 1 ≤ a0 ∧ a0 ≤ 1024
  · obtain ⟨size, rfl⟩ := Int.eq_ofNat_of_zero_le (show 0 ≤ a0 by omega)
    have hs1 : 1 ≤ size := by omega
    have hs2 : size ≤ 1024 := by omega
    have d1 : ¬ ((size : Int) < 1) := by omega
    have d2 : ¬ ((1024 : Int) < (size : Int)) := by omega
    clear w0
    go_enter Try.func7, Try.ntmps7
    go_wp2_with (first
      | (go_at_call 8; refine (shown_any _).mono ?_; rintro e w1 ⟨rfl, hB1⟩)
      | (go_at_call 9; refine (I.new_q size w1 hs1 hs2).mono ?_; rintro e w2 ⟨rfl, hq1, hB2, hz2⟩; have HZ2 := Lib.hid hz2; clear hz2)
      | (go_at_call 9; refine (I.new_q size w2 hs1 hs2).mono ?_; rintro e w3 ⟨rfl, hq2, hB3, hz3⟩; clear hz3))
    have hI0 : TwoI w (w1.heap.size + 1) w1.heap.size (w2.heap.size + 1) w2.heap.size size (.slice a1 N1 cap1) (.slice a2 N2 cap2) N1 N2 L1 L2 w3 [] (.slice none 0 0) [] (.slice none 0 0) :=
      ⟨hq1.below hB3, Lies.nil _ _, hq2, Lies.nil _ _, ((HL1.out.below hB1).below hB2).below hB3, ((HL2.out.below hB1).below hB2).below hB3, (hB1.trans (hB2.mono hB1.size)).trans (hB3.mono (Nat.le_trans hB1.size hB2.size))⟩
    have hsz1 := hB1.size
    have hsz2 := hB2.size
    have hz2 := HZ2.out
    obtain ⟨c1, hc1⟩ : ∃ c, w1.heap.size = c := ⟨_, rfl⟩
    obtain ⟨c2, hc2⟩ : ∃ c, w2.heap.size = c := ⟨_, rfl⟩
    rw [hc1, hc2] at hI0 ⊢
    rw [hc1] at hsz1
    rw [hc1, hc2] at hz2
    have hne : c1 ≠ c2 := by omega
    have hge : w.heap.size ≤ c2 := by omega
    obtain ⟨q1, hq1e⟩ : ∃ q, c1 + 1 = q := ⟨_, rfl⟩
    obtain ⟨q2, hq2e⟩ : ∃ q, c2 + 1 = q := ⟨_, rfl⟩
    rw [hq1e, hq2e] at hI0 ⊢
    clear HL1 HL2 hB1 hB2 hB3 hq1 hq2 hz2 hsz2 HZ2
    have HI0 := Lib.hid hI0
    clear hI0
    go_loopw [10, 11, 12] (fun va vb i wr => ∃ (k : Nat) (l1 : List Int) (al1 : Option Addr) (cl1 : Nat) (l2 : List Int) (al2 : Option Addr) (cl2 : Nat), i = .int .i64 k ∧ k ≤ 100 ∧ va = .slice al1 l1.length cl1 ∧ vb = .slice al2 l2.length cl2 ∧ Hid (TwoI w q1 c1 q2 c2 size (.slice a1 N1 cap1) (.slice a2 N2 cap2) N1 N2 L1 L2 wr l1 (.slice al1 l1.length cl1) l2 (.slice al2 l2.length cl2)))
      (fun _ _ i _ => 100 - (intOf i).toNat)
    case atStart => exact ⟨0, [], none, 0, [], none, 0, rfl, by omega, rfl, rfl, HI0⟩
    case round =>
      obtain ⟨k, l1, al1, cl1, l2, al2, cl2, rfl, hk, rfl, rfl, hI⟩ := hrel
      clear HI0
      have hl1 : l1.length ≤ 1024 := Nat.le_trans hI.out.qa.fits hI.out.qa.most
      have hl2 : l2.length ≤ 1024 := Nat.le_trans hI.out.qb.fits hI.out.qb.most
      by_cases hk1 : k < N1
      · obtain ⟨b1, off1, x1, rfl, hx1, e0, e1⟩ := ops_read hI.out.sa hk1
        have hw1 := wL1 x1 hx1
        by_cases hk2 : k < N2
        · obtain ⟨b2, off2, x2, rfl, hx2, f0, f1⟩ := ops_read hI.out.sb hk2
          have hw2 := wL2 x2 hx2
          by_cases h100 : k < 100
          · go_wp2_with (first
              | (go_at_call 10; (with_reducible refine Calls.mono (does_any q1 c1 size l1 _ x1.1 x1.2 _ hw1 hI.out.qa hI.out.la) ?_); rintro e w4 ⟨l3, al3, cl3, rfl, hq3, hl3, hcl3, hg3⟩; have hI4 := Lib.hid (hI.out.first hq3.out hl3.out hg3 hne hsz1); have f0' := (World.grownBy.cell hg3 f0 (fun e => by obtain ⟨cs, t, f, hh⟩ := cell_block f0; exact IsQ.chan_only hI.out.qa _ e.symm cs t f hh)); have f1' := (World.grownBy.cell hg3 f1 (fun e => by obtain ⟨cs, t, f, hh⟩ := cell_block f1; exact IsQ.chan_only hI.out.qa _ e.symm cs t f hh)))
              | (go_at_call 10; (with_reducible refine Calls.mono (does_any q2 c2 size l2 _ x2.1 x2.2 _ hw2 hI4.out.qb hI4.out.lb) ?_); rintro e w5 ⟨l4, al4, cl4, rfl, hq4, hl4, hcl4, hg4⟩; have hI5 := Lib.hid (hI4.out.second hq4.out hl4.out hg4 hne hge)))
            clear hI hI4
            go_roundw
            case rel => exact ⟨k + 1, l3, al3, cl3, l4, al4, cl4, by go_num, by omega, rfl, rfl, hI5⟩
            case measure => simp [intOf]; omega
          · go_wp2_with (first
            | (go_at_call 11; (with_reducible refine Calls.mono (I.len_q q1 c1 _ _ _ hI.out.qa) ?_); rintro e w8 ⟨rfl, rfl⟩)
            | (go_at_call 11; (with_reducible refine Calls.mono (I.len_q q2 c2 _ _ _ hI.out.qb) ?_); rintro e w9 ⟨rfl, rfl⟩))
            all_goals
              go_ret
              exact ⟨rfl, hI.out.below⟩
        · by_cases h100 : k < 100
          · go_wp2_with (first
              | (go_at_call 10; (with_reducible refine Calls.mono (does_any q1 c1 size l1 _ x1.1 x1.2 _ hw1 hI.out.qa hI.out.la) ?_); rintro e w4 ⟨l3, al3, cl3, rfl, hq3, hl3, hcl3, hg3⟩; have hI4 := Lib.hid (hI.out.first hq3.out hl3.out hg3 hne hsz1)))
            clear hI
            go_roundw
            case rel => exact ⟨k + 1, l3, al3, cl3, l2, al2, cl2, by go_num, by omega, rfl, rfl, hI4⟩
            case measure => simp [intOf]; omega
          · go_wp2_with (first
            | (go_at_call 11; (with_reducible refine Calls.mono (I.len_q q1 c1 _ _ _ hI.out.qa) ?_); rintro e w8 ⟨rfl, rfl⟩)
            | (go_at_call 11; (with_reducible refine Calls.mono (I.len_q q2 c2 _ _ _ hI.out.qb) ?_); rintro e w9 ⟨rfl, rfl⟩))
            all_goals
              go_ret
              exact ⟨rfl, hI.out.below⟩
      · by_cases hk2 : k < N2
        · obtain ⟨b2, off2, x2, rfl, hx2, f0, f1⟩ := ops_read hI.out.sb hk2
          have hw2 := wL2 x2 hx2
          by_cases h100 : k < 100
          · go_wp2_with (first
              | (go_at_call 10; (with_reducible refine Calls.mono (does_any q2 c2 size l2 _ x2.1 x2.2 _ hw2 hI.out.qb hI.out.lb) ?_); rintro e w5 ⟨l4, al4, cl4, rfl, hq4, hl4, hcl4, hg4⟩; have hI5 := Lib.hid (hI.out.second hq4.out hl4.out hg4 hne hge)))
            clear hI
            go_roundw
            case rel => exact ⟨k + 1, l1, al1, cl1, l4, al4, cl4, by go_num, by omega, rfl, rfl, hI5⟩
            case measure => simp [intOf]; omega
          · go_wp2_with (first
            | (go_at_call 11; (with_reducible refine Calls.mono (I.len_q q1 c1 _ _ _ hI.out.qa) ?_); rintro e w8 ⟨rfl, rfl⟩)
            | (go_at_call 11; (with_reducible refine Calls.mono (I.len_q q2 c2 _ _ _ hI.out.qb) ?_); rintro e w9 ⟨rfl, rfl⟩))
            all_goals
              go_ret
              exact ⟨rfl, hI.out.below⟩
        · by_cases h100 : k < 100
          all_goals
            go_wp2_with (first
            | (go_at_call 11; (with_reducible refine Calls.mono (I.len_q q1 c1 _ _ _ hI.out.qa) ?_); rintro e w8 ⟨rfl, rfl⟩)
            | (go_at_call 11; (with_reducible refine Calls.mono (I.len_q q2 c2 _ _ _ hI.out.qb) ?_); rintro e w9 ⟨rfl, rfl⟩))
            all_goals
              go_ret
              exact ⟨rfl, hI.out.below⟩
  · have hno : a0 < 1 ∨ 1024 < a0 := by omega
    by_cases h1 : a0 < 1
    all_goals
      go_enter Try.func7, Try.ntmps7
      go_wp2_with (first
        | (go_at_call 8; refine (shown_any _).mono ?_; rintro e w1 ⟨rfl, hB1⟩)
        | (go_at_call 9; refine (I.new_not a0 _ hno).mono ?_; rintro e w2 ⟨rfl, rfl⟩))
      all_goals
        go_ret
        exact ⟨rfl, hB1⟩
end Go.Proofs.Ytkpkpofeffegfaa
