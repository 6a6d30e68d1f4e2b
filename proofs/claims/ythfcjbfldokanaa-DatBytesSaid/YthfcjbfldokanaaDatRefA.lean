/- The document's one, Right, used, Same. -/
import Derived.Test.YthfcjbfldokanaaDatRight
import Derived.Test.YthfcjbfldokanaaOnly
namespace Go.Proofs.Ythfcjbfldokanaa.Dat.R
open Go.RowKit
attribute [local go_sem] Oper.semAt_some
set_option linter.unusedVariables false

section
set_option maxRecDepth 100000
set_option maxHeartbeats 1000000
theorem split6 (ph st fi : Nat) : oneB ⟨ph, st, fi⟩ = (freeB ⟨ph, st, fi⟩ || (decide (16 ≤ ph) && (decide (ph < 4096) && (decide (1 ≤ st) && (decide (st < 281474976710656) && (decide (fi = 0) || (decide (st < fi) && decide (fi < 281474976710656)))))))) := by
  rw [oneB_split, standsB_split]
  have hc : ∀ n, cpB n = true ↔ (1 ≤ n ∧ n < 281474976710656) := fun n => decide_eq_true_iff
  generalize freeB ⟨ph, st, fi⟩ = x
  cases x
  · rw [Bool.eq_iff_iff]
    simp only [Bool.or_eq_true, Bool.and_eq_true, decide_eq_true_eq, Bool.false_eq_true, false_or, hc]
    constructor
    · rintro ⟨h1, h2, h3, h4⟩
      refine ⟨h1, h2, h3.1, h3.2, ?_⟩
      rcases h4 with h4 | h4
      · exact .inl h4
      · exact .inr ⟨h4.1, h4.2.2⟩
    · rintro ⟨h1, h2, h3, h3b, h4⟩
      refine ⟨h1, h2, ⟨h3, h3b⟩, ?_⟩
      rcases h4 with h4 | h4
      · exact .inl h4
      · exact .inr ⟨h4.1, by omega, h4.2⟩
  · rfl
theorem one_any (t : T) (w : World) : Calls Try.prog 40 #[t.val] w (Ans w (.bool (oneB t))) := by
  obtain ⟨ph, st, fi⟩ := t
  have HB := Lib.hid (below_new w (boxO ⟨ph, st, fi⟩))
  have hA := At.new w ⟨ph, st, fi⟩
  obtain ⟨c0, c1, c2⟩ := hA.c
  have HX : Hid (∀ W, Below (w.alloc (boxO ⟨ph, st, fi⟩)).heap.size (w.alloc (boxO ⟨ph, st, fi⟩)) W → _) := fun W h => (hA.th h).c
  have HS := Lib.hid (split6 ph st fi)
  have hf := fun W => free_any ⟨ph, st, fi⟩ W
  obtain ⟨x1, hx1⟩ : ∃ x, freeB ⟨ph, st, fi⟩ = x := ⟨_, rfl⟩
  rw [hx1] at hf HS
  unfold T.val at hf ⊢
  unfold boxO at HX HB
  dsimp only at hf HX HB c0 c1 c2 ⊢
  have HF := Lib.hid hf
  clear hA hf hx1
  have go : ∀ (x : Bool), Hid (oneB ⟨ph, st, fi⟩ = x) → Calls Try.prog 40 #[.agg #[.int .u32 ph, .int .u64 st, .int .u64 fi]] w (Ans w (.bool x)) → Calls Try.prog 40 #[.agg #[.int .u32 ph, .int .u64 st, .int .u64 fi]] w (Ans w (.bool (oneB ⟨ph, st, fi⟩))) := fun x hb hc => by rw [hb.out]; exact hc
  cases x1 with
  | true =>
    have HV : Hid (oneB ⟨ph, st, fi⟩ = true) := by unfold Hid; rw [HS.out]; simp []
    refine go true HV ?_
    clear go HS HV 
    go_enter Try.func40, Try.ntmps40
    go_wp2_with (go_at_call 33; (with_reducible refine Calls.mono (HF.out _) ?_); rintro e w1 ⟨rfl, hB1⟩; obtain ⟨d0, d1, d2⟩ := HX.out _ hB1)
    go_ret
    exact ⟨rfl, below_th HB.out hB1⟩
  | false =>
    by_cases h1 : 16 ≤ ph
    · have g1 : (16 : Int) ≤ ph := by omega
      by_cases h2 : ph < 4096
      · have g2 : (ph : Int) < 4096 := by omega
        by_cases h3 : 1 ≤ st
        · have g3 : (1 : Int) ≤ st := by omega
          by_cases h3b : st < 281474976710656
          · have g3b : (st : Int) < 281474976710656 := by omega
            by_cases h4 : fi = 0
            · have g4 : ((fi : Int) == 0) = true := by simp [h4]
              have HV : Hid (oneB ⟨ph, st, fi⟩ = true) := by unfold Hid; rw [HS.out]; simp [h1, h2, h3, h3b, h4]
              refine go true HV ?_
              clear go HS HV h1 h2 h3 h3b h4
              go_enter Try.func40, Try.ntmps40
              go_wp2_with (go_at_call 33; (with_reducible refine Calls.mono (HF.out _) ?_); rintro e w1 ⟨rfl, hB1⟩; obtain ⟨d0, d1, d2⟩ := HX.out _ hB1)
              go_ret
              exact ⟨rfl, below_th HB.out hB1⟩
            · have g4 : ((fi : Int) == 0) = false := by simp [h4]
              by_cases h5 : st < fi
              · have g5 : (st : Int) < fi := by omega
                by_cases h6 : fi < 281474976710656
                · have g6 : (fi : Int) < 281474976710656 := by omega
                  have HV : Hid (oneB ⟨ph, st, fi⟩ = true) := by unfold Hid; rw [HS.out]; simp [h1, h2, h3, h3b, h4, h5, h6]
                  refine go true HV ?_
                  clear go HS HV h1 h2 h3 h3b h4 h5 h6
                  go_enter Try.func40, Try.ntmps40
                  go_wp2_with (go_at_call 33; (with_reducible refine Calls.mono (HF.out _) ?_); rintro e w1 ⟨rfl, hB1⟩; obtain ⟨d0, d1, d2⟩ := HX.out _ hB1)
                  go_ret
                  exact ⟨rfl, below_th HB.out hB1⟩
                · have g6 : decide ((fi : Int) < 281474976710656) = false := decide_eq_false (by omega)
                  have HV : Hid (oneB ⟨ph, st, fi⟩ = false) := by unfold Hid; rw [HS.out]; simp [h1, h2, h3, h3b, h4, h5, h6]
                  refine go false HV ?_
                  clear go HS HV h1 h2 h3 h3b h4 h5 h6
                  go_enter Try.func40, Try.ntmps40
                  go_wp2_with (go_at_call 33; (with_reducible refine Calls.mono (HF.out _) ?_); rintro e w1 ⟨rfl, hB1⟩; obtain ⟨d0, d1, d2⟩ := HX.out _ hB1)
                  go_ret
                  exact ⟨rfl, below_th HB.out hB1⟩
              · have g5 : decide ((st : Int) < (fi : Int)) = false := decide_eq_false (by omega)
                have g5' : decide (st < fi) = false := decide_eq_false h5
                have HV : Hid (oneB ⟨ph, st, fi⟩ = false) := by unfold Hid; rw [HS.out]; simp [h1, h2, h3, h3b, h4, h5]
                refine go false HV ?_
                clear go HS HV h1 h2 h3 h3b h4 h5
                go_enter Try.func40, Try.ntmps40
                go_wp2_with (go_at_call 33; (with_reducible refine Calls.mono (HF.out _) ?_); rintro e w1 ⟨rfl, hB1⟩; obtain ⟨d0, d1, d2⟩ := HX.out _ hB1)
                go_ret
                exact ⟨rfl, below_th HB.out hB1⟩
          · have g3b : decide ((st : Int) < 281474976710656) = false := decide_eq_false (by omega)
            have HV : Hid (oneB ⟨ph, st, fi⟩ = false) := by unfold Hid; rw [HS.out]; simp [h1, h2, h3, h3b]
            refine go false HV ?_
            clear go HS HV h1 h2 h3 h3b
            go_enter Try.func40, Try.ntmps40
            go_wp2_with (go_at_call 33; (with_reducible refine Calls.mono (HF.out _) ?_); rintro e w1 ⟨rfl, hB1⟩; obtain ⟨d0, d1, d2⟩ := HX.out _ hB1)
            go_ret
            exact ⟨rfl, below_th HB.out hB1⟩
        · have g3 : ¬ (1 : Int) ≤ st := by omega
          have HV : Hid (oneB ⟨ph, st, fi⟩ = false) := by unfold Hid; rw [HS.out]; simp [h1, h2, h3]
          refine go false HV ?_
          clear go HS HV h1 h2 h3
          go_enter Try.func40, Try.ntmps40
          go_wp2_with (go_at_call 33; (with_reducible refine Calls.mono (HF.out _) ?_); rintro e w1 ⟨rfl, hB1⟩; obtain ⟨d0, d1, d2⟩ := HX.out _ hB1)
          go_ret
          exact ⟨rfl, below_th HB.out hB1⟩
      · have g2 : ¬ (ph : Int) < 4096 := by omega
        have HV : Hid (oneB ⟨ph, st, fi⟩ = false) := by unfold Hid; rw [HS.out]; simp [h1, h2]
        refine go false HV ?_
        clear go HS HV h1 h2
        go_enter Try.func40, Try.ntmps40
        go_wp2_with (go_at_call 33; (with_reducible refine Calls.mono (HF.out _) ?_); rintro e w1 ⟨rfl, hB1⟩; obtain ⟨d0, d1, d2⟩ := HX.out _ hB1)
        go_ret
        exact ⟨rfl, below_th HB.out hB1⟩
    · have g1 : ¬ (16 : Int) ≤ ph := by omega
      have HV : Hid (oneB ⟨ph, st, fi⟩ = false) := by unfold Hid; rw [HS.out]; simp [h1]
      refine go false HV ?_
      clear go HS HV h1
      go_enter Try.func40, Try.ntmps40
      go_wp2_with (go_at_call 33; (with_reducible refine Calls.mono (HF.out _) ?_); rintro e w1 ⟨rfl, hB1⟩; obtain ⟨d0, d1, d2⟩ := HX.out _ hB1)
      go_ret
      exact ⟨rfl, below_th HB.out hB1⟩
theorem right_any (v : Value) (L : List T) (w : World) (hL : Trs w v L) : Calls Try.prog 16 #[v] w (Ans w (.bool (rightB L))) := by
  have go : ∀ (x : Bool), Hid (rightB L = x) → Calls Try.prog 16 #[v] w (Ans w (.bool x)) → Calls Try.prog 16 #[v] w (Ans w (.bool (rightB L))) := fun x hb hc => by rw [hb.out]; exact hc
  by_cases h8 : 1 ≤ L.length
  · obtain ⟨b, off, cap, rfl, c0, c1, c2⟩ := hL.at (k := 0) (by omega)
    simp only [Nat.zero_mul, Nat.add_zero] at c0 c1 c2
    obtain ⟨N, hN⟩ : ∃ N, L.length = N := ⟨_, rfl⟩
    have g8 : (1 : Int) ≤ N := by omega
    by_cases h256 : L.length ≤ 1860
    · have g256 : (N : Int) ≤ 1860 := by omega
      have hf := free_any (tr L 0)
      by_cases hs : tr L 0 = T.zero
      · rw [show freeB (tr L 0) = true from decide_eq_true hs] at hf
        unfold T.val at hf
        have HF := Lib.hid hf
        have HA := Lib.hid (all_one (L := L))
        have HR : Hid (AllOne L → rightB L = true) := fun h => decide_eq_true ⟨⟨h8, h256⟩, hs, h⟩
        have HR2 : Hid (¬ AllOne L → rightB L = false) := fun h => decide_eq_false fun hh => h hh.2.2
        have HL := Lib.hid hL
        rw [hN] at HL HA ⊢
        have HN := Lib.hid hN
        have HX := Lib.hid (fun s W => one_any s W)
        unfold T.val at HX
        clear hL go hs h8 h256 hN hf
        obtain ⟨W0, rfl⟩ : ∃ W0 : World, W0 = w := ⟨_, rfl⟩
        go_enter Try.func16, Try.ntmps16
        go_wp2_with (go_at_call 33; (with_reducible refine Calls.mono (HF.out _) ?_); rintro e w1 ⟨rfl, hB0⟩)
        go_loopw [3] (fun i wr => ∃ k : Nat, k ≤ N ∧ i = .int .i64 (k : Int) ∧ Hid (oneUpto L k) ∧ Below W0.heap.size W0 wr) (fun i _ => N - (intOf i).toNat)
        case atStart => exact ⟨0, by omega, rfl, fun j hj => by omega, hB0⟩
        case round =>
          obtain ⟨k, hk, rfl, HW, hB⟩ := hrel
          by_cases hlt : k < N
          · have HLk := ((HL.out).below hB).get HN.out hlt
            obtain ⟨d0, d1, d2⟩ := HLk
            cases h1 : oneB (tr L k) with
            | true =>
              go_wp2_with (go_at_call 40; refine (HX.out (tr L k) _).mono ?_; rintro e w' ⟨rfl, hB1⟩; simp only [h1])
              go_roundw
              case rel => exact ⟨k + 1, by omega, by go_num, fun j hj => (by rcases Nat.lt_succ_iff_lt_or_eq.1 hj with h | h; exact HW.out j h; rw [h]; exact h1), below_th hB hB1⟩
              case measure => simp [intOf]; omega
            | false =>
              have HF := Lib.hid (HR2.out fun hh => by have := HA.out.1 hh k hlt; rw [h1] at this; cases this)
              go_wp2_with (go_at_call 40; refine (HX.out (tr L k) _).mono ?_; rintro e w' ⟨rfl, hB1⟩; simp only [h1])
              go_ret
              exact ⟨by rw [HF.out]; rfl, below_th hB hB1⟩
          · obtain rfl : k = N := by omega
            have HF := Lib.hid (HR.out (HA.out.2 HW.out))
            go_wp2
            go_ret
            exact ⟨by rw [HF.out]; rfl, hB⟩
      · rw [show freeB (tr L 0) = false from decide_eq_false hs] at hf
        unfold T.val at hf
        refine go false (decide_eq_false fun hh => hs hh.2.1) ?_
        rw [hN]
        have HF := Lib.hid hf
        clear hL go hf hs
        go_enter Try.func16, Try.ntmps16
        go_wp2_with (go_at_call 33; (with_reducible refine Calls.mono (HF.out _) ?_); rintro e w1 ⟨rfl, hB1⟩)
        go_ret
        exact ⟨rfl, hB1⟩
    · refine go false (decide_eq_false fun hh => h256 hh.1.2) ?_
      have g256 : ¬ (N : Int) ≤ 1860 := by omega
      rw [hN]
      clear hL go
      go_enter Try.func16, Try.ntmps16
      go_wp2
      go_ret
      exact ⟨rfl, Below.refl _ _⟩
  · refine go false (decide_eq_false fun hh => h8 hh.1.1) ?_
    obtain ⟨a, cap, rfl, hn, hm⟩ := hL.parts
    have e : L.length = 0 := by omega
    rw [e]
    clear hL go h8 e hn
    go_enter Try.func16, Try.ntmps16
    go_wp2
    go_ret
    exact ⟨rfl, Below.refl _ _⟩
/-- are two lists the same? -/
theorem same_any (v1 v2 : Value) (A B : List T) (w : World) (h1 : Trs w v1 A) (h2 : Trs w v2 B) : Calls Try.prog 17 #[v1, v2] w (Ans w (.bool (decide (A = B)))) := by
  obtain ⟨a1, cap1, rfl, hn1, hm1⟩ := h1.parts
  obtain ⟨a2, cap2, rfl, hn2, hm2⟩ := h2.parts
  by_cases hl : A.length = B.length
  · have hq : ((A.length : Int) != (B.length : Int)) = false := by simp [hl]
    obtain ⟨N, hN⟩ : ∃ N, A.length = N := ⟨_, rfl⟩
    have H1 := Lib.hid h1
    have H2 := Lib.hid h2
    have HEQ : Hid ((∀ j, j < N → tr A j = tr B j) → A = B) := fun h => tr_ext hl (fun j hj => h j (by omega))
    have HNE : Hid (∀ j, tr A j ≠ tr B j → ¬ A = B) := fun j h e => h (by rw [e])
    rw [← hl] at H2 hn2 hq ⊢
    have hBN : B.length = N := by omega
    rw [hN] at H1 H2 hn1 hn2 hq ⊢
    have HN1 := Lib.hid hN
    have HN2 := Lib.hid hBN
    clear h1 h2 hN hBN hl
    obtain ⟨W0, rfl⟩ : ∃ W0 : World, W0 = w := ⟨_, rfl⟩
    go_enter Try.func17, Try.ntmps17
    go_wp2
    go_loopw [5] (fun i wr => ∃ k : Nat, k ≤ N ∧ i = .int .i64 (k : Int) ∧ Hid (∀ j, j < k → tr A j = tr B j) ∧ Below W0.heap.size W0 wr) (fun i _ => N - (intOf i).toNat)
    case atStart => exact ⟨0, by omega, rfl, fun j hj => by omega, Below.refl _ _⟩
    case round =>
      obtain ⟨k, hk, rfl, HU, hB⟩ := hrel
      by_cases hlt : k < N
      · obtain ⟨b1, off1, cap3, e1, c0, c1, c2⟩ := (H1.out.below hB).at (k := k) (by rw [HN1.out]; exact hlt)
        obtain ⟨b2, off2, cap4, e2, d0, d1, d2⟩ := (H2.out.below hB).at (k := k) (by rw [HN2.out]; exact hlt)
        rw [HN1.out] at e1
        rw [HN2.out] at e2
        cases e1
        cases e2
        have HBq := Lib.hid hB
        have hq := fun W => neqT (tr A k) (tr B k) W
        unfold T.val at hq
        by_cases hx : tr A k = tr B k
        · rw [decide_eq_true hx] at hq
          have hq1 : ∀ W, (binOp .neq 40 (.agg #[.int .u32 (tr A k).phys, .int .u64 (tr A k).start, .int .u64 (tr A k).fin]) (.agg #[.int .u32 (tr B k).phys, .int .u64 (tr B k).start, .int .u64 (tr B k).fin])).run Try.prog W = .ok (.bool false) W := hq
          have HX := Lib.hid hx
          clear hx hq
          go_wp2
          go_quiet (fail)
          go_wp2
          go_roundw
          case rel => exact ⟨k + 1, by omega, by go_num, fun j hj => (by rcases Nat.lt_succ_iff_lt_or_eq.1 hj with h | h; exact HU.out j h; rw [h]; exact HX.out), below_drewN HBq.out _⟩
          case measure => simp [intOf]; omega
        · rw [decide_eq_false hx] at hq
          have hq1 : ∀ W, (binOp .neq 40 (.agg #[.int .u32 (tr A k).phys, .int .u64 (tr A k).start, .int .u64 (tr A k).fin]) (.agg #[.int .u32 (tr B k).phys, .int .u64 (tr B k).start, .int .u64 (tr B k).fin])).run Try.prog W = .ok (.bool true) W := hq
          have HX := Lib.hid (HNE.out k hx)
          clear hx hq
          go_wp2
          go_quiet (fail)
          go_wp2
          go_ret
          exact ⟨by rw [decide_eq_false HX.out]; rfl, below_drewN HBq.out _⟩
      · obtain rfl : k = N := by omega
        have HA := Lib.hid (HEQ.out HU.out)
        go_wp2
        go_ret
        exact ⟨by rw [decide_eq_true HA.out]; rfl, hB⟩
  · have hq : ((A.length : Int) != (B.length : Int)) = true := by simp; omega
    have HA : Hid (¬ A = B) := fun e => hl (by rw [e])
    clear h1 h2
    go_enter Try.func17, Try.ntmps17
    go_wp2
    go_ret
    exact ⟨by rw [decide_eq_false HA.out]; rfl, Below.refl _ _⟩
end
end Go.Proofs.Ythfcjbfldokanaa.Dat.R
