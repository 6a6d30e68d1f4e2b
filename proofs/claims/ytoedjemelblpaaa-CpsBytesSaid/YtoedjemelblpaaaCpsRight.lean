/- Right of the program; the place where a number stands. -/
import Derived.Test.YtoedjemelblpaaaCpsMem
namespace Go.Proofs.Ytoedjemelblpaaa.Cps
open Go.RowKit
attribute [local go_sem] Oper.semAt_some
set_option linter.unusedVariables false
set_option linter.unusedSimpArgs false

def fineB (c : C) : Bool := decide (fineP c)
section
set_option maxRecDepth 100000
set_option maxHeartbeats 2000000
theorem isWrong_any (c : C) (w : World) : Calls Try.prog 41 #[c.val] w (Ans w (.bool (!fineB c))) := by
  obtain ⟨n, ti, sn, ro⟩ := c
  have HB := below_new w (boxO ⟨n, ti, sn, ro⟩)
  unfold C.val
  unfold boxO at HB
  dsimp only at HB ⊢
  have go : ∀ (x : Bool), Hid (fineB ⟨n, ti, sn, ro⟩ = !x) → Calls Try.prog 41 #[.agg #[.int .u64 n, .int .u64 ti, .bool sn, .string ro]] w (Ans w (.bool x)) → Calls Try.prog 41 #[.agg #[.int .u64 n, .int .u64 ti, .bool sn, .string ro]] w (Ans w (.bool (!fineB ⟨n, ti, sn, ro⟩))) := fun x hb hc => by rw [hb.out, Bool.not_not]; exact hc
  by_cases h1 : n < 281474976710656
  · have g1 : ¬ (281474976710656 : Int) ≤ n := by omega
    have g1' : decide ((281474976710656 : Int) ≤ (n : Int)) = false := decide_eq_false g1
    by_cases h2 : ti < 281474976710656
    · have g2 : ¬ (281474976710656 : Int) ≤ ti := by omega
      have g2' : decide ((281474976710656 : Int) ≤ (ti : Int)) = false := decide_eq_false g2
      by_cases h3 : ro.size = 42
      · refine go false (decide_eq_true ⟨h1, h2, h3⟩) ?_
        have g3 : ((ro.size : Int) == 42) = true := by rw [h3]; rfl
        have g3' : ((ro.size : Int) != 42) = false := by rw [h3]; rfl
        clear go h1 h2 h3
        go_enter Try.func41, Try.ntmps41
        go_wp2
        go_ret
        exact ⟨rfl, HB⟩
      · refine go true (decide_eq_false fun h => h3 h.2.2) ?_
        have g3 : (ro.size == 42) = false := by simp [h3]
        have g3' : ((ro.size : Int) != 42) = true := by simp; omega
        clear go h1 h2 h3
        go_enter Try.func41, Try.ntmps41
        go_wp2
        go_ret
        exact ⟨rfl, HB⟩
    · refine go true (decide_eq_false fun h => h2 h.2.1) ?_
      have g2 : (281474976710656 : Int) ≤ ti := by omega
      have g2' : decide ((281474976710656 : Int) ≤ (ti : Int)) = true := decide_eq_true g2
      clear go h1 h2
      go_enter Try.func41, Try.ntmps41
      go_wp2
      go_ret
      exact ⟨rfl, HB⟩
  · refine go true (decide_eq_false fun h => h1 h.1) ?_
    have g1 : (281474976710656 : Int) ≤ n := by omega
    have g1' : decide ((281474976710656 : Int) ≤ (n : Int)) = true := decide_eq_true g1
    clear go h1
    go_enter Try.func41, Try.ntmps41
    go_wp2
    go_ret
    exact ⟨rfl, HB⟩

theorem right_any (v : Value) (L : List C) (w : World) (hL : Chs w v L) : Calls Try.prog 17 #[v] w (Ans w (.bool (rightB L))) := by
  have go : ∀ (x : Bool), Hid (rightB L = x) → Calls Try.prog 17 #[v] w (Ans w (.bool x)) → Calls Try.prog 17 #[v] w (Ans w (.bool (rightB L))) := fun x hb hc => by rw [hb.out]; exact hc
  obtain ⟨a, cap, rfl, hn, hm⟩ := hL.parts
  by_cases h1 : L.length ≤ 108
  · have HYes : Hid ((∀ j, j < L.length → stepP L j) → rightB L = true) := fun h => decide_eq_true ⟨h1, h⟩
    have HNo : Hid (∀ k, k < L.length → ¬ stepP L k → rightB L = false) := fun k hk hh => decide_eq_false fun h => hh (h.2 k hk)
    have HX := Lib.hid (fun s W => isWrong_any s W)
    unfold C.val at HX
    have HL := Lib.hid hL
    obtain ⟨N, hN⟩ : ∃ N, L.length = N := ⟨_, rfl⟩
    rw [hN] at HL HYes HNo hn h1 ⊢
    have HN := Lib.hid hN
    have g1 : ¬ (108 : Int) < N := by omega
    clear go hL hN
    obtain ⟨W0, rfl⟩ : ∃ W0 : World, W0 = w := ⟨_, rfl⟩
    go_enter Try.func17, Try.ntmps17
    go_wp2
    go_loopw [3, 5, 11] (fun p _ i wr => ∃ k : Nat, k ≤ N ∧ i = .int .i64 (k : Int) ∧ p = .int .u64 (prev L k) ∧ Hid (∀ j, j < k → stepP L j) ∧ Below W0.heap.size W0 wr) (fun _ _ i _ => N - (intOf i).toNat)
    case atStart => exact ⟨0, by omega, rfl, rfl, fun j hj => by omega, Below.refl _ _⟩
    case round =>
      obtain ⟨k, hk, rfl, rfl, HW, hB⟩ := hrel
      by_cases hlt : k < N
      · obtain ⟨b, off, cap2, e2, c0, c1, c2, c3⟩ := ((HL.out).below hB).at (k := k) (by rw [HN.out]; exact hlt)
        cases e2
        have hNO := HNo.out k hlt
        have hX := HX.out (ck L k)
        have hA := At.new wr (ck L k)
        have hB1 := below_al hB (boxO (ck L k))
        have hSU : stepP L k → Hid (∀ j, j < k + 1 → stepP L j) := fun hh j hj => by
          rcases Nat.lt_succ_iff_lt_or_eq.1 hj with h | h
          · exact HW.out j h
          · rw [h]; exact hh
        have hP : prev L (k + 1) = (ck L k).cp := rfl
        have hst : stepP L k ↔ prev L k < (ck L k).cp ∧ fineB (ck L k) = true := ⟨fun h => ⟨h.1, decide_eq_true h.2⟩, fun h => ⟨h.1, of_decide_eq_true h.2⟩⟩
        obtain ⟨p, hp⟩ : ∃ p, prev L k = p := ⟨_, rfl⟩
        obtain ⟨s, hs⟩ : ∃ s, ck L k = s := ⟨_, rfl⟩
        rw [hp] at hst
        rw [hs] at c0 c1 c2 c3 hX hA hB1 hP hst
        obtain ⟨d0, d1, d2, d3⟩ := hA.c
        have HB1 := Lib.hid hB1
        have HA := Lib.hid hA
        have HX1 := Lib.hid hX
        have HP := Lib.hid hP
        rw [hp]
        clear hs hA hB hB1 hX hP hp
        obtain ⟨n, ti, sn, ro⟩ := s
        unfold boxO at HB1 HA
        dsimp only at c0 c1 c2 c3 d0 d1 d2 d3 HA HB1 HX1 hst HP
        by_cases h2 : p < n
        · have g2 : ¬ (n : Int) ≤ (p : Int) := by omega
          have g2' : decide ((n : Int) ≤ (p : Int)) = false := decide_eq_false g2
          cases h3 : fineB ⟨n, ti, sn, ro⟩ with
          | true =>
            rw [h3] at HX1
            have HS := hSU (hst.2 ⟨h2, h3⟩)
            clear hNO hSU h2 h3 hst
            go_wp2_with (go_at_call 41; refine (HX1.out _).mono ?_; rintro e w' ⟨rfl, hB2⟩; obtain ⟨z0, z1, z2, z3⟩ := (HA.out.th hB2).c; dsimp only at z0 z1 z2 z3)
            go_roundw
            case rel => exact ⟨k + 1, by omega, by go_num, by rw [HP.out], HS, below_th HB1.out hB2⟩
            case measure => simp [intOf]; omega
          | false =>
            rw [h3] at HX1
            have HF := Lib.hid (hNO (fun h => by have := (hst.1 h).2; rw [h3] at this; cases this))
            clear hNO hSU h2 h3 hst
            go_wp2_with (go_at_call 41; refine (HX1.out _).mono ?_; rintro e w' ⟨rfl, hB2⟩; obtain ⟨z0, z1, z2, z3⟩ := (HA.out.th hB2).c; dsimp only at z0 z1 z2 z3)
            go_ret
            exact ⟨by rw [HF.out]; rfl, below_th HB1.out hB2⟩
        · have g2 : (n : Int) ≤ (p : Int) := by omega
          have g2' : decide ((n : Int) ≤ (p : Int)) = true := decide_eq_true g2
          have HF := Lib.hid (hNO (fun h => h2 (hst.1 h).1))
          clear hNO hSU h2 hst
          go_wp2
          go_ret
          exact ⟨by rw [HF.out]; rfl, HB1.out⟩
      · obtain rfl : N = k := by omega
        have HF := Lib.hid (HYes.out HW.out)
        go_wp2
        go_ret
        exact ⟨by rw [HF.out]; rfl, hB⟩
  · refine go false (decide_eq_false fun h => h1 h.1) ?_
    have g1 : (108 : Int) < (L.length : Int) := by omega
    obtain ⟨N, hN⟩ : ∃ N, L.length = N := ⟨_, rfl⟩
    rw [hN] at g1 hn ⊢
    clear go hL h1 hN
    go_enter Try.func17, Try.ntmps17
    go_wp2
    go_ret
    exact ⟨rfl, Below.refl _ _⟩
end
end Go.Proofs.Ytoedjemelblpaaa.Cps
