/- The document's Right, place, Find. -/
import Derived.Test.YtoedjemelblpaaaCpsShown
namespace Go.Proofs.Ytoedjemelblpaaa.Cps.R
open Go.RowKit
attribute [local go_sem] Oper.semAt_some
set_option linter.unusedVariables false
set_option linter.unusedSimpArgs false

section
set_option maxRecDepth 100000
set_option maxHeartbeats 4000000
theorem right_any (v : Value) (L : List C) (w : World) (hL : Chs w v L) : Calls Try.prog 18 #[v] w (Ans w (.bool (rightB L))) := by
  have go : ∀ (x : Bool), Hid (rightB L = x) → Calls Try.prog 18 #[v] w (Ans w (.bool x)) → Calls Try.prog 18 #[v] w (Ans w (.bool (rightB L))) := fun x hb hc => by rw [hb.out]; exact hc
  obtain ⟨a, cap, rfl, hn, hm⟩ := hL.parts
  by_cases h1 : L.length ≤ 108
  · have HYes : Hid ((∀ j, j < L.length → stepP L j) → rightB L = true) := fun h => decide_eq_true ⟨h1, h⟩
    have HNo : Hid (∀ k, k < L.length → ¬ stepP L k → rightB L = false) := fun k hk hh => decide_eq_false fun h => hh (h.2 k hk)
    have HL := Lib.hid hL
    obtain ⟨N, hN⟩ : ∃ N, L.length = N := ⟨_, rfl⟩
    rw [hN] at HL HYes HNo hn h1 ⊢
    have HN := Lib.hid hN
    have g1 : ¬ (108 : Int) < N := by omega
    clear go hL hN
    obtain ⟨W0, rfl⟩ : ∃ W0 : World, W0 = w := ⟨_, rfl⟩
    go_enter Try.func18, Try.ntmps18
    go_wp2
    go_loopw [3, 4] (fun p i wr => ∃ k : Nat, k ≤ N ∧ i = .int .i64 (k : Int) ∧ p = .int .u64 (prev L k) ∧ Hid (∀ j, j < k → stepP L j) ∧ Below W0.heap.size W0 wr) (fun _ i _ => N - (intOf i).toNat)
    case atStart => exact ⟨0, by omega, rfl, rfl, fun j hj => by omega, Below.refl _ _⟩
    case round =>
      obtain ⟨k, hk, rfl, rfl, HW, hB⟩ := hrel
      by_cases hlt : k < N
      · obtain ⟨b, off, cap2, e2, c0, c1, c2, c3⟩ := ((HL.out).below hB).at (k := k) (by rw [HN.out]; exact hlt)
        cases e2
        have hNO := HNo.out k hlt
        have hSU : stepP L k → Hid (∀ j, j < k + 1 → stepP L j) := fun hh j hj => by
          rcases Nat.lt_succ_iff_lt_or_eq.1 hj with h | h
          · exact HW.out j h
          · rw [h]; exact hh
        have hP : prev L (k + 1) = (ck L k).cp := rfl
        have hst : stepP L k ↔ prev L k < (ck L k).cp ∧ (ck L k).cp < 281474976710656 ∧ (ck L k).tick < 281474976710656 ∧ (ck L k).root.size = 42 := Iff.rfl
        obtain ⟨p, hp⟩ : ∃ p, prev L k = p := ⟨_, rfl⟩
        obtain ⟨s, hs⟩ : ∃ s, ck L k = s := ⟨_, rfl⟩
        rw [hp] at hst
        rw [hs] at c0 c1 c2 c3 hP hst
        have HP := Lib.hid hP
        have HB := Lib.hid hB
        rw [hp]
        clear hs hP hp hB
        obtain ⟨n, ti, sn, ro⟩ := s
        dsimp only at c0 c1 c2 c3 hst HP
        by_cases h2 : p < n
        · have g2 : decide ((n : Int) ≤ (p : Int)) = false := decide_eq_false (by omega)
          have g2n : decide (n ≤ p) = false := decide_eq_false (by omega)
          by_cases h3 : n < 281474976710656
          · have g3 : decide ((281474976710656 : Int) ≤ (n : Int)) = false := decide_eq_false (by omega)
            have g3n : decide (281474976710656 ≤ n) = false := decide_eq_false (by omega)
            by_cases h4 : ti < 281474976710656
            · have g4 : decide ((281474976710656 : Int) ≤ (ti : Int)) = false := decide_eq_false (by omega)
              have g4n : decide (281474976710656 ≤ ti) = false := decide_eq_false (by omega)
              by_cases h5 : ro.size = 42
              · have g5 : ((ro.size : Int) != 42) = false := by simp [h5]
                have g5n : (ro.size == 42) = true := by simp [h5]
                have g5b : ((ro.size : Int) == 42) = true := by rw [h5]; rfl
                have HS := hSU (hst.2 ⟨h2, h3, h4, h5⟩)
                clear hNO hSU h2 h3 h4 h5 hst
                go_wp2
                go_roundw
                case rel => exact ⟨k + 1, by omega, by go_num, by rw [HP.out], HS, HB.out⟩
                case measure => simp [intOf]; omega
              · have g5 : ((ro.size : Int) != 42) = true := by simp; omega
                have g5n : (ro.size == 42) = false := by simp [h5]
                have g5b : ((ro.size : Int) == 42) = false := by simp; omega
                have HF := Lib.hid (hNO (fun h => h5 (hst.1 h).2.2.2))
                clear hNO hSU h2 h3 h4 h5 hst
                go_wp2
                go_ret
                exact ⟨by rw [HF.out]; rfl, HB.out⟩
            · have g4 : decide ((281474976710656 : Int) ≤ (ti : Int)) = true := decide_eq_true (by omega)
              have g4n : decide (281474976710656 ≤ ti) = true := decide_eq_true (by omega)
              have HF := Lib.hid (hNO (fun h => h4 (hst.1 h).2.2.1))
              clear hNO hSU h2 h3 h4 hst
              go_wp2
              go_ret
              exact ⟨by rw [HF.out]; rfl, HB.out⟩
          · have g3 : decide ((281474976710656 : Int) ≤ (n : Int)) = true := decide_eq_true (by omega)
            have g3n : decide (281474976710656 ≤ n) = true := decide_eq_true (by omega)
            have HF := Lib.hid (hNO (fun h => h3 (hst.1 h).2.1))
            clear hNO hSU h2 h3 hst
            go_wp2
            go_ret
            exact ⟨by rw [HF.out]; rfl, HB.out⟩
        · have g2 : decide ((n : Int) ≤ (p : Int)) = true := decide_eq_true (by omega)
          have g2n : decide (n ≤ p) = true := decide_eq_true (by omega)
          have HF := Lib.hid (hNO (fun h => h2 (hst.1 h).1))
          clear hNO hSU h2 hst
          go_wp2
          go_ret
          exact ⟨by rw [HF.out]; rfl, HB.out⟩
      · obtain rfl : N = k := by omega
        have HF := Lib.hid (HYes.out HW.out)
        go_wp2
        go_ret
        exact ⟨by rw [HF.out]; rfl, hB⟩
  · refine go false (decide_eq_false fun h => h1 h.1) ?_
    have g1 : (108 : Int) < (L.length : Int) := by omega
    obtain ⟨N, hN⟩ : ∃ N, L.length = N := ⟨_, rfl⟩
    rw [hN] at g1 hn ⊢
    clear go hL h1 hN
    go_enter Try.func18, Try.ntmps18
    go_wp2
    go_ret
    exact ⟨rfl, Below.refl _ _⟩
theorem place_any (v : Value) (L : List C) (cp : Nat) (w : World) (hL : Chs w v L) : Calls Try.prog 40 #[v, .int .u64 cp] w (Ans w (.int .i64 (idxI L cp))) := by
  obtain ⟨a, cap, rfl, hn, hm⟩ := hL.parts
  have HYes : Hid (∀ k, k < L.length → isB cp (ck L k) = true → (∀ j, j < k → isB cp (ck L j) = false) → idxI L cp = k) := fun k hk h1 h2 => by
    have := at_of hk (of_decide_eq_true h1) (fun j hj => of_decide_eq_false (h2 j hj))
    unfold idxI
    rw [this, if_pos hk]
  have HNo : Hid ((∀ j, j < L.length → isB cp (ck L j) = false) → idxI L cp = -1) := fun h => by
    have := at_none (fun j hj => of_decide_eq_false (h j hj))
    unfold idxI
    rw [this, if_neg (by omega)]
  have HL := Lib.hid hL
  obtain ⟨r, hr⟩ : ∃ r, idxI L cp = r := ⟨_, rfl⟩
  rw [hr] at HNo
  simp only [hr] at HYes
  obtain ⟨N, hN⟩ : ∃ N, L.length = N := ⟨_, rfl⟩
  rw [hN] at HL HYes HNo hn ⊢
  have HN := Lib.hid hN
  rw [hr]
  clear hL hN hr
  obtain ⟨W0, rfl⟩ : ∃ W0 : World, W0 = w := ⟨_, rfl⟩
  go_enter Try.func40, Try.ntmps40
  go_wp2
  go_loopw [5] (fun i wr => ∃ k : Nat, k ≤ N ∧ i = .int .i64 (k : Int) ∧ Hid (∀ j, j < k → isB cp (ck L j) = false) ∧ Below W0.heap.size W0 wr) (fun i _ => N - (intOf i).toNat)
  case atStart => exact ⟨0, by omega, rfl, fun j hj => by omega, Below.refl _ _⟩
  case round =>
    obtain ⟨k, hk, rfl, HW, hB⟩ := hrel
    by_cases hlt : k < N
    · obtain ⟨b1, off, cap2, e2, c0, c1, c2, c3⟩ := ((HL.out).below hB).at (k := k) (by rw [HN.out]; exact hlt)
      cases e2
      have HBq := Lib.hid hB
      cases h1 : isB cp (ck L k) with
      | false =>
        have hne : ¬ (ck L k).cp = cp := of_decide_eq_false h1
        have g1 : ((ck L k).cp == cp) = false := by simp [hne]
        have g1' : (((ck L k).cp : Int) == (cp : Int)) = false := by simp; omega
        have HS : Hid (∀ j, j < k + 1 → isB cp (ck L j) = false) := fun j hj => by
          rcases Nat.lt_succ_iff_lt_or_eq.1 hj with h | h
          · exact HW.out j h
          · rw [h]; exact h1
        clear h1 hne
        generalize ck L k = s at c0 c1 c2 c3 g1 g1'
        go_wp2
        go_roundw
        case rel => exact ⟨k + 1, by omega, by go_num, HS.out, HBq.out⟩
        case measure => simp [intOf]; omega
      | true =>
        have HY := Lib.hid (HYes.out k hlt h1 HW.out)
        have hne : (ck L k).cp = cp := of_decide_eq_true h1
        have g1 : ((ck L k).cp == cp) = true := by simp [hne]
        have g1' : (((ck L k).cp : Int) == (cp : Int)) = true := by simp [hne]
        clear h1 hne
        generalize ck L k = s at c0 c1 c2 c3 g1 g1'
        go_wp2
        go_ret
        exact ⟨by rw [HY.out]; rfl, HBq.out⟩
    · obtain rfl : N = k := by omega
      have HY := Lib.hid (HNo.out HW.out)
      go_wp2
      go_ret
      exact ⟨by rw [HY.out]; rfl, hB⟩
theorem Find_any (v : Value) (L : List C) (cp : Nat) (w : World) (hL : Chs w v L) : Calls Try.prog 16 #[v, .int .u64 cp] w (Ans w (.tuple #[(fndC L cp).val, .int .i64 (fndE L cp)])) := by
  obtain ⟨a, cap, rfl, hn, hm⟩ := hL.parts
  have hA := At.newZ w
  have HB0 := Lib.hid (below_new w boxZ)
  have hAA := Lib.hid (fun W (h : Below (w.alloc boxZ).heap.size (w.alloc boxZ) W) => hA.th h)
  have hR := fun W (h : Below w.heap.size w W) => right_any _ L W (hL.below h)
  have hP := fun W (h : Below w.heap.size w W) => place_any _ L cp W (hL.below h)
  obtain ⟨N, hN⟩ : ∃ N, L.length = N := ⟨_, rfl⟩
  by_cases hr : RightP L
  · rw [rightB_yes hr] at hR
    by_cases h1 : at_ L cp < L.length
    · obtain ⟨q1, q2, q3⟩ := fnd_yes hr h1
      have hi0 : idxI L cp = at_ L cp := if_pos h1
      rw [q1, q3]
      obtain ⟨i, hi⟩ : ∃ i, at_ L cp = i := ⟨_, rfl⟩
      rw [hi] at h1 hi0 ⊢
      simp only [hi0] at hP
      obtain ⟨b, off, cap2, e2, _⟩ := hL.at h1
      cases e2
      have HX := Lib.hid (fun W (h : Below w.heap.size w W) => (hL.below h).get rfl h1)
      obtain ⟨y, hy⟩ : ∃ y, ck L i = y := ⟨_, rfl⟩
      rw [hy] at HX ⊢
      rw [hN] at hR hP hn h1 ⊢
      have HR := Lib.hid hR
      have HP := Lib.hid hP
      have g1 : ¬ (i : Int) < 0 := by omega
      have g2 : (0 : Int) ≤ (i : Int) := by omega
      have g3 : (i : Int) < (N : Int) := by omega
      clear hR hP hL hN hA hr hi hy q1 q2 q3 hi0
      unfold boxZ at HB0 hAA
      unfold Reads at HX
      go_enter Try.func16, Try.ntmps16
      go_wp2_with (first
        | (go_at_call 18; (with_reducible refine Calls.mono (HR.out _ HB0.out) ?_); rintro e w1 ⟨rfl, hB1⟩)
        | (go_at_call 40; (with_reducible refine Calls.mono (HP.out _ (below_th HB0.out hB1)) ?_); rintro e w2 ⟨rfl, hB2⟩; obtain ⟨c0, c1, c2, c3⟩ := HX.out _ (below_th HB0.out (below_th hB1 hB2)); have hA2 := hAA.out _ (below_th hB1 hB2); obtain ⟨k0, k1, k2, k3⟩ := hA2.put4k y; obtain ⟨a0, a1, a2, a3⟩ := hA2.cZ; have f0 := hA2.f 0; have f1 := hA2.f 1; have f2 := hA2.f 2; have f3 := hA2.f 3; obtain ⟨hAp, hBp⟩ := hA2.put4 y; have HAp := Lib.hid hAp; have HBp := Lib.hid hBp; clear hAp hBp hA2))
      refine bodyPost_ret (results_ce rfl _ _ rfl HAp.out) rfl ?_
      exact ⟨rfl, (below_th HB0.out (below_th hB1 hB2)).trans HBp.out⟩
    · obtain ⟨q1, q2, q3⟩ := fnd_none hr h1
      have HF : Hid (∀ W, Below w.heap.size w W → Ans w (.tuple #[(fndC L cp).val, .int .i64 (fndE L cp)]) (.returned (.tuple #[C.zero.val, .int .i64 92])) W) := fun W h => ⟨by rw [q1, q3], h⟩
      have hi0 : idxI L cp = -1 := if_neg h1
      simp only [hi0] at hP
      rw [hN] at hR hP hn ⊢
      have HR := Lib.hid hR
      have HP := Lib.hid hP
      clear hR hP hL hN hA hr q1 q2 q3 hi0 h1
      unfold boxZ at HB0 hAA
      go_enter Try.func16, Try.ntmps16
      go_wp2_with (first
        | (go_at_call 18; (with_reducible refine Calls.mono (HR.out _ HB0.out) ?_); rintro e w1 ⟨rfl, hB1⟩)
        | (go_at_call 40; (with_reducible refine Calls.mono (HP.out _ (below_th HB0.out hB1)) ?_); rintro e w2 ⟨rfl, hB2⟩; have hA2 := hAA.out _ (below_th hB1 hB2); obtain ⟨k0, k1, k2, k3, hAp, hBp⟩ := hA2.putZ; obtain ⟨a0, a1, a2, a3⟩ := hA2.cZ; have f0 := hA2.f 0; have f1 := hA2.f 1; have f2 := hA2.f 2; have f3 := hA2.f 3; have HAp := Lib.hid hAp; have HBp := Lib.hid hBp; clear hAp hBp hA2))
      refine bodyPost_ret (results_ce rfl _ _ rfl HAp.out) rfl ?_
      exact HF.out _ ((below_th HB0.out (below_th hB1 hB2)).trans HBp.out)
  · rw [rightB_no hr] at hR
    obtain ⟨q1, q2, q3⟩ := fnd_no (cp := cp) hr
    have HF : Hid (∀ W, Below w.heap.size w W → Ans w (.tuple #[(fndC L cp).val, .int .i64 (fndE L cp)]) (.returned (.tuple #[C.zero.val, .int .i64 90])) W) := fun W h => ⟨by rw [q1, q3], h⟩
    rw [hN] at hR hn ⊢
    have HR := Lib.hid hR
    clear hR hP hL hN hA hr q1 q2 q3
    unfold boxZ at HB0 hAA
    go_enter Try.func16, Try.ntmps16
    go_wp2_with (go_at_call 18; (with_reducible refine Calls.mono (HR.out _ HB0.out) ?_); rintro e w1 ⟨rfl, hB1⟩; have hA2 := hAA.out _ hB1; obtain ⟨k0, k1, k2, k3, hAp, hBp⟩ := hA2.putZ; obtain ⟨a0, a1, a2, a3⟩ := hA2.cZ; have f0 := hA2.f 0; have f1 := hA2.f 1; have f2 := hA2.f 2; have f3 := hA2.f 3; have HAp := Lib.hid hAp; have HBp := Lib.hid hBp; clear hAp hBp hA2)
    refine bodyPost_ret (results_ce rfl _ _ rfl HAp.out) rfl ?_
    exact HF.out _ ((below_th HB0.out hB1).trans HBp.out)
end
end Go.Proofs.Ytoedjemelblpaaa.Cps.R
