/- Where a number stands, and what is found, of the program. -/
import Derived.Test.YtoedjemelblpaaaCpsOwn
namespace Go.Proofs.Ytoedjemelblpaaa.Cps
open Go.RowKit
attribute [local go_sem] Oper.semAt_some
set_option linter.unusedVariables false
set_option linter.unusedSimpArgs false

def idxI (L : List C) (cp : Nat) : Int := if at_ L cp < L.length then (at_ L cp : Int) else -1
section
set_option maxRecDepth 100000
set_option maxHeartbeats 2000000
theorem find1_any (c : C) (cp b : Nat) (w : World) (hb : w.cell? ⟨b, 0, none⟩ = some (.int .u64 cp)) : Calls Try.prog 59 #[c.val, .pointer (some ⟨b, 0, none⟩)] w (Ans w (.bool (isB cp c))) := by
  have HB := below_new w (boxO c)
  have hlt := World.block_lt_of_cell? _ _ hb
  have d0 : (w.alloc (boxO c)).cell? ⟨b, 0, none⟩ = some (.int .u64 cp) := (HB.cell (p := ⟨b, 0, none⟩) hlt).trans hb
  obtain ⟨x, hx⟩ : ∃ x, isB cp c = x := ⟨_, rfl⟩
  have hq : ((c.cp : Int) == (cp : Int)) = x := by
    rw [← hx]
    unfold isB
    rw [Bool.eq_iff_iff, decide_eq_true_iff]
    simp
    omega
  rw [hx]
  clear hb hlt hx
  obtain ⟨n, ti, sn, ro⟩ := c
  unfold C.val
  unfold boxO at HB d0
  dsimp only at HB d0 hq ⊢
  have HBB := Lib.hid HB
  cases x with
  | true =>
    have hq' : (n == cp) = true := by simp at hq ⊢; omega
    go_enter Try.func59, Try.ntmps59
    go_wp2
    go_ret
    exact ⟨rfl, HBB.out⟩
  | false =>
    have hq' : (n == cp) = false := by simp at hq ⊢; omega
    go_enter Try.func59, Try.ntmps59
    go_wp2
    go_ret
    exact ⟨rfl, HBB.out⟩
theorem index_any (v : Value) (L : List C) (cp b : Nat) (w : World) (hL : Chs w v L) (hb : w.cell? ⟨b, 0, none⟩ = some (.int .u64 cp)) :
    Calls Try.prog 58 #[v, .func (.func 59) #[] #[.pointer (some ⟨b, 0, none⟩)]] w (Ans w (.int .i64 (idxI L cp))) := by
  obtain ⟨a, cap, rfl, hn, hm⟩ := hL.parts
  have hlt := World.block_lt_of_cell? _ _ hb
  have HYes : Hid (∀ k, k < L.length → isB cp (ck L k) = true → (∀ j, j < k → isB cp (ck L j) = false) → idxI L cp = k) := fun k hk h1 h2 => by
    have := at_of hk (of_decide_eq_true h1) (fun j hj => of_decide_eq_false (h2 j hj))
    unfold idxI
    rw [this, if_pos hk]
  have HNo : Hid ((∀ j, j < L.length → isB cp (ck L j) = false) → idxI L cp = -1) := fun h => by
    have := at_none (fun j hj => of_decide_eq_false (h j hj))
    unfold idxI
    rw [this, if_neg (by omega)]
  have HL := Lib.hid hL
  have HX := Lib.hid (fun s W (h : Below w.heap.size w W) => find1_any s cp b W ((h.cell (p := ⟨b, 0, none⟩) hlt).trans hb))
  unfold C.val at HX
  obtain ⟨r, hr⟩ : ∃ r, idxI L cp = r := ⟨_, rfl⟩
  rw [hr] at HNo
  simp only [hr] at HYes
  obtain ⟨N, hN⟩ : ∃ N, L.length = N := ⟨_, rfl⟩
  rw [hN] at HL HYes HNo hn ⊢
  have HN := Lib.hid hN
  rw [hr]
  clear hL hN hb hlt hr
  obtain ⟨W0, rfl⟩ : ∃ W0 : World, W0 = w := ⟨_, rfl⟩
  go_enter Try.func58, Try.ntmps58
  go_wp2
  go_loopw [5, 8] (fun _ i wr => ∃ k : Nat, k ≤ N ∧ i = .int .i64 (k : Int) ∧ Hid (∀ j, j < k → isB cp (ck L j) = false) ∧ Below W0.heap.size W0 wr) (fun _ i _ => N - (intOf i).toNat)
  case atStart => exact ⟨0, by omega, rfl, fun j hj => by omega, Below.refl _ _⟩
  case round =>
    obtain ⟨k, hk, rfl, HW, hB⟩ := hrel
    by_cases hlt : k < N
    · obtain ⟨b1, off, cap2, e2, c0, c1, c2, c3⟩ := ((HL.out).below hB).at (k := k) (by rw [HN.out]; exact hlt)
      cases e2
      have HBq := Lib.hid hB
      cases h1 : isB cp (ck L k) with
      | false =>
        go_wp2_with (go_at_call 59; refine (HX.out (ck L k) _ HBq.out).mono ?_; rintro e w' ⟨rfl, hB1⟩; simp only [h1])
        go_roundw
        case rel => exact ⟨k + 1, by omega, by go_num, fun j hj => (by rcases Nat.lt_succ_iff_lt_or_eq.1 hj with h | h; exact HW.out j h; rw [h]; exact h1), below_th HBq.out hB1⟩
        case measure => simp [intOf]; omega
      | true =>
        have HY := Lib.hid (HYes.out k hlt h1 HW.out)
        go_wp2_with (go_at_call 59; refine (HX.out (ck L k) _ HBq.out).mono ?_; rintro e w' ⟨rfl, hB1⟩; simp only [h1])
        go_ret
        exact ⟨by rw [HY.out]; rfl, below_th HBq.out hB1⟩
    · obtain rfl : N = k := by omega
      have HY := Lib.hid (HNo.out HW.out)
      go_wp2
      go_ret
      exact ⟨by rw [HY.out]; rfl, hB⟩
theorem find_any (v : Value) (L : List C) (cp : Nat) (w : World) (hL : Chs w v L) : Calls Try.prog 38 #[v, .int .u64 cp] w (Ans w (.tuple #[.int .i64 (fndP L cp : Nat), .int .i64 (fndE L cp)])) := by
  obtain ⟨a, cap, rfl, hn, hm⟩ := hL.parts
  have HB0 := Lib.hid (below_new w (.cells #[.int .u64 cp] 23))
  have hc : ∀ W, Below (w.alloc (.cells #[.int .u64 cp] 23)).heap.size (w.alloc (.cells #[.int .u64 cp] 23)) W → W.cell? ⟨w.heap.size, 0, none⟩ = some (.int .u64 cp) := fun W h => (h.cell (p := ⟨w.heap.size, 0, none⟩) (by simp)).trans (by have := World.alloc_heap_new w (.cells #[.int .u64 cp] 23); simp only [World.cell?, this]; rfl)
  have hR := fun W (h : Below w.heap.size w W) => right_any _ L W (hL.below h)
  have hI := fun W (h : Below (w.alloc (.cells #[.int .u64 cp] 23)).heap.size (w.alloc (.cells #[.int .u64 cp] 23)) W) => index_any _ L cp w.heap.size W (hL.below (below_th HB0.out h)) (hc W h)
  obtain ⟨N, hN⟩ : ∃ N, L.length = N := ⟨_, rfl⟩
  by_cases hr : RightP L
  · rw [rightB_yes hr] at hR
    by_cases h1 : at_ L cp < L.length
    · have hi : idxI L cp = at_ L cp := if_pos h1
      have HF : Hid (∀ W, Below w.heap.size w W → Ans w (.tuple #[.int .i64 (fndP L cp : Nat), .int .i64 (fndE L cp)]) (.returned (.tuple #[.int .i64 (at_ L cp : Nat), .int .i64 0])) W) := fun W h => ⟨by rw [(fnd_yes hr h1).1, (fnd_yes hr h1).2.1], h⟩
      obtain ⟨i, hii⟩ : ∃ i, at_ L cp = i := ⟨_, rfl⟩
      rw [hii] at hi HF
      simp only [hi] at hI
      rw [hN] at hR hI hn ⊢
      have HR := Lib.hid hR
      have HI := Lib.hid hI
      have g1 : ¬ (i : Int) < 0 := by omega
      clear hR hI hL hr hN h1 hi hii hc
      go_enter Try.func38, Try.ntmps38
      go_wp2_with (first
        | (go_at_call 17; (with_reducible refine Calls.mono (HR.out _ HB0.out) ?_); rintro e w1 ⟨rfl, hB1⟩)
        | (go_at_call 58; (with_reducible refine Calls.mono (HI.out _ hB1) ?_); rintro e w2 ⟨rfl, hB2⟩))
      go_returns
      exact HF.out _ (below_th HB0.out (below_th hB1 hB2))
    · have hi : idxI L cp = -1 := if_neg h1
      have HF : Hid (∀ W, Below w.heap.size w W → Ans w (.tuple #[.int .i64 (fndP L cp : Nat), .int .i64 (fndE L cp)]) (.returned (.tuple #[.int .i64 0, .int .i64 92])) W) := fun W h => ⟨by rw [(fnd_none hr h1).1, (fnd_none hr h1).2.1]; rfl, h⟩
      simp only [hi] at hI
      rw [hN] at hR hI hn ⊢
      have HR := Lib.hid hR
      have HI := Lib.hid hI
      clear hR hI hL hr hN h1 hi hc
      go_enter Try.func38, Try.ntmps38
      go_wp2_with (first
        | (go_at_call 17; (with_reducible refine Calls.mono (HR.out _ HB0.out) ?_); rintro e w1 ⟨rfl, hB1⟩)
        | (go_at_call 58; (with_reducible refine Calls.mono (HI.out _ hB1) ?_); rintro e w2 ⟨rfl, hB2⟩))
      go_returns
      exact HF.out _ (below_th HB0.out (below_th hB1 hB2))
  · rw [rightB_no hr] at hR
    have HF : Hid (∀ W, Below w.heap.size w W → Ans w (.tuple #[.int .i64 (fndP L cp : Nat), .int .i64 (fndE L cp)]) (.returned (.tuple #[.int .i64 0, .int .i64 90])) W) := fun W h => ⟨by rw [(fnd_no hr).1, (fnd_no hr).2.1]; rfl, h⟩
    rw [hN] at hR hn ⊢
    have HR := Lib.hid hR
    clear hR hI hL hr hN hc
    go_enter Try.func38, Try.ntmps38
    go_wp2_with (go_at_call 17; (with_reducible refine Calls.mono (HR.out _ HB0.out) ?_); rintro e w1 ⟨rfl, hB1⟩)
    go_returns
    exact HF.out _ (below_th HB0.out hB1)
theorem Find_any (v : Value) (L : List C) (cp : Nat) (w : World) (hL : Chs w v L) : Calls Try.prog 15 #[v, .int .u64 cp] w (Ans w (.tuple #[(fndC L cp).val, .int .i64 (fndE L cp)])) := by
  obtain ⟨a, cap, rfl, hn, hm⟩ := hL.parts
  have hA := At.newZ w
  have HB0 := Lib.hid (below_new w boxZ)
  have hAA := Lib.hid (fun W (h : Below (w.alloc boxZ).heap.size (w.alloc boxZ) W) => hA.th h)
  have hf := fun W (h : Below w.heap.size w W) => find_any _ L cp W (hL.below h)
  obtain ⟨N, hN⟩ : ∃ N, L.length = N := ⟨_, rfl⟩
  have no : ∀ n : Int, ¬ n = 0 → fndE L cp = n → fndC L cp = C.zero → Calls Try.prog 15 #[.slice a L.length cap, .int .u64 cp] w (Ans w (.tuple #[(fndC L cp).val, .int .i64 (fndE L cp)])) := fun n hn0 hE hC => by
    have HF : Hid (∀ W, Below w.heap.size w W → Ans w (.tuple #[(fndC L cp).val, .int .i64 (fndE L cp)]) (.returned (.tuple #[C.zero.val, .int .i64 n])) W) := fun W h => ⟨by rw [hE, hC], h⟩
    rw [hE] at hf
    have g1 : (n == 0) = false := by simp [hn0]
    have g2 : (n != 0) = true := by simp [hn0]
    rw [hN] at hf hn ⊢
    have HFD := Lib.hid hf
    generalize fndP L cp = i at HFD
    clear hf hL hN hA hn0 hE hC
    unfold boxZ at HB0 hAA
    go_enter Try.func15, Try.ntmps15
    go_wp2_with (go_at_call 38; (with_reducible refine Calls.mono (HFD.out _ HB0.out) ?_); rintro e w1 ⟨rfl, hB1⟩; have hA2 := hAA.out _ hB1; obtain ⟨k0, k1, k2, k3, hAp, hBp⟩ := hA2.putZ; obtain ⟨a0, a1, a2, a3⟩ := hA2.cZ; have f0 := hA2.f 0; have f1 := hA2.f 1; have f2 := hA2.f 2; have f3 := hA2.f 3; have HAp := Lib.hid hAp; have HBp := Lib.hid hBp; clear hAp hBp hA2)
    refine bodyPost_ret (results_ce rfl _ _ rfl HAp.out) rfl ?_
    exact HF.out _ ((below_th HB0.out hB1).trans HBp.out)
  by_cases hr : RightP L
  · by_cases h1 : at_ L cp < L.length
    · obtain ⟨q1, q2, q3⟩ := fnd_yes hr h1
      rw [q1, q2] at hf
      rw [q1, q3]
      have hsz := (hr.fine h1).2.2
      obtain ⟨i, hi⟩ : ∃ i, at_ L cp = i := ⟨_, rfl⟩
      rw [hi] at hf h1 hsz ⊢
      obtain ⟨b, off, cap2, e2, _⟩ := hL.at h1
      cases e2
      have HX := Lib.hid (fun W (h : Below w.heap.size w W) => (hL.below h).get rfl h1)
      have HO := Lib.hid (fun W => own_any (ck L i) W (by omega))
      obtain ⟨y, hy⟩ : ∃ y, ck L i = y := ⟨_, rfl⟩
      rw [hy] at HX HO ⊢
      rw [hN] at hf hn h1 ⊢
      have HFD := Lib.hid hf
      clear hf hL hN hA hr no hsz hi hy q1 q2 q3
      unfold boxZ at HB0 hAA
      unfold Reads at HX
      unfold C.val at HO
      go_enter Try.func15, Try.ntmps15
      go_wp2_with (first
        | (go_at_call 38; (with_reducible refine Calls.mono (HFD.out _ HB0.out) ?_); rintro e w1 ⟨rfl, hB1⟩; obtain ⟨c0, c1, c2, c3⟩ := HX.out _ (below_th HB0.out hB1))
        | (go_at_call 39; (with_reducible refine Calls.mono (HO.out _) ?_); rintro e w2 ⟨rfl, hB2⟩; have hA2 := hAA.out _ (below_th hB1 hB2); obtain ⟨k0, k1, k2, k3⟩ := hA2.put4k y; obtain ⟨a0, a1, a2, a3⟩ := hA2.cZ; have f0 := hA2.f 0; have f1 := hA2.f 1; have f2 := hA2.f 2; have f3 := hA2.f 3; obtain ⟨hAp, hBp⟩ := hA2.put4 y; have HAp := Lib.hid hAp; have HBp := Lib.hid hBp; clear hAp hBp hA2))
      refine bodyPost_ret (results_ce rfl _ _ rfl HAp.out) rfl ?_
      exact ⟨rfl, (below_th HB0.out (below_th hB1 hB2)).trans HBp.out⟩
    · obtain ⟨q1, q2, q3⟩ := fnd_none hr h1
      exact no 92 (by decide) q1 q3
  · obtain ⟨q1, q2, q3⟩ := fnd_no (cp := cp) hr
    exact no 90 (by decide) q1 q3
end
end Go.Proofs.Ytoedjemelblpaaa.Cps
