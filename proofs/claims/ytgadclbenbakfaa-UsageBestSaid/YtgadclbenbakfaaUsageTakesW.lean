/- UsageTakes, walked. -/
import Derived.Test.YtgadclbenbakfaaUsageSetsW
namespace Go.Proofs.Ytgadclbenbakfaa.Usage
open Go.RowKit
attribute [local go_sem] Oper.semAt_some
set_option linter.unusedVariables false

def ACT : S := ⟨0, 0, 2⟩
theorem right_set {L : List S} {i : Nat} {s : S} (h : RightP L) (hi : i < L.length) (hs : oneP s) (h0 : (seg (L.set i s) 0).state = 1) : RightP (L.set i s) :=
  ⟨by rw [List.length_set]; exact h.1, by rw [List.length_set]; exact h.2.1, h0, fun x hx => by
    rcases List.mem_or_eq_of_mem_set hx with h1 | h1
    · exact h.2.2.2 x h1
    · rw [h1]; exact hs⟩
theorem right_act {L : List S} {i : Nat} (h : RightP L) (hi : i < L.length) (hc : (seg L i).state = 0) : RightP (L.set i ACT) := by
  refine right_set h hi (by decide) ?_
  have hne : ¬ (0 = i) := fun e => by
    have := h.2.2.1
    rw [e, hc] at this
    exact absurd this (by decide)
  rw [seg_set _ hi, if_neg hne]
  exact h.2.2.1
/-- what may be set is set -/
theorem set_ok (v : Value) (L : List S) (i : Nat) (s : S) (w : World) (hL : Segs w v L) (h : RightP L) (hi : i < L.length) (hr : RightP (L.set i s)) :
    Calls Try.prog 18 #[v, .int .i64 i, s.val] w fun e w' => ∃ b off cap, e = .returned (.tuple #[.slice (some ⟨b, off, none⟩) L.length cap, .int .i64 0]) ∧ Segs w' (.slice (some ⟨b, off, none⟩) L.length cap) (L.set i s) ∧ Below w.heap.size w w' := by
  have hok : setOk L (i : Int) s := ⟨by omega, h, by rw [Int.toNat_natCast]; exact hr⟩
  refine (set_any v L i s w hL).mono fun e w' hh => ?_
  obtain ⟨v1, h1, h2, h3⟩ := hh
  unfold setV at h2
  unfold setE at h1
  rw [if_pos hok, Int.toNat_natCast] at h2
  rw [if_pos (by omega), if_pos hok] at h1
  obtain ⟨b, off, cap, rfl, _⟩ := h2.at (k := 0) (by rw [List.length_set]; omega)
  rw [List.length_set] at h1 h2
  exact ⟨b, off, cap, h1, h2, h3⟩
/-- what stands, when k have been taken -/
def TakI (W0 : World) (n N : Nat) (k : Nat) (v f : Value) (W : World) : Prop :=
  ∃ b off cap i X, v = .slice (some ⟨b, off, none⟩) N cap ∧ f = .int .i64 ((i : Nat) : Int) ∧ i < N ∧ X.length = N ∧ RightP X ∧ cleanN X + k = n ∧ Segs W (.slice (some ⟨b, off, none⟩) N cap) X ∧ Below W0.heap.size W0 W
section
set_option maxRecDepth 100000
set_option maxHeartbeats 4000000
theorem UsageTakes_walk (v : Value) (L : List S) (from_ : Int) (w : World) (hL : Segs w v L) (wL : ∀ o ∈ L, SOk o) (k1 : (Lit.int .i64 from_).wf = true) :
    Calls Try.prog 7 #[v, .int .i64 from_] w fun e w' => e = .returned (.bool true) ∧ Below w.heap.size w w' := by
  clear wL k1
  obtain ⟨a, cap, rfl, hn, hm⟩ := hL.parts
  obtain ⟨W0, rfl⟩ : ∃ W0 : World, W0 = w := ⟨_, rfl⟩
  have hb := Below.refl W0.heap.size W0
  rcases Nat.lt_or_ge 300 L.length with h300 | h300
  · have h3 : (300 : Int) < (L.length : Int) := by omega
    have hT := hL.take (K := 300) (by omega)
    have hR := fun W (h : Segs W (.slice a 300 cap) (L.take 300)) => right_any _ _ W h
    have hno : ¬ RightP (L.take 300) := fun h => by have := h.2.1; rw [List.length_take] at this; omega
    rw [show rightB (L.take 300) = false from decide_eq_false hno] at hR
    unfold Ans at hR
    have HR := Lib.hid hR
    have HT := Lib.hid hT
    clear hR hT hno hL
    go_enter Try.func7, Try.ntmps7
    go_wp2_with (first
      | (go_at_call 9; refine (shown_any _).mono ?_; rintro e w1 ⟨rfl, hB1⟩; have hb := below_th hb hB1)
      | (go_at_call 12; with_reducible refine Calls.mono (HR.out _ (HT.out.below hb)) ?_; rintro e w1 ⟨rfl, hB1⟩; have hb := below_th hb hB1))
    go_ret
    exact ⟨by simp, hb⟩
  · have h3 : ¬ (300 : Int) < (L.length : Int) := by omega
    have hR := fun W (h : Segs W (.slice a L.length cap) L) => right_any _ _ W h
    by_cases hr : RightP L
    · rw [show rightB L = true from decide_eq_true hr] at hR
      unfold Ans at hR
      have HR := Lib.hid hR
      have HT := Lib.hid hL
      by_cases hf0 : 0 ≤ from_
      · by_cases hf1 : from_ < L.length
        · obtain ⟨f, rfl⟩ := Int.eq_ofNat_of_zero_le hf0
          obtain ⟨b, off, cap2, e2, _⟩ := hL.at (k := 0) (by have := hr.1; omega)
          cases e2
          have hC := fun W (h : Segs W (.slice (some ⟨b, off, none⟩) L.length cap) L) => cleanOnes_any _ _ W h (by omega)
          obtain ⟨n, hn2⟩ : ∃ n, cleanN L = n := ⟨_, rfl⟩
          rw [hn2] at hC
          unfold Ans at hC
          have HC := Lib.hid hC
          have hst : ∀ W, Below W0.heap.size W0 W → TakI W0 n L.length 0 (.slice (some ⟨b, off, none⟩) L.length cap) (.int .i64 f) W := fun W h => ⟨b, off, cap, f, L, rfl, rfl, by omega, rfl, hr, by omega, hL.below h, h⟩
          have HST := Lib.hid hst
          have hnl := cleanN_le L
          rw [hn2] at hnl
          obtain ⟨N, hN⟩ : ∃ N, L.length = N := ⟨_, rfl⟩
          rw [hN] at HR HT HC HST hn hnl h300 h3 hf1 ⊢
          clear hR hL hr hC hst hn2 hN
          go_enter Try.func7, Try.ntmps7
          go_wp2_with (first
            | (go_at_call 9; refine (shown_any _).mono ?_; rintro e w1 ⟨rfl, hB1⟩; have hb := below_th hb hB1)
            | (go_at_call 12; with_reducible refine Calls.mono (HR.out _ (HT.out.below hb)) ?_; rintro e w1 ⟨rfl, hB1⟩; have hb := below_th hb hB1)
            | (go_at_call 14; with_reducible refine Calls.mono (HC.out _ (HT.out.below hb)) ?_; rintro e w1 ⟨rfl, hB1⟩; have hb := below_th hb hB1))
          have hst := HST.out _ hb
          go_loopw [0, 1, 7] (fun v f i wr => ∃ k : Nat, k ≤ n ∧ i = .int .i64 (k : Int) ∧ Hid (TakI W0 n N k v f wr)) (fun _ _ i _ => n - (intOf i).toNat)
          case atStart => exact ⟨0, by omega, rfl, hst⟩
          case round =>
            obtain ⟨k, hk, rfl, HI⟩ := hrel
            obtain ⟨b2, off2, cap2, f2, X, rfl, rfl, hfN, hXl, hXr, hXc, hXs, hB⟩ := HI.out
            have hNx := fun W (h : Segs W (.slice (some ⟨b2, off2, none⟩) N cap2) X) => next_any _ X f2 W h (by omega)
            have hcap2 : N ≤ cap2 ∧ cap2 ≤ 9223372036854775807 := by
              obtain ⟨a1, cap1, e, g1, g2⟩ := hXs.parts
              cases e
              omega
            obtain ⟨hq1, hq2⟩ := hcap2
            by_cases hlt : k < n
            · obtain ⟨i, hi1, hi2, hi3⟩ := next_clean (L := X) (f := f2) (by omega) (by omega)
              have hnA := nxA_some (L := X) (f := f2) (by omega) hi1
              rw [hnA] at hNx
              have hra := right_act hXr hi2 hi3
              have hset := fun W (h : Segs W (.slice (some ⟨b2, off2, none⟩) N cap2) X) => set_ok _ X i ACT W h hXr hi2 hra
              have hcs := cleanN_set (L := X) (i := i) ACT hi2 hi3 (by decide)
              have hcl := fun v W (h : Segs W v (X.set i ACT)) => cleanOnes_any v _ W h (by rw [List.length_set]; omega)
              obtain ⟨c0, c1, c2⟩ := hXs.get hXl (show i < N by omega)
              rw [hi3] at c2
              obtain ⟨Y, hY⟩ : ∃ Y, X.set i ACT = Y := ⟨_, rfl⟩
              have hYl : Y.length = N := by rw [← hY, List.length_set]; exact hXl
              obtain ⟨m, hm2⟩ : ∃ m, cleanN Y = m := ⟨_, rfl⟩
              rw [hY] at hra hset hcs hcl
              rw [hm2] at hcs hcl
              rw [hXl] at hset
              unfold Ans at hcl
              unfold ACT S.val at hset
              dsimp only at hset
              have hiN : i < N := by omega
              have hmk : (n : Int) - (k : Int) - 1 = (m : Int) := by omega
              have HNx := Lib.hid (hNx _ hXs)
              have HSet := Lib.hid (hset _ hXs)
              have HCl := Lib.hid hcl
              have HY := Lib.hid (And.intro hYl (And.intro hra (show cleanN Y + (k + 1) = n by omega)))
              clear hNx hset hcl hXs hXr hXc hXl hi1 hi2 hi3 hnA hra hcs hY hYl hm2 HI hst
              go_wp2_with (first
                | (go_at_call 10; with_reducible refine Calls.mono HNx.out ?_; rintro e w1 ⟨rfl, rfl⟩)
                | (go_at_call 18; with_reducible refine Calls.mono HSet.out ?_; rintro e w2 ⟨b3, off3, cap3, rfl, hS2, hB2⟩; have hb2 := below_th hB hB2)
                | (go_at_call 14; with_reducible refine Calls.mono (HCl.out _ _ hS2) ?_; rintro e w3 ⟨rfl, hB3⟩; have hS3 := hS2.below hB3; have hb3 := below_th hb2 hB3))
              have HNew : Hid (TakI W0 n N (k + 1) (.slice (some ⟨b3, off3, none⟩) N cap3) (.int .i64 (i : Nat)) w3) := ⟨b3, off3, cap3, i, Y, rfl, rfl, hiN, HY.out.1, HY.out.2.1, HY.out.2.2, hS3, hb3⟩
              clear hS2 hS3
              go_roundw
              case rel => exact ⟨k + 1, by omega, by go_num, HNew⟩
              case measure => simp [intOf]; omega
            · have hz : cleanN X = 0 := by omega
              have hnA := nxA_none (L := X) (f := f2) (by omega) (next_no (by omega) hz)
              rw [hnA] at hNx
              have HNx := Lib.hid (hNx _ hXs)
              have HBq := Lib.hid hB
              clear hNx hXs hXr hXc hXl hnA hz HI hst
              go_wp2_with (go_at_call 10; with_reducible refine Calls.mono HNx.out ?_; rintro e w1 ⟨rfl, rfl⟩)
              go_ret
              exact ⟨by simp, HBq.out⟩
        · clear hR hL hr
          go_enter Try.func7, Try.ntmps7
          go_wp2_with (first
            | (go_at_call 9; refine (shown_any _).mono ?_; rintro e w1 ⟨rfl, hB1⟩; have hb := below_th hb hB1)
            | (go_at_call 12; with_reducible refine Calls.mono (HR.out _ (HT.out.below hb)) ?_; rintro e w1 ⟨rfl, hB1⟩; have hb := below_th hb hB1))
          go_ret
          exact ⟨by simp, hb⟩
      · clear hR hL hr
        go_enter Try.func7, Try.ntmps7
        go_wp2_with (first
          | (go_at_call 9; refine (shown_any _).mono ?_; rintro e w1 ⟨rfl, hB1⟩; have hb := below_th hb hB1)
          | (go_at_call 12; with_reducible refine Calls.mono (HR.out _ (HT.out.below hb)) ?_; rintro e w1 ⟨rfl, hB1⟩; have hb := below_th hb hB1))
        go_ret
        exact ⟨by simp, hb⟩
    · rw [show rightB L = false from decide_eq_false hr] at hR
      unfold Ans at hR
      have HR := Lib.hid hR
      have HT := Lib.hid hL
      clear hR hL hr
      go_enter Try.func7, Try.ntmps7
      go_wp2_with (first
        | (go_at_call 9; refine (shown_any _).mono ?_; rintro e w1 ⟨rfl, hB1⟩; have hb := below_th hb hB1)
        | (go_at_call 12; with_reducible refine Calls.mono (HR.out _ (HT.out.below hb)) ?_; rintro e w1 ⟨rfl, hB1⟩; have hb := below_th hb hB1))
      go_ret
      exact ⟨by simp, hb⟩
end
end Go.Proofs.Ytgadclbenbakfaa.Usage
