/- UsageChooses, walked. -/
import Derived.Test.YtgadclbenbakfaaUsgLaw
namespace Go.Proofs.Ytgadclbenbakfaa.Usage
open Go.RowKit
attribute [local go_sem] Oper.semAt_some
set_option linter.unusedVariables false

section
set_option maxRecDepth 100000
set_option maxHeartbeats 4000000
theorem UsageChooses_walk (v : Value) (L : List S) (way now : Int) (w : World) (hL : Segs w v L) (wL : ∀ o ∈ L, SOk o) (k1 : (Lit.int .i64 way).wf = true) (k2 : (Lit.int .u64 now).wf = true) :
    Calls Try.prog 4 #[v, .int .i64 way, .int .u64 now] w fun e w' => e = .returned (.bool true) ∧ Below w.heap.size w w' := by
  obtain ⟨a, cap, rfl, hn, hm⟩ := hL.parts
  obtain ⟨K, hK⟩ : ∃ K, min L.length 300 = K := ⟨_, rfl⟩
  have hT := hL.take (K := K) (by omega)
  obtain ⟨M, hM⟩ : ∃ M, L.take K = M := ⟨_, rfl⟩
  have hMl : M.length = K := by rw [← hM, List.length_take]; omega
  rw [hM] at hT
  obtain ⟨W0, rfl⟩ : ∃ W0 : World, W0 = w := ⟨_, rfl⟩
  have b2 := boundsU k2
  obtain ⟨n, rfl⟩ := Int.eq_ofNat_of_zero_le b2.1
  have h1 := fun W (h : Segs W (.slice a K cap) M) => choose_any _ M way n W h (by omega)
  have h2 := fun W (h : Segs W (.slice a K cap) M) => R.choose_any _ M way n W h (by omega)
  unfold Ans chA at h1 h2
  have H1 := Lib.hid h1
  have H2 := Lib.hid h2
  clear k2 b2
  have HT := Lib.hid hT
  have hb := Below.refl W0.heap.size W0
  clear h1 h2 hT hL wL hM hMl
  rcases Nat.lt_or_ge 300 L.length with h300 | h300
  · obtain rfl : K = 300 := by omega
    have h3 : (300 : Int) < (L.length : Int) := by omega
    clear hK
    go_enter Try.func4, Try.ntmps4
    go_wp2_with (first
      | (go_at_call 9; refine (shown_any _).mono ?_; rintro e w1 ⟨rfl, hB1⟩; have hb := below_th hb hB1)
      | (go_at_call 16; with_reducible refine Calls.mono (H1.out _ (HT.out.below hb)) ?_; rintro e w1 ⟨rfl, hB1⟩; have hb := below_th hb hB1)
      | (go_at_call 17; with_reducible refine Calls.mono (H2.out _ (HT.out.below hb)) ?_; rintro e w1 ⟨rfl, hB1⟩; have hb := below_th hb hB1))
    go_ret
    exact ⟨by simp, hb⟩
  · obtain rfl : K = L.length := by omega
    have h3 : ¬ (300 : Int) < (L.length : Int) := by omega
    clear hK
    go_enter Try.func4, Try.ntmps4
    go_wp2_with (first
      | (go_at_call 9; refine (shown_any _).mono ?_; rintro e w1 ⟨rfl, hB1⟩; have hb := below_th hb hB1)
      | (go_at_call 16; with_reducible refine Calls.mono (H1.out _ (HT.out.below hb)) ?_; rintro e w1 ⟨rfl, hB1⟩; have hb := below_th hb hB1)
      | (go_at_call 17; with_reducible refine Calls.mono (H2.out _ (HT.out.below hb)) ?_; rintro e w1 ⟨rfl, hB1⟩; have hb := below_th hb hB1))
    go_ret
    exact ⟨by simp, hb⟩
end
end Go.Proofs.Ytgadclbenbakfaa.Usage
