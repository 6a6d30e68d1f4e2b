/- UsageNext, walked. -/
import Derived.Test.YtgadclbenbakfaaUsgLaw
namespace Go.Proofs.Ytgadclbenbakfaa.Usage
open Go.RowKit
attribute [local go_sem] Oper.semAt_some
set_option linter.unusedVariables false

section
set_option maxRecDepth 100000
set_option maxHeartbeats 4000000
theorem UsageNext_walk (v : Value) (L : List S) (from_ : Int) (w : World) (hL : Segs w v L) (wL : ∀ o ∈ L, SOk o) (k1 : (Lit.int .i64 from_).wf = true) :
    Calls Try.prog 3 #[v, .int .i64 from_] w fun e w' => e = .returned (.bool true) ∧ Below w.heap.size w w' := by
  obtain ⟨a, cap, rfl, hn, hm⟩ := hL.parts
  obtain ⟨K, hK⟩ : ∃ K, min L.length 300 = K := ⟨_, rfl⟩
  have hT := hL.take (K := K) (by omega)
  obtain ⟨M, hM⟩ : ∃ M, L.take K = M := ⟨_, rfl⟩
  have hMl : M.length = K := by rw [← hM, List.length_take]; omega
  rw [hM] at hT
  obtain ⟨W0, rfl⟩ : ∃ W0 : World, W0 = w := ⟨_, rfl⟩
  have h1 := fun W (h : Segs W (.slice a K cap) M) => next_any _ M from_ W h (by omega)
  have h2 := fun W (h : Segs W (.slice a K cap) M) => R.next_any _ M from_ W h (by omega)
  have h3 := fun W (h : Segs W (.slice a K cap) M) => right_any _ M W h
  have h4 := fun W (h : Segs W (.slice a K cap) M) => R.right_any _ M W h
  have h5 := fun W (h : Segs W (.slice a K cap) M) => cleanOnes_any _ M W h (by omega)
  have h6 := fun W (h : Segs W (.slice a K cap) M) => R.cleanOnes_any _ M W h (by omega)
  unfold nxA at h1 h2
  unfold Ans at h3 h4 h5 h6
  have H1 := Lib.hid h1
  have H2 := Lib.hid h2
  have H3 := Lib.hid h3
  have H4 := Lib.hid h4
  have H5 := Lib.hid h5
  have H6 := Lib.hid h6
  have HT := Lib.hid hT
  have hb := Below.refl W0.heap.size W0
  clear h1 h2 h3 h4 h5 h6 hT hL wL hM hMl
  rcases Nat.lt_or_ge 300 L.length with h300 | h300
  · obtain rfl : K = 300 := by omega
    have h3 : (300 : Int) < (L.length : Int) := by omega
    clear hK
    go_enter Try.func3, Try.ntmps3
    go_wp2_with (first
      | (go_at_call 9; refine (shown_any _).mono ?_; rintro e w1 ⟨rfl, hB1⟩; have hb := below_th hb hB1)
      | (go_at_call 10; with_reducible refine Calls.mono (H1.out _ (HT.out.below hb)) ?_; rintro e w2 ⟨rfl, rfl⟩)
      | (go_at_call 11; with_reducible refine Calls.mono (H2.out _ (HT.out.below hb)) ?_; rintro e w2 ⟨rfl, rfl⟩)
      | (go_at_call 12; with_reducible refine Calls.mono (H3.out _ (HT.out.below hb)) ?_; rintro e w1 ⟨rfl, hB1⟩; have hb := below_th hb hB1)
      | (go_at_call 13; with_reducible refine Calls.mono (H4.out _ (HT.out.below hb)) ?_; rintro e w1 ⟨rfl, hB1⟩; have hb := below_th hb hB1)
      | (go_at_call 14; with_reducible refine Calls.mono (H5.out _ (HT.out.below hb)) ?_; rintro e w1 ⟨rfl, hB1⟩; have hb := below_th hb hB1)
      | (go_at_call 15; with_reducible refine Calls.mono (H6.out _ (HT.out.below hb)) ?_; rintro e w1 ⟨rfl, hB1⟩; have hb := below_th hb hB1))
    go_ret
    exact ⟨by simp, hb⟩
  · obtain rfl : K = L.length := by omega
    have h3 : ¬ (300 : Int) < (L.length : Int) := by omega
    clear hK
    go_enter Try.func3, Try.ntmps3
    go_wp2_with (first
      | (go_at_call 9; refine (shown_any _).mono ?_; rintro e w1 ⟨rfl, hB1⟩; have hb := below_th hb hB1)
      | (go_at_call 10; with_reducible refine Calls.mono (H1.out _ (HT.out.below hb)) ?_; rintro e w2 ⟨rfl, rfl⟩)
      | (go_at_call 11; with_reducible refine Calls.mono (H2.out _ (HT.out.below hb)) ?_; rintro e w2 ⟨rfl, rfl⟩)
      | (go_at_call 12; with_reducible refine Calls.mono (H3.out _ (HT.out.below hb)) ?_; rintro e w1 ⟨rfl, hB1⟩; have hb := below_th hb hB1)
      | (go_at_call 13; with_reducible refine Calls.mono (H4.out _ (HT.out.below hb)) ?_; rintro e w1 ⟨rfl, hB1⟩; have hb := below_th hb hB1)
      | (go_at_call 14; with_reducible refine Calls.mono (H5.out _ (HT.out.below hb)) ?_; rintro e w1 ⟨rfl, hB1⟩; have hb := below_th hb hB1)
      | (go_at_call 15; with_reducible refine Calls.mono (H6.out _ (HT.out.below hb)) ?_; rintro e w1 ⟨rfl, hB1⟩; have hb := below_th hb hB1))
    go_ret
    exact ⟨by simp, hb⟩
end
end Go.Proofs.Ytgadclbenbakfaa.Usage
