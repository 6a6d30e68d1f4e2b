/- UsageBest, walked. -/
import Derived.Test.YtgadclbenbakfaaUsageTakesW
namespace Go.Proofs.Ytgadclbenbakfaa.Usage
open Go.RowKit
attribute [local go_sem] Oper.semAt_some
set_option linter.unusedVariables false

/-- is there one at all? it doesn't hang on the way -/
theorem bst_none {L : List S} {N : Nat} (h : cand L N = []) (w : Int) (now : Nat) : bst L w now (cand L N) = 0 := by rw [h]; rfl
theorem bst_some {L : List S} {N : Nat} (h : ¬ cand L N = []) (w : Int) (now : Nat) : 0 < bst L w now (cand L N) ∧ bst L w now (cand L N) ∈ cand L N := by
  rcases bst_mem L w now N with ⟨_, e⟩ | hh
  · exact absurd e h
  · exact hh
section
set_option maxRecDepth 100000
set_option maxHeartbeats 4000000
theorem UsageBest_main (b off cap N : Nat) (L : List S) (n A B C : Nat) (w : World) (hN : L.length = N) (hL : Segs w (.slice (some ⟨b, off, none⟩) N cap) L) (h256 : N ≤ 256) (hn : n < 18446744073709551616)
    (hone : ∀ i, i < N → oneP (seg L i))
    (h0 : ∀ W, Segs W (.slice (some ⟨b, off, none⟩) N cap) L → Calls Try.prog 16 #[.slice (some ⟨b, off, none⟩) N cap, .int .i64 0, .int .u64 n] W fun e w' => e = .returned (.tuple #[.int .i64 A, .bool true, .int .i64 0]) ∧ Below W.heap.size W w')
    (h1 : ∀ W, Segs W (.slice (some ⟨b, off, none⟩) N cap) L → Calls Try.prog 16 #[.slice (some ⟨b, off, none⟩) N cap, .int .i64 1, .int .u64 n] W fun e w' => e = .returned (.tuple #[.int .i64 B, .bool true, .int .i64 0]) ∧ Below W.heap.size W w')
    (h2 : ∀ W, Segs W (.slice (some ⟨b, off, none⟩) N cap) L → Calls Try.prog 16 #[.slice (some ⟨b, off, none⟩) N cap, .int .i64 2, .int .u64 n] W fun e w' => e = .returned (.tuple #[.int .i64 C, .bool true, .int .i64 0]) ∧ Below W.heap.size W w')
    (hA1 : 1 ≤ A) (hA : A < N) (hB1 : 1 ≤ B) (hB : B < N) (hC1 : 1 ≤ C) (hC : C < N) (oA : okS A (seg L A)) (oB : okS B (seg L B)) (oC : okS C (seg L C))
    (hmin : ∀ i, i < N → okS i (seg L i) → (seg L A).begun ≤ (seg L i).begun ∧ (seg L B).live ≤ (seg L i).live) :
    Calls Try.prog 6 #[.slice (some ⟨b, off, none⟩) N cap, .int .u64 n] w fun e w' => e = .returned (.bool true) ∧ Below w.heap.size w w' := by
  have hcap : N ≤ cap ∧ cap ≤ 9223372036854775807 := by
    obtain ⟨a1, cap1, e, g1, g2⟩ := hL.parts
    cases e
    omega
  obtain ⟨hcap1, hcap2⟩ := hcap
  have h3 : ¬ (300 : Int) < (N : Int) := by omega
  have hget := fun W (h : Segs W (.slice (some ⟨b, off, none⟩) N cap) L) i (hi : i < N) => h.get hN hi
  have HA : Hid (∀ W, Below w.heap.size w W → W.cell? ⟨b, off + A * 3, none⟩ = some (.int .i64 (seg L A).live) ∧ W.cell? ⟨b, off + A * 3 + 1, none⟩ = some (.int .u64 (seg L A).begun) ∧ W.cell? ⟨b, off + A * 3 + 2, none⟩ = some (.int .i64 1)) := fun W h => by
    have := hget W (hL.below h) A hA
    rwa [oA.2.1] at this
  have HB : Hid (∀ W, Below w.heap.size w W → W.cell? ⟨b, off + B * 3, none⟩ = some (.int .i64 (seg L B).live) ∧ W.cell? ⟨b, off + B * 3 + 1, none⟩ = some (.int .u64 (seg L B).begun) ∧ W.cell? ⟨b, off + B * 3 + 2, none⟩ = some (.int .i64 1)) := fun W h => by
    have := hget W (hL.below h) B hB
    rwa [oB.2.1] at this
  have HCC : Hid (∀ W, Below w.heap.size w W → W.cell? ⟨b, off + C * 3, none⟩ = some (.int .i64 (seg L C).live) ∧ W.cell? ⟨b, off + C * 3 + 1, none⟩ = some (.int .u64 (seg L C).begun) ∧ W.cell? ⟨b, off + C * 3 + 2, none⟩ = some (.int .i64 1)) := fun W h => by
    have := hget W (hL.below h) C hC
    rwa [oC.2.1] at this
  have lA : (seg L A).live < 16 := by have := (hone A hA).2.2.1; have := oA.2.2; omega
  have lC : (seg L C).live < 16 := by have := (hone C hC).2.2.1; have := oC.2.2; omega
  have H0 := Lib.hid h0
  have H1 := Lib.hid h1
  have H2 := Lib.hid h2
  have HT := Lib.hid hL
  have HGet := Lib.hid (fun W (h : Below w.heap.size w W) i (hi : i < N) => hget W (hL.below h) i hi)
  have HMin := Lib.hid hmin
  have HOne := Lib.hid hone
  clear h0 h1 h2 hL hget hmin hone oA oB oC hN
  obtain ⟨W0, rfl⟩ : ∃ W0 : World, W0 = w := ⟨_, rfl⟩
  have hb := Below.refl W0.heap.size W0
  have nA1 : decide ((N : Int) ≤ (A : Int)) = false := decide_eq_false (by omega)
  have nA2 : decide (N ≤ A) = false := decide_eq_false (by omega)
  have nA3 : decide ((A : Int) < 1) = false := decide_eq_false (by omega)
  have nA4 : decide (A < 1) = false := decide_eq_false (by omega)
  have nA5 : decide (A = 0) = false := decide_eq_false (by omega)
  have nB1 : decide ((N : Int) ≤ (B : Int)) = false := decide_eq_false (by omega)
  have nB2 : decide (N ≤ B) = false := decide_eq_false (by omega)
  have nB3 : decide ((B : Int) < 1) = false := decide_eq_false (by omega)
  have nB4 : decide (B < 1) = false := decide_eq_false (by omega)
  have nB5 : decide (B = 0) = false := decide_eq_false (by omega)
  have nC1 : decide ((N : Int) ≤ (C : Int)) = false := decide_eq_false (by omega)
  have nC2 : decide (N ≤ C) = false := decide_eq_false (by omega)
  have nC3 : decide ((C : Int) < 1) = false := decide_eq_false (by omega)
  have nC4 : decide (C < 1) = false := decide_eq_false (by omega)
  have nC5 : decide (C = 0) = false := decide_eq_false (by omega)
  go_enter Try.func6, Try.ntmps6
  go_wp2_with (first
    | (go_at_call 9; refine (shown_any _).mono ?_; rintro e w1 ⟨rfl, hB1⟩; have hb := below_th hb hB1)
    | (go_at_call 16; with_reducible refine Calls.mono (H0.out _ (HT.out.below hb)) ?_; rintro e w1 ⟨rfl, hB1⟩; have hb := below_th hb hB1)
    | (go_at_call 16; with_reducible refine Calls.mono (H1.out _ (HT.out.below hb)) ?_; rintro e w1 ⟨rfl, hB1⟩; have hb := below_th hb hB1)
    | (go_at_call 16; with_reducible refine Calls.mono (H2.out _ (HT.out.below hb)) ?_; rintro e w1 ⟨rfl, hB1⟩; have hb := below_th hb hB1))
  go_loopw [15] (fun i wr => ∃ k : Nat, 1 ≤ k ∧ k ≤ N ∧ i = .int .i64 (k : Int) ∧ Below W0.heap.size W0 wr) (fun i _ => N - (intOf i).toNat)
  case atStart => exact ⟨1, by omega, by omega, rfl, hb⟩
  case round =>
    obtain ⟨k, hk1, hk, rfl, hBr⟩ := hrel
    by_cases hlt : k < N
    · obtain ⟨c0, c1, c2⟩ := HGet.out _ hBr k hlt
      obtain ⟨a0, a1, a2⟩ := HA.out _ hBr
      obtain ⟨b0, b1, b2⟩ := HB.out _ hBr
      have hmn := HMin.out k hlt
      have hone := HOne.out k hlt
      have HBq := Lib.hid hBr
      by_cases hs : (seg L k).state = 1
      · have hq : ((seg L k).state == 1) = true := by simp [hs]
        by_cases hl : (seg L k).live = 16
        · rw [hl] at c0
          clear hs hl hmn hone hBr
          go_wp2
          go_quiet (fail)
          go_wp2
          go_roundw
          case rel => exact ⟨k + 1, by omega, by omega, by go_num, below_drewN HBq.out _⟩
          case measure => simp [intOf]; omega
        · obtain ⟨m1, m2⟩ := hmn ⟨by omega, hs, hl⟩
          have q1 : (seg L k).live < 16 := by have := hone.2.2.1; omega
          have q2 : decide (((seg L k).begun : Int) < ((seg L A).begun : Int)) = false := decide_eq_false (by omega)
          have q3 : decide ((seg L k).live < (seg L B).live) = false := decide_eq_false (by omega)
          have q4 : ¬ (((seg L k).begun : Int) < ((seg L A).begun : Int)) := by omega
          have q6 : decide ((seg L k).begun < (seg L A).begun) = false := decide_eq_false (by omega)
          have q5 : ¬ ((seg L k).live < (seg L B).live) := by omega
          clear hs hl hmn hone hBr m1 m2
          go_wp2
          go_quiet (fail)
          go_wp2
          go_roundw
          case rel => exact ⟨k + 1, by omega, by omega, by go_num, below_drewN HBq.out _⟩
          case measure => simp [intOf]; omega
      · have hq : ((seg L k).state == 1) = false := by simp [hs]
        clear hs hmn hone hBr
        go_wp2
        go_quiet (fail)
        go_wp2
        go_roundw
        case rel => exact ⟨k + 1, by omega, by omega, by go_num, below_drewN HBq.out _⟩
        case measure => simp [intOf]; omega
    · obtain rfl : k = N := by omega
      obtain ⟨a0, a1, a2⟩ := HA.out _ hBr
      obtain ⟨b0, b1, b2⟩ := HB.out _ hBr
      obtain ⟨c0, c1, c2⟩ := HCC.out _ hBr
      have HBq := Lib.hid hBr
      clear hBr
      go_wp2
      go_ret
      exact ⟨by simp, HBq.out⟩
/-- no one is chosen: of segments that are wrong, or of which none may be -/
theorem UsageBest_none (v : Value) (L : List S) (n : Nat) (er : Int) (w : World) (hL : Segs w v L) (hle : L.length ≤ 300) (he : er = 0 ∨ er = 60)
    (h0 : ∀ (way : Int) W, 0 ≤ way → way ≤ 2 → Segs W v L → Calls Try.prog 16 #[v, .int .i64 way, .int .u64 n] W fun e w' => e = .returned (.tuple #[.int .i64 0, .bool false, .int .i64 er]) ∧ Below W.heap.size W w') :
    Calls Try.prog 6 #[v, .int .u64 n] w fun e w' => e = .returned (.bool true) ∧ Below w.heap.size w w' := by
  obtain ⟨a, cap, rfl, hn, hm⟩ := hL.parts
  have h3 : ¬ (300 : Int) < (L.length : Int) := by omega
  have HT := Lib.hid hL
  have H0 := Lib.hid (fun W h => h0 0 W (by decide) (by decide) h)
  have H1 := Lib.hid (fun W h => h0 1 W (by decide) (by decide) h)
  have H2 := Lib.hid (fun W h => h0 2 W (by decide) (by decide) h)
  have hb := Below.refl w.heap.size w
  clear h0 hL
  rcases he with rfl | rfl
  all_goals
    go_enter Try.func6, Try.ntmps6
    go_wp2_with (first
      | (go_at_call 9; refine (shown_any _).mono ?_; rintro e w1 ⟨rfl, hB1⟩; have hb := below_th hb hB1)
      | (go_at_call 16; with_reducible refine Calls.mono (H0.out _ (HT.out.below hb)) ?_; rintro e w1 ⟨rfl, hB1⟩; have hb := below_th hb hB1)
      | (go_at_call 16; with_reducible refine Calls.mono (H1.out _ (HT.out.below hb)) ?_; rintro e w1 ⟨rfl, hB1⟩; have hb := below_th hb hB1)
      | (go_at_call 16; with_reducible refine Calls.mono (H2.out _ (HT.out.below hb)) ?_; rintro e w1 ⟨rfl, hB1⟩; have hb := below_th hb hB1))
    go_ret
    exact ⟨by simp, hb⟩
theorem UsageBest_walk (v : Value) (L : List S) (now : Int) (w : World) (hL : Segs w v L) (wL : ∀ o ∈ L, SOk o) (k1 : (Lit.int .u64 now).wf = true) :
    Calls Try.prog 6 #[v, .int .u64 now] w fun e w' => e = .returned (.bool true) ∧ Below w.heap.size w w' := by
  have b1 := boundsU k1
  obtain ⟨n, rfl⟩ := Int.eq_ofNat_of_zero_le b1.1
  have hn : n < 18446744073709551616 := by omega
  clear b1 k1 wL
  rcases Nat.lt_or_ge 300 L.length with h300 | h300
  · obtain ⟨a, cap, rfl, hnn, hm⟩ := hL.parts
    have h3 : (300 : Int) < (L.length : Int) := by omega
    have hT := hL.take (K := 300) (by omega)
    have hno : ¬ RightP (L.take 300) := fun h => by have := h.2.1; rw [List.length_take] at this; omega
    have h0 := fun (way : Int) W (h : Segs W (.slice a 300 cap) (L.take 300)) => choose_any _ _ way n W h hn
    have hch := fun way => chA_wrong (way := way) (now := n) hno
    simp only [hch] at h0
    unfold Ans at h0
    have HT := Lib.hid hT
    have H0 := Lib.hid (fun W h => h0 0 W h)
    have H1 := Lib.hid (fun W h => h0 1 W h)
    have H2 := Lib.hid (fun W h => h0 2 W h)
    have hb := Below.refl w.heap.size w
    clear h0 hL hT hno hch
    go_enter Try.func6, Try.ntmps6
    go_wp2_with (first
      | (go_at_call 9; refine (shown_any _).mono ?_; rintro e w1 ⟨rfl, hB1⟩; have hb := below_th hb hB1)
      | (go_at_call 16; with_reducible refine Calls.mono (H0.out _ (HT.out.below hb)) ?_; rintro e w1 ⟨rfl, hB1⟩; have hb := below_th hb hB1)
      | (go_at_call 16; with_reducible refine Calls.mono (H1.out _ (HT.out.below hb)) ?_; rintro e w1 ⟨rfl, hB1⟩; have hb := below_th hb hB1)
      | (go_at_call 16; with_reducible refine Calls.mono (H2.out _ (HT.out.below hb)) ?_; rintro e w1 ⟨rfl, hB1⟩; have hb := below_th hb hB1))
    go_ret
    exact ⟨by simp, hb⟩
  · by_cases hr : RightP L
    · by_cases hc : cand L L.length = []
      · refine UsageBest_none v L n 0 w hL h300 (.inl rfl) fun way W h1 h2 h => ?_
        have := choose_any v L way n W h hn
        rw [chA_yes hr ⟨h1, h2⟩, bst_none hc] at this
        exact this
      · obtain ⟨b, off, cap, rfl, _⟩ := hL.at (k := 0) (by have := hr.1; omega)
        have hcall : ∀ (way : Int), isWayP way → ∀ W, Segs W (.slice (some ⟨b, off, none⟩) L.length cap) L → Calls Try.prog 16 #[.slice (some ⟨b, off, none⟩) L.length cap, .int .i64 way, .int .u64 n] W fun e w' => e = .returned (.tuple #[.int .i64 (bst L way n (cand L L.length) : Nat), .bool true, .int .i64 0]) ∧ Below W.heap.size W w' := fun way hw W h => by
          have := choose_any _ L way n W h hn
          rw [chA_yes hr hw, decide_eq_true (bst_some hc way n).1] at this
          exact this
        have hA := bst_some hc 0 n
        have hB := bst_some hc 1 n
        have hC := bst_some hc 2 n
        have mA := cand_mem hA.2
        have mB := cand_mem hB.2
        have mC := cand_mem hC.2
        refine UsageBest_main b off cap L.length L n _ _ _ w rfl hL hr.2.1 hn (fun i hi => hr.one hi) (hcall 0 (by decide)) (hcall 1 (by decide)) (hcall 2 (by decide)) hA.1 mA.1 hB.1 mB.1 hC.1 mC.1 mA.2 mB.2 mC.2 fun i hi ho => ?_
        have x0 := bst_max L 0 n L.length i (mem_cand hi ho)
        have x1 := bst_max L 1 n L.length i (mem_cand hi ho)
        rw [worth_old, worth_old] at x0
        rw [worth_few, worth_few] at x1
        have o1 := hr.one hi
        have o2 := hr.one mA.1
        have o3 := hr.one mB.1
        have y1 := o1.2.2.2
        have y2 := o2.2.2.2
        have y3 := o1.2.1
        have y4 := o1.2.2.1
        have y5 := o3.2.1
        have y6 := o3.2.2.1
        exact ⟨by omega, by omega⟩
    · refine UsageBest_none v L n 60 w hL h300 (.inr rfl) fun way W h1 h2 h => ?_
      have := choose_any v L way n W h hn
      rw [chA_wrong hr] at this
      exact this
end
end Go.Proofs.Ytgadclbenbakfaa.Usage
