/- DatEnds, walked. -/
import Derived.Test.YthfcjbfldokanaaDatRefS
import Derived.Test.YthfcjbfldokanaaDatSweptW
import Derived.Deep.RegionHeld3
namespace Go.Proofs.Ythfcjbfldokanaa.Dat
open Go.RowKit
attribute [local go_sem] Oper.semAt_some
set_option linter.unusedVariables false

section
set_option maxRecDepth 100000
set_option maxHeartbeats 4000000
theorem DatEnds_walk (v : Value) (L : List T) (i cp : Int) (vc : Value) (C : List Int) (w : World) (hL : Trs w v L) (wL : ∀ o ∈ L, TOk o) (k1 : (Lit.int .u32 i).wf = true) (k2 : (Lit.int .u64 cp).wf = true) (hC : Cps w vc C) (wC : ∀ n ∈ C, (Lit.int .u64 n).wf = true) :
    Calls Try.prog 4 #[v, .int .u32 i, .int .u64 cp, vc] w fun e w' => e = .returned (.bool true) ∧ Below w.heap.size w w' := by
  have hi9 := (bounds32 k1).2
  obtain ⟨i, rfl⟩ := Int.eq_ofNat_of_zero_le (bounds32 k1).1
  obtain ⟨cp, rfl⟩ := Int.eq_ofNat_of_zero_le (boundsU k2).1
  have hi : i < 4294967296 := by omega
  clear k1 k2 wL hi9 wC
  obtain ⟨M, hM⟩ : ∃ M, L.take 2000 = M := ⟨_, rfl⟩
  obtain ⟨N, hN⟩ : ∃ N, M.length = N := ⟨_, rfl⟩
  have hN2 : N ≤ 2000 := by rw [← hN, ← hM, List.length_take]; omega
  have HCut := Lib.hid (fun W h => cut_at v L M N hM hN W h)
  have HL := Lib.hid hL
  obtain ⟨ac, capc, rfl, hnc, hmc⟩ := hC.parts
  obtain ⟨K, hK⟩ : ∃ K, min C.length 100 = K := ⟨_, rfl⟩
  have hCc := hC.cut K (by omega)
  rw [← hK, take_min, hK] at hCc
  obtain ⟨D, hD⟩ : ∃ D, C.take 100 = D := ⟨_, rfl⟩
  rw [hD] at hCc
  have HC := Lib.hid hCc
  obtain ⟨nc, hncl⟩ : ∃ nc, C.length = nc := ⟨_, rfl⟩
  rw [hncl] at hK hnc ⊢
  have hmin : (if (100 : Int) < (nc : Int) then (100 : Int) else (nc : Int)) = (K : Int) := by rw [← hK]; split <;> omega
  have hKc : K ≤ capc := by omega
  have hKi : (K : Int) ≤ (capc : Int) := by omega
  have hK0 : (0 : Int) ≤ (K : Int) := by omega
  clear hL hC hCc hD hncl hM
  have h1 := fun v W (h : Trs W v M) => end_any v M i cp W h hi
  have h2 := fun v W (h : Trs W v M) => R.end_any v M i cp W h hi
  have h3 := fun v vc W (h : Trs W v M) (hc : Cps W vc D) => sweep_any v vc M D W h hc
  have h4 := fun v vc W (h : Trs W v M) (hc : Cps W vc D) => R.sweep_any v vc M D W h hc
  unfold TabPost at h1 h2
  unfold SwpPost at h3 h4
  obtain ⟨b1, e1⟩ : ∃ x, endE M i cp = x := ⟨_, rfl⟩
  obtain ⟨X, e2⟩ : ∃ x, endV M i cp = x := ⟨_, rfl⟩
  obtain ⟨b3, e3⟩ : ∃ x, swpN M D = x := ⟨_, rfl⟩
  obtain ⟨b4, e4⟩ : ∃ x, swpE M = x := ⟨_, rfl⟩
  obtain ⟨Y, e5⟩ : ∃ x, swpV M D = x := ⟨_, rfl⟩
  simp only [e1, e2] at h1 h2
  simp only [e3, e4, e5] at h3 h4
  have H1 := Lib.hid h1
  have H2 := Lib.hid h2
  have H3 := Lib.hid h3
  have H4 := Lib.hid h4
  have HSX := Lib.hid (fun v1 v2 W h1 h2 => same_eq v1 v2 X W h1 h2)
  have HSY := Lib.hid (fun v1 v2 W h1 h2 => same_eq v1 v2 Y W h1 h2)
  have HLi := Lib.hid (fun y v W h => lives_any y v D W h)
  have HRi := Lib.hid (fun y v W h => R.lives_any y v D W h)
  have wu : IntKind.u64.wrap (i : Int) = (i : Int) := by rw [IntKind.wrap_u64]; omega
  have wn : IntKind.u64.wrap (N : Int) = (N : Int) := by rw [IntKind.wrap_u64]; omega
  have HNN := Lib.hid hN
  have HAn := Lib.hid (fun (W : World) (y : T) => At.new W y)
  have HBn := Lib.hid (fun (W : World) (y : T) => below_new W (boxO y))
  have HMk := Lib.hid (fun (W : World) (a : Option Addr) (cap k : Nat) (h : Trs W (.slice a N cap) M) (hk : k < N) => h.at (k := k) (by rw [hN]; exact hk))
  clear h1 h2 h3 h4 e1 e2 e3 e4 e5 hN
  obtain ⟨W0, rfl⟩ : ∃ W0 : World, W0 = w := ⟨_, rfl⟩
  unfold boxO at HBn HAn
  have HBz := Lib.hid (fun (W : World) => below_new W boxZ)
  have HAz := Lib.hid (fun (W : World) => At.newZ W)
  unfold boxZ at HBz HAz
  by_cases hlt : i < N
  · have g1 : (i : Int) < (N : Int) := by omega
    go_enter Try.func4, Try.ntmps4
    go_wp2_with (first
      | (go_at_call 9; (with_reducible refine Calls.mono (shown_any _) ?_); rintro e w1 ⟨rfl, hB1⟩; have HL1 := Lib.hid (HL.out.below hB1))
      | (go_at_call 10; (with_reducible refine Calls.mono (HCut.out _ HL1.out) ?_); rintro e w2 ⟨a, cap, rfl, HT, hc1, hc2, rfl⟩; have HC := Lib.hid (HC.out.below hB1))
      | (go_at_call 18; (with_reducible refine Calls.mono (H1.out _ _ HT.out) ?_); rintro e w3 ⟨v3, rfl, hX3, hB3⟩; have HT := Lib.hid (HT.out.below hB3); have HC := Lib.hid (HC.out.below hB3); have HX3 := Lib.hid hX3; have HB3 := Lib.hid (below_th hB1 hB3); clear hX3 hB3)
      | (go_at_call 19; (with_reducible refine Calls.mono (H2.out _ _ HT.out) ?_); rintro e w4 ⟨v4, rfl, hX4, hB4⟩; have HT := Lib.hid (HT.out.below hB4); have HC := Lib.hid (HC.out.below hB4); have HX3 := Lib.hid (HX3.out.below hB4); have HX4 := Lib.hid hX4; have HB4 := Lib.hid (below_th HB3.out hB4); clear hX4 hB4)
      | (go_at_call 20; (with_reducible refine Calls.mono (H3.out _ _ _ HT.out HC.out) ?_); rintro e w5 ⟨v5, rfl, hY5, hB5⟩; have HT := Lib.hid (HT.out.below hB5); have HC := Lib.hid (HC.out.below hB5); have HX3 := Lib.hid (HX3.out.below hB5); have HX4 := Lib.hid (HX4.out.below hB5); have HY5 := Lib.hid hY5; have HB5 := Lib.hid (below_th HB4.out hB5); clear hY5 hB5)
      | (go_at_call 21; (with_reducible refine Calls.mono (H4.out _ _ _ HT.out HC.out) ?_); rintro e w6 ⟨v6, rfl, hY6, hB6⟩; have HT := Lib.hid (HT.out.below hB6); have HC := Lib.hid (HC.out.below hB6); have HX3 := Lib.hid (HX3.out.below hB6); have HX4 := Lib.hid (HX4.out.below hB6); have HY5 := Lib.hid (HY5.out.below hB6); have HY6 := Lib.hid hY6; have HB6 := Lib.hid (below_th HB5.out hB6); clear hY6 hB6; obtain ⟨b2, o2, c2, e2, x0, x1, x2⟩ := HMk.out _ _ _ i (HT.out.below (HBz.out w6)) hlt; rw [HNN.out] at e2; cases e2))
    obtain ⟨b2, o2, c2, e2, x0, x1, x2⟩ := HMk.out _ _ _ i HT.out hlt
    rw [HNN.out] at e2
    cases e2
    obtain ⟨y, hy⟩ : ∃ y, tr M i = y := ⟨_, rfl⟩
    rw [hy]
    clear x0 x1 x2 hy
    obtain ⟨W2, hW2⟩ : ∃ W2, w6.alloc (.cells #[.int .u32 y.phys, .int .u64 y.start, .int .u64 y.fin] 40) = W2 := ⟨_, rfl⟩
    have hB2 : Below w6.heap.size w6 W2 := by rw [← hW2]; exact HBn.out w6 y
    have hA : At W2 w6.heap.size y := by rw [← hW2]; exact HAn.out w6 y
    have HBW := Lib.hid (below_th HB6.out hB2)
    rw [hW2]
    have HCE : Hid (∀ W', Below W2.heap.size W2 W' → W'.cell? ⟨w6.heap.size, 0, none⟩ = some (.int .u32 y.phys) ∧ W'.cell? ⟨w6.heap.size, 1, none⟩ = some (.int .u64 y.start) ∧ W'.cell? ⟨w6.heap.size, 2, none⟩ = some (.int .u64 y.fin)) := fun W' h => (hA.th h).c
    have HS1 := Lib.hid (fun W' (h : Below W2.heap.size W2 W') => HSX.out v3 v4 W' ((HX3.out.below hB2).below h) ((HX4.out.below hB2).below h))
    have HS2 := Lib.hid (fun W' (h : Below W2.heap.size W2 W') => HSY.out v5 v6 W' ((HY5.out.below hB2).below h) ((HY6.out.below hB2).below h))
    have hli := fun W' (h : Below W2.heap.size W2 W') => HLi.out y _ W' ((HC.out.below hB2).below h)
    have hri := fun W' (h : Below W2.heap.size W2 W') => HRi.out y _ W' ((HC.out.below hB2).below h)
    obtain ⟨x, hx⟩ : ∃ x, livesB y D = x := ⟨_, rfl⟩
    rw [hx] at hli hri
    unfold T.val at hli hri
    have HLK := Lib.hid hli
    have HRK := Lib.hid hri
    have hself : Below W2.heap.size W2 W2 := Below.refl _ _
    have hself2 : Below W2.heap.size W2 W2.drew := hself.drew
    clear hW2 hB2 hA hli hri hx
    go_region_held3 (fun w' => w'.cell? ⟨w6.heap.size, 0, none⟩ = some (.int .u32 y.phys) ∧ w'.cell? ⟨w6.heap.size, 1, none⟩ = some (.int .u64 y.start) ∧ w'.cell? ⟨w6.heap.size, 2, none⟩ = some (.int .u64 y.fin)) (exact HCE.out _ (by assumption)) (first
      | (go_at_call 17; (with_reducible refine Calls.mono (HS1.out _ (by assumption)) ?_); rintro e w' ⟨rfl, hBn⟩; have := below_th (by assumption : Below W2.heap.size W2 _) hBn)
      | (go_at_call 17; (with_reducible refine Calls.mono (HS2.out _ (by assumption)) ?_); rintro e w' ⟨rfl, hBn⟩; have := below_th (by assumption : Below W2.heap.size W2 _) hBn)
      | (go_at_call 22; (with_reducible refine Calls.mono (HLK.out _ (by assumption)) ?_); rintro e w' ⟨rfl, hBn⟩; have := below_th (by assumption : Below W2.heap.size W2 _) hBn)
      | (go_at_call 23; (with_reducible refine Calls.mono (HRK.out _ (by assumption)) ?_); rintro e w' ⟨rfl, hBn⟩; have := below_th (by assumption : Below W2.heap.size W2 _) hBn))
    have HBZ := Lib.hid (below_th HBW.out (by assumption : Below W2.heap.size W2 _))
    go_wp2
    go_ret
    exact ⟨by simp, HBZ.out⟩
  · have g1 : ¬ (i : Int) < (N : Int) := by omega
    go_enter Try.func4, Try.ntmps4
    go_wp2_with (first
      | (go_at_call 9; (with_reducible refine Calls.mono (shown_any _) ?_); rintro e w1 ⟨rfl, hB1⟩; have HL1 := Lib.hid (HL.out.below hB1))
      | (go_at_call 10; (with_reducible refine Calls.mono (HCut.out _ HL1.out) ?_); rintro e w2 ⟨a, cap, rfl, HT, hc1, hc2, rfl⟩; have HC := Lib.hid (HC.out.below hB1))
      | (go_at_call 18; (with_reducible refine Calls.mono (H1.out _ _ HT.out) ?_); rintro e w3 ⟨v3, rfl, hX3, hB3⟩; have HT := Lib.hid (HT.out.below hB3); have HC := Lib.hid (HC.out.below hB3); have HX3 := Lib.hid hX3; have HB3 := Lib.hid (below_th hB1 hB3); clear hX3 hB3)
      | (go_at_call 19; (with_reducible refine Calls.mono (H2.out _ _ HT.out) ?_); rintro e w4 ⟨v4, rfl, hX4, hB4⟩; have HT := Lib.hid (HT.out.below hB4); have HC := Lib.hid (HC.out.below hB4); have HX3 := Lib.hid (HX3.out.below hB4); have HX4 := Lib.hid hX4; have HB4 := Lib.hid (below_th HB3.out hB4); clear hX4 hB4)
      | (go_at_call 20; (with_reducible refine Calls.mono (H3.out _ _ _ HT.out HC.out) ?_); rintro e w5 ⟨v5, rfl, hY5, hB5⟩; have HT := Lib.hid (HT.out.below hB5); have HC := Lib.hid (HC.out.below hB5); have HX3 := Lib.hid (HX3.out.below hB5); have HX4 := Lib.hid (HX4.out.below hB5); have HY5 := Lib.hid hY5; have HB5 := Lib.hid (below_th HB4.out hB5); clear hY5 hB5)
      | (go_at_call 21; (with_reducible refine Calls.mono (H4.out _ _ _ HT.out HC.out) ?_); rintro e w6 ⟨v6, rfl, hY6, hB6⟩; have HT := Lib.hid (HT.out.below hB6); have HC := Lib.hid (HC.out.below hB6); have HX3 := Lib.hid (HX3.out.below hB6); have HX4 := Lib.hid (HX4.out.below hB6); have HY5 := Lib.hid (HY5.out.below hB6); have HY6 := Lib.hid hY6; have HB6 := Lib.hid (below_th HB5.out hB6); clear hY6 hB6))
    obtain ⟨W2, hW2⟩ : ∃ W2, w6.alloc (.cells #[.int .u32 0, .int .u64 0, .int .u64 0] 40) = W2 := ⟨_, rfl⟩
    have hB2 : Below w6.heap.size w6 W2 := by rw [← hW2]; exact HBz.out w6
    have hA : At W2 w6.heap.size T.zero := by rw [← hW2]; exact HAz.out w6
    have HBW := Lib.hid (below_th HB6.out hB2)
    rw [hW2]
    have HCE : Hid (∀ W', Below W2.heap.size W2 W' → W'.cell? ⟨w6.heap.size, 0, none⟩ = some (.int .u32 0) ∧ W'.cell? ⟨w6.heap.size, 1, none⟩ = some (.int .u64 0) ∧ W'.cell? ⟨w6.heap.size, 2, none⟩ = some (.int .u64 0)) := fun W' h => (hA.th h).cZ
    have HS1 := Lib.hid (fun W' (h : Below W2.heap.size W2 W') => HSX.out v3 v4 W' ((HX3.out.below hB2).below h) ((HX4.out.below hB2).below h))
    have HS2 := Lib.hid (fun W' (h : Below W2.heap.size W2 W') => HSY.out v5 v6 W' ((HY5.out.below hB2).below h) ((HY6.out.below hB2).below h))
    have hli := fun W' (h : Below W2.heap.size W2 W') => HLi.out T.zero _ W' ((HC.out.below hB2).below h)
    have hri := fun W' (h : Below W2.heap.size W2 W') => HRi.out T.zero _ W' ((HC.out.below hB2).below h)
    obtain ⟨x, hx⟩ : ∃ x, livesB T.zero D = x := ⟨_, rfl⟩
    rw [hx] at hli hri
    have hli : ∀ W', Below W2.heap.size W2 W' → Calls Try.prog 22 #[.agg #[.int .u32 0, .int .u64 0, .int .u64 0], .slice ac K capc] W' (Ans W' (.bool x)) := hli
    have hri : ∀ W', Below W2.heap.size W2 W' → Calls Try.prog 23 #[.agg #[.int .u32 0, .int .u64 0, .int .u64 0], .slice ac K capc] W' (Ans W' (.bool x)) := hri
    have HLK := Lib.hid hli
    have HRK := Lib.hid hri
    have hself : Below W2.heap.size W2 W2 := Below.refl _ _
    have hself2 : Below W2.heap.size W2 W2.drew := hself.drew
    clear hW2 hB2 hA hli hri hx
    go_region_held3 (fun w' => w'.cell? ⟨w6.heap.size, 0, none⟩ = some (.int .u32 0) ∧ w'.cell? ⟨w6.heap.size, 1, none⟩ = some (.int .u64 0) ∧ w'.cell? ⟨w6.heap.size, 2, none⟩ = some (.int .u64 0)) (exact HCE.out _ (by assumption)) (first
      | (go_at_call 17; (with_reducible refine Calls.mono (HS1.out _ (by assumption)) ?_); rintro e w' ⟨rfl, hBn⟩; have := below_th (by assumption : Below W2.heap.size W2 _) hBn)
      | (go_at_call 17; (with_reducible refine Calls.mono (HS2.out _ (by assumption)) ?_); rintro e w' ⟨rfl, hBn⟩; have := below_th (by assumption : Below W2.heap.size W2 _) hBn)
      | (go_at_call 22; (with_reducible refine Calls.mono (HLK.out _ (by assumption)) ?_); rintro e w' ⟨rfl, hBn⟩; have := below_th (by assumption : Below W2.heap.size W2 _) hBn)
      | (go_at_call 23; (with_reducible refine Calls.mono (HRK.out _ (by assumption)) ?_); rintro e w' ⟨rfl, hBn⟩; have := below_th (by assumption : Below W2.heap.size W2 _) hBn))
    have HBZ := Lib.hid (below_th HBW.out (by assumption : Below W2.heap.size W2 _))
    go_wp2
    go_ret
    exact ⟨by simp, HBZ.out⟩
end
end Go.Proofs.Ythfcjbfldokanaa.Dat
