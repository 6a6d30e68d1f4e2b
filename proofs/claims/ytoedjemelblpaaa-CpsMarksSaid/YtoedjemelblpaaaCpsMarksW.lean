/- CpsMarks, walked. -/
import Derived.Test.YtoedjemelblpaaaCpsRefC
import Derived.Test.YtoedjemelblpaaaCpsFacts
import Derived.Test.YtoedjemelblpaaaCpsArgs
namespace Go.Proofs.Ytoedjemelblpaaa.Cps
open Go.RowKit
attribute [local go_sem] Oper.semAt_some
set_option linter.unusedVariables false
set_option linter.unusedSimpArgs false
section
set_option maxRecDepth 100000
set_option maxHeartbeats 8000000
theorem CpsMarks_walk (v1 : Value) (L : List C) (cp0 : Int) (s : Bool) (now0 keep0 : Int) (w : World) (hL : Chs w v1 L) (wL : ∀ o ∈ L, COk o) (k1 : (Lit.int .u64 cp0).wf = true) (k4 : (Lit.int .u64 now0).wf = true) (k5 : (Lit.int .u64 keep0).wf = true) :
    Calls Try.prog 4 #[v1, .int .u64 cp0, .bool s, .int .u64 now0, .int .u64 keep0] w fun e w' => e = .returned (.bool true) ∧ Below w.heap.size w w' := by
  have b1 := boundsU k1
  have b4 := boundsU k4
  have b5 := boundsU k5
  obtain ⟨cp, rfl⟩ := Int.eq_ofNat_of_zero_le b1.1
  obtain ⟨now, rfl⟩ := Int.eq_ofNat_of_zero_le b4.1
  obtain ⟨keep, rfl⟩ := Int.eq_ofNat_of_zero_le b5.1
  have hnow : now < 18446744073709551616 := by omega
  obtain ⟨M, hM⟩ : ∃ M, L.take 200 = M := ⟨_, rfl⟩
  obtain ⟨N, hN⟩ : ∃ N, M.length = N := ⟨_, rfl⟩
  have hM9 : N ≤ 200 := by rw [← hN, ← hM, List.length_take]; omega
  have wM : ∀ o ∈ M, COk o := fun o ho => wL o (List.mem_of_mem_take (hM ▸ ho))
  have HCut := Lib.hid (fun W h => cut_at v1 L M N hM hN W h)
  have HL := Lib.hid hL
  obtain ⟨X, hX, hmk⟩ := R.make_fun N (by omega)
  have HOM := Lib.hid (fun W : World => World.ownsRow_made (base := W.heap.size) (e := 25) (size := 4) W X N (Nat.le_refl _) (by unfold maxLen; omega) hX)
  have H1 := Lib.hid (fun v W (h : Chs W v M) => mark_any v M cp s W h)
  have H2 := Lib.hid (fun v W (h : Chs W v M) => R.mark_any v M cp s W h)
  have H3 := Lib.hid (fun v W (h : Chs W v M) => delete_any v M cp W h)
  have H4 := Lib.hid (fun v W (h : Chs W v M) => R.delete_any v M cp W h)
  unfold TabPost at H1 H2 H3 H4
  have H5 := Lib.hid (fun v W (h : Chs W v M) => expire_any v M now keep W h hnow)
  have H6 := Lib.hid (fun v W (h : Chs W v M) => R.expire_any v M now keep W h hnow wM)
  unfold ExpPost at H5 H6
  have HPC := Lib.hid (fun W v X (h : Chs W v X) => h.parts)
  have HPM := Lib.hid (fun W v (h : Chs W v M) => show ∃ a cap, v = .slice a N cap ∧ N ≤ cap by obtain ⟨a, cap, e, h1, _⟩ := h.parts; rw [hN] at e h1; exact ⟨a, cap, e, h1⟩)
  have HON := Lib.hid (fun W b v (h : W.ownsRow b 25 4 v (0 + M.length) ([] ++ cellsL M)) => show Chs W v M by rw [Nat.zero_add, List.nil_append] at h; exact Chs.own h)
  have hN2 : 0 + M.length ≤ 100000 := by omega
  obtain ⟨E1, hE1⟩ : ∃ X, mrkV M cp s = X := ⟨_, rfl⟩
  obtain ⟨n1, hn1⟩ : ∃ X, fndE M cp = X := ⟨_, rfl⟩
  obtain ⟨E2, hE2⟩ : ∃ X, delV M cp = X := ⟨_, rfl⟩
  obtain ⟨n2, hn2⟩ : ∃ X, delE M cp = X := ⟨_, rfl⟩
  obtain ⟨E3, hE3⟩ : ∃ X, expV M now keep = X := ⟨_, rfl⟩
  obtain ⟨n3, hn3⟩ : ∃ X, expE M = X := ⟨_, rfl⟩
  obtain ⟨n4, hn4⟩ : ∃ X, expN M now keep = X := ⟨_, rfl⟩
  rw [hE1, hn1] at H1 H2
  rw [hE2, hn2] at H3 H4
  rw [hE3, hn3, hn4] at H5 H6
  have HS1 := Lib.hid (fun v1 v2 W h1 h2 => same_any v1 v2 E1 E1 W h1 h2)
  have HS2 := Lib.hid (fun v1 v2 W h1 h2 => same_any v1 v2 E2 E2 W h1 h2)
  have HS3 := Lib.hid (fun v1 v2 W h1 h2 => same_any v1 v2 E3 E3 W h1 h2)
  have HS4 := Lib.hid (fun v1 v2 W h1 h2 => same_any v1 v2 M M W h1 h2)
  simp only [decide_true] at HS1 HS2 HS3 HS4
  clear hE1 hE2 hE3 hn1 hn2 hn3 hn4 hM hM9 hN hL wL wM k1 k4 k5 b1 b4 b5 hnow
  obtain ⟨W0, rfl⟩ : ∃ W0 : World, W0 = w := ⟨_, rfl⟩
  go_enter Try.func4, Try.ntmps4
  go_wp2_with (first
    | (go_at_call 11; (with_reducible refine Calls.mono (shown_any _) ?_); rintro e w1 ⟨rfl, hB1⟩; have HL1 := Lib.hid (HL.out.below hB1))
    | (go_at_call 12; (with_reducible refine Calls.mono (HCut.out _ HL1.out) ?_); rintro e w2 ⟨a, cap, rfl, HM, hc1, hc2, rfl⟩)
    | (at_builtin; (refine R.wpList_append_tab rfl _ _ rfl rfl w1.heap.size (.slice (some ⟨w1.heap.size, 0, none⟩) 0 N) 0 [] rfl (HOM.out w1) _ M rfl (HM.out.below (below_new _ _)) hN2 (by simp) ?_; intro v4 w4 hown4 hgrow4; have HB4 := Lib.hid ((below_al hB1 (.cells X 25)).grown hgrow4 (by have := hB1.size; simp at this ⊢; omega) (fun r e => Nat.le_trans hB1.size (Nat.le_of_eq (by simpa [Value.ownBlock] using e)))); have hB4 := (below_new w1 (.cells X 25)).grown hgrow4 (by simp) (fun r e => (Nat.le_of_eq (by simpa [Value.ownBlock] using e))); have HM := Lib.hid (HM.out.below hB4); have HW := Lib.hid (HON.out _ _ _ hown4); obtain ⟨a4, c4, rfl, _⟩ := HPM.out _ _ HW.out; clear hown4 hgrow4 hB4))
    | (go_at_call 23; (with_reducible refine Calls.mono (H1.out _ _ HM.out) ?_); rintro e w5 ⟨v5, rfl, hX5, hB5⟩; obtain ⟨a5, c5, rfl, _⟩ := HPC.out _ _ _ hX5; have HM := Lib.hid (HM.out.below hB5); have HW := Lib.hid (HW.out.below hB5); have HX5 := Lib.hid hX5; have HB5 := Lib.hid (below_th HB4.out hB5); clear hX5 hB5)
    | (go_at_call 24; (with_reducible refine Calls.mono (H2.out _ _ HM.out) ?_); rintro e w6 ⟨v6, rfl, hX6, hB6⟩; obtain ⟨a6, c6, rfl, _⟩ := HPC.out _ _ _ hX6; have HM := Lib.hid (HM.out.below hB6); have HW := Lib.hid (HW.out.below hB6); have HX5 := Lib.hid (HX5.out.below hB6); have HX6 := Lib.hid hX6; have HB6 := Lib.hid (below_th HB5.out hB6); clear hX6 hB6)
    | (go_at_call 25; (with_reducible refine Calls.mono (H3.out _ _ HM.out) ?_); rintro e w7 ⟨v7, rfl, hX7, hB7⟩; obtain ⟨a7, c7, rfl, _⟩ := HPC.out _ _ _ hX7; have HM := Lib.hid (HM.out.below hB7); have HW := Lib.hid (HW.out.below hB7); have HX5 := Lib.hid (HX5.out.below hB7); have HX6 := Lib.hid (HX6.out.below hB7); have HX7 := Lib.hid hX7; have HB7 := Lib.hid (below_th HB6.out hB7); clear hX7 hB7)
    | (go_at_call 26; (with_reducible refine Calls.mono (H4.out _ _ HM.out) ?_); rintro e w8 ⟨v8, rfl, hX8, hB8⟩; obtain ⟨a8, c8, rfl, _⟩ := HPC.out _ _ _ hX8; have HM := Lib.hid (HM.out.below hB8); have HW := Lib.hid (HW.out.below hB8); have HX5 := Lib.hid (HX5.out.below hB8); have HX6 := Lib.hid (HX6.out.below hB8); have HX7 := Lib.hid (HX7.out.below hB8); have HX8 := Lib.hid hX8; have HB8 := Lib.hid (below_th HB7.out hB8); clear hX8 hB8)
    | (go_at_call 27; (with_reducible refine Calls.mono (H5.out _ _ HM.out) ?_); rintro e w9 ⟨v9, rfl, hX9, hB9⟩; obtain ⟨a9, c9, rfl, _⟩ := HPC.out _ _ _ hX9; have HM := Lib.hid (HM.out.below hB9); have HW := Lib.hid (HW.out.below hB9); have HX5 := Lib.hid (HX5.out.below hB9); have HX6 := Lib.hid (HX6.out.below hB9); have HX7 := Lib.hid (HX7.out.below hB9); have HX8 := Lib.hid (HX8.out.below hB9); have HX9 := Lib.hid hX9; have HB9 := Lib.hid (below_th HB8.out hB9); clear hX9 hB9)
    | (go_at_call 28; (with_reducible refine Calls.mono (H6.out _ _ HM.out) ?_); rintro e w10 ⟨v10, rfl, hX10, hB10⟩; obtain ⟨a10, c10, rfl, _⟩ := HPC.out _ _ _ hX10; have HM := Lib.hid (HM.out.below hB10); have HW := Lib.hid (HW.out.below hB10); have HX5 := Lib.hid (HX5.out.below hB10); have HX6 := Lib.hid (HX6.out.below hB10); have HX7 := Lib.hid (HX7.out.below hB10); have HX8 := Lib.hid (HX8.out.below hB10); have HX9 := Lib.hid (HX9.out.below hB10); have HX10 := Lib.hid hX10; have HB10 := Lib.hid (below_th HB9.out hB10); clear hX10 hB10)
    | (go_at_call 19; (with_reducible refine Calls.mono (HS1.out _ _ _ HX5.out HX6.out) ?_); rintro e w11 ⟨rfl, hB11⟩; have HM := Lib.hid (HM.out.below hB11); have HW := Lib.hid (HW.out.below hB11); have HX7 := Lib.hid (HX7.out.below hB11); have HX8 := Lib.hid (HX8.out.below hB11); have HX9 := Lib.hid (HX9.out.below hB11); have HX10 := Lib.hid (HX10.out.below hB11); have HB11 := Lib.hid (below_th HB10.out hB11); clear hB11)
    | (go_at_call 19; (with_reducible refine Calls.mono (HS2.out _ _ _ HX7.out HX8.out) ?_); rintro e w12 ⟨rfl, hB12⟩; have HM := Lib.hid (HM.out.below hB12); have HW := Lib.hid (HW.out.below hB12); have HX9 := Lib.hid (HX9.out.below hB12); have HX10 := Lib.hid (HX10.out.below hB12); have HB12 := Lib.hid (below_th HB11.out hB12); clear hB12)
    | (go_at_call 19; (with_reducible refine Calls.mono (HS3.out _ _ _ HX9.out HX10.out) ?_); rintro e w13 ⟨rfl, hB13⟩; have HM := Lib.hid (HM.out.below hB13); have HW := Lib.hid (HW.out.below hB13); have HB13 := Lib.hid (below_th HB12.out hB13); clear hB13)
    | (go_at_call 19; (with_reducible refine Calls.mono (HS4.out _ _ _ HM.out HW.out) ?_); rintro e w14 ⟨rfl, hB14⟩; have HB14 := Lib.hid (below_th HB13.out hB14); clear hB14))
  go_ret
  exact ⟨by simp, HB14.out⟩
end
end Go.Proofs.Ytoedjemelblpaaa.Cps
