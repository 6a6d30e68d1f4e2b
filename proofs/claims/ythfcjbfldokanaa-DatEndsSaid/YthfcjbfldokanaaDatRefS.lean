/- The document's bare, Sweep. -/
import Derived.Test.YthfcjbfldokanaaDatRefM
import Derived.Test.YthfcjbfldokanaaDatSweep
namespace Go.Proofs.Ythfcjbfldokanaa.Dat.R
open Go.RowKit
attribute [local go_sem] Oper.semAt_some
set_option linter.unusedVariables false

section
set_option maxRecDepth 100000
set_option maxHeartbeats 4000000
theorem bare_any (b off cap N : Nat) (L : List T) (w : World) (hN : L.length = N) (hL : Trs w (.slice (some ⟨b, off, none⟩) N cap) L) (h1 : 1 ≤ N) (h2 : N ≤ 1000000) : Calls Try.prog 44 #[.slice (some ⟨b, off, none⟩) N cap] w (Ans w (.slice (some ⟨b, off, none⟩) (bareN L) cap)) := by
  have HX := Lib.hid (fun W k (h : Below w.heap.size w W) (hk : k < N) => (hL.below h).get hN hk)
  have HFr := Lib.hid (fun k W => free_any (tr L k) W)
  have HFree : Hid (∀ k, tr L k = T.zero → bareOf (cand L (k + 1)) = bareN L → bareOf (cand L k) = bareN L) := fun k hz h => by rw [← h, bareOf_free L k (fun hu => hu hz)]
  have HUsed : Hid (∀ k, ¬ tr L k = T.zero → bareOf (cand L (k + 1)) = bareN L → k + 1 = bareN L) := fun k hz h => by rw [← h, bareOf_used L k hz]
  have HOne : Hid (bareOf (cand L 1) = bareN L → 1 = bareN L) := fun h => by rw [← h, bareOf_one]
  have HS : Hid (bareOf (cand L N) = bareN L) := by unfold Hid bareN cnd; rw [hN]
  have hcap : N ≤ cap := by
    obtain ⟨a1, cap1, e, g1, g2⟩ := hL.parts
    cases e
    omega
  obtain ⟨r, hr⟩ : ∃ r, bareN L = r := ⟨_, rfl⟩
  rw [hr] at HFree HUsed HOne HS ⊢
  clear hL hN hr
  obtain ⟨W0, rfl⟩ : ∃ W0 : World, W0 = w := ⟨_, rfl⟩
  go_enter Try.func44, Try.ntmps44
  go_wp2
  go_loopw [3] (fun j wr => ∃ k : Nat, k + 1 ≤ N ∧ j = .int .i64 ((k + 1 : Nat) : Int) ∧ Hid (bareOf (cand L (k + 1)) = r) ∧ Hid (Below W0.heap.size W0 wr)) (fun j _ => (intOf j).toNat)
  case atStart =>
    obtain ⟨m, rfl⟩ : ∃ m, N = m + 1 := ⟨N - 1, by omega⟩
    exact ⟨m, by omega, rfl, HS.out, Below.refl _ _⟩
  case round =>
    obtain ⟨k, hk, rfl, HV, HBk⟩ := hrel
    have hkk : ((k + 1 : Nat) : Int) = (k : Int) + 1 := by omega
    rcases Nat.eq_zero_or_pos k with rfl | hp
    · have HR := Lib.hid (HOne.out HV.out)
      have g1 : ¬ (1 : Int) < ((0 + 1 : Nat) : Int) := by omega
      have g2 : ¬ (1 : Int) < 1 := by omega
      have hc1 : 1 ≤ cap := by omega
      have hc2 : (1 : Int) ≤ (cap : Int) := by omega
      clear HV hkk
      go_wp2
      go_ret
      exact ⟨by rw [← HR.out]; rfl, HBk.out⟩
    · obtain ⟨x0, x1, x2⟩ := HX.out wr k HBk.out (by omega)
      have hf := fun W => HFr.out k W
      unfold T.val at hf
      have g1 : (1 : Int) < (k : Int) + 1 := by omega
      have wk : IntKind.i64.wrap (k : Int) = (k : Int) := by rw [IntKind.wrap_i64]; omega
      have hkN : k < N := by omega
      by_cases hz : tr L k = T.zero
      · rw [show freeB (tr L k) = true from decide_eq_true hz] at hf
        have HF := Lib.hid hf
        have HV2 := Lib.hid (HFree.out k hz HV.out)
        obtain ⟨m, rfl⟩ : ∃ m, k = m + 1 := ⟨k - 1, by omega⟩
        have wk2 : IntKind.i64.wrap ((m : Int) + 1) = (m : Int) + 1 := by rw [IntKind.wrap_i64]; omega
        clear hf hz HV
        go_wp2_with (go_at_call 33; (with_reducible refine Calls.mono (HF.out _) ?_); rintro e w2 ⟨rfl, hB2⟩)
        go_roundw
        case rel => exact ⟨m, by omega, by go_num, HV2.out, below_th HBk.out hB2⟩
        case measure => simp [intOf]; omega
      · rw [show freeB (tr L k) = false from decide_eq_false hz] at hf
        have HF := Lib.hid hf
        have HR := Lib.hid (HUsed.out k hz HV.out)
        have hc1 : k + 1 ≤ cap := by omega
        have hc2 : (k : Int) + 1 ≤ (cap : Int) := by omega
        have hc3 : (0 : Int) ≤ (k : Int) + 1 := by omega
        have hc4 : ((k : Int) + 1).toNat = k + 1 := by omega
        clear hf hz HV
        go_wp2_with (go_at_call 33; (with_reducible refine Calls.mono (HF.out _) ?_); rintro e w2 ⟨rfl, hB2⟩)
        go_ret
        exact ⟨by rw [← HR.out]; rfl, below_th HBk.out hB2⟩
theorem own_of_below {W W' : World} {base : Nat} {e : TypeId} {sz : Nat} {v : Value} {n : Nat} {xs : List Value} (h : W.ownsRow base e sz v n xs) (hB : Below W.heap.size W W') : W'.ownsRow base e sz v n xs := h.kept (grown_of_below hB) (by cases hv : v.ownBlock <;> simp)
theorem sweep_any (v vc : Value) (L : List T) (C : List Int) (w : World) (hL : Trs w v L) (hC : Cps w vc C) : Calls Try.prog 21 #[v, vc] w (SwpPost L C w) := by
  have hR := right_any v L w hL
  by_cases hr : RightP L
  · rw [rightB_yes hr] at hR
    obtain ⟨i0, hin, hz0, hz1, hz2⟩ := info_parts infoTr
    obtain ⟨b, off, cap, rfl, _⟩ := hL.at (k := 0) (by have := hr.1; omega)
    obtain ⟨ac, capc, rfl, hnc, hmc⟩ := hC.parts
    obtain ⟨N, hN⟩ : ∃ N, L.length = N := ⟨_, rfl⟩
    obtain ⟨nc, hncl⟩ : ∃ nc, C.length = nc := ⟨_, rfl⟩
    have hN1 : 1 ≤ N := by have := hr.1; omega
    have hN9 : N ≤ 1860 := by have := hr.1; omega
    have HNews := Lib.hid (fun W (h : Below w.heap.size w W) => (hL.below h).news)
    have HV : Hid ((cellsL L).length = N * 3) := by unfold Hid; rw [cellsL_length, hN]
    have HO := Lib.hid (cellsL_one L)
    have HFr := Lib.hid (fun (M : List T) k W => free_any (tr M k) W)
    have HLv := Lib.hid (fun (M : List T) k W (h : Below w.heap.size w W) => lives_any (tr M k) _ C W (hC.below h))
    rw [hncl] at HLv
    have HMK := Lib.hid (fun (W : World) => make_any W.heap.size N (N : Int) rfl (by omega) W (Nat.le_refl _))
    have HTrs : Hid (∀ (W : World) (base : Nat) (M : List T) (v : Value), M.length = N → W.ownsRow base 40 3 v N (cellsL M) → Trs W v M) := fun W base M v hM h => Trs.own (base := base) (by rw [hM]; exact h)
    have HMl : Hid (∀ M l, swK L C M l → M.length = N) := fun M l h => by rw [h.1, hN]
    have HMk : Hid (∀ M k, swK L C M (cand L k) → tr M k = tr L k) := fun M k h => by rw [h.2 k, if_neg (fun hh => by have := (cand_mem hh).1; omega)]
    have HC1 : Hid (∀ M k, swK L C M (cand L k) → livesP (tr L k) C → swK L C M (cand L (k + 1)) ∧ dead L C (cand L (k + 1)) = dead L C (cand L k)) := fun M k h hl => by
      rw [cand_succ, if_pos (show usedP L k from hl.1)]
      exact ⟨swK_live h hl, by rw [dead_snoc, if_pos hl]; rfl⟩
    have HC2 : Hid (∀ M k, swK L C M (cand L k) → tr L k = T.zero → swK L C M (cand L (k + 1)) ∧ dead L C (cand L (k + 1)) = dead L C (cand L k)) := fun M k h hl => by
      rw [cand_succ, if_neg (fun hu => hu hl), List.append_nil]
      exact ⟨h, rfl⟩
    have HC3 : Hid (∀ M k, k < N → swK L C M (cand L k) → ¬ livesP (tr L k) C → ¬ tr L k = T.zero → swK L C (M.set k T.zero) (cand L (k + 1)) ∧ dead L C (cand L (k + 1)) = dead L C (cand L k) + 1) := fun M k hk h hl hz => by
      rw [cand_succ, if_pos (show usedP L k from hz)]
      exact ⟨swK_dead h (by omega) hl, by rw [dead_snoc, if_neg hl]⟩
    have HDl : Hid (∀ k, k ≤ N → dead L C (cand L k) ≤ 1860) := fun k hk => by
      have h1 := dead_le L C (cand L k)
      have h2 := cand_le L k
      omega
    have HFin : Hid (∀ (W : World) (M : List T) (g c : Nat), swK L C M (cand L N) → Trs W (.slice (some ⟨g, 0, none⟩) N c) M → Below w.heap.size w W → SwpPost L C w (.returned (.tuple #[.slice (some ⟨g, 0, none⟩) (bareN M) c, .int .i64 (dead L C (cand L N) : Nat), .int .i64 0])) W) := fun W M g c h hT hB => by
      have hcn : cand L N = cnd L := by unfold cnd; rw [hN]
      rw [hcn] at h ⊢
      have hM := swK_all h
      have hMl : M.length = N := by rw [h.1, hN]
      have hb := bareN_le (L := M) (by omega)
      refine ⟨_, by unfold swpN swpE; rw [if_pos hr, if_pos hr], ?_, hB⟩
      unfold swpV
      rw [if_pos hr, ← hM]
      exact hT.cut _ (by omega)
    have HBare := Lib.hid (fun (W : World) (M : List T) (g c : Nat) (hM : M.length = N) (h : Trs W (.slice (some ⟨g, 0, none⟩) N c) M) => bare_any g 0 c N M W hM h hN1 (by omega))
    have hnil : swK L C L (cand L 0) := swK_nil L C
    have hd0 : dead L C (cand L 0) = 0 := rfl
    have hcap : N ≤ cap ∧ cap ≤ 9223372036854775807 := by
      obtain ⟨a1, cap1, e, g1, g2⟩ := hL.parts
      cases e
      omega
    obtain ⟨hcap1, hcap2⟩ := hcap
    rw [hN] at hR ⊢
    rw [hncl] at hnc ⊢
    have HR := Lib.hid hR
    have HNil := Lib.hid hnil
    have HD0 := Lib.hid hd0
    clear hR hL hr hN hncl hC hnil hd0
    obtain ⟨W0, rfl⟩ : ∃ W0 : World, W0 = w := ⟨_, rfl⟩
    go_enter Try.func21, Try.ntmps21
    go_wp2_with (first
      | (go_at_call 16; (with_reducible refine Calls.mono HR.out ?_); rintro e w1 ⟨rfl, hB1⟩; obtain ⟨w5, hm5, hown5, hgrow5⟩ := HMK.out w1; have hB5 := make_below hgrow5)
      | (at_builtin; (refine wpList_append_own _ rfl _ _ 22 rfl w1.heap.size 40 i0 (.agg #[.int .u32 0, .int .u64 0, .int .u64 0]) 3 24 Try.underlying22 hin hz0 hz1 hz2 rfl (by decide) (.slice (some ⟨w1.heap.size, 0, none⟩) 0 N) 0 [] rfl hown5 ⟨b, off, none⟩ N cap (cellsL L) rfl HV.out (HNews.out _ (below_th hB1 hB5)) HO.out (by unfold maxLen; omega) (by omega) hB5.size ?_; intro v3 w6 hown6 hgrow6 _; rw [Nat.zero_add, List.nil_append] at hown6; obtain ⟨g, cap3, rfl, hg, hc1, hc2⟩ := own_open hown6 (by omega); have hB6 := hB5.grown hgrow6 hB5.size (fun r e => Nat.le_of_eq (by simpa [Value.ownBlock] using e)); have HB6 := Lib.hid (below_th hB1 hB6); have HOw6 := Lib.hid hown6; have HGW := Lib.hid (show W0.heap.size ≤ g by have := hB1.size; omega); clear hB6 hown6 hown5 hgrow5 hm5 hgrow6 hB5)))
    go_loopw [9, 10, 11] (fun n j _ wr => ∃ (k d : Nat) (M : List T), k ≤ N ∧ j = .int .i64 (k : Int) ∧ n = .int .i64 (d : Int) ∧ Hid (d = dead L C (cand L k)) ∧ Hid (swK L C M (cand L k)) ∧ Hid (wr.ownsRow w1.heap.size 40 3 (.slice (some ⟨g, 0, none⟩) N cap3) N (cellsL M)) ∧ Hid (Below W0.heap.size W0 wr)) (fun _ j _ _ => N - (intOf j).toNat)
    case atStart => exact ⟨0, 0, L, by omega, rfl, rfl, HD0.out.symm, HNil.out, HOw6.out, HB6.out⟩
    case round =>
      obtain ⟨k, d, M, hk, rfl, rfl, HD, HK, HW, HBk⟩ := hrel
      have hMl := HMl.out M _ HK.out
      by_cases hlt : k < N
      · obtain ⟨x0, x1, x2⟩ := (HTrs.out _ _ _ _ hMl HW.out).get hMl hlt
        have HX := Lib.hid (fun W (h : Below wr.heap.size wr W) => (HTrs.out _ _ _ _ hMl (own_of_below HW.out h)).get hMl hlt)
        have hlv := fun W h => HLv.out M k W h
        have hfr := fun W => HFr.out M k W
        have hmk := HMk.out M k HK.out
        rw [hmk] at x0 x1 x2 HX hlv hfr
        simp only [Nat.zero_add] at x0 x1 x2 HX
        have hdl := HDl.out k hk
        have hde := HD.out
        unfold T.val at hlv hfr
        by_cases hli : livesP (tr L k) C
        · rw [show livesB (tr L k) C = true from decide_eq_true hli] at hlv
          have HLv2 := Lib.hid hlv
          obtain ⟨g1, g2⟩ := HC1.out M k HK.out hli
          have HG1 := Lib.hid g1
          have HG2 : Hid (d = dead L C (cand L (k + 1))) := by unfold Hid; omega
          clear hlv hfr hli g1 g2 hde hdl hmk hMl
          go_wp2_with (go_at_call 23; (with_reducible refine Calls.mono (HLv2.out _ HBk.out) ?_); rintro e w7 ⟨rfl, hB7⟩)
          go_roundw
          case rel => exact ⟨k + 1, d, M, by omega, by go_num, rfl, HG2.out, HG1.out, own_of_below HW.out hB7, below_th HBk.out hB7⟩
          case measure => simp [intOf]; omega
        · rw [show livesB (tr L k) C = false from decide_eq_false hli] at hlv
          have HLv2 := Lib.hid hlv
          by_cases hz : tr L k = T.zero
          · rw [show freeB (tr L k) = true from decide_eq_true hz] at hfr
            have HFr2 := Lib.hid hfr
            obtain ⟨g1, g2⟩ := HC2.out M k HK.out hz
            have HG1 := Lib.hid g1
            have HG2 : Hid (d = dead L C (cand L (k + 1))) := by unfold Hid; omega
            clear hlv hfr hli g1 g2 hde hdl hmk hMl hz
            go_wp2_with (first
              | (go_at_call 23; (with_reducible refine Calls.mono (HLv2.out _ HBk.out) ?_); rintro e w7 ⟨rfl, hB7⟩; obtain ⟨y0, y1, y2⟩ := HX.out _ hB7)
              | (go_at_call 33; (with_reducible refine Calls.mono (HFr2.out _) ?_); rintro e w8 ⟨rfl, hB8⟩))
            go_roundw
            case rel => exact ⟨k + 1, d, M, by omega, by go_num, rfl, HG2.out, HG1.out, own_of_below HW.out (below_th hB7 hB8), below_th HBk.out (below_th hB7 hB8)⟩
            case measure => simp [intOf]; omega
          · rw [show freeB (tr L k) = false from decide_eq_false hz] at hfr
            have HFr2 := Lib.hid hfr
            obtain ⟨g1, g2⟩ := HC3.out M k hlt HK.out hli hz
            have HG1 := Lib.hid g1
            have HG2 : Hid (d + 1 = dead L C (cand L (k + 1))) := by unfold Hid; omega
            have hwd : IntKind.i64.wrap ((d : Int) + 1) = (d : Int) + 1 := by rw [IntKind.wrap_i64]; omega
            have HSZ := Lib.hid (fun W (h : Below wr.heap.size wr W) => own_setZ hMl (own_of_below HW.out h) hlt)
            clear hlv hfr hli g1 g2 hde hdl hmk hMl hz
            go_wp2_with (first
              | (go_at_call 23; (with_reducible refine Calls.mono (HLv2.out _ HBk.out) ?_); rintro e w7 ⟨rfl, hB7⟩; obtain ⟨y0, y1, y2⟩ := HX.out _ hB7)
              | (go_at_call 33; (with_reducible refine Calls.mono (HFr2.out _) ?_); rintro e w8 ⟨rfl, hB8⟩; obtain ⟨⟨u0, k0⟩, f0, ⟨u1, k1⟩, f1, ⟨u2, k2⟩, f2, hown9, hB9⟩ := HSZ.out _ (below_th hB7 hB8); have HOw9 := Lib.hid hown9; have HB9 := Lib.hid ((below_th HBk.out (below_th hB7 hB8)).trans (hB9.mono HGW.out)); clear hown9 hB9))
            go_roundw
            case rel => exact ⟨k + 1, d + 1, M.set k T.zero, by omega, by go_num, by go_num, HG2.out, HG1.out, HOw9.out, HB9.out⟩
            case measure => simp [intOf]; omega
      · obtain rfl : N = k := by omega
        have hT := HTrs.out _ _ _ _ hMl HW.out
        have HT := Lib.hid hT
        have HF := Lib.hid (fun W (h : Below wr.heap.size wr W) => HFin.out W M g cap3 HK.out (hT.below h) (below_th HBk.out h))
        have hde := HD.out
        rw [← hde] at HF
        clear hT hde
        go_wp2_with (go_at_call 44; (with_reducible refine Calls.mono (HBare.out _ _ _ _ hMl HT.out) ?_); rintro e w7 ⟨rfl, hB7⟩)
        go_returns
        exact HF.out _ hB7
  · obtain ⟨e1, e2, e3⟩ := swpV_no (C := C) hr
    have HF : Hid (∀ W, Below w.heap.size w W → SwpPost L C w (.returned (.tuple #[.slice none 0 0, .int .i64 0, .int .i64 80])) W) := fun W h => ⟨_, by rw [e2, e3]; rfl, by rw [e1]; exact Trs.nil W, h⟩
    rw [rightB_no hr] at hR
    obtain ⟨a, cap, rfl, hn, hm⟩ := hL.parts
    obtain ⟨ac, capc, rfl, hnc, hmc⟩ := hC.parts
    obtain ⟨N, hN⟩ : ∃ N, L.length = N := ⟨_, rfl⟩
    rw [hN] at hR hn ⊢
    have HR := Lib.hid hR
    clear hR hL hC hr hN e1 e2 e3
    go_enter Try.func21, Try.ntmps21
    go_wp2_with (go_at_call 16; (with_reducible refine Calls.mono HR.out ?_); rintro e w1 ⟨rfl, hB1⟩)
    go_returns
    exact HF.out _ hB1
end
end Go.Proofs.Ythfcjbfldokanaa.Dat.R
