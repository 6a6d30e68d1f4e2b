/- CpsApart, walked. -/
import Derived.Test.YtoedjemelblpaaaCpsFacts
import Derived.Test.YtoedjemelblpaaaCpsArgs
namespace Go.Proofs.Ytoedjemelblpaaa.Cps
open Go.RowKit
attribute [local go_sem] Oper.semAt_some
set_option linter.unusedVariables false
set_option linter.unusedSimpArgs false
section
set_option maxRecDepth 100000
set_option maxHeartbeats 4000000
theorem CpsApart_walk (v1 : Value) (L1 : List C) (v2 : Value) (L2 : List C) (c : C) (w : World) (hL1 : Chs w v1 L1) (wL1 : ∀ o ∈ L1, COk o) (hL2 : Chs w v2 L2) (wL2 : ∀ o ∈ L2, COk o) (wc : COk c) :
    Calls Try.prog 9 #[v1, v2, c.val] w fun e w' => e = .returned (.bool true) ∧ Below w.heap.size w w' := by
  clear wL1 wL2 wc
  obtain ⟨A, hA⟩ : ∃ M, L1.take 200 = M := ⟨_, rfl⟩
  obtain ⟨NA, hNA⟩ : ∃ N, A.length = N := ⟨_, rfl⟩
  obtain ⟨B, hB⟩ : ∃ M, L2.take 200 = M := ⟨_, rfl⟩
  obtain ⟨NB, hNB⟩ : ∃ N, B.length = N := ⟨_, rfl⟩
  have HCutA := Lib.hid (fun W h => cut_at v1 L1 A NA hA hNA W h)
  have HCutB := Lib.hid (fun W h => cut_at v2 L2 B NB hB hNB W h)
  have hB0 := below_new w (boxO c)
  have HLA := Lib.hid (hL1.below hB0)
  have HLB := Lib.hid (hL2.below hB0)
  have HB0 := Lib.hid hB0
  have HC := Lib.hid (fun W (h : Below (w.alloc (boxO c)).heap.size (w.alloc (boxO c)) W) => (At.new w c).th h)
  have H1 := Lib.hid (fun v W (h : Chs W v A) => encode_any v A W h)
  have H2 := Lib.hid (fun v W (h : Chs W v B) => encode_any v B W h)
  have H3 := Lib.hid (fun v W (h : Chs W v A) => add_any v A c W h)
  have HPC := Lib.hid (fun W v X (h : Chs W v X) => h.parts)
  have HPS := Lib.hid (fun W v X (h : Strs W v X) => h.parts)
  have HST := Lib.hid (fun v1 v2 W h1 h2 => sameTexts_any v1 v2 (encV A) (encV B) W h1 h2)
  have HSC := Lib.hid (fun v1 v2 W h1 h2 => same_any v1 v2 A B W h1 h2)
  have HSA := Lib.hid (fun v1 v2 W h1 h2 => same_any v1 v2 A A W h1 h2)
  simp only [decide_true] at HSA
  unfold EncPost at H1 H2
  unfold TabPost at H3
  obtain ⟨eA, heA⟩ : ∃ e, encE A = e := ⟨_, rfl⟩
  obtain ⟨eB, heB⟩ : ∃ e, encE B = e := ⟨_, rfl⟩
  have hst : eA = 0 → eB = 0 → decide (encV A = encV B) = decide (A = B) := fun h1 h2 => by
    have hr1 : RightP A := by
      by_cases h : RightP A
      · exact h
      · rw [← heA, show encE A = 90 from if_neg h] at h1; cases h1
    have hr2 : RightP B := by
      by_cases h : RightP B
      · exact h
      · rw [← heB, show encE B = 90 from if_neg h] at h2; cases h2
    rw [decide_eq_decide]
    exact ⟨fun h => enc_inj hr1 hr2 h, fun h => by rw [h]⟩
  rw [heA] at H1
  rw [heB] at H2
  have hadd : addE A c = 0 → addV A c = A ++ [c] := fun h => if_pos h
  obtain ⟨n, hn⟩ : ∃ n, addE A c = n := ⟨_, rfl⟩
  rw [hn] at H3 hadd
  obtain ⟨N1, hN1⟩ : ∃ N1, NA + 1 = N1 := ⟨_, rfl⟩
  have hAl : (A ++ [c]).length = N1 := by rw [List.length_append, hNA]; exact hN1
  have HAt := Lib.hid (fun W b o cp (h : Chs W (.slice (some ⟨b, o, none⟩) N1 cp) (A ++ [c])) => show Reads W b (o + NA * 4) c by have := h.get hAl (k := NA) (by omega); rw [← hNA, ck_last, hNA] at this; exact this)
  have HAcut := Lib.hid (fun W a cp (h : Chs W (.slice a N1 cp) (A ++ [c])) => show Chs W (.slice a NA cp) A by have := h.cut NA (by rw [hAl]; omega); rw [← hNA, List.take_left', hNA] at this; exact this; rfl)
  have HAop := Lib.hid (fun W v (h : Chs W v (A ++ [c])) => show ∃ b o cp, v = .slice (some ⟨b, o, none⟩) N1 cp ∧ (N1 : Int) ≤ cp ∧ (NA : Int) ≤ cp ∧ NA ≤ cp by
    rcases h.open with ⟨a, cp, _, e⟩ | ⟨b, o, cp, e, _, h1, h2⟩
    · simp at e
    · rw [hAl] at e h1; exact ⟨b, o, cp, e, by omega, by omega, by omega⟩)
  have hNA2 : NA ≤ 200 := by rw [← hNA, ← hA, List.length_take]; omega
  have hwn : IntKind.i64.wrap ((NA : Int) + 1) = (N1 : Int) := by rw [IntKind.wrap_i64]; omega
  have hb1 : (0 : Int) ≤ (NA : Int) := by omega
  have hb2 : (NA : Int) < (N1 : Int) := by omega
  have hb3 : NA < N1 := by omega
  have HQ := Lib.hid (fun W => eqlC c c W)
  simp only [decide_true] at HQ
  obtain ⟨XA, hXA⟩ : ∃ X, encV A = X := ⟨_, rfl⟩
  obtain ⟨XB, hXB⟩ : ∃ X, encV B = X := ⟨_, rfl⟩
  rw [hXA] at H1 HST hst
  rw [hXB] at H2 HST hst
  obtain ⟨x, hx⟩ : ∃ x, decide (A = B) = x := ⟨_, rfl⟩
  rw [hx] at HSC hst
  clear hN1 hXA hXB hA hB hNA hNB hL1 hL2 heA heB hn hx hAl hB0
  -- the second half, whatever the first one did
  obtain ⟨ncp, ti, sn, ro⟩ := c
  unfold C.val at H3 HQ ⊢
  unfold boxO at HLA HLB HB0 HC
  unfold Reads at HAt
  dsimp only at H3 HQ HLA HLB HB0 HC HAt ⊢
  by_cases hn0 : n = 0
  · rw [hn0] at H3
    rw [hadd hn0] at H3
    clear hadd hn0
    by_cases ha : eA = 0
    · by_cases hb : eB = 0
      · rw [hst ha hb] at HST
        subst ha
        subst hb
        clear hst
        cases x with
        | true =>
          go_enter Try.func9, Try.ntmps9
          go_wp2_with (first
            | (go_at_call 11; (with_reducible refine Calls.mono (shown_any _) ?_); rintro e w1 ⟨rfl, hB1⟩; have HLA1 := Lib.hid (HLA.out.below hB1); have HLB1 := Lib.hid (HLB.out.below hB1))
            | (go_at_call 12; (with_reducible refine Calls.mono (HCutA.out _ HLA1.out) ?_); rintro e w2 ⟨a, cap, rfl, HA, hc1, hc2, rfl⟩)
            | (go_at_call 12; (with_reducible refine Calls.mono (HCutB.out _ HLB1.out) ?_); rintro e w2 ⟨b, capb, rfl, HB, hd1, hd2, rfl⟩)
            | (go_at_call 29; (with_reducible refine Calls.mono (H1.out _ _ HA.out) ?_); rintro e w3 ⟨v3, rfl, hX3, hB3⟩; obtain ⟨a3, c3, rfl, _⟩ := HPS.out _ _ _ hX3; have HA := Lib.hid (HA.out.below hB3); have HB := Lib.hid (HB.out.below hB3); have HX3 := Lib.hid hX3; have HB3 := Lib.hid (below_th hB1 hB3); clear hX3 hB3)
            | (go_at_call 29; (with_reducible refine Calls.mono (H2.out _ _ HB.out) ?_); rintro e w4 ⟨v4, rfl, hX4, hB4⟩; obtain ⟨a4, c4, rfl, _⟩ := HPS.out _ _ _ hX4; have HA := Lib.hid (HA.out.below hB4); have HB := Lib.hid (HB.out.below hB4); have HX3 := Lib.hid (HX3.out.below hB4); have HX4 := Lib.hid hX4; have HB4 := Lib.hid (below_th HB3.out hB4); clear hX4 hB4; obtain ⟨q0, q1, q2, q3⟩ := (HC.out _ HB4.out).c)
            | (go_at_call 33; (with_reducible refine Calls.mono (HST.out _ _ _ HX3.out HX4.out) ?_); rintro e w5 ⟨rfl, hB5⟩; have HA := Lib.hid (HA.out.below hB5); have HB := Lib.hid (HB.out.below hB5); have HB5 := Lib.hid (below_th HB4.out hB5); clear hB5)
            | (go_at_call 19; (with_reducible refine Calls.mono (HSC.out _ _ _ HA.out HB.out) ?_); rintro e w6 ⟨rfl, hB6⟩; have HA := Lib.hid (HA.out.below hB6); have HB6 := Lib.hid (below_th HB5.out hB6); clear hB6 q0 q1 q2 q3; obtain ⟨q0, q1, q2, q3⟩ := (HC.out _ HB6.out).c)
            | (go_at_call 13; (with_reducible refine Calls.mono (H3.out _ _ HA.out) ?_); rintro e w7 ⟨v7, rfl, hM7, hB7⟩; obtain ⟨b7, o7, c7, rfl, k1, k2, k3⟩ := HAop.out _ _ hM7; obtain ⟨r0, r1, r2, r3⟩ := HAt.out _ _ _ _ hM7; have HM7 := Lib.hid (HAcut.out _ _ _ hM7); have HA := Lib.hid (HA.out.below hB7); have HB7 := Lib.hid (below_th HB6.out hB7); clear hM7 hB7 q0 q1 q2 q3; obtain ⟨q0, q1, q2, q3⟩ := (HC.out _ HB7.out).c))
          have hr7 : Reads w7 b7 (o7 + NA * 4) ⟨ncp, ti, sn, ro⟩ := ⟨r0, r1, r2, r3⟩
          have HKK := Lib.hid (fun W (h : Below w7.heap.size w7 W) => And.intro (hr7.th h) ((HC.out _ (below_th HB7.out h)).c))
          unfold Reads at HKK
          dsimp only at HKK
          clear hr7
          have hq := HQ.out
          have hself : Below w7.heap.size w7 w7.drew := (Below.refl _ _).drew
          go_region_held3 (fun w' => (w'.cell? ⟨b7, o7 + NA * 4, none⟩ = some (.int .u64 ncp) ∧ w'.cell? ⟨b7, o7 + NA * 4 + 1, none⟩ = some (.int .u64 ti) ∧ w'.cell? ⟨b7, o7 + NA * 4 + 2, none⟩ = some (.bool sn) ∧ w'.cell? ⟨b7, o7 + NA * 4 + 3, none⟩ = some (.string ro)) ∧ (w'.cell? ⟨w.heap.size, 0, none⟩ = some (.int .u64 ncp) ∧ w'.cell? ⟨w.heap.size, 1, none⟩ = some (.int .u64 ti) ∧ w'.cell? ⟨w.heap.size, 2, none⟩ = some (.bool sn) ∧ w'.cell? ⟨w.heap.size, 3, none⟩ = some (.string ro))) (exact HKK.out _ (by assumption)) ((go_at_call 19; (with_reducible refine Calls.mono (HSA.out _ _ _ (HM7.out.below (by assumption)) (HA.out.below (by assumption))) ?_); rintro e w8 ⟨rfl, hB8⟩; have := below_th (by assumption : Below w7.heap.size w7 _) hB8))
          go_wp2
          go_ret
          exact ⟨by simp, below_th HB0.out (below_th HB7.out (by assumption))⟩
        | false =>
          go_enter Try.func9, Try.ntmps9
          go_wp2_with (first
            | (go_at_call 11; (with_reducible refine Calls.mono (shown_any _) ?_); rintro e w1 ⟨rfl, hB1⟩; have HLA1 := Lib.hid (HLA.out.below hB1); have HLB1 := Lib.hid (HLB.out.below hB1))
            | (go_at_call 12; (with_reducible refine Calls.mono (HCutA.out _ HLA1.out) ?_); rintro e w2 ⟨a, cap, rfl, HA, hc1, hc2, rfl⟩)
            | (go_at_call 12; (with_reducible refine Calls.mono (HCutB.out _ HLB1.out) ?_); rintro e w2 ⟨b, capb, rfl, HB, hd1, hd2, rfl⟩)
            | (go_at_call 29; (with_reducible refine Calls.mono (H1.out _ _ HA.out) ?_); rintro e w3 ⟨v3, rfl, hX3, hB3⟩; obtain ⟨a3, c3, rfl, _⟩ := HPS.out _ _ _ hX3; have HA := Lib.hid (HA.out.below hB3); have HB := Lib.hid (HB.out.below hB3); have HX3 := Lib.hid hX3; have HB3 := Lib.hid (below_th hB1 hB3); clear hX3 hB3)
            | (go_at_call 29; (with_reducible refine Calls.mono (H2.out _ _ HB.out) ?_); rintro e w4 ⟨v4, rfl, hX4, hB4⟩; obtain ⟨a4, c4, rfl, _⟩ := HPS.out _ _ _ hX4; have HA := Lib.hid (HA.out.below hB4); have HB := Lib.hid (HB.out.below hB4); have HX3 := Lib.hid (HX3.out.below hB4); have HX4 := Lib.hid hX4; have HB4 := Lib.hid (below_th HB3.out hB4); clear hX4 hB4; obtain ⟨q0, q1, q2, q3⟩ := (HC.out _ HB4.out).c)
            | (go_at_call 33; (with_reducible refine Calls.mono (HST.out _ _ _ HX3.out HX4.out) ?_); rintro e w5 ⟨rfl, hB5⟩; have HA := Lib.hid (HA.out.below hB5); have HB := Lib.hid (HB.out.below hB5); have HB5 := Lib.hid (below_th HB4.out hB5); clear hB5)
            | (go_at_call 19; (with_reducible refine Calls.mono (HSC.out _ _ _ HA.out HB.out) ?_); rintro e w6 ⟨rfl, hB6⟩; have HA := Lib.hid (HA.out.below hB6); have HB6 := Lib.hid (below_th HB5.out hB6); clear hB6 q0 q1 q2 q3; obtain ⟨q0, q1, q2, q3⟩ := (HC.out _ HB6.out).c)
            | (go_at_call 13; (with_reducible refine Calls.mono (H3.out _ _ HA.out) ?_); rintro e w7 ⟨v7, rfl, hM7, hB7⟩; obtain ⟨b7, o7, c7, rfl, k1, k2, k3⟩ := HAop.out _ _ hM7; obtain ⟨r0, r1, r2, r3⟩ := HAt.out _ _ _ _ hM7; have HM7 := Lib.hid (HAcut.out _ _ _ hM7); have HA := Lib.hid (HA.out.below hB7); have HB7 := Lib.hid (below_th HB6.out hB7); clear hM7 hB7 q0 q1 q2 q3; obtain ⟨q0, q1, q2, q3⟩ := (HC.out _ HB7.out).c))
          have hr7 : Reads w7 b7 (o7 + NA * 4) ⟨ncp, ti, sn, ro⟩ := ⟨r0, r1, r2, r3⟩
          have HKK := Lib.hid (fun W (h : Below w7.heap.size w7 W) => And.intro (hr7.th h) ((HC.out _ (below_th HB7.out h)).c))
          unfold Reads at HKK
          dsimp only at HKK
          clear hr7
          have hq := HQ.out
          have hself : Below w7.heap.size w7 w7.drew := (Below.refl _ _).drew
          go_region_held3 (fun w' => (w'.cell? ⟨b7, o7 + NA * 4, none⟩ = some (.int .u64 ncp) ∧ w'.cell? ⟨b7, o7 + NA * 4 + 1, none⟩ = some (.int .u64 ti) ∧ w'.cell? ⟨b7, o7 + NA * 4 + 2, none⟩ = some (.bool sn) ∧ w'.cell? ⟨b7, o7 + NA * 4 + 3, none⟩ = some (.string ro)) ∧ (w'.cell? ⟨w.heap.size, 0, none⟩ = some (.int .u64 ncp) ∧ w'.cell? ⟨w.heap.size, 1, none⟩ = some (.int .u64 ti) ∧ w'.cell? ⟨w.heap.size, 2, none⟩ = some (.bool sn) ∧ w'.cell? ⟨w.heap.size, 3, none⟩ = some (.string ro))) (exact HKK.out _ (by assumption)) ((go_at_call 19; (with_reducible refine Calls.mono (HSA.out _ _ _ (HM7.out.below (by assumption)) (HA.out.below (by assumption))) ?_); rintro e w8 ⟨rfl, hB8⟩; have := below_th (by assumption : Below w7.heap.size w7 _) hB8))
          go_wp2
          go_ret
          exact ⟨by simp, below_th HB0.out (below_th HB7.out (by assumption))⟩
      · have g1 : (eB == 0) = false := by simp [hb]
        subst ha
        clear hst hb HST HSC
        go_enter Try.func9, Try.ntmps9
        go_wp2_with (first
          | (go_at_call 11; (with_reducible refine Calls.mono (shown_any _) ?_); rintro e w1 ⟨rfl, hB1⟩; have HLA1 := Lib.hid (HLA.out.below hB1); have HLB1 := Lib.hid (HLB.out.below hB1))
          | (go_at_call 12; (with_reducible refine Calls.mono (HCutA.out _ HLA1.out) ?_); rintro e w2 ⟨a, cap, rfl, HA, hc1, hc2, rfl⟩)
          | (go_at_call 12; (with_reducible refine Calls.mono (HCutB.out _ HLB1.out) ?_); rintro e w2 ⟨b, capb, rfl, HB, hd1, hd2, rfl⟩)
          | (go_at_call 29; (with_reducible refine Calls.mono (H1.out _ _ HA.out) ?_); rintro e w3 ⟨v3, rfl, hX3, hB3⟩; obtain ⟨a3, c3, rfl, _⟩ := HPS.out _ _ _ hX3; have HA := Lib.hid (HA.out.below hB3); have HB := Lib.hid (HB.out.below hB3); have HX3 := Lib.hid hX3; have HB3 := Lib.hid (below_th hB1 hB3); clear hX3 hB3)
          | (go_at_call 29; (with_reducible refine Calls.mono (H2.out _ _ HB.out) ?_); rintro e w4 ⟨v4, rfl, hX4, hB4⟩; obtain ⟨a4, c4, rfl, _⟩ := HPS.out _ _ _ hX4; have HA := Lib.hid (HA.out.below hB4); have HB := Lib.hid (HB.out.below hB4); have HX3 := Lib.hid (HX3.out.below hB4); have HX4 := Lib.hid hX4; have HB4 := Lib.hid (below_th HB3.out hB4); clear hX4 hB4; obtain ⟨q0, q1, q2, q3⟩ := (HC.out _ HB4.out).c)
          | (go_at_call 13; (with_reducible refine Calls.mono (H3.out _ _ HA.out) ?_); rintro e w7 ⟨v7, rfl, hM7, hB7⟩; obtain ⟨b7, o7, c7, rfl, k1, k2, k3⟩ := HAop.out _ _ hM7; obtain ⟨r0, r1, r2, r3⟩ := HAt.out _ _ _ _ hM7; have HM7 := Lib.hid (HAcut.out _ _ _ hM7); have HA := Lib.hid (HA.out.below hB7); have HB7 := Lib.hid (below_th HB4.out hB7); clear hM7 hB7 q0 q1 q2 q3; obtain ⟨q0, q1, q2, q3⟩ := (HC.out _ HB7.out).c))
        have hr7 : Reads w7 b7 (o7 + NA * 4) ⟨ncp, ti, sn, ro⟩ := ⟨r0, r1, r2, r3⟩
        have HKK := Lib.hid (fun W (h : Below w7.heap.size w7 W) => And.intro (hr7.th h) ((HC.out _ (below_th HB7.out h)).c))
        unfold Reads at HKK
        dsimp only at HKK
        clear hr7
        have hq := HQ.out
        have hself : Below w7.heap.size w7 w7.drew := (Below.refl _ _).drew
        go_region_held3 (fun w' => (w'.cell? ⟨b7, o7 + NA * 4, none⟩ = some (.int .u64 ncp) ∧ w'.cell? ⟨b7, o7 + NA * 4 + 1, none⟩ = some (.int .u64 ti) ∧ w'.cell? ⟨b7, o7 + NA * 4 + 2, none⟩ = some (.bool sn) ∧ w'.cell? ⟨b7, o7 + NA * 4 + 3, none⟩ = some (.string ro)) ∧ (w'.cell? ⟨w.heap.size, 0, none⟩ = some (.int .u64 ncp) ∧ w'.cell? ⟨w.heap.size, 1, none⟩ = some (.int .u64 ti) ∧ w'.cell? ⟨w.heap.size, 2, none⟩ = some (.bool sn) ∧ w'.cell? ⟨w.heap.size, 3, none⟩ = some (.string ro))) (exact HKK.out _ (by assumption)) ((go_at_call 19; (with_reducible refine Calls.mono (HSA.out _ _ _ (HM7.out.below (by assumption)) (HA.out.below (by assumption))) ?_); rintro e w8 ⟨rfl, hB8⟩; have := below_th (by assumption : Below w7.heap.size w7 _) hB8))
        go_wp2
        go_ret
        exact ⟨by simp, below_th HB0.out (below_th HB7.out (by assumption))⟩
    · have g1 : (eA == 0) = false := by simp [ha]
      clear hst ha HST HSC
      go_enter Try.func9, Try.ntmps9
      go_wp2_with (first
        | (go_at_call 11; (with_reducible refine Calls.mono (shown_any _) ?_); rintro e w1 ⟨rfl, hB1⟩; have HLA1 := Lib.hid (HLA.out.below hB1); have HLB1 := Lib.hid (HLB.out.below hB1))
        | (go_at_call 12; (with_reducible refine Calls.mono (HCutA.out _ HLA1.out) ?_); rintro e w2 ⟨a, cap, rfl, HA, hc1, hc2, rfl⟩)
        | (go_at_call 12; (with_reducible refine Calls.mono (HCutB.out _ HLB1.out) ?_); rintro e w2 ⟨b, capb, rfl, HB, hd1, hd2, rfl⟩)
        | (go_at_call 29; (with_reducible refine Calls.mono (H1.out _ _ HA.out) ?_); rintro e w3 ⟨v3, rfl, hX3, hB3⟩; obtain ⟨a3, c3, rfl, _⟩ := HPS.out _ _ _ hX3; have HA := Lib.hid (HA.out.below hB3); have HB := Lib.hid (HB.out.below hB3); have HX3 := Lib.hid hX3; have HB3 := Lib.hid (below_th hB1 hB3); clear hX3 hB3)
        | (go_at_call 29; (with_reducible refine Calls.mono (H2.out _ _ HB.out) ?_); rintro e w4 ⟨v4, rfl, hX4, hB4⟩; obtain ⟨a4, c4, rfl, _⟩ := HPS.out _ _ _ hX4; have HA := Lib.hid (HA.out.below hB4); have HB := Lib.hid (HB.out.below hB4); have HX3 := Lib.hid (HX3.out.below hB4); have HX4 := Lib.hid hX4; have HB4 := Lib.hid (below_th HB3.out hB4); clear hX4 hB4; obtain ⟨q0, q1, q2, q3⟩ := (HC.out _ HB4.out).c)
        | (go_at_call 13; (with_reducible refine Calls.mono (H3.out _ _ HA.out) ?_); rintro e w7 ⟨v7, rfl, hM7, hB7⟩; obtain ⟨b7, o7, c7, rfl, k1, k2, k3⟩ := HAop.out _ _ hM7; obtain ⟨r0, r1, r2, r3⟩ := HAt.out _ _ _ _ hM7; have HM7 := Lib.hid (HAcut.out _ _ _ hM7); have HA := Lib.hid (HA.out.below hB7); have HB7 := Lib.hid (below_th HB4.out hB7); clear hM7 hB7 q0 q1 q2 q3; obtain ⟨q0, q1, q2, q3⟩ := (HC.out _ HB7.out).c))
      have hr7 : Reads w7 b7 (o7 + NA * 4) ⟨ncp, ti, sn, ro⟩ := ⟨r0, r1, r2, r3⟩
      have HKK := Lib.hid (fun W (h : Below w7.heap.size w7 W) => And.intro (hr7.th h) ((HC.out _ (below_th HB7.out h)).c))
      unfold Reads at HKK
      dsimp only at HKK
      clear hr7
      have hq := HQ.out
      have hself : Below w7.heap.size w7 w7.drew := (Below.refl _ _).drew
      go_region_held3 (fun w' => (w'.cell? ⟨b7, o7 + NA * 4, none⟩ = some (.int .u64 ncp) ∧ w'.cell? ⟨b7, o7 + NA * 4 + 1, none⟩ = some (.int .u64 ti) ∧ w'.cell? ⟨b7, o7 + NA * 4 + 2, none⟩ = some (.bool sn) ∧ w'.cell? ⟨b7, o7 + NA * 4 + 3, none⟩ = some (.string ro)) ∧ (w'.cell? ⟨w.heap.size, 0, none⟩ = some (.int .u64 ncp) ∧ w'.cell? ⟨w.heap.size, 1, none⟩ = some (.int .u64 ti) ∧ w'.cell? ⟨w.heap.size, 2, none⟩ = some (.bool sn) ∧ w'.cell? ⟨w.heap.size, 3, none⟩ = some (.string ro))) (exact HKK.out _ (by assumption)) ((go_at_call 19; (with_reducible refine Calls.mono (HSA.out _ _ _ (HM7.out.below (by assumption)) (HA.out.below (by assumption))) ?_); rintro e w8 ⟨rfl, hB8⟩; have := below_th (by assumption : Below w7.heap.size w7 _) hB8))
      go_wp2
      go_ret
      exact ⟨by simp, below_th HB0.out (below_th HB7.out (by assumption))⟩
  · have g0 : (n == 0) = false := by simp [hn0]
    have g0' : (n != 0) = true := by simp [hn0]
    generalize addV A ⟨ncp, ti, sn, ro⟩ = M at H3
    clear hadd hn0
    by_cases ha : eA = 0
    · by_cases hb : eB = 0
      · rw [hst ha hb] at HST
        subst ha
        subst hb
        clear hst
        cases x with
        | true =>
          go_enter Try.func9, Try.ntmps9
          go_wp2_with (first
            | (go_at_call 11; (with_reducible refine Calls.mono (shown_any _) ?_); rintro e w1 ⟨rfl, hB1⟩; have HLA1 := Lib.hid (HLA.out.below hB1); have HLB1 := Lib.hid (HLB.out.below hB1))
            | (go_at_call 12; (with_reducible refine Calls.mono (HCutA.out _ HLA1.out) ?_); rintro e w2 ⟨a, cap, rfl, HA, hc1, hc2, rfl⟩)
            | (go_at_call 12; (with_reducible refine Calls.mono (HCutB.out _ HLB1.out) ?_); rintro e w2 ⟨b, capb, rfl, HB, hd1, hd2, rfl⟩)
            | (go_at_call 29; (with_reducible refine Calls.mono (H1.out _ _ HA.out) ?_); rintro e w3 ⟨v3, rfl, hX3, hB3⟩; obtain ⟨a3, c3, rfl, _⟩ := HPS.out _ _ _ hX3; have HA := Lib.hid (HA.out.below hB3); have HB := Lib.hid (HB.out.below hB3); have HX3 := Lib.hid hX3; have HB3 := Lib.hid (below_th hB1 hB3); clear hX3 hB3)
            | (go_at_call 29; (with_reducible refine Calls.mono (H2.out _ _ HB.out) ?_); rintro e w4 ⟨v4, rfl, hX4, hB4⟩; obtain ⟨a4, c4, rfl, _⟩ := HPS.out _ _ _ hX4; have HA := Lib.hid (HA.out.below hB4); have HB := Lib.hid (HB.out.below hB4); have HX3 := Lib.hid (HX3.out.below hB4); have HX4 := Lib.hid hX4; have HB4 := Lib.hid (below_th HB3.out hB4); clear hX4 hB4; obtain ⟨q0, q1, q2, q3⟩ := (HC.out _ HB4.out).c)
            | (go_at_call 33; (with_reducible refine Calls.mono (HST.out _ _ _ HX3.out HX4.out) ?_); rintro e w5 ⟨rfl, hB5⟩; have HA := Lib.hid (HA.out.below hB5); have HB := Lib.hid (HB.out.below hB5); have HB5 := Lib.hid (below_th HB4.out hB5); clear hB5)
            | (go_at_call 19; (with_reducible refine Calls.mono (HSC.out _ _ _ HA.out HB.out) ?_); rintro e w6 ⟨rfl, hB6⟩; have HA := Lib.hid (HA.out.below hB6); have HB6 := Lib.hid (below_th HB5.out hB6); clear hB6 q0 q1 q2 q3; obtain ⟨q0, q1, q2, q3⟩ := (HC.out _ HB6.out).c)
            | (go_at_call 13; (with_reducible refine Calls.mono (H3.out _ _ HA.out) ?_); rintro e w7 ⟨v7, rfl, hM7, hB7⟩; obtain ⟨a7, c7, rfl, _⟩ := HPC.out _ _ _ hM7; have HB7 := Lib.hid (below_th HB6.out hB7); clear hM7 hB7))
          go_ret
          exact ⟨by simp, below_th HB0.out HB7.out⟩
        | false =>
          go_enter Try.func9, Try.ntmps9
          go_wp2_with (first
            | (go_at_call 11; (with_reducible refine Calls.mono (shown_any _) ?_); rintro e w1 ⟨rfl, hB1⟩; have HLA1 := Lib.hid (HLA.out.below hB1); have HLB1 := Lib.hid (HLB.out.below hB1))
            | (go_at_call 12; (with_reducible refine Calls.mono (HCutA.out _ HLA1.out) ?_); rintro e w2 ⟨a, cap, rfl, HA, hc1, hc2, rfl⟩)
            | (go_at_call 12; (with_reducible refine Calls.mono (HCutB.out _ HLB1.out) ?_); rintro e w2 ⟨b, capb, rfl, HB, hd1, hd2, rfl⟩)
            | (go_at_call 29; (with_reducible refine Calls.mono (H1.out _ _ HA.out) ?_); rintro e w3 ⟨v3, rfl, hX3, hB3⟩; obtain ⟨a3, c3, rfl, _⟩ := HPS.out _ _ _ hX3; have HA := Lib.hid (HA.out.below hB3); have HB := Lib.hid (HB.out.below hB3); have HX3 := Lib.hid hX3; have HB3 := Lib.hid (below_th hB1 hB3); clear hX3 hB3)
            | (go_at_call 29; (with_reducible refine Calls.mono (H2.out _ _ HB.out) ?_); rintro e w4 ⟨v4, rfl, hX4, hB4⟩; obtain ⟨a4, c4, rfl, _⟩ := HPS.out _ _ _ hX4; have HA := Lib.hid (HA.out.below hB4); have HB := Lib.hid (HB.out.below hB4); have HX3 := Lib.hid (HX3.out.below hB4); have HX4 := Lib.hid hX4; have HB4 := Lib.hid (below_th HB3.out hB4); clear hX4 hB4; obtain ⟨q0, q1, q2, q3⟩ := (HC.out _ HB4.out).c)
            | (go_at_call 33; (with_reducible refine Calls.mono (HST.out _ _ _ HX3.out HX4.out) ?_); rintro e w5 ⟨rfl, hB5⟩; have HA := Lib.hid (HA.out.below hB5); have HB := Lib.hid (HB.out.below hB5); have HB5 := Lib.hid (below_th HB4.out hB5); clear hB5)
            | (go_at_call 19; (with_reducible refine Calls.mono (HSC.out _ _ _ HA.out HB.out) ?_); rintro e w6 ⟨rfl, hB6⟩; have HA := Lib.hid (HA.out.below hB6); have HB6 := Lib.hid (below_th HB5.out hB6); clear hB6 q0 q1 q2 q3; obtain ⟨q0, q1, q2, q3⟩ := (HC.out _ HB6.out).c)
            | (go_at_call 13; (with_reducible refine Calls.mono (H3.out _ _ HA.out) ?_); rintro e w7 ⟨v7, rfl, hM7, hB7⟩; obtain ⟨a7, c7, rfl, _⟩ := HPC.out _ _ _ hM7; have HB7 := Lib.hid (below_th HB6.out hB7); clear hM7 hB7))
          go_ret
          exact ⟨by simp, below_th HB0.out HB7.out⟩
      · have g1 : (eB == 0) = false := by simp [hb]
        subst ha
        clear hst hb HST HSC
        go_enter Try.func9, Try.ntmps9
        go_wp2_with (first
          | (go_at_call 11; (with_reducible refine Calls.mono (shown_any _) ?_); rintro e w1 ⟨rfl, hB1⟩; have HLA1 := Lib.hid (HLA.out.below hB1); have HLB1 := Lib.hid (HLB.out.below hB1))
          | (go_at_call 12; (with_reducible refine Calls.mono (HCutA.out _ HLA1.out) ?_); rintro e w2 ⟨a, cap, rfl, HA, hc1, hc2, rfl⟩)
          | (go_at_call 12; (with_reducible refine Calls.mono (HCutB.out _ HLB1.out) ?_); rintro e w2 ⟨b, capb, rfl, HB, hd1, hd2, rfl⟩)
          | (go_at_call 29; (with_reducible refine Calls.mono (H1.out _ _ HA.out) ?_); rintro e w3 ⟨v3, rfl, hX3, hB3⟩; obtain ⟨a3, c3, rfl, _⟩ := HPS.out _ _ _ hX3; have HA := Lib.hid (HA.out.below hB3); have HB := Lib.hid (HB.out.below hB3); have HX3 := Lib.hid hX3; have HB3 := Lib.hid (below_th hB1 hB3); clear hX3 hB3)
          | (go_at_call 29; (with_reducible refine Calls.mono (H2.out _ _ HB.out) ?_); rintro e w4 ⟨v4, rfl, hX4, hB4⟩; obtain ⟨a4, c4, rfl, _⟩ := HPS.out _ _ _ hX4; have HA := Lib.hid (HA.out.below hB4); have HB := Lib.hid (HB.out.below hB4); have HX3 := Lib.hid (HX3.out.below hB4); have HX4 := Lib.hid hX4; have HB4 := Lib.hid (below_th HB3.out hB4); clear hX4 hB4; obtain ⟨q0, q1, q2, q3⟩ := (HC.out _ HB4.out).c)
          | (go_at_call 13; (with_reducible refine Calls.mono (H3.out _ _ HA.out) ?_); rintro e w7 ⟨v7, rfl, hM7, hB7⟩; obtain ⟨a7, c7, rfl, _⟩ := HPC.out _ _ _ hM7; have HB7 := Lib.hid (below_th HB4.out hB7); clear hM7 hB7))
        go_ret
        exact ⟨by simp, below_th HB0.out HB7.out⟩
    · have g1 : (eA == 0) = false := by simp [ha]
      clear hst ha HST HSC
      go_enter Try.func9, Try.ntmps9
      go_wp2_with (first
        | (go_at_call 11; (with_reducible refine Calls.mono (shown_any _) ?_); rintro e w1 ⟨rfl, hB1⟩; have HLA1 := Lib.hid (HLA.out.below hB1); have HLB1 := Lib.hid (HLB.out.below hB1))
        | (go_at_call 12; (with_reducible refine Calls.mono (HCutA.out _ HLA1.out) ?_); rintro e w2 ⟨a, cap, rfl, HA, hc1, hc2, rfl⟩)
        | (go_at_call 12; (with_reducible refine Calls.mono (HCutB.out _ HLB1.out) ?_); rintro e w2 ⟨b, capb, rfl, HB, hd1, hd2, rfl⟩)
        | (go_at_call 29; (with_reducible refine Calls.mono (H1.out _ _ HA.out) ?_); rintro e w3 ⟨v3, rfl, hX3, hB3⟩; obtain ⟨a3, c3, rfl, _⟩ := HPS.out _ _ _ hX3; have HA := Lib.hid (HA.out.below hB3); have HB := Lib.hid (HB.out.below hB3); have HX3 := Lib.hid hX3; have HB3 := Lib.hid (below_th hB1 hB3); clear hX3 hB3)
        | (go_at_call 29; (with_reducible refine Calls.mono (H2.out _ _ HB.out) ?_); rintro e w4 ⟨v4, rfl, hX4, hB4⟩; obtain ⟨a4, c4, rfl, _⟩ := HPS.out _ _ _ hX4; have HA := Lib.hid (HA.out.below hB4); have HB := Lib.hid (HB.out.below hB4); have HX3 := Lib.hid (HX3.out.below hB4); have HX4 := Lib.hid hX4; have HB4 := Lib.hid (below_th HB3.out hB4); clear hX4 hB4; obtain ⟨q0, q1, q2, q3⟩ := (HC.out _ HB4.out).c)
        | (go_at_call 13; (with_reducible refine Calls.mono (H3.out _ _ HA.out) ?_); rintro e w7 ⟨v7, rfl, hM7, hB7⟩; obtain ⟨a7, c7, rfl, _⟩ := HPC.out _ _ _ hM7; have HB7 := Lib.hid (below_th HB4.out hB7); clear hM7 hB7))
      go_ret
      exact ⟨by simp, below_th HB0.out HB7.out⟩
end
end Go.Proofs.Ytoedjemelblpaaa.Cps
