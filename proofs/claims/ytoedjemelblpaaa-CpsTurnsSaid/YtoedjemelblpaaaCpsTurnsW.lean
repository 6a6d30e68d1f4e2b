/- CpsTurns, walked. -/
import Derived.Test.YtoedjemelblpaaaCpsFacts
import Derived.Test.YtoedjemelblpaaaCpsArgs
namespace Go.Proofs.Ytoedjemelblpaaa.Cps
open Go.RowKit
attribute [local go_sem] Oper.semAt_some
set_option linter.unusedVariables false
set_option linter.unusedSimpArgs false
theorem Nums.parts {w : World} {v : Value} {X : List Int} (h : Nums w v X) : ∃ a cap, v = .slice a X.length cap ∧ X.length ≤ cap ∧ cap ≤ 9223372036854775807 := by
  obtain ⟨a, cap, e, _, h1, h2⟩ := Lies.parts h
  exact ⟨a, cap, e, h1, h2⟩
theorem nums_get {w : World} {a : Option Addr} {n cap : Nat} {M : List C} (h : Nums w (.slice a n cap) (numV M)) {k : Nat} (hk : k < M.length) : ∃ b off, a = some ⟨b, off, none⟩ ∧ w.cell? ⟨b, off + k, none⟩ = some (.int .u64 ((ck M k).cp : Int)) := by
  have hl : (numV M).length = n := by
    obtain ⟨_, _, e, _⟩ := h.parts
    cases e
    rfl
  unfold Nums at h
  rw [hl] at h
  exact Lies.read h (j := k) (u := .int .u64 ((ck M k).cp : Int)) (by unfold numV; rw [List.map_map, List.getElem?_map, ck_get hk]; rfl)
section
set_option maxRecDepth 100000
set_option maxHeartbeats 8000000
theorem CpsTurns_walk (v1 : Value) (L : List C) (cp0 : Int) (a b : Bool) (now0 keep0 : Int) (w : World) (hL : Chs w v1 L) (wL : ∀ o ∈ L, COk o) (k1 : (Lit.int .u64 cp0).wf = true) (k4 : (Lit.int .u64 now0).wf = true) (k5 : (Lit.int .u64 keep0).wf = true) :
    Calls Try.prog 8 #[v1, .int .u64 cp0, .bool a, .bool b, .int .u64 now0, .int .u64 keep0] w fun e w' => e = .returned (.bool true) ∧ Below w.heap.size w w' := by
  have b1 := boundsU k1
  have b4 := boundsU k4
  have b5 := boundsU k5
  obtain ⟨cp, rfl⟩ := Int.eq_ofNat_of_zero_le b1.1
  obtain ⟨now, rfl⟩ := Int.eq_ofNat_of_zero_le b4.1
  obtain ⟨keep, rfl⟩ := Int.eq_ofNat_of_zero_le b5.1
  have hnow : now < 18446744073709551616 := by omega
  clear wL k1 k4 k5 b1 b4 b5
  obtain ⟨M, hM⟩ : ∃ M, L.take 200 = M := ⟨_, rfl⟩
  obtain ⟨N, hN⟩ : ∃ N, M.length = N := ⟨_, rfl⟩
  have HCut := Lib.hid (fun W h => cut_at v1 L M N hM hN W h)
  have HL := Lib.hid hL
  have hM200 : N ≤ 200 := by rw [← hN, ← hM, List.length_take]; omega
  have H0 := Lib.hid (fun v W (h : Chs W v M) => right_any v M W h)
  obtain ⟨W0, rfl⟩ : ∃ W0 : World, W0 = w := ⟨_, rfl⟩
  by_cases hr : RightP M
  · rw [rightB_yes hr] at H0
    have H1 := Lib.hid (fun v W (h : Chs W v M) => mark_any v M cp a W h)
    have H2 := Lib.hid (fun v W (h : Chs W v (mrkV M cp a)) => mark_any v (mrkV M cp a) cp b W h)
    have H3 := Lib.hid (fun v W (h : Chs W v M) => mark_any v M cp b W h)
    have H4 := Lib.hid (fun v W (h : Chs W v M) => expire_any v M now keep W h hnow)
    have H5 := Lib.hid (fun v W (h : Chs W v (expV M now keep)) => expire_any v (expV M now keep) now keep W h hnow)
    have H6 := Lib.hid (fun v W (h : Chs W v M) => numbers_any v M W h (by omega))
    unfold TabPost at H1 H2 H3
    unfold ExpPost at H4 H5
    unfold NumPost at H6
    obtain ⟨hrx, hx1, hx2⟩ := exp_again hr now keep
    rw [show expE M = 0 from if_pos hr] at H4
    rw [show expE (expV M now keep) = 0 from if_pos hrx, hx1, hx2, show (((0 : Nat) : Int)) = 0 from rfl] at H5
    have HPC := Lib.hid (fun W v X (h : Chs W v X) => h.parts)
    have hnl : (numV M).length = N := by rw [← hN]; simp [numV]
    have HPN := Lib.hid (fun W v (h : Nums W v (numV M)) => show ∃ a cap, v = .slice a N cap ∧ (N : Int) ≤ cap by obtain ⟨a, cap, e, h1, _⟩ := h.parts; rw [hnl] at e h1; exact ⟨a, cap, e, by omega⟩)
    have HNG := Lib.hid (fun W a cap (h : Nums W (.slice a N cap) (numV M)) k (hk : k < N) => nums_get h (k := k) (by omega))
    have HFD := Lib.hid (fun k (hk : k < N) v W (h : Chs W v M) => show Calls Try.prog 15 #[v, .int .u64 ((ck M k).cp : Int)] W (Ans W (.tuple #[(ck M k).val, .int .i64 0])) by
      have := Find_any v M (ck M k).cp W h
      obtain ⟨q1, q2⟩ := fnd_mem hr (ck_mem (show k < M.length by omega))
      rw [q1, q2] at this
      exact this)
    have HLT := Lib.hid (fun j k (hj : j < k) (hk : k < N) => hr.lt hj (show k < M.length by omega))
    have HSX := Lib.hid (fun v1 v2 W h1 h2 => same_any v1 v2 (expV M now keep) (expV M now keep) W h1 h2)
    have HSM := Lib.hid (fun v1 v2 W h1 h2 => same_any v1 v2 (mrkV M cp b) (mrkV M cp b) W h1 h2)
    simp only [decide_true] at HSX HSM
    by_cases hf : fndE M cp = 0
    · obtain ⟨y1, y2⟩ := mark_twice hf a b
      rw [hf] at H1 H3
      rw [y1, y2] at H2
      generalize mrkV M cp a = MA at H1 H2
      generalize mrkV M cp b = MB at H2 H3 HSM
      generalize expV M now keep = MX at H4 H5 HSX
      generalize expN M now keep = nx at H4
      clear hf y1 y2 hx1 hx2 hrx hr hN hM hL hnl hnow
      go_enter Try.func8, Try.ntmps8
      go_wp2_with (first
        | (go_at_call 11; (with_reducible refine Calls.mono (shown_any _) ?_); rintro e w1 ⟨rfl, hB1⟩; have HL1 := Lib.hid (HL.out.below hB1))
        | (go_at_call 12; (with_reducible refine Calls.mono (HCut.out _ HL1.out) ?_); rintro e w2 ⟨aM, capM, rfl, HM, hc1, hc2, rfl⟩)
        | (go_at_call 17; (with_reducible refine Calls.mono (H0.out _ _ HM.out) ?_); rintro e w2 ⟨rfl, hB2⟩; have HM := Lib.hid (HM.out.below hB2); have HB2 := Lib.hid (below_th hB1 hB2); clear hB2)
        | (go_at_call 23; (with_reducible refine Calls.mono (H1.out _ _ HM.out) ?_); rintro e w3 ⟨v3, rfl, h3, hB3⟩; obtain ⟨a3, c3, rfl, _⟩ := HPC.out _ _ _ h3; have HM := Lib.hid (HM.out.below hB3); have HA := Lib.hid h3; have HB3 := Lib.hid (below_th HB2.out hB3); clear h3 hB3)
        | (go_at_call 23; (with_reducible refine Calls.mono (H2.out _ _ HA.out) ?_); rintro e w4 ⟨v4, rfl, h4, hB4⟩; obtain ⟨a4, c4, rfl, _⟩ := HPC.out _ _ _ h4; have HM := Lib.hid (HM.out.below hB4); have HC := Lib.hid h4; have HB4 := Lib.hid (below_th HB3.out hB4); clear h4 hB4)
        | (go_at_call 23; (with_reducible refine Calls.mono (H3.out _ _ HM.out) ?_); rintro e w5 ⟨v5, rfl, h5, hB5⟩; obtain ⟨a5, c5, rfl, _⟩ := HPC.out _ _ _ h5; have HM := Lib.hid (HM.out.below hB5); have HC := Lib.hid (HC.out.below hB5); have HD := Lib.hid h5; have HB5 := Lib.hid (below_th HB4.out hB5); clear h5 hB5)
        | (go_at_call 19; (with_reducible refine Calls.mono (HSM.out _ _ _ HC.out HD.out) ?_); rintro e w6 ⟨rfl, hB6⟩; have HM := Lib.hid (HM.out.below hB6); have HB6 := Lib.hid (below_th HB5.out hB6); clear hB6)
        | (go_at_call 27; (with_reducible refine Calls.mono (H4.out _ _ HM.out) ?_); rintro e w7 ⟨v7, rfl, h7, hB7⟩; obtain ⟨a7, c7, rfl, _⟩ := HPC.out _ _ _ h7; have HM := Lib.hid (HM.out.below hB7); have HX := Lib.hid h7; have HB7 := Lib.hid (below_th HB6.out hB7); clear h7 hB7)
        | (go_at_call 27; (with_reducible refine Calls.mono (H5.out _ _ HX.out) ?_); rintro e w8 ⟨v8, rfl, h8, hB8⟩; obtain ⟨a8, c8, rfl, _⟩ := HPC.out _ _ _ h8; have HM := Lib.hid (HM.out.below hB8); have HX := Lib.hid (HX.out.below hB8); have HY := Lib.hid h8; have HB8 := Lib.hid (below_th HB7.out hB8); clear h8 hB8)
        | (go_at_call 21; (with_reducible refine Calls.mono (H6.out _ _ HM.out) ?_); rintro e w9 ⟨v9, rfl, h9, hB9⟩; obtain ⟨a9, c9, rfl, hcN⟩ := HPN.out _ _ h9; have HM := Lib.hid (HM.out.below hB9); have HX := Lib.hid (HX.out.below hB9); have HY := Lib.hid (HY.out.below hB9); have HN9 := Lib.hid h9; have HB9 := Lib.hid (below_th HB8.out hB9); clear h9 hB9))
      obtain ⟨W9, hW9⟩ : ∃ W9 : World, W9 = w9 := ⟨_, rfl⟩
      rw [← hW9] at HM HX HY HN9 HB9 ⊢
      clear hW9
      go_loopw [27, 28, 29] (fun j _ _ wr => ∃ k : Nat, k ≤ N ∧ j = .int .i64 (k : Int) ∧ Below W9.heap.size W9 wr) (fun j _ _ _ => N - (intOf j).toNat)
      case atStart => exact ⟨0, by omega, rfl, Below.refl _ _⟩
      case round =>
        obtain ⟨k, hk, rfl, hB⟩ := hrel
        by_cases hlt : k < N
        · obtain ⟨bn, on, e9, cn⟩ := HNG.out _ _ _ (HN9.out.below hB) k hlt
          subst e9
          have HBq := Lib.hid hB
          have hfd := HFD.out k hlt _ _ (HM.out.below hB)
          have hl0 : (0 : Int) ≤ (k : Int) := by omega
          have hl1 : (k : Int) < (N : Int) := by omega
          have HAN := Lib.hid (fun W : World => At.new W (ck M k))
          have HBN := Lib.hid (fun W : World => below_new W (boxO (ck M k)))
          have hcn2 : ∀ W, Below W9.heap.size W9 W → W.cell? ⟨bn, on + k, none⟩ = some (.int .u64 ((ck M k).cp : Int)) := fun W h => by
            obtain ⟨b2, o2, e2, c2⟩ := HNG.out _ _ _ (HN9.out.below h) k hlt
            cases e2
            exact c2
          by_cases hk0 : k = 0
          · have g0 : ¬ (0 : Int) < (k : Int) := by omega
            have g0' : decide ((0 : Int) < (k : Int)) = false := decide_eq_false g0
            have g0n : decide (0 < k) = false := decide_eq_false (by omega)
            obtain ⟨y, hy⟩ : ∃ y, ck M k = y := ⟨_, rfl⟩
            rw [hy] at cn hfd HAN HBN
            rw [hy] at hcn2
            obtain ⟨ncp, ti, sn, ro⟩ := y
            unfold C.val at hfd
            unfold boxO at HAN HBN
            dsimp only at cn hfd HAN HBN hcn2
            have HCN := Lib.hid hcn2
            have HFK := Lib.hid hfd
            clear hcn2 hfd hy hB hk0
            go_wp2_with (go_at_call 15; (with_reducible refine Calls.mono HFK.out ?_); rintro e wf ⟨rfl, hBf⟩; have HBf := Lib.hid (below_th HBq.out (below_th hBf (HBN.out wf))); obtain ⟨d0, d1, d2, d3⟩ := (HAN.out wf).c; dsimp only at d0 d1 d2 d3; have cf := HCN.out _ HBf.out; clear hBf)
            go_quiet (fail)
            go_wp2
            go_roundw
            case rel => exact ⟨k + 1, by omega, by go_num, below_drewN HBf.out _⟩
            case measure => simp [intOf]; omega
          · obtain ⟨q, hq⟩ : ∃ q, k = q + 1 := ⟨k - 1, by omega⟩
            have g0 : (0 : Int) < (k : Int) := by omega
            have g0' : decide ((0 : Int) < (k : Int)) = true := decide_eq_true g0
            have g0n : decide (0 < k) = true := decide_eq_true (by omega)
            have hw : IntKind.i64.wrap ((k : Int) - 1) = (q : Int) := by rw [IntKind.wrap_i64]; omega
            have hl2 : (0 : Int) ≤ (q : Int) := by omega
            have hl3 : (q : Int) < (N : Int) := by omega
            have hqlt := HLT.out q k (by omega) hlt
            have hcq2 : ∀ W, Below W9.heap.size W9 W → W.cell? ⟨bn, on + q, none⟩ = some (.int .u64 ((ck M q).cp : Int)) := fun W h => by
              obtain ⟨b2, o2, e2, c2⟩ := HNG.out _ _ _ (HN9.out.below h) q (by omega)
              cases e2
              exact c2
            obtain ⟨z, hz⟩ : ∃ z, (ck M q).cp = z := ⟨_, rfl⟩
            rw [hz] at hqlt hcq2
            obtain ⟨y, hy⟩ : ∃ y, ck M k = y := ⟨_, rfl⟩
            rw [hy] at cn hfd HAN HBN hqlt
            rw [hy] at hcn2
            obtain ⟨ncp, ti, sn, ro⟩ := y
            unfold C.val at hfd
            unfold boxO at HAN HBN
            dsimp only at cn hfd HAN HBN hcn2 hqlt
            have g3 : ¬ (ncp : Int) ≤ (z : Int) := by omega
            have g3' : decide ((ncp : Int) ≤ (z : Int)) = false := decide_eq_false g3
            have g3n : decide (ncp ≤ z) = false := decide_eq_false (by omega)
            have HCN := Lib.hid hcn2
            have HCQ := Lib.hid hcq2
            have HFK := Lib.hid hfd
            clear hcn2 hcq2 hfd hy hB hk0 hq hqlt hz
            go_wp2_with (go_at_call 15; (with_reducible refine Calls.mono HFK.out ?_); rintro e wf ⟨rfl, hBf⟩; have HBf := Lib.hid (below_th HBq.out (below_th hBf (HBN.out wf))); obtain ⟨d0, d1, d2, d3⟩ := (HAN.out wf).c; dsimp only at d0 d1 d2 d3; have cf := HCN.out _ HBf.out; have cq := HCQ.out _ HBf.out; clear hBf)
            go_quiet (fail)
            go_wp2
            go_roundw
            case rel => exact ⟨k + 1, by omega, by go_num, below_drewN HBf.out _⟩
            case measure => simp [intOf]; omega
        · obtain rfl : N = k := by omega
          have HBq := Lib.hid hB
          have hSX := HSX.out _ _ _ (HX.out.below hB) (HY.out.below hB)
          go_wp2_with (go_at_call 19; (with_reducible refine Calls.mono hSX ?_); rintro e wz ⟨rfl, hBz⟩)
          go_ret
          exact ⟨by simp, below_th HB9.out (below_th HBq.out hBz)⟩
    · obtain ⟨n, hn⟩ : ∃ n, fndE M cp = n := ⟨_, rfl⟩
      rw [hn] at H1 H3 hf
      have g1 : (n == 0) = false := by simp [hf]
      generalize mrkV M cp a = MA at H1 H2
      generalize mrkV MA cp b = MC at H2
      generalize fndE MA cp = n2 at H2
      generalize mrkV M cp b = MB at H3 HSM
      generalize expV M now keep = MX at H4 H5 HSX
      generalize expN M now keep = nx at H4
      clear hf hn hx1 hx2 hrx hr hN hM hL hnl hnow
      go_enter Try.func8, Try.ntmps8
      go_wp2_with (first
        | (go_at_call 11; (with_reducible refine Calls.mono (shown_any _) ?_); rintro e w1 ⟨rfl, hB1⟩; have HL1 := Lib.hid (HL.out.below hB1))
        | (go_at_call 12; (with_reducible refine Calls.mono (HCut.out _ HL1.out) ?_); rintro e w2 ⟨aM, capM, rfl, HM, hc1, hc2, rfl⟩)
        | (go_at_call 17; (with_reducible refine Calls.mono (H0.out _ _ HM.out) ?_); rintro e w2 ⟨rfl, hB2⟩; have HM := Lib.hid (HM.out.below hB2); have HB2 := Lib.hid (below_th hB1 hB2); clear hB2)
        | (go_at_call 23; (with_reducible refine Calls.mono (H1.out _ _ HM.out) ?_); rintro e w3 ⟨v3, rfl, h3, hB3⟩; obtain ⟨a3, c3, rfl, _⟩ := HPC.out _ _ _ h3; have HM := Lib.hid (HM.out.below hB3); have HA := Lib.hid h3; have HB3 := Lib.hid (below_th HB2.out hB3); clear h3 hB3)
        | (go_at_call 23; (with_reducible refine Calls.mono (H2.out _ _ HA.out) ?_); rintro e w4 ⟨v4, rfl, h4, hB4⟩; obtain ⟨a4, c4, rfl, _⟩ := HPC.out _ _ _ h4; have HM := Lib.hid (HM.out.below hB4); have HC := Lib.hid h4; have HB4 := Lib.hid (below_th HB3.out hB4); clear h4 hB4)
        | (go_at_call 23; (with_reducible refine Calls.mono (H3.out _ _ HM.out) ?_); rintro e w5 ⟨v5, rfl, h5, hB5⟩; obtain ⟨a5, c5, rfl, _⟩ := HPC.out _ _ _ h5; have HM := Lib.hid (HM.out.below hB5); have HC := Lib.hid (HC.out.below hB5); have HD := Lib.hid h5; have HB5 := Lib.hid (below_th HB4.out hB5); clear h5 hB5)
        | (go_at_call 27; (with_reducible refine Calls.mono (H4.out _ _ HM.out) ?_); rintro e w7 ⟨v7, rfl, h7, hB7⟩; obtain ⟨a7, c7, rfl, _⟩ := HPC.out _ _ _ h7; have HM := Lib.hid (HM.out.below hB7); have HX := Lib.hid h7; have HB7 := Lib.hid (below_th HB5.out hB7); clear h7 hB7)
        | (go_at_call 27; (with_reducible refine Calls.mono (H5.out _ _ HX.out) ?_); rintro e w8 ⟨v8, rfl, h8, hB8⟩; obtain ⟨a8, c8, rfl, _⟩ := HPC.out _ _ _ h8; have HM := Lib.hid (HM.out.below hB8); have HX := Lib.hid (HX.out.below hB8); have HY := Lib.hid h8; have HB8 := Lib.hid (below_th HB7.out hB8); clear h8 hB8)
        | (go_at_call 21; (with_reducible refine Calls.mono (H6.out _ _ HM.out) ?_); rintro e w9 ⟨v9, rfl, h9, hB9⟩; obtain ⟨a9, c9, rfl, hcN⟩ := HPN.out _ _ h9; have HM := Lib.hid (HM.out.below hB9); have HX := Lib.hid (HX.out.below hB9); have HY := Lib.hid (HY.out.below hB9); have HN9 := Lib.hid h9; have HB9 := Lib.hid (below_th HB8.out hB9); clear h9 hB9))
      obtain ⟨W9, hW9⟩ : ∃ W9 : World, W9 = w9 := ⟨_, rfl⟩
      rw [← hW9] at HM HX HY HN9 HB9 ⊢
      clear hW9
      go_loopw [27, 28, 29] (fun j _ _ wr => ∃ k : Nat, k ≤ N ∧ j = .int .i64 (k : Int) ∧ Below W9.heap.size W9 wr) (fun j _ _ _ => N - (intOf j).toNat)
      case atStart => exact ⟨0, by omega, rfl, Below.refl _ _⟩
      case round =>
        obtain ⟨k, hk, rfl, hB⟩ := hrel
        by_cases hlt : k < N
        · obtain ⟨bn, on, e9, cn⟩ := HNG.out _ _ _ (HN9.out.below hB) k hlt
          subst e9
          have HBq := Lib.hid hB
          have hfd := HFD.out k hlt _ _ (HM.out.below hB)
          have hl0 : (0 : Int) ≤ (k : Int) := by omega
          have hl1 : (k : Int) < (N : Int) := by omega
          have HAN := Lib.hid (fun W : World => At.new W (ck M k))
          have HBN := Lib.hid (fun W : World => below_new W (boxO (ck M k)))
          have hcn2 : ∀ W, Below W9.heap.size W9 W → W.cell? ⟨bn, on + k, none⟩ = some (.int .u64 ((ck M k).cp : Int)) := fun W h => by
            obtain ⟨b2, o2, e2, c2⟩ := HNG.out _ _ _ (HN9.out.below h) k hlt
            cases e2
            exact c2
          by_cases hk0 : k = 0
          · have g0 : ¬ (0 : Int) < (k : Int) := by omega
            have g0' : decide ((0 : Int) < (k : Int)) = false := decide_eq_false g0
            have g0n : decide (0 < k) = false := decide_eq_false (by omega)
            obtain ⟨y, hy⟩ : ∃ y, ck M k = y := ⟨_, rfl⟩
            rw [hy] at cn hfd HAN HBN
            rw [hy] at hcn2
            obtain ⟨ncp, ti, sn, ro⟩ := y
            unfold C.val at hfd
            unfold boxO at HAN HBN
            dsimp only at cn hfd HAN HBN hcn2
            have HCN := Lib.hid hcn2
            have HFK := Lib.hid hfd
            clear hcn2 hfd hy hB hk0
            go_wp2_with (go_at_call 15; (with_reducible refine Calls.mono HFK.out ?_); rintro e wf ⟨rfl, hBf⟩; have HBf := Lib.hid (below_th HBq.out (below_th hBf (HBN.out wf))); obtain ⟨d0, d1, d2, d3⟩ := (HAN.out wf).c; dsimp only at d0 d1 d2 d3; have cf := HCN.out _ HBf.out; clear hBf)
            go_quiet (fail)
            go_wp2
            go_roundw
            case rel => exact ⟨k + 1, by omega, by go_num, below_drewN HBf.out _⟩
            case measure => simp [intOf]; omega
          · obtain ⟨q, hq⟩ : ∃ q, k = q + 1 := ⟨k - 1, by omega⟩
            have g0 : (0 : Int) < (k : Int) := by omega
            have g0' : decide ((0 : Int) < (k : Int)) = true := decide_eq_true g0
            have g0n : decide (0 < k) = true := decide_eq_true (by omega)
            have hw : IntKind.i64.wrap ((k : Int) - 1) = (q : Int) := by rw [IntKind.wrap_i64]; omega
            have hl2 : (0 : Int) ≤ (q : Int) := by omega
            have hl3 : (q : Int) < (N : Int) := by omega
            have hqlt := HLT.out q k (by omega) hlt
            have hcq2 : ∀ W, Below W9.heap.size W9 W → W.cell? ⟨bn, on + q, none⟩ = some (.int .u64 ((ck M q).cp : Int)) := fun W h => by
              obtain ⟨b2, o2, e2, c2⟩ := HNG.out _ _ _ (HN9.out.below h) q (by omega)
              cases e2
              exact c2
            obtain ⟨z, hz⟩ : ∃ z, (ck M q).cp = z := ⟨_, rfl⟩
            rw [hz] at hqlt hcq2
            obtain ⟨y, hy⟩ : ∃ y, ck M k = y := ⟨_, rfl⟩
            rw [hy] at cn hfd HAN HBN hqlt
            rw [hy] at hcn2
            obtain ⟨ncp, ti, sn, ro⟩ := y
            unfold C.val at hfd
            unfold boxO at HAN HBN
            dsimp only at cn hfd HAN HBN hcn2 hqlt
            have g3 : ¬ (ncp : Int) ≤ (z : Int) := by omega
            have g3' : decide ((ncp : Int) ≤ (z : Int)) = false := decide_eq_false g3
            have g3n : decide (ncp ≤ z) = false := decide_eq_false (by omega)
            have HCN := Lib.hid hcn2
            have HCQ := Lib.hid hcq2
            have HFK := Lib.hid hfd
            clear hcn2 hcq2 hfd hy hB hk0 hq hqlt hz
            go_wp2_with (go_at_call 15; (with_reducible refine Calls.mono HFK.out ?_); rintro e wf ⟨rfl, hBf⟩; have HBf := Lib.hid (below_th HBq.out (below_th hBf (HBN.out wf))); obtain ⟨d0, d1, d2, d3⟩ := (HAN.out wf).c; dsimp only at d0 d1 d2 d3; have cf := HCN.out _ HBf.out; have cq := HCQ.out _ HBf.out; clear hBf)
            go_quiet (fail)
            go_wp2
            go_roundw
            case rel => exact ⟨k + 1, by omega, by go_num, below_drewN HBf.out _⟩
            case measure => simp [intOf]; omega
        · obtain rfl : N = k := by omega
          have HBq := Lib.hid hB
          have hSX := HSX.out _ _ _ (HX.out.below hB) (HY.out.below hB)
          go_wp2_with (go_at_call 19; (with_reducible refine Calls.mono hSX ?_); rintro e wz ⟨rfl, hBz⟩)
          go_ret
          exact ⟨by simp, below_th HB9.out (below_th HBq.out hBz)⟩
  · rw [rightB_no hr] at H0
    clear hr hN hM hL hnow
    go_enter Try.func8, Try.ntmps8
    go_wp2_with (first
      | (go_at_call 11; (with_reducible refine Calls.mono (shown_any _) ?_); rintro e w1 ⟨rfl, hB1⟩; have HL1 := Lib.hid (HL.out.below hB1))
      | (go_at_call 12; (with_reducible refine Calls.mono (HCut.out _ HL1.out) ?_); rintro e w2 ⟨aM, capM, rfl, HM, hc1, hc2, rfl⟩)
      | (go_at_call 17; (with_reducible refine Calls.mono (H0.out _ _ HM.out) ?_); rintro e w2 ⟨rfl, hB2⟩))
    go_ret
    exact ⟨rfl, below_th hB1 hB2⟩
end
end Go.Proofs.Ytoedjemelblpaaa.Cps
