/- CpsStays, walked. -/
import Derived.Test.YtoedjemelblpaaaCpsFacts
import Derived.Test.YtoedjemelblpaaaCpsArgs
namespace Go.Proofs.Ytoedjemelblpaaa.Cps
open Go.RowKit
attribute [local go_sem] Oper.semAt_some
set_option linter.unusedVariables false
set_option linter.unusedSimpArgs false
/-- what may come back of a search in a table, by whether the number was the deleted one -/
def foundP (d : Bool) (y : C) (n : Int) (z : C) : Prop := (d = true ∧ n = 92) ∨ (d = false ∧ n = 0 ∧ z = y)
section
set_option maxRecDepth 100000
set_option maxHeartbeats 16000000
theorem CpsStays_walk (v1 : Value) (L : List C) (cp0 : Int) (now0 keep0 : Int) (w : World) (hL : Chs w v1 L) (wL : ∀ o ∈ L, COk o) (k1 : (Lit.int .u64 cp0).wf = true) (k4 : (Lit.int .u64 now0).wf = true) (k5 : (Lit.int .u64 keep0).wf = true) :
    Calls Try.prog 7 #[v1, .int .u64 cp0, .int .u64 now0, .int .u64 keep0] w fun e w' => e = .returned (.bool true) ∧ Below w.heap.size w w' := by
  have b1 := boundsU k1
  have b4 := boundsU k4
  have b5 := boundsU k5
  obtain ⟨cp, rfl⟩ := Int.eq_ofNat_of_zero_le b1.1
  obtain ⟨now, rfl⟩ := Int.eq_ofNat_of_zero_le b4.1
  obtain ⟨keep, rfl⟩ := Int.eq_ofNat_of_zero_le b5.1
  have hnow : now < 18446744073709551616 := by omega
  clear wL k1 k4 k5 b1 b4 b5
  obtain ⟨M, hM⟩ : ∃ M, L.take 200 = M := ⟨_, rfl⟩
  obtain ⟨N, hN⟩ : ∃ N, M.length = N := ⟨_, rfl⟩
  have HCut := Lib.hid (fun W h => cut_at v1 L M N hM hN W h)
  have HL := Lib.hid hL
  have hM200 : N ≤ 200 := by rw [← hN, ← hM, List.length_take]; omega
  have H0 := Lib.hid (fun v W (h : Chs W v M) => right_any v M W h)
  have H4 := Lib.hid (fun v W (h : Chs W v M) => expire_any v M now keep W h hnow)
  unfold ExpPost at H4
  obtain ⟨W0, rfl⟩ : ∃ W0 : World, W0 = w := ⟨_, rfl⟩
  have HPC := Lib.hid (fun W v X (h : Chs W v X) => h.parts)
  by_cases hr : RightP M
  · rw [rightB_yes hr] at H0
    have H1 := Lib.hid (fun v W (h : Chs W v M) => delete_any v M cp W h)
    unfold TabPost at H1
    obtain ⟨hrx, _⟩ := exp_again hr now keep
    rw [show expE M = 0 from if_pos hr] at H4
    have hlen := exp_len hr now keep
    rw [hN] at hlen
    have H5 := Lib.hid (fun v W (h : Chs W v (expV M now keep)) => right_any v (expV M now keep) W h)
    rw [rightB_yes hrx] at H5
    have HG := Lib.hid (fun W a cap (h : Chs W (.slice a N cap) M) k (hk : k < N) => show ∃ b off, a = some ⟨b, off, none⟩ ∧ Reads W b (off + k * 4) (ck M k) by
      obtain ⟨b, off, cap2, e, hh⟩ := h.at (k := k) (by omega)
      rw [hN] at e
      cases e
      exact ⟨b, off, rfl, hh⟩)
    have HST := Lib.hid (fun k (hk : k < N) (hs : (ck M k).snap = true ∨ k + 1 = N) => exp_stays hr now keep (show k < M.length by omega) (by rw [hN]; exact hs))
    have HF1 := Lib.hid (fun v W n (h : Chs W v (expV M now keep)) => Find_any v (expV M now keep) n W h)
    have HF2 := Lib.hid (fun v W n (h : Chs W v (delV M cp)) => Find_any v (delV M cp) n W h)
    have hdel : delE M cp = 0 → ∀ k, k < N → foundP (decide ((ck M k).cp = cp)) (ck M k) (fndE (delV M cp) (ck M k).cp) (fndC (delV M cp) (ck M k).cp) := fun h0 k hk => by
      obtain ⟨q1, q2⟩ := del_stays h0 (show k < M.length by omega)
      by_cases he : (ck M k).cp = cp
      · exact .inl ⟨decide_eq_true he, q1 he⟩
      · exact .inr ⟨decide_eq_false he, q2 he⟩
    have hf0 : ∀ n, fndE (expV M now keep) n = 0 ∨ ¬ fndE (expV M now keep) n = 0 := fun n => Classical.em _
    obtain ⟨MX, hMX⟩ : ∃ X, expV M now keep = X := ⟨_, rfl⟩
    obtain ⟨nx, hnx⟩ : ∃ X, expN M now keep = X := ⟨_, rfl⟩
    obtain ⟨MD, hMD⟩ : ∃ X, delV M cp = X := ⟨_, rfl⟩
    obtain ⟨f, hf⟩ : ∃ f, delE M cp = f := ⟨_, rfl⟩
    rw [hMX] at hlen H4 H5 HST
    simp only [hMX] at HF1
    simp only [hMD] at HF2 hdel
    rw [hf] at H1 hdel
    rw [hMD] at H1
    rw [hnx] at H4 hlen
    obtain ⟨K, hK⟩ : ∃ K, MX.length = K := ⟨_, rfl⟩
    rw [hK] at hlen
    have HPX := Lib.hid (fun W v (h : Chs W v MX) => show ∃ a cap, v = .slice a K cap by obtain ⟨a, cap, e, _⟩ := h.parts; exact ⟨a, cap, by rw [e, hK]⟩)
    have hwl : IntKind.i64.wrap ((K : Int) + (nx : Int)) = (N : Int) := by rw [IntKind.wrap_i64]; omega
    have hwN : ∀ m : Nat, m + 1 = N → IntKind.i64.wrap ((N : Int) - 1) = (m : Int) := fun m hm => by rw [IntKind.wrap_i64]; omega
    have HDEL := Lib.hid hdel
    clear hdel hf0 hMX hnx hMD hf hK hlen hr hrx hN hM hL hnow
    by_cases hf : f = 0
    · have HDL := Lib.hid (HDEL.out hf)
      clear HDEL
      subst hf
      go_enter Try.func7, Try.ntmps7
      go_wp2_with (first
        | (go_at_call 11; (with_reducible refine Calls.mono (shown_any _) ?_); rintro e w1 ⟨rfl, hB1⟩; have HL1 := Lib.hid (HL.out.below hB1))
        | (go_at_call 12; (with_reducible refine Calls.mono (HCut.out _ HL1.out) ?_); rintro e w2 ⟨aM, capM, rfl, HM, hc1, hc2, rfl⟩)
        | (go_at_call 27; (with_reducible refine Calls.mono (H4.out _ _ HM.out) ?_); rintro e w7 ⟨v7, rfl, h7, hB7⟩; obtain ⟨a7, c7, rfl⟩ := HPX.out _ _ h7; have HM := Lib.hid (HM.out.below hB7); have HX := Lib.hid h7; have HB7 := Lib.hid (below_th hB1 hB7); clear h7 hB7)
        | (go_at_call 25; (with_reducible refine Calls.mono (H1.out _ _ HM.out) ?_); rintro e w9 ⟨v9, rfl, h9, hB9⟩; obtain ⟨a9, c9, rfl, _⟩ := HPC.out _ _ _ h9; have HM := Lib.hid (HM.out.below hB9); have HX := Lib.hid (HX.out.below hB9); have HD := Lib.hid h9; have HB9 := Lib.hid (below_th HB7.out hB9); clear h9 hB9))
      obtain ⟨W9, hW9⟩ : ∃ W9 : World, W9 = w9 := ⟨_, rfl⟩
      rw [← hW9] at HM HX HD HB9 ⊢
      clear hW9
      go_loopw [15, 16, 17, 18, 19] (fun j _ _ _ _ wr => ∃ k : Nat, k ≤ N ∧ j = .int .i64 (k : Int) ∧ Below W9.heap.size W9 wr) (fun j _ _ _ _ _ => N - (intOf j).toNat)
      case atStart => exact ⟨0, by omega, rfl, Below.refl _ _⟩
      case round =>
        obtain ⟨k, hk, rfl, hB⟩ := hrel
        by_cases hlt : k < N
        · obtain ⟨bm, om, eM, hrd0⟩ := HG.out _ _ _ (HM.out.below hB) k hlt
          subst eM
          have HBq := Lib.hid hB
          have hl0 : (0 : Int) ≤ (k : Int) := by omega
          have hl1 : (k : Int) < (N : Int) := by omega
          have HRD := Lib.hid (fun W (h : Below W9.heap.size W9 W) => show Reads W bm (om + k * 4) (ck M k) by
            obtain ⟨b2, o2, e2, c2⟩ := HG.out _ _ _ (HM.out.below h) k hlt
            cases e2
            exact c2)
          obtain ⟨c0, c1, c2, c3⟩ := hrd0
          have hF1 := HF1.out _ _ (ck M k).cp (HX.out.below hB)
          have hF2 := fun W (h : Below W9.heap.size W9 W) => HF2.out _ W (ck M k).cp (HD.out.below h)
          have hfo := HDL.out k hlt
          obtain ⟨y, hy⟩ : ∃ y, ck M k = y := ⟨_, rfl⟩
          rw [hy] at c0 c1 c2 c3 hF1 HRD hfo
          simp only [hy] at hF2
          obtain ⟨ncp, ti, sn, ro⟩ := y
          unfold Reads at HRD
          dsimp only at c0 c1 c2 c3 hF1 HRD hF2 hfo
          rcases hfo with ⟨hdd, hfd2⟩ | ⟨hdd, hfd2⟩
          · have hcpe : ncp = cp := of_decide_eq_true hdd
            subst hcpe
            clear hdd
            cases sn with
            | true =>
              have hst := HST.out k hlt (.inl (by rw [hy]))
              rw [hy] at hst
              dsimp only at hst
              rw [hst.1, hst.2] at hF1
              clear hst
              have HAN := Lib.hid (fun W : World => At.new W ⟨ncp, ti, true, ro⟩)
              have HBN := Lib.hid (fun W : World => below_new W (boxO ⟨ncp, ti, true, ro⟩))
              rw [hfd2] at hF2
              generalize fndC MD ncp = z2 at hF2
              obtain ⟨yn, yt, ys, yr⟩ := z2
              have HAN2 := Lib.hid (fun W : World => At.new W ⟨yn, yt, ys, yr⟩)
              have HBN2 := Lib.hid (fun W : World => below_new W (boxO ⟨yn, yt, ys, yr⟩))
              have hq := fun W => neqC ⟨ncp, ti, true, ro⟩ ⟨ncp, ti, true, ro⟩ W
              simp only [decide_true, Bool.not_true] at hq
              unfold C.val at hF1 hF2 hq
              unfold boxO at HAN HBN HAN2 HBN2
              dsimp only at HAN HBN HAN2 HBN2 hF1 hF2 hq
              have HF1K := Lib.hid hF1
              have HF2K := Lib.hid hF2
              clear hF1 hF2 hy hB hfd2
              go_wp2_with (go_at_call 15; (with_reducible refine Calls.mono HF1K.out ?_); rintro e wf ⟨rfl, hBf⟩; have HBf := Lib.hid (below_th HBq.out (below_th hBf (HBN.out wf))); obtain ⟨d0, d1, d2, d3⟩ := (HAN.out wf).c; dsimp only at d0 d1 d2 d3; obtain ⟨r0, r1, r2, r3⟩ := HRD.out _ HBf.out; clear hBf)
              go_quiet (fail)
              obtain ⟨V, hV⟩ : ∃ V, (wf.alloc (.cells #[.int .u64 (ncp : Nat), .int .u64 (ti : Nat), .bool true, .string ro] 25)).drewN nq = V := ⟨_, rfl⟩
              have HBV : Hid (Below W9.heap.size W9 V) := by rw [← hV]; exact below_drewN HBf.out _
              rw [hV]
              obtain ⟨s0, s1, s2, s3⟩ := HRD.out _ HBV.out
              have hF2V := HF2K.out _ HBV.out
              clear hV r0 r1 r2 r3 d0 d1 d2 d3 c0 c1 c2 c3
              go_wp2_with (go_at_call 15; (with_reducible refine Calls.mono hF2V ?_); rintro e wg ⟨rfl, hBg⟩; have HBg := Lib.hid (below_th HBV.out (below_th hBg (HBN2.out wg))); obtain ⟨d0, d1, d2, d3⟩ := (HAN2.out wg).c; dsimp only at d0 d1 d2 d3; obtain ⟨r0, r1, r2, r3⟩ := HRD.out _ HBg.out; clear hBg s0 s1 s2 s3)
              go_quiet (fail)
              go_wp2
              go_roundw
              case rel => exact ⟨k + 1, by omega, by go_num, below_drewN HBg.out _⟩
              case measure => simp [intOf]; omega
            | false =>
              by_cases hkl : k + 1 = N
              · have hw := hwN k hkl
                have hst := HST.out k hlt (.inr hkl)
                rw [hy] at hst
                dsimp only at hst
                rw [hst.1, hst.2] at hF1
                clear hst
                have HAN := Lib.hid (fun W : World => At.new W ⟨ncp, ti, false, ro⟩)
                have HBN := Lib.hid (fun W : World => below_new W (boxO ⟨ncp, ti, false, ro⟩))
                rw [hfd2] at hF2
                generalize fndC MD ncp = z2 at hF2
                obtain ⟨yn, yt, ys, yr⟩ := z2
                have HAN2 := Lib.hid (fun W : World => At.new W ⟨yn, yt, ys, yr⟩)
                have HBN2 := Lib.hid (fun W : World => below_new W (boxO ⟨yn, yt, ys, yr⟩))
                have hq := fun W => neqC ⟨ncp, ti, false, ro⟩ ⟨ncp, ti, false, ro⟩ W
                simp only [decide_true, Bool.not_true] at hq
                unfold C.val at hF1 hF2 hq
                unfold boxO at HAN HBN HAN2 HBN2
                dsimp only at HAN HBN HAN2 HBN2 hF1 hF2 hq
                have HF1K := Lib.hid hF1
                have HF2K := Lib.hid hF2
                clear hF1 hF2 hy hB hfd2
                go_wp2_with (go_at_call 15; (with_reducible refine Calls.mono HF1K.out ?_); rintro e wf ⟨rfl, hBf⟩; have HBf := Lib.hid (below_th HBq.out (below_th hBf (HBN.out wf))); obtain ⟨d0, d1, d2, d3⟩ := (HAN.out wf).c; dsimp only at d0 d1 d2 d3; obtain ⟨r0, r1, r2, r3⟩ := HRD.out _ HBf.out; clear hBf)
                go_quiet (fail)
                obtain ⟨V, hV⟩ : ∃ V, (wf.alloc (.cells #[.int .u64 (ncp : Nat), .int .u64 (ti : Nat), .bool false, .string ro] 25)).drewN nq = V := ⟨_, rfl⟩
                have HBV : Hid (Below W9.heap.size W9 V) := by rw [← hV]; exact below_drewN HBf.out _
                rw [hV]
                obtain ⟨s0, s1, s2, s3⟩ := HRD.out _ HBV.out
                have hF2V := HF2K.out _ HBV.out
                clear hV r0 r1 r2 r3 d0 d1 d2 d3 c0 c1 c2 c3
                go_wp2_with (go_at_call 15; (with_reducible refine Calls.mono hF2V ?_); rintro e wg ⟨rfl, hBg⟩; have HBg := Lib.hid (below_th HBV.out (below_th hBg (HBN2.out wg))); obtain ⟨d0, d1, d2, d3⟩ := (HAN2.out wg).c; dsimp only at d0 d1 d2 d3; obtain ⟨r0, r1, r2, r3⟩ := HRD.out _ HBg.out; clear hBg s0 s1 s2 s3)
                go_quiet (fail)
                go_wp2
                go_roundw
                case rel => exact ⟨k + 1, by omega, by go_num, below_drewN HBg.out _⟩
                case measure => simp [intOf]; omega
              · obtain ⟨m, hm⟩ : ∃ m, m + 1 = N := ⟨N - 1, by omega⟩
                have hw := hwN m hm
                have g8 : (k == m) = false := by simp; omega
                have g8' : ((k : Int) == (m : Int)) = false := by simp; omega
                obtain ⟨z1, hz1⟩ : ∃ z, fndC MX ncp = z := ⟨_, rfl⟩
                rw [hz1] at hF1
                generalize fndE MX ncp = n1 at hF1
                obtain ⟨zn, zt, zs, zr⟩ := z1
                clear hz1
                have HAN := Lib.hid (fun W : World => At.new W ⟨zn, zt, zs, zr⟩)
                have HBN := Lib.hid (fun W : World => below_new W (boxO ⟨zn, zt, zs, zr⟩))
                rw [hfd2] at hF2
                generalize fndC MD ncp = z2 at hF2
                obtain ⟨yn, yt, ys, yr⟩ := z2
                have HAN2 := Lib.hid (fun W : World => At.new W ⟨yn, yt, ys, yr⟩)
                have HBN2 := Lib.hid (fun W : World => below_new W (boxO ⟨yn, yt, ys, yr⟩))
                have hq := fun W => neqC ⟨ncp, ti, false, ro⟩ ⟨ncp, ti, false, ro⟩ W
                simp only [decide_true, Bool.not_true] at hq
                unfold C.val at hF1 hF2 hq
                unfold boxO at HAN HBN HAN2 HBN2
                dsimp only at HAN HBN HAN2 HBN2 hF1 hF2 hq
                have HF1K := Lib.hid hF1
                have HF2K := Lib.hid hF2
                clear hF1 hF2 hy hB hfd2
                go_wp2_with (go_at_call 15; (with_reducible refine Calls.mono HF1K.out ?_); rintro e wf ⟨rfl, hBf⟩; have HBf := Lib.hid (below_th HBq.out (below_th hBf (HBN.out wf))); obtain ⟨d0, d1, d2, d3⟩ := (HAN.out wf).c; dsimp only at d0 d1 d2 d3; obtain ⟨r0, r1, r2, r3⟩ := HRD.out _ HBf.out; clear hBf)
                go_quiet (fail)
                obtain ⟨V, hV⟩ : ∃ V, (wf.alloc (.cells #[.int .u64 (zn : Nat), .int .u64 (zt : Nat), .bool zs, .string zr] 25)).drewN nq = V := ⟨_, rfl⟩
                have HBV : Hid (Below W9.heap.size W9 V) := by rw [← hV]; exact below_drewN HBf.out _
                rw [hV]
                obtain ⟨s0, s1, s2, s3⟩ := HRD.out _ HBV.out
                have hF2V := HF2K.out _ HBV.out
                clear hV r0 r1 r2 r3 d0 d1 d2 d3 c0 c1 c2 c3
                go_wp2_with (go_at_call 15; (with_reducible refine Calls.mono hF2V ?_); rintro e wg ⟨rfl, hBg⟩; have HBg := Lib.hid (below_th HBV.out (below_th hBg (HBN2.out wg))); obtain ⟨d0, d1, d2, d3⟩ := (HAN2.out wg).c; dsimp only at d0 d1 d2 d3; obtain ⟨r0, r1, r2, r3⟩ := HRD.out _ HBg.out; clear hBg s0 s1 s2 s3)
                go_quiet (fail)
                go_wp2
                go_roundw
                case rel => exact ⟨k + 1, by omega, by go_num, below_drewN HBg.out _⟩
                case measure => simp [intOf]; omega
          · have hcpe : ¬ ncp = cp := of_decide_eq_false hdd
            have g9 : (ncp == cp) = false := by simp [hcpe]
            have g9' : ((ncp : Int) != (cp : Int)) = true := by simp; omega
            have g9n : (ncp != cp) = true := by simp [hcpe]
            clear hdd hcpe
            cases sn with
            | true =>
              have hst := HST.out k hlt (.inl (by rw [hy]))
              rw [hy] at hst
              dsimp only at hst
              rw [hst.1, hst.2] at hF1
              clear hst
              have HAN := Lib.hid (fun W : World => At.new W ⟨ncp, ti, true, ro⟩)
              have HBN := Lib.hid (fun W : World => below_new W (boxO ⟨ncp, ti, true, ro⟩))
              rw [hfd2.1, hfd2.2] at hF2
              have HAN2 := Lib.hid (fun W : World => At.new W ⟨ncp, ti, true, ro⟩)
              have HBN2 := Lib.hid (fun W : World => below_new W (boxO ⟨ncp, ti, true, ro⟩))
              have hq := fun W => neqC ⟨ncp, ti, true, ro⟩ ⟨ncp, ti, true, ro⟩ W
              simp only [decide_true, Bool.not_true] at hq
              unfold C.val at hF1 hF2 hq
              unfold boxO at HAN HBN HAN2 HBN2
              dsimp only at HAN HBN HAN2 HBN2 hF1 hF2 hq
              have HF1K := Lib.hid hF1
              have HF2K := Lib.hid hF2
              clear hF1 hF2 hy hB hfd2
              go_wp2_with (go_at_call 15; (with_reducible refine Calls.mono HF1K.out ?_); rintro e wf ⟨rfl, hBf⟩; have HBf := Lib.hid (below_th HBq.out (below_th hBf (HBN.out wf))); obtain ⟨d0, d1, d2, d3⟩ := (HAN.out wf).c; dsimp only at d0 d1 d2 d3; obtain ⟨r0, r1, r2, r3⟩ := HRD.out _ HBf.out; clear hBf)
              go_quiet (fail)
              obtain ⟨V, hV⟩ : ∃ V, (wf.alloc (.cells #[.int .u64 (ncp : Nat), .int .u64 (ti : Nat), .bool true, .string ro] 25)).drewN nq = V := ⟨_, rfl⟩
              have HBV : Hid (Below W9.heap.size W9 V) := by rw [← hV]; exact below_drewN HBf.out _
              rw [hV]
              obtain ⟨s0, s1, s2, s3⟩ := HRD.out _ HBV.out
              have hF2V := HF2K.out _ HBV.out
              clear hV r0 r1 r2 r3 d0 d1 d2 d3 c0 c1 c2 c3
              go_wp2_with (go_at_call 15; (with_reducible refine Calls.mono hF2V ?_); rintro e wg ⟨rfl, hBg⟩; have HBg := Lib.hid (below_th HBV.out (below_th hBg (HBN2.out wg))); obtain ⟨d0, d1, d2, d3⟩ := (HAN2.out wg).c; dsimp only at d0 d1 d2 d3; obtain ⟨r0, r1, r2, r3⟩ := HRD.out _ HBg.out; clear hBg s0 s1 s2 s3)
              go_quiet (fail)
              go_wp2
              go_roundw
              case rel => exact ⟨k + 1, by omega, by go_num, below_drewN HBg.out _⟩
              case measure => simp [intOf]; omega
            | false =>
              by_cases hkl : k + 1 = N
              · have hw := hwN k hkl
                have hst := HST.out k hlt (.inr hkl)
                rw [hy] at hst
                dsimp only at hst
                rw [hst.1, hst.2] at hF1
                clear hst
                have HAN := Lib.hid (fun W : World => At.new W ⟨ncp, ti, false, ro⟩)
                have HBN := Lib.hid (fun W : World => below_new W (boxO ⟨ncp, ti, false, ro⟩))
                rw [hfd2.1, hfd2.2] at hF2
                have HAN2 := Lib.hid (fun W : World => At.new W ⟨ncp, ti, false, ro⟩)
                have HBN2 := Lib.hid (fun W : World => below_new W (boxO ⟨ncp, ti, false, ro⟩))
                have hq := fun W => neqC ⟨ncp, ti, false, ro⟩ ⟨ncp, ti, false, ro⟩ W
                simp only [decide_true, Bool.not_true] at hq
                unfold C.val at hF1 hF2 hq
                unfold boxO at HAN HBN HAN2 HBN2
                dsimp only at HAN HBN HAN2 HBN2 hF1 hF2 hq
                have HF1K := Lib.hid hF1
                have HF2K := Lib.hid hF2
                clear hF1 hF2 hy hB hfd2
                go_wp2_with (go_at_call 15; (with_reducible refine Calls.mono HF1K.out ?_); rintro e wf ⟨rfl, hBf⟩; have HBf := Lib.hid (below_th HBq.out (below_th hBf (HBN.out wf))); obtain ⟨d0, d1, d2, d3⟩ := (HAN.out wf).c; dsimp only at d0 d1 d2 d3; obtain ⟨r0, r1, r2, r3⟩ := HRD.out _ HBf.out; clear hBf)
                go_quiet (fail)
                obtain ⟨V, hV⟩ : ∃ V, (wf.alloc (.cells #[.int .u64 (ncp : Nat), .int .u64 (ti : Nat), .bool false, .string ro] 25)).drewN nq = V := ⟨_, rfl⟩
                have HBV : Hid (Below W9.heap.size W9 V) := by rw [← hV]; exact below_drewN HBf.out _
                rw [hV]
                obtain ⟨s0, s1, s2, s3⟩ := HRD.out _ HBV.out
                have hF2V := HF2K.out _ HBV.out
                clear hV r0 r1 r2 r3 d0 d1 d2 d3 c0 c1 c2 c3
                go_wp2_with (go_at_call 15; (with_reducible refine Calls.mono hF2V ?_); rintro e wg ⟨rfl, hBg⟩; have HBg := Lib.hid (below_th HBV.out (below_th hBg (HBN2.out wg))); obtain ⟨d0, d1, d2, d3⟩ := (HAN2.out wg).c; dsimp only at d0 d1 d2 d3; obtain ⟨r0, r1, r2, r3⟩ := HRD.out _ HBg.out; clear hBg s0 s1 s2 s3)
                go_quiet (fail)
                go_wp2
                go_roundw
                case rel => exact ⟨k + 1, by omega, by go_num, below_drewN HBg.out _⟩
                case measure => simp [intOf]; omega
              · obtain ⟨m, hm⟩ : ∃ m, m + 1 = N := ⟨N - 1, by omega⟩
                have hw := hwN m hm
                have g8 : (k == m) = false := by simp; omega
                have g8' : ((k : Int) == (m : Int)) = false := by simp; omega
                obtain ⟨z1, hz1⟩ : ∃ z, fndC MX ncp = z := ⟨_, rfl⟩
                rw [hz1] at hF1
                generalize fndE MX ncp = n1 at hF1
                obtain ⟨zn, zt, zs, zr⟩ := z1
                clear hz1
                have HAN := Lib.hid (fun W : World => At.new W ⟨zn, zt, zs, zr⟩)
                have HBN := Lib.hid (fun W : World => below_new W (boxO ⟨zn, zt, zs, zr⟩))
                rw [hfd2.1, hfd2.2] at hF2
                have HAN2 := Lib.hid (fun W : World => At.new W ⟨ncp, ti, false, ro⟩)
                have HBN2 := Lib.hid (fun W : World => below_new W (boxO ⟨ncp, ti, false, ro⟩))
                have hq := fun W => neqC ⟨ncp, ti, false, ro⟩ ⟨ncp, ti, false, ro⟩ W
                simp only [decide_true, Bool.not_true] at hq
                unfold C.val at hF1 hF2 hq
                unfold boxO at HAN HBN HAN2 HBN2
                dsimp only at HAN HBN HAN2 HBN2 hF1 hF2 hq
                have HF1K := Lib.hid hF1
                have HF2K := Lib.hid hF2
                clear hF1 hF2 hy hB hfd2
                go_wp2_with (go_at_call 15; (with_reducible refine Calls.mono HF1K.out ?_); rintro e wf ⟨rfl, hBf⟩; have HBf := Lib.hid (below_th HBq.out (below_th hBf (HBN.out wf))); obtain ⟨d0, d1, d2, d3⟩ := (HAN.out wf).c; dsimp only at d0 d1 d2 d3; obtain ⟨r0, r1, r2, r3⟩ := HRD.out _ HBf.out; clear hBf)
                go_quiet (fail)
                obtain ⟨V, hV⟩ : ∃ V, (wf.alloc (.cells #[.int .u64 (zn : Nat), .int .u64 (zt : Nat), .bool zs, .string zr] 25)).drewN nq = V := ⟨_, rfl⟩
                have HBV : Hid (Below W9.heap.size W9 V) := by rw [← hV]; exact below_drewN HBf.out _
                rw [hV]
                obtain ⟨s0, s1, s2, s3⟩ := HRD.out _ HBV.out
                have hF2V := HF2K.out _ HBV.out
                clear hV r0 r1 r2 r3 d0 d1 d2 d3 c0 c1 c2 c3
                go_wp2_with (go_at_call 15; (with_reducible refine Calls.mono hF2V ?_); rintro e wg ⟨rfl, hBg⟩; have HBg := Lib.hid (below_th HBV.out (below_th hBg (HBN2.out wg))); obtain ⟨d0, d1, d2, d3⟩ := (HAN2.out wg).c; dsimp only at d0 d1 d2 d3; obtain ⟨r0, r1, r2, r3⟩ := HRD.out _ HBg.out; clear hBg s0 s1 s2 s3)
                go_quiet (fail)
                go_wp2
                go_roundw
                case rel => exact ⟨k + 1, by omega, by go_num, below_drewN HBg.out _⟩
                case measure => simp [intOf]; omega
        · obtain rfl : N = k := by omega
          have HBq := Lib.hid hB
          have h5 := H5.out _ _ (HX.out.below hB)
          go_wp2_with (go_at_call 17; (with_reducible refine Calls.mono h5 ?_); rintro e wz ⟨rfl, hBz⟩)
          go_ret
          exact ⟨by simp, below_th HB9.out (below_th HBq.out hBz)⟩
    · have g1 : (f == 0) = false := by simp [hf]
      have g1' : (f != 0) = true := by simp [hf]
      clear hf
      go_enter Try.func7, Try.ntmps7
      go_wp2_with (first
        | (go_at_call 11; (with_reducible refine Calls.mono (shown_any _) ?_); rintro e w1 ⟨rfl, hB1⟩; have HL1 := Lib.hid (HL.out.below hB1))
        | (go_at_call 12; (with_reducible refine Calls.mono (HCut.out _ HL1.out) ?_); rintro e w2 ⟨aM, capM, rfl, HM, hc1, hc2, rfl⟩)
        | (go_at_call 27; (with_reducible refine Calls.mono (H4.out _ _ HM.out) ?_); rintro e w7 ⟨v7, rfl, h7, hB7⟩; obtain ⟨a7, c7, rfl⟩ := HPX.out _ _ h7; have HM := Lib.hid (HM.out.below hB7); have HX := Lib.hid h7; have HB7 := Lib.hid (below_th hB1 hB7); clear h7 hB7)
        | (go_at_call 25; (with_reducible refine Calls.mono (H1.out _ _ HM.out) ?_); rintro e w9 ⟨v9, rfl, h9, hB9⟩; obtain ⟨a9, c9, rfl, _⟩ := HPC.out _ _ _ h9; have HM := Lib.hid (HM.out.below hB9); have HX := Lib.hid (HX.out.below hB9); have HD := Lib.hid h9; have HB9 := Lib.hid (below_th HB7.out hB9); clear h9 hB9))
      obtain ⟨W9, hW9⟩ : ∃ W9 : World, W9 = w9 := ⟨_, rfl⟩
      rw [← hW9] at HM HX HD HB9 ⊢
      clear hW9
      go_loopw [15, 16, 17, 18, 19] (fun j _ _ _ _ wr => ∃ k : Nat, k ≤ N ∧ j = .int .i64 (k : Int) ∧ Below W9.heap.size W9 wr) (fun j _ _ _ _ _ => N - (intOf j).toNat)
      case atStart => exact ⟨0, by omega, rfl, Below.refl _ _⟩
      case round =>
        obtain ⟨k, hk, rfl, hB⟩ := hrel
        by_cases hlt : k < N
        · obtain ⟨bm, om, eM, hrd0⟩ := HG.out _ _ _ (HM.out.below hB) k hlt
          subst eM
          have HBq := Lib.hid hB
          have hl0 : (0 : Int) ≤ (k : Int) := by omega
          have hl1 : (k : Int) < (N : Int) := by omega
          have HRD := Lib.hid (fun W (h : Below W9.heap.size W9 W) => show Reads W bm (om + k * 4) (ck M k) by
            obtain ⟨b2, o2, e2, c2⟩ := HG.out _ _ _ (HM.out.below h) k hlt
            cases e2
            exact c2)
          obtain ⟨c0, c1, c2, c3⟩ := hrd0
          have hF1 := HF1.out _ _ (ck M k).cp (HX.out.below hB)
          have hF2 := fun W (h : Below W9.heap.size W9 W) => HF2.out _ W (ck M k).cp (HD.out.below h)
          obtain ⟨y, hy⟩ : ∃ y, ck M k = y := ⟨_, rfl⟩
          rw [hy] at c0 c1 c2 c3 hF1 HRD
          simp only [hy] at hF2
          obtain ⟨ncp, ti, sn, ro⟩ := y
          unfold Reads at HRD
          dsimp only at c0 c1 c2 c3 hF1 HRD hF2
          cases sn with
          | true =>
            have hst := HST.out k hlt (.inl (by rw [hy]))
            rw [hy] at hst
            dsimp only at hst
            rw [hst.1, hst.2] at hF1
            clear hst
            have HAN := Lib.hid (fun W : World => At.new W ⟨ncp, ti, true, ro⟩)
            have HBN := Lib.hid (fun W : World => below_new W (boxO ⟨ncp, ti, true, ro⟩))
            generalize fndC MD ncp = z2 at hF2
            generalize fndE MD ncp = n2 at hF2
            obtain ⟨yn, yt, ys, yr⟩ := z2
            have HAN2 := Lib.hid (fun W : World => At.new W ⟨yn, yt, ys, yr⟩)
            have HBN2 := Lib.hid (fun W : World => below_new W (boxO ⟨yn, yt, ys, yr⟩))
            have hq := fun W => neqC ⟨ncp, ti, true, ro⟩ ⟨ncp, ti, true, ro⟩ W
            simp only [decide_true, Bool.not_true] at hq
            unfold C.val at hF1 hF2 hq
            unfold boxO at HAN HBN HAN2 HBN2
            dsimp only at HAN HBN HAN2 HBN2 hF1 hF2 hq
            have HF1K := Lib.hid hF1
            have HF2K := Lib.hid hF2
            clear hF1 hF2 hy hB
            go_wp2_with (go_at_call 15; (with_reducible refine Calls.mono HF1K.out ?_); rintro e wf ⟨rfl, hBf⟩; have HBf := Lib.hid (below_th HBq.out (below_th hBf (HBN.out wf))); obtain ⟨d0, d1, d2, d3⟩ := (HAN.out wf).c; dsimp only at d0 d1 d2 d3; obtain ⟨r0, r1, r2, r3⟩ := HRD.out _ HBf.out; clear hBf)
            go_quiet (fail)
            obtain ⟨V, hV⟩ : ∃ V, (wf.alloc (.cells #[.int .u64 (ncp : Nat), .int .u64 (ti : Nat), .bool true, .string ro] 25)).drewN nq = V := ⟨_, rfl⟩
            have HBV : Hid (Below W9.heap.size W9 V) := by rw [← hV]; exact below_drewN HBf.out _
            rw [hV]
            obtain ⟨s0, s1, s2, s3⟩ := HRD.out _ HBV.out
            have hF2V := HF2K.out _ HBV.out
            clear hV r0 r1 r2 r3 d0 d1 d2 d3 c0 c1 c2 c3
            go_wp2_with (go_at_call 15; (with_reducible refine Calls.mono hF2V ?_); rintro e wg ⟨rfl, hBg⟩; have HBg := Lib.hid (below_th HBV.out (below_th hBg (HBN2.out wg))); obtain ⟨d0, d1, d2, d3⟩ := (HAN2.out wg).c; dsimp only at d0 d1 d2 d3; obtain ⟨r0, r1, r2, r3⟩ := HRD.out _ HBg.out; clear hBg s0 s1 s2 s3)
            go_quiet (fail)
            go_wp2
            go_roundw
            case rel => exact ⟨k + 1, by omega, by go_num, below_drewN HBg.out _⟩
            case measure => simp [intOf]; omega
          | false =>
            by_cases hkl : k + 1 = N
            · have hw := hwN k hkl
              have hst := HST.out k hlt (.inr hkl)
              rw [hy] at hst
              dsimp only at hst
              rw [hst.1, hst.2] at hF1
              clear hst
              have HAN := Lib.hid (fun W : World => At.new W ⟨ncp, ti, false, ro⟩)
              have HBN := Lib.hid (fun W : World => below_new W (boxO ⟨ncp, ti, false, ro⟩))
              generalize fndC MD ncp = z2 at hF2
              generalize fndE MD ncp = n2 at hF2
              obtain ⟨yn, yt, ys, yr⟩ := z2
              have HAN2 := Lib.hid (fun W : World => At.new W ⟨yn, yt, ys, yr⟩)
              have HBN2 := Lib.hid (fun W : World => below_new W (boxO ⟨yn, yt, ys, yr⟩))
              have hq := fun W => neqC ⟨ncp, ti, false, ro⟩ ⟨ncp, ti, false, ro⟩ W
              simp only [decide_true, Bool.not_true] at hq
              unfold C.val at hF1 hF2 hq
              unfold boxO at HAN HBN HAN2 HBN2
              dsimp only at HAN HBN HAN2 HBN2 hF1 hF2 hq
              have HF1K := Lib.hid hF1
              have HF2K := Lib.hid hF2
              clear hF1 hF2 hy hB
              go_wp2_with (go_at_call 15; (with_reducible refine Calls.mono HF1K.out ?_); rintro e wf ⟨rfl, hBf⟩; have HBf := Lib.hid (below_th HBq.out (below_th hBf (HBN.out wf))); obtain ⟨d0, d1, d2, d3⟩ := (HAN.out wf).c; dsimp only at d0 d1 d2 d3; obtain ⟨r0, r1, r2, r3⟩ := HRD.out _ HBf.out; clear hBf)
              go_quiet (fail)
              obtain ⟨V, hV⟩ : ∃ V, (wf.alloc (.cells #[.int .u64 (ncp : Nat), .int .u64 (ti : Nat), .bool false, .string ro] 25)).drewN nq = V := ⟨_, rfl⟩
              have HBV : Hid (Below W9.heap.size W9 V) := by rw [← hV]; exact below_drewN HBf.out _
              rw [hV]
              obtain ⟨s0, s1, s2, s3⟩ := HRD.out _ HBV.out
              have hF2V := HF2K.out _ HBV.out
              clear hV r0 r1 r2 r3 d0 d1 d2 d3 c0 c1 c2 c3
              go_wp2_with (go_at_call 15; (with_reducible refine Calls.mono hF2V ?_); rintro e wg ⟨rfl, hBg⟩; have HBg := Lib.hid (below_th HBV.out (below_th hBg (HBN2.out wg))); obtain ⟨d0, d1, d2, d3⟩ := (HAN2.out wg).c; dsimp only at d0 d1 d2 d3; obtain ⟨r0, r1, r2, r3⟩ := HRD.out _ HBg.out; clear hBg s0 s1 s2 s3)
              go_quiet (fail)
              go_wp2
              go_roundw
              case rel => exact ⟨k + 1, by omega, by go_num, below_drewN HBg.out _⟩
              case measure => simp [intOf]; omega
            · obtain ⟨m, hm⟩ : ∃ m, m + 1 = N := ⟨N - 1, by omega⟩
              have hw := hwN m hm
              have g8 : (k == m) = false := by simp; omega
              have g8' : ((k : Int) == (m : Int)) = false := by simp; omega
              obtain ⟨z1, hz1⟩ : ∃ z, fndC MX ncp = z := ⟨_, rfl⟩
              rw [hz1] at hF1
              generalize fndE MX ncp = n1 at hF1
              obtain ⟨zn, zt, zs, zr⟩ := z1
              clear hz1
              have HAN := Lib.hid (fun W : World => At.new W ⟨zn, zt, zs, zr⟩)
              have HBN := Lib.hid (fun W : World => below_new W (boxO ⟨zn, zt, zs, zr⟩))
              generalize fndC MD ncp = z2 at hF2
              generalize fndE MD ncp = n2 at hF2
              obtain ⟨yn, yt, ys, yr⟩ := z2
              have HAN2 := Lib.hid (fun W : World => At.new W ⟨yn, yt, ys, yr⟩)
              have HBN2 := Lib.hid (fun W : World => below_new W (boxO ⟨yn, yt, ys, yr⟩))
              have hq := fun W => neqC ⟨ncp, ti, false, ro⟩ ⟨ncp, ti, false, ro⟩ W
              simp only [decide_true, Bool.not_true] at hq
              unfold C.val at hF1 hF2 hq
              unfold boxO at HAN HBN HAN2 HBN2
              dsimp only at HAN HBN HAN2 HBN2 hF1 hF2 hq
              have HF1K := Lib.hid hF1
              have HF2K := Lib.hid hF2
              clear hF1 hF2 hy hB
              go_wp2_with (go_at_call 15; (with_reducible refine Calls.mono HF1K.out ?_); rintro e wf ⟨rfl, hBf⟩; have HBf := Lib.hid (below_th HBq.out (below_th hBf (HBN.out wf))); obtain ⟨d0, d1, d2, d3⟩ := (HAN.out wf).c; dsimp only at d0 d1 d2 d3; obtain ⟨r0, r1, r2, r3⟩ := HRD.out _ HBf.out; clear hBf)
              go_quiet (fail)
              obtain ⟨V, hV⟩ : ∃ V, (wf.alloc (.cells #[.int .u64 (zn : Nat), .int .u64 (zt : Nat), .bool zs, .string zr] 25)).drewN nq = V := ⟨_, rfl⟩
              have HBV : Hid (Below W9.heap.size W9 V) := by rw [← hV]; exact below_drewN HBf.out _
              rw [hV]
              obtain ⟨s0, s1, s2, s3⟩ := HRD.out _ HBV.out
              have hF2V := HF2K.out _ HBV.out
              clear hV r0 r1 r2 r3 d0 d1 d2 d3 c0 c1 c2 c3
              go_wp2_with (go_at_call 15; (with_reducible refine Calls.mono hF2V ?_); rintro e wg ⟨rfl, hBg⟩; have HBg := Lib.hid (below_th HBV.out (below_th hBg (HBN2.out wg))); obtain ⟨d0, d1, d2, d3⟩ := (HAN2.out wg).c; dsimp only at d0 d1 d2 d3; obtain ⟨r0, r1, r2, r3⟩ := HRD.out _ HBg.out; clear hBg s0 s1 s2 s3)
              go_quiet (fail)
              go_wp2
              go_roundw
              case rel => exact ⟨k + 1, by omega, by go_num, below_drewN HBg.out _⟩
              case measure => simp [intOf]; omega
        · obtain rfl : N = k := by omega
          have HBq := Lib.hid hB
          have h5 := H5.out _ _ (HX.out.below hB)
          go_wp2_with (go_at_call 17; (with_reducible refine Calls.mono h5 ?_); rintro e wz ⟨rfl, hBz⟩)
          go_ret
          exact ⟨by simp, below_th HB9.out (below_th HBq.out hBz)⟩
  · rw [rightB_no hr] at H0
    rw [show expE M = 90 from if_neg hr] at H4
    clear hr hN hM hL hnow
    go_enter Try.func7, Try.ntmps7
    go_wp2_with (first
      | (go_at_call 11; (with_reducible refine Calls.mono (shown_any _) ?_); rintro e w1 ⟨rfl, hB1⟩; have HL1 := Lib.hid (HL.out.below hB1))
      | (go_at_call 12; (with_reducible refine Calls.mono (HCut.out _ HL1.out) ?_); rintro e w2 ⟨aM, capM, rfl, HM, hc1, hc2, rfl⟩)
      | (go_at_call 27; (with_reducible refine Calls.mono (H4.out _ _ HM.out) ?_); rintro e w2 ⟨v2, rfl, h2, hB2⟩; obtain ⟨a2, c2, rfl, _⟩ := HPC.out _ _ _ h2; have HM := Lib.hid (HM.out.below hB2); clear h2)
      | (go_at_call 17; (with_reducible refine Calls.mono (H0.out _ _ HM.out) ?_); rintro e w3 ⟨rfl, hB3⟩))
    go_ret
    exact ⟨by simp, below_th hB1 (below_th hB2 hB3)⟩
end
end Go.Proofs.Ytoedjemelblpaaa.Cps
