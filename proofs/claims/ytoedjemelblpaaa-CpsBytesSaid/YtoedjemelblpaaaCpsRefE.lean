/- The document's Encode. -/
import Derived.Test.YtoedjemelblpaaaNumRef
import Derived.Test.YtoedjemelblpaaaCpsRefB
import Derived.Test.YtoedjemelblpaaaCpsEnc
namespace Go.Proofs.Ytoedjemelblpaaa.Cps.R
open Go.RowKit
attribute [local go_sem] Oper.semAt_some
set_option linter.unusedVariables false
set_option linter.unusedSimpArgs false
theorem sized_chunk {L : List C} (hr : RightP L) (j m : Nat) (h9 : m ≤ 9) (hl : 9 * j + m ≤ L.length) : sized (chunk L j) m := fun i hi => by
  rw [ck_chunk L j (by omega)]
  exact (hr.fine (by omega)).2.2
section
set_option maxRecDepth 100000
set_option maxHeartbeats 8000000
theorem encode_any (v : Value) (L : List C) (w : World) (hL : Chs w v L) : Calls Try.prog 30 #[v] w (EncPost L w) := by
  have hR := right_any v L w hL
  by_cases hr : RightP L
  · rw [rightB_yes hr] at hR
    obtain ⟨i0, hin, hz0, hz1, hz2⟩ := info_parts infoStr
    have HFin : Hid (∀ (W : World) (v : Value) (j base : Nat), W.ownsRow base 9 1 v j ((blksK L j).map .string) → j = (L.length + 8) / 9 → Below w.heap.size w W → EncPost L w (.returned (.tuple #[v, .int .i64 0])) W) := fun W v j base h hj hB => by
      have hnl : nBl L.length = j := by unfold nBl; omega
      refine ⟨v, by rw [show encE L = 0 from if_pos hr], ?_, hB⟩
      have e : encV L = blksK L j := by unfold encV; rw [if_pos hr, hnl]
      rw [e]
      unfold Strs
      rw [blksK_length]
      exact Lies.own h
    rcases hL.open with ⟨a, cap, rfl, rfl⟩ | ⟨b, off, cap, rfl, h0, hcap1, hcap2⟩
    · have HF := Lib.hid (fun W h => HFin.out W (.slice none 0 0) 0 0 (World.ownsRow_nil _ _ _ _) rfl h)
      have HR := Lib.hid hR
      clear hR hL hr HFin
      obtain ⟨W0, rfl⟩ : ∃ W0 : World, W0 = w := ⟨_, rfl⟩
      go_enter Try.func30, Try.ntmps30
      go_wp2_with (go_at_call 18; (with_reducible refine Calls.mono HR.out ?_); rintro e w1 ⟨rfl, hB1⟩)
      go_loopw [5, 6] (fun v i wr => v = .slice none 0 0 ∧ i = .int .i64 0 ∧ Hid (Below W0.heap.size W0 wr)) (fun _ _ _ => 0)
      case atStart => exact ⟨rfl, rfl, hB1⟩
      case round =>
        obtain ⟨rfl, rfl, HB⟩ := hrel
        go_wp2
        go_returns
        exact HF.out _ HB.out
    obtain ⟨N, hN⟩ : ∃ N, L.length = N := ⟨_, rfl⟩
    have hN1 : 1 ≤ N := by omega
    have hN9 : N ≤ 108 := by have := hr.1; omega
    have HX := Lib.hid (fun W k (h : Below w.heap.size w W) (hk : k < N) => (hL.below h).get rfl (show k < L.length by omega))
    have HFT := Lib.hid (fun i (h : i < N) => hr.fine (i := i) (by omega))
    have HSZ := Lib.hid (fun j k (h1 : k ≤ 9) (h2 : 9 * j + k ≤ N) => saidK_size k (sized_chunk hr j k h1 (by omega)))
    have HSU : Hid (∀ j m, m < 9 → saidK (chunk L j) (m + 1) = saidK (chunk L j) m ++ chB (ck L (9 * j + m))) := fun j m hm => by
      show saidK (chunk L j) m ++ chB (ck (chunk L j) m) = _
      rw [ck_chunk L j hm]
    have HBK : Hid (∀ j m, m ≤ 9 → 9 * j + m ≤ N → (m = 9 ∨ 9 * j + m = N) → blkB (chunk L j) = saidK (chunk L j) m ++ zeros (508 - 55 * m)) := fun j m h1 h2 h3 => by
      have hl : (chunk L j).length = m := by rw [chunk_length]; omega
      unfold blkB
      rw [hl]
    have HS0 : Hid (∀ j, saidK (chunk L j) 0 = (⟨#[]⟩ : ByteArray)) := fun j => rfl
    have HBS := Lib.hid (fun j => blksK_succ L j)
    rw [hN] at hR HFin hcap1 ⊢
    have HR := Lib.hid hR
    clear hR hL hr hN h0
    obtain ⟨W0, rfl⟩ : ∃ W0 : World, W0 = w := ⟨_, rfl⟩
    go_enter Try.func30, Try.ntmps30
    go_wp2_with (go_at_call 18; (with_reducible refine Calls.mono HR.out ?_); rintro e w1 ⟨rfl, hB1⟩)
    go_loopw [5, 6, 7, 8, 9] (fun v i _ _ _ wr => ∃ j : Nat, 9 * j < N + 9 ∧ i = .int .i64 ((9 * j : Nat) : Int) ∧ Hid (wr.ownsRow W0.heap.size 9 1 v j ((blksK L j).map .string)) ∧ Hid (Below W0.heap.size W0 wr)) (fun _ i _ _ _ _ => N + 9 - (intOf i).toNat)
    case atStart => exact ⟨0, by omega, rfl, World.ownsRow_nil _ _ _ _, hB1⟩
    case round =>
      obtain ⟨j, hj, rfl, HOW, HBj⟩ := hrel
      obtain ⟨i, hi⟩ : ∃ i, 9 * j = i := ⟨_, rfl⟩
      rw [hi] at hj ⊢
      have HI := Lib.hid hi
      by_cases hlt : i < N
      · clear hi
        have hsk0 := HS0.out j
        have hw9 : IntKind.i64.wrap ((i : Int) + 9) = (i : Int) + 9 := by rw [IntKind.wrap_i64]; omega
        obtain ⟨WO, rfl⟩ : ∃ WO : World, WO = wr := ⟨_, rfl⟩
        go_wp2
        go_loopw [7, 8, 9] (fun s k _ wq => ∃ m : Nat, m ≤ 9 ∧ i + m ≤ N ∧ k = .int .i64 ((i + m : Nat) : Int) ∧ s = .string (saidK (chunk L j) m) ∧ Hid (Below WO.heap.size WO wq)) (fun _ k _ _ => N - (intOf k).toNat)
        case atStart => exact ⟨0, by omega, by omega, rfl, by rw [hsk0], Below.refl _ _⟩
        case round =>
          obtain ⟨m, hm, hmN, rfl, rfl, HBm⟩ := hrel
          have hskz := HSZ.out j m hm (by rw [HI.out]; exact hmN)
          have HB2 := Lib.hid (below_th HBj.out HBm.out)
          obtain ⟨p, hp⟩ : ∃ p, i + m = p := ⟨_, rfl⟩
          obtain ⟨st, hst⟩ : ∃ st, saidK (chunk L j) m = st := ⟨_, rfl⟩
          rw [hst] at hskz
          rw [hst, hp]
          by_cases hin2 : p < N ∧ m < 9
          · obtain ⟨hpN, hm9⟩ := hin2
            have hS := HSU.out j m hm9
            rw [HI.out, hp, hst] at hS
            obtain ⟨q, hq⟩ : ∃ q, saidK (chunk L j) (m + 1) = q := ⟨_, rfl⟩
            rw [hq] at hS
            obtain ⟨o1, o2, o3⟩ := HFT.out p hpN
            obtain ⟨x0, x1, x2, x3⟩ := HX.out wr p HB2.out hpN
            have HXX := Lib.hid (fun W' (h : Below wr.heap.size wr W') => HX.out W' p (below_th HB2.out h) hpN)
            unfold Reads at HXX
            unfold chB at hS
            obtain ⟨y, hy⟩ : ∃ y, ck L p = y := ⟨_, rfl⟩
            rw [hy] at x0 x1 x2 x3 hS o1 o2 o3
            rw [hy] at HXX
            obtain ⟨ncp, ti, sn, ro⟩ := y
            dsimp only at x0 x1 x2 x3 hS o1 o2 o3 HXX
            have P1 := Lib.hid (fun W => bytes_ref ncp 6 W (by omega) (by omega) (by omega))
            have P2 := Lib.hid (fun W => bytes_ref ti 6 W (by omega) (by omega) (by omega))
            obtain ⟨fl, hfl⟩ : ∃ fl, flagN ⟨ncp, ti, sn, ro⟩ = fl := ⟨_, rfl⟩
            rw [hfl] at hS
            have hfl2 : fl < 256 := by rw [← hfl]; exact flagN_lt _
            have P3 := Lib.hid (fun W => bytes_ref fl 1 W (by omega) (by omega) (by omega))
            obtain ⟨C1, hC1⟩ : ∃ x, numB ncp 6 = x := ⟨_, rfl⟩
            obtain ⟨C2, hC2⟩ : ∃ x, numB ti 6 = x := ⟨_, rfl⟩
            obtain ⟨C3, hC3⟩ : ∃ x, numB fl 1 = x := ⟨_, rfl⟩
            have z1 : C1.size = 6 := by rw [← hC1, numB_size]
            have z2 : C2.size = 6 := by rw [← hC2, numB_size]
            have z3 : C3.size = 1 := by rw [← hC3, numB_size]
            simp only [hC1, hC2, hC3] at P1 P2 P3 hS
            have hadd1 := fun W => run_string_add_sum (P := Try.prog) (w := W) st C1 (by omega)
            have hadd2 := fun W => run_string_add_sum (P := Try.prog) (w := W) (st ++ C1) C2 (by simp only [ByteArray.size_append]; omega)
            have hadd3 := fun W => run_string_add_sum (P := Try.prog) (w := W) (st ++ C1 ++ C2) C3 (by simp only [ByteArray.size_append]; omega)
            have hadd4 := fun W => run_string_add_sum (P := Try.prog) (w := W) (st ++ C1 ++ C2 ++ C3) ro (by simp only [ByteArray.size_append]; omega)
            have hS2 : q = st ++ C1 ++ C2 ++ C3 ++ ro := by rw [hS]; simp only [app_assoc]
            have HSS := Lib.hid hS2
            have HQ := Lib.hid hq
            have HP := Lib.hid hp
            have g1 : (p : Int) < (N : Int) := by omega
            have g2 : (p : Int) < (i : Int) + 9 := by omega
            have g2d : decide ((p : Int) < (i : Int) + 9) = true := decide_eq_true g2
            have hself : Below wr.heap.size wr wr := Below.refl _ _
            have hself2 : Below wr.heap.size wr wr.drew := hself.drew
            clear hC1 hC2 hC3 hS hS2 hq hy hsk0
            cases sn with
            | false =>
              have hfz : fl = 0 := by rw [← hfl]; rfl
              subst hfz
              clear hfl hfl2
              go_wp2
              go_region_held3 (fun w' => (w'.cell? ⟨b, off + p * 4, none⟩ = some (.int .u64 (ncp : Int)) ∧ w'.cell? ⟨b, off + p * 4 + 1, none⟩ = some (.int .u64 (ti : Int)) ∧ w'.cell? ⟨b, off + p * 4 + 2, none⟩ = some (.bool false) ∧ w'.cell? ⟨b, off + p * 4 + 3, none⟩ = some (.string ro))) (exact HXX.out _ (by assumption)) (first
                | (go_at_call 50; with_reducible refine Calls.mono (P1.out _) ?_; rintro e w' ⟨rfl, hBn⟩; have := below_th (by assumption : Below wr.heap.size wr _) hBn)
                | (go_at_call 50; with_reducible refine Calls.mono (P2.out _) ?_; rintro e w' ⟨rfl, hBn⟩; have := below_th (by assumption : Below wr.heap.size wr _) hBn)
                | (go_at_call 50; with_reducible refine Calls.mono (P3.out _) ?_; rintro e w' ⟨rfl, hBn⟩; have := below_th (by assumption : Below wr.heap.size wr _) hBn))
              have HBZ2 := Lib.hid (below_th HBm.out (by assumption : Below wr.heap.size wr _))
              go_wp2
              go_roundw
              case rel => exact ⟨m + 1, by omega, by omega, by rw [← Nat.add_assoc, HP.out]; go_num, by rw [HQ.out, HSS.out], HBZ2.out⟩
              case measure => simp [intOf]; omega
            | true =>
              have hfz : fl = 1 := by rw [← hfl]; rfl
              subst hfz
              clear hfl hfl2
              go_wp2
              go_region_held3 (fun w' => (w'.cell? ⟨b, off + p * 4, none⟩ = some (.int .u64 (ncp : Int)) ∧ w'.cell? ⟨b, off + p * 4 + 1, none⟩ = some (.int .u64 (ti : Int)) ∧ w'.cell? ⟨b, off + p * 4 + 2, none⟩ = some (.bool true) ∧ w'.cell? ⟨b, off + p * 4 + 3, none⟩ = some (.string ro))) (exact HXX.out _ (by assumption)) (first
                | (go_at_call 50; with_reducible refine Calls.mono (P1.out _) ?_; rintro e w' ⟨rfl, hBn⟩; have := below_th (by assumption : Below wr.heap.size wr _) hBn)
                | (go_at_call 50; with_reducible refine Calls.mono (P2.out _) ?_; rintro e w' ⟨rfl, hBn⟩; have := below_th (by assumption : Below wr.heap.size wr _) hBn)
                | (go_at_call 50; with_reducible refine Calls.mono (P3.out _) ?_; rintro e w' ⟨rfl, hBn⟩; have := below_th (by assumption : Below wr.heap.size wr _) hBn))
              have HBZ2 := Lib.hid (below_th HBm.out (by assumption : Below wr.heap.size wr _))
              go_wp2
              go_roundw
              case rel => exact ⟨m + 1, by omega, by omega, by rw [← Nat.add_assoc, HP.out]; go_num, by rw [HQ.out, HSS.out], HBZ2.out⟩
              case measure => simp [intOf]; omega
          · have hend : m = 9 ∨ i + m = N := by omega
            have hbk := HBK.out j m hm (by rw [HI.out]; exact hmN) (by rw [HI.out]; exact hend)
            rw [hst] at hbk
            obtain ⟨r, hr⟩ : ∃ r, 508 - 55 * m = r := ⟨_, rfl⟩
            rw [hr] at hbk
            have ec : (508 : Int) - 55 * (m : Int) = (r : Int) := by omega
            have hmk : ∀ W : World, (Instr.makeSlice 73 (.int .i64 (508 - 55 * (m : Int))) (.int .i64 (508 - 55 * (m : Int)))).run Try.prog W = .ok (.slice (some ⟨W.heap.size, 0, none⟩) r r) (W.alloc (.cells (madeCells #[.int .u8 0] r) 5)) := fun W => by
              rw [ec]
              exact run_make_row' (P := Try.prog) 73 5 (.int .u8 0) 1 Try.underlying73 infoByte rfl .i64 .i64 r (by omega) (by omega) W
            have hcv := conv_zeros _ _ _ (World.rowIs_made wr (.int .u8 0) r 5) r
            have hadd := fun W => run_string_add_sum (P := Try.prog) (w := W) st (zeros r) (by rw [zeros_size]; omega)
            obtain ⟨x, hx⟩ : ∃ x, st ++ zeros r = x := ⟨_, rfl⟩
            have hown := own_below HOW.out HBm.out
            have hown2 := (hown.alloc (.cells (madeCells #[.int .u8 0] r) 5)).alloc (.cells #[.string x] 9)
            have hnew : ∀ j u, ([.string x] : List Value)[j]? = some u → ((wr.alloc (.cells (madeCells #[.int .u8 0] r) 5)).alloc (.cells #[.string x] 9)).cell? ((⟨wr.heap.size + 1, 0, none⟩ : Addr).add j) = some u := World.news_of_block (cs := #[.string x]) (by
              have := World.alloc_heap_new (wr.alloc (.cells (madeCells #[.int .u8 0] r) 5)) (.cells #[.string x] 9)
              rwa [World.size_alloc] at this)
            have HOWN := Lib.hid hown2
            have HNEW := Lib.hid hnew
            have hbs := HBS.out j
            have hj9 : j ≤ 108 := by have := HI.out; omega
            have HBw2 := Lib.hid (below_al (below_al HB2.out (.cells (madeCells #[.int .u8 0] r) 5)) (.cells #[.string x] 9))
            have hsz2 := HBw2.out.size
            rw [World.size_alloc, World.size_alloc] at hsz2
            have HBS2 : Hid (blksK L (j + 1) = blksK L j ++ [x]) := by unfold Hid; rw [hbs, hbk, hx]
            have hik1 : i + 9 = 9 * (j + 1) := by have := HI.out; omega
            have HK1 := Lib.hid hik1
            clear ec hown hown2 hnew hbs hbk hend hr hik1 hsk0
            by_cases hpN : p < N
            · have g1 : (p : Int) < (N : Int) := by omega
              have g2 : ¬ (p : Int) < (i : Int) + 9 := by omega
              have g2d : decide ((p : Int) < (i : Int) + 9) = false := decide_eq_false g2
              clear hpN hin2 hp
              go_wp2_with (at_builtin; (refine wpList_append_own _ rfl _ _ 44 rfl W0.heap.size 9 i0 (.string ⟨#[]⟩) 1 16 Try.underlying44 hin hz0 hz1 hz2 rfl (by decide) _ j ((blksK L j).map .string) rfl HOWN.out ⟨wr.heap.size + 1, 0, none⟩ 1 1 [.string x] rfl rfl HNEW.out (by simp [Value.oneCell']) (by unfold maxLen; omega) (by omega) HBw2.out.size ?_; intro v3 w3 hown3 hgrow3 _; have HO3 := Lib.hid hown3; have HB3 := Lib.hid (HBw2.out.grown hgrow3 HBw2.out.size (fun r e => ((HOWN.out).lt r e).1)); clear hown3 hgrow3))
              go_roundw
              case rel => exact ⟨j + 1, by have := HI.out; omega, by rw [← HK1.out]; go_num, by rw [HBS2.out, List.map_append]; exact HO3.out, HB3.out⟩
              case measure => simp [intOf]; omega
            · have g1 : ¬ (p : Int) < (N : Int) := by omega
              clear hpN hin2 hp
              go_wp2_with (at_builtin; (refine wpList_append_own _ rfl _ _ 44 rfl W0.heap.size 9 i0 (.string ⟨#[]⟩) 1 16 Try.underlying44 hin hz0 hz1 hz2 rfl (by decide) _ j ((blksK L j).map .string) rfl HOWN.out ⟨wr.heap.size + 1, 0, none⟩ 1 1 [.string x] rfl rfl HNEW.out (by simp [Value.oneCell']) (by unfold maxLen; omega) (by omega) HBw2.out.size ?_; intro v3 w3 hown3 hgrow3 _; have HO3 := Lib.hid hown3; have HB3 := Lib.hid (HBw2.out.grown hgrow3 HBw2.out.size (fun r e => ((HOWN.out).lt r e).1)); clear hown3 hgrow3))
              go_roundw
              case rel => exact ⟨j + 1, by have := HI.out; omega, by rw [← HK1.out]; go_num, by rw [HBS2.out, List.map_append]; exact HO3.out, HB3.out⟩
              case measure => simp [intOf]; omega
      · have hjj : j = (N + 8) / 9 := by omega
        have HF := Lib.hid (HFin.out wr _ j _ HOW.out hjj HBj.out)
        clear hi hjj
        go_wp2
        go_returns
        exact HF.out
  · have HF : Hid (∀ W, Below w.heap.size w W → EncPost L w (.returned (.tuple #[.slice none 0 0, .int .i64 90])) W) := fun W h => ⟨_, by rw [show encE L = 90 from if_neg hr], by rw [show encV L = [] from if_neg hr]; exact Strs.nil W, h⟩
    rw [rightB_no hr] at hR
    obtain ⟨a, cap, rfl, hn, hm⟩ := hL.parts
    obtain ⟨N, hN⟩ : ∃ N, L.length = N := ⟨_, rfl⟩
    rw [hN] at hR hn ⊢
    have HR := Lib.hid hR
    clear hR hL hr hN
    go_enter Try.func30, Try.ntmps30
    go_wp2_with (go_at_call 18; (with_reducible refine Calls.mono HR.out ?_); rintro e w1 ⟨rfl, hB1⟩)
    go_returns
    exact HF.out _ hB1
end
end Go.Proofs.Ytoedjemelblpaaa.Cps.R
