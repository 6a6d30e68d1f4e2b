/- The document's Encode. -/
import Derived.Test.YthfcjbfldokanaaNumRef
import Derived.Test.YthfcjbfldokanaaDatRefW
import Derived.Test.YthfcjbfldokanaaDatEnc
namespace Go.Proofs.Ythfcjbfldokanaa.Dat.R
open Go.RowKit
attribute [local go_sem] Oper.semAt_some
set_option linter.unusedVariables false

theorem own_below {W W' : World} {base : Nat} {e : TypeId} {sz : Nat} {v : Value} {n : Nat} {xs : List Value} (h : W.ownsRow base e sz v n xs) (hB : Below W.heap.size W W') : W'.ownsRow base e sz v n xs := h.kept (grown_of_below hB) (by cases hv : v.ownBlock <;> simp)
section
set_option maxRecDepth 100000
set_option maxHeartbeats 4000000
theorem encode_any (v : Value) (L : List T) (w : World) (hL : Trs w v L) : Calls Try.prog 25 #[v] w (EncPost L w) := by
  have hR := right_any v L w hL
  by_cases hr : RightP L
  · rw [rightB_yes hr] at hR
    obtain ⟨i0, hin, hz0, hz1, hz2⟩ := info_parts infoStr
    obtain ⟨b, off, cap, rfl, _⟩ := hL.at (k := 0) (by have := hr.1; omega)
    obtain ⟨N, hN⟩ : ∃ N, L.length = N := ⟨_, rfl⟩
    have hN1 : 1 ≤ N := by have := hr.1; omega
    have hN9 : N ≤ 1860 := by have := hr.1; omega
    have HX := Lib.hid (fun W k (h : Below w.heap.size w W) (hk : k < N) => (hL.below h).get rfl (show k < L.length by omega))
    have HFT := Lib.hid (fun i => hr.fit i)
    have HSZ := Lib.hid (fun j k => saidK_size (chunk L j) k)
    have HSU : Hid (∀ j m, m < 31 → saidK (chunk L j) (m + 1) = saidK (chunk L j) m ++ trB (tr L (31 * j + m))) := fun j m hm => by
      show saidK (chunk L j) m ++ trB (tr (chunk L j) m) = _
      rw [tr_chunk L j hm]
    have HBK : Hid (∀ j m, m ≤ 31 → 31 * j + m ≤ N → (m = 31 ∨ 31 * j + m = N) → blkB (chunk L j) = saidK (chunk L j) m ++ zeros (508 - 16 * m)) := fun j m h1 h2 h3 => by
      have hl : (chunk L j).length = m := by rw [chunk_length]; omega
      unfold blkB
      rw [hl]
    have HS0 : Hid (∀ j, saidK (chunk L j) 0 = (⟨#[]⟩ : ByteArray)) := fun j => rfl
    have HBS := Lib.hid (fun j => blksK_succ L j)
    have HFin : Hid (∀ (W : World) (v : Value) (j base : Nat), W.ownsRow base 9 1 v j ((blksK L j).map .string) → j = (N + 30) / 31 → Below w.heap.size w W → EncPost L w (.returned (.tuple #[v, .int .i64 0])) W) := fun W v j base h hj hB => by
      have hnl : nBl L.length = j := by unfold nBl; omega
      refine ⟨v, by rw [show encE L = 0 from if_pos hr], ?_, hB⟩
      have e : encV L = blksK L j := by unfold encV; rw [if_pos hr, hnl]
      rw [e]
      unfold Strs
      rw [blksK_length]
      exact Lies.own h
    have hcap : N ≤ cap ∧ cap ≤ 9223372036854775807 := by
      obtain ⟨a1, cap1, e, g1, g2⟩ := hL.parts
      cases e
      omega
    obtain ⟨hcap1, hcap2⟩ := hcap
    rw [hN] at hR ⊢
    have HR := Lib.hid hR
    clear hR hL hr hN
    obtain ⟨W0, rfl⟩ : ∃ W0 : World, W0 = w := ⟨_, rfl⟩
    go_enter Try.func25, Try.ntmps25
    go_wp2_with (go_at_call 16; (with_reducible refine Calls.mono HR.out ?_); rintro e w1 ⟨rfl, hB1⟩)
    go_loopw [5, 6, 7, 8] (fun v i _ _ wr => ∃ j : Nat, 31 * j < N + 31 ∧ i = .int .i64 ((31 * j : Nat) : Int) ∧ Hid (wr.ownsRow W0.heap.size 9 1 v j ((blksK L j).map .string)) ∧ Hid (Below W0.heap.size W0 wr)) (fun _ i _ _ _ => N + 31 - (intOf i).toNat)
    case atStart => exact ⟨0, by omega, rfl, World.ownsRow_nil _ _ _ _, hB1⟩
    case round =>
      obtain ⟨j, hj, rfl, HOW, HBj⟩ := hrel
      obtain ⟨i, hi⟩ : ∃ i, 31 * j = i := ⟨_, rfl⟩
      rw [hi] at hj ⊢
      have HI := Lib.hid hi
      by_cases hlt : i < N
      · clear hi
        have hsk0 := HS0.out j
        have hw31 : IntKind.i64.wrap ((i : Int) + 31) = (i : Int) + 31 := by rw [IntKind.wrap_i64]; omega
        obtain ⟨WO, rfl⟩ : ∃ WO : World, WO = wr := ⟨_, rfl⟩
        go_wp2
        go_loopw [7, 8] (fun s k wq => ∃ m : Nat, m ≤ 31 ∧ i + m ≤ N ∧ k = .int .i64 ((i + m : Nat) : Int) ∧ s = .string (saidK (chunk L j) m) ∧ Hid (Below WO.heap.size WO wq)) (fun _ k _ => N - (intOf k).toNat)
        case atStart => exact ⟨0, by omega, by omega, rfl, by rw [hsk0], Below.refl _ _⟩
        case round =>
          obtain ⟨m, hm, hmN, rfl, rfl, HBm⟩ := hrel
          have hskz := HSZ.out j m
          have HB2 := Lib.hid (below_th HBj.out HBm.out)
          obtain ⟨p, hp⟩ : ∃ p, i + m = p := ⟨_, rfl⟩
          obtain ⟨st, hst⟩ : ∃ st, saidK (chunk L j) m = st := ⟨_, rfl⟩
          rw [hst] at hskz
          rw [hst, hp]
          by_cases hin2 : p < N ∧ m < 31
          · obtain ⟨hpN, hm31⟩ := hin2
            have hS := HSU.out j m hm31
            rw [HI.out, hp, hst] at hS
            obtain ⟨q, hq⟩ : ∃ q, saidK (chunk L j) (m + 1) = q := ⟨_, rfl⟩
            rw [hq] at hS
            obtain ⟨o1, o2, o3⟩ := HFT.out p
            obtain ⟨x0, x1, x2⟩ := HX.out wr p HB2.out hpN
            have HXX := Lib.hid (fun W' (h : Below wr.heap.size wr W') => HX.out W' p (below_th HB2.out h) hpN)
            unfold trB at hS
            obtain ⟨y, hy⟩ : ∃ y, tr L p = y := ⟨_, rfl⟩
            rw [hy] at x0 x1 x2 hS o1 o2 o3
            rw [hy] at HXX
            obtain ⟨ph, s6, fi⟩ := y
            dsimp only at x0 x1 x2 hS o1 o2 o3 HXX
            have P1 := Lib.hid (fun W => bytes_ref ph 4 W (by omega) (by omega) (by omega))
            have P2 := Lib.hid (fun W => bytes_ref s6 6 W (by omega) (by omega) (by omega))
            have P3 := Lib.hid (fun W => bytes_ref fi 6 W (by omega) (by omega) (by omega))
            have q1 : IntKind.u64.wrap (ph : Int) = ph := by rw [IntKind.wrap_u64]; omega
            obtain ⟨C1, hC1⟩ : ∃ x, numB ph 4 = x := ⟨_, rfl⟩
            obtain ⟨C2, hC2⟩ : ∃ x, numB s6 6 = x := ⟨_, rfl⟩
            obtain ⟨C3, hC3⟩ : ∃ x, numB fi 6 = x := ⟨_, rfl⟩
            have z1 : C1.size = 4 := by rw [← hC1, numB_size]
            have z2 : C2.size = 6 := by rw [← hC2, numB_size]
            have z3 : C3.size = 6 := by rw [← hC3, numB_size]
            simp only [hC1, hC2, hC3] at P1 P2 P3 hS
            have hadd1 := fun W => run_string_add_sum (P := Try.prog) (w := W) st C1 (by omega)
            have hadd2 := fun W => run_string_add_sum (P := Try.prog) (w := W) (st ++ C1) C2 (by simp only [ByteArray.size_append]; omega)
            have hadd3 := fun W => run_string_add_sum (P := Try.prog) (w := W) (st ++ C1 ++ C2) C3 (by simp only [ByteArray.size_append]; omega)
            have hS2 : q = st ++ C1 ++ C2 ++ C3 := by rw [hS, app_assoc, app_assoc]
            have HSS := Lib.hid hS2
            have HQ := Lib.hid hq
            have HP := Lib.hid hp
            have g1 : (p : Int) < (N : Int) := by omega
            have g2 : (p : Int) < (i : Int) + 31 := by omega
            have g2d : decide ((p : Int) < (i : Int) + 31) = true := decide_eq_true g2
            have hself : Below wr.heap.size wr wr := Below.refl _ _
            have hself2 : Below wr.heap.size wr wr.drew := hself.drew
            clear hC1 hC2 hC3 hS hS2 hq hy hsk0
            go_wp2
            go_region_held3 (fun w' => (w'.cell? ⟨b, off + p * 3, none⟩ = some (.int .u32 (ph : Int)) ∧ w'.cell? ⟨b, off + p * 3 + 1, none⟩ = some (.int .u64 (s6 : Int)) ∧ w'.cell? ⟨b, off + p * 3 + 2, none⟩ = some (.int .u64 (fi : Int)))) (exact HXX.out _ (by assumption)) (first
              | (go_at_call 49; with_reducible refine Calls.mono (P1.out _) ?_; rintro e w' ⟨rfl, hBn⟩; have := below_th (by assumption : Below wr.heap.size wr _) hBn)
              | (go_at_call 49; with_reducible refine Calls.mono (P2.out _) ?_; rintro e w' ⟨rfl, hBn⟩; have := below_th (by assumption : Below wr.heap.size wr _) hBn)
              | (go_at_call 49; with_reducible refine Calls.mono (P3.out _) ?_; rintro e w' ⟨rfl, hBn⟩; have := below_th (by assumption : Below wr.heap.size wr _) hBn))
            have HBZ2 := Lib.hid (below_th HBm.out (by assumption : Below wr.heap.size wr _))
            go_wp2
            go_roundw
            case rel => exact ⟨m + 1, by omega, by omega, by rw [← Nat.add_assoc, HP.out]; go_num, by rw [HQ.out, HSS.out], HBZ2.out⟩
            case measure => simp [intOf]; omega
          · have hend : m = 31 ∨ i + m = N := by omega
            have hbk := HBK.out j m hm (by rw [HI.out]; exact hmN) (by rw [HI.out]; exact hend)
            rw [hst] at hbk
            obtain ⟨r, hr⟩ : ∃ r, 508 - 16 * m = r := ⟨_, rfl⟩
            rw [hr] at hbk
            have ec : (508 : Int) - 16 * (m : Int) = (r : Int) := by omega
            have hmk : ∀ W : World, (Instr.makeSlice 73 (.int .i64 (508 - 16 * (m : Int))) (.int .i64 (508 - 16 * (m : Int)))).run Try.prog W = .ok (.slice (some ⟨W.heap.size, 0, none⟩) r r) (W.alloc (.cells (madeCells #[.int .u8 0] r) 5)) := fun W => by
              rw [ec]
              exact run_make_row' (P := Try.prog) 73 5 (.int .u8 0) 1 Try.underlying73 infoByte rfl .i64 .i64 r (by omega) (by omega) W
            have hcv := conv_zeros _ _ _ (World.rowIs_made wr (.int .u8 0) r 5) r
            have hadd := fun W => run_string_add_sum (P := Try.prog) (w := W) st (zeros r) (by rw [zeros_size]; omega)
            obtain ⟨x, hx⟩ : ∃ x, st ++ zeros r = x := ⟨_, rfl⟩
            have hown := own_below HOW.out HBm.out
            have hown2 := (hown.alloc (.cells (madeCells #[.int .u8 0] r) 5)).alloc (.cells #[.string x] 9)
            have hnew : ∀ j u, ([.string x] : List Value)[j]? = some u → ((wr.alloc (.cells (madeCells #[.int .u8 0] r) 5)).alloc (.cells #[.string x] 9)).cell? ((⟨wr.heap.size + 1, 0, none⟩ : Addr).add j) = some u := World.news_of_block (cs := #[.string x]) (by
              have := World.alloc_heap_new (wr.alloc (.cells (madeCells #[.int .u8 0] r) 5)) (.cells #[.string x] 9)
              rwa [World.size_alloc] at this)
            have HOWN := Lib.hid hown2
            have HNEW := Lib.hid hnew
            have hbs := HBS.out j
            have hj9 : j ≤ 1860 := by have := HI.out; omega
            have g1 : ¬ ((p : Int) < (N : Int) ∧ (p : Int) < (i : Int) + 31) := by omega
            have HBw2 := Lib.hid (below_al (below_al HB2.out (.cells (madeCells #[.int .u8 0] r) 5)) (.cells #[.string x] 9))
            have hsz2 := HBw2.out.size
            rw [World.size_alloc, World.size_alloc] at hsz2
            have HBS2 : Hid (blksK L (j + 1) = blksK L j ++ [x]) := by unfold Hid; rw [hbs, hbk, hx]
            have hik1 : i + 31 = 31 * (j + 1) := by have := HI.out; omega
            have HK1 := Lib.hid hik1
            clear ec hown hown2 hnew hbs hbk hend hr hik1 hsk0
            have fin : ∀ c : Bool, decide ((p : Int) < (N : Int)) = c → (c = true → decide ((p : Int) < (i : Int) + 31) = false) → True := fun _ _ _ => trivial
            clear fin g1
            by_cases hpN : p < N
            · have g1 : (p : Int) < (N : Int) := by omega
              have g2 : ¬ (p : Int) < (i : Int) + 31 := by omega
              have g2d : decide ((p : Int) < (i : Int) + 31) = false := decide_eq_false g2
              clear hpN hin2 hp
              go_wp2_with (at_builtin; (refine wpList_append_own _ rfl _ _ 43 rfl W0.heap.size 9 i0 (.string ⟨#[]⟩) 1 16 Try.underlying43 hin hz0 hz1 hz2 rfl (by decide) _ j ((blksK L j).map .string) rfl HOWN.out ⟨wr.heap.size + 1, 0, none⟩ 1 1 [.string x] rfl rfl HNEW.out (by simp [Value.oneCell']) (by unfold maxLen; omega) (by omega) HBw2.out.size ?_; intro v3 w3 hown3 hgrow3 _; have HO3 := Lib.hid hown3; have HB3 := Lib.hid (HBw2.out.grown hgrow3 HBw2.out.size (fun r e => ((HOWN.out).lt r e).1)); clear hown3 hgrow3))
              go_roundw
              case rel => exact ⟨j + 1, by have := HI.out; omega, by rw [← HK1.out]; go_num, by rw [HBS2.out, List.map_append]; exact HO3.out, HB3.out⟩
              case measure => simp [intOf]; omega
            · have g1 : ¬ (p : Int) < (N : Int) := by omega
              clear hpN hin2 hp
              go_wp2_with (at_builtin; (refine wpList_append_own _ rfl _ _ 43 rfl W0.heap.size 9 i0 (.string ⟨#[]⟩) 1 16 Try.underlying43 hin hz0 hz1 hz2 rfl (by decide) _ j ((blksK L j).map .string) rfl HOWN.out ⟨wr.heap.size + 1, 0, none⟩ 1 1 [.string x] rfl rfl HNEW.out (by simp [Value.oneCell']) (by unfold maxLen; omega) (by omega) HBw2.out.size ?_; intro v3 w3 hown3 hgrow3 _; have HO3 := Lib.hid hown3; have HB3 := Lib.hid (HBw2.out.grown hgrow3 HBw2.out.size (fun r e => ((HOWN.out).lt r e).1)); clear hown3 hgrow3))
              go_roundw
              case rel => exact ⟨j + 1, by have := HI.out; omega, by rw [← HK1.out]; go_num, by rw [HBS2.out, List.map_append]; exact HO3.out, HB3.out⟩
              case measure => simp [intOf]; omega
      · have hjj : j = (N + 30) / 31 := by omega
        have HF := Lib.hid (HFin.out wr _ j _ HOW.out hjj HBj.out)
        clear hi hjj
        go_wp2
        go_returns
        exact HF.out
  · have HF : Hid (∀ W, Below w.heap.size w W → EncPost L w (.returned (.tuple #[.slice none 0 0, .int .i64 80])) W) := fun W h => ⟨_, by rw [show encE L = 80 from if_neg hr], by rw [show encV L = [] from if_neg hr]; exact Strs.nil W, h⟩
    rw [rightB_no hr] at hR
    obtain ⟨a, cap, rfl, hn, hm⟩ := hL.parts
    obtain ⟨N, hN⟩ : ∃ N, L.length = N := ⟨_, rfl⟩
    rw [hN] at hR hn ⊢
    have HR := Lib.hid hR
    clear hR hL hr hN
    go_enter Try.func25, Try.ntmps25
    go_wp2_with (go_at_call 16; (with_reducible refine Calls.mono HR.out ?_); rintro e w1 ⟨rfl, hB1⟩)
    go_returns
    exact HF.out _ hB1
end
end Go.Proofs.Ythfcjbfldokanaa.Dat.R
