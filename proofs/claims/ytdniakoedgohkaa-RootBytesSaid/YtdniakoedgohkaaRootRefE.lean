/- The document's Encode. -/
import Derived.Deep.RegionHeld3
import Derived.Test.YtdniakoedgohkaaNumRef
import Derived.Test.YtdniakoedgohkaaRootRefR
namespace Go.Proofs.Ytdniakoedgohkaa.Root.R
open Go.RowKit
attribute [local go_sem] Oper.semAt_some
set_option linter.unusedVariables false
set_option linter.unusedSimpArgs false
section
set_option maxRecDepth 100000
set_option maxHeartbeats 8000000
theorem encode_any (r : Q) (d c : Value) (w : World) (h1 : Nums w d r.dats) (h2 : Nums w c r.cps) : Calls Try.prog 10 #[r.val d c] w (Ans w (.tuple #[.string (encS r), .int .i64 (encE r)])) := by
  have hA := QAt.new w r d c
  have hB := below_new w (boxQ r d c)
  have h1' := h1.below hB
  have h2' := h2.below hB
  have HR : Hid (∀ W, Below (w.alloc (boxQ r d c)).heap.size (w.alloc (boxQ r d c)) W → Calls Try.prog 14 #[r.val d c] W (Ans W (.bool (rightB r)))) := fun W h => right_any r d c W (h1'.below h) (h2'.below h)
  obtain ⟨ad, cd, rfl, m1, m2⟩ := h1.parts
  obtain ⟨ac, cc, rfl, m3, m4⟩ := h2.parts
  obtain ⟨ND, hND⟩ : ∃ n, r.dats.length = n := ⟨_, rfl⟩
  obtain ⟨NC, hNC⟩ : ∃ n, r.cps.length = n := ⟨_, rfl⟩
  simp only [hND, hNC] at m1 m3 hA hB h1' h2' HR ⊢
  have KD := Lib.hid hND
  have KC := Lib.hid hNC
  clear h1 h2 hND hNC
  obtain ⟨g0, g1, g2, g3⟩ := hA.c
  obtain ⟨W1, hW1⟩ : ∃ W1, w.alloc (boxQ r (.slice ad ND cd) (.slice ac NC cc)) = W1 := ⟨_, rfl⟩
  rw [hW1] at hA hB h1' h2' g0 g1 g2 g3 HR
  have HCL : Hid (∀ W, Below W1.heap.size W1 W → W.cell? ⟨w.heap.size, 0, none⟩ = some (.int .u64 (r.cp : Int)) ∧ W.cell? ⟨w.heap.size, 1, none⟩ = some (.int .u64 (r.tick : Int)) ∧ W.cell? ⟨w.heap.size, 2, none⟩ = some (.slice ad ND cd) ∧ W.cell? ⟨w.heap.size, 3, none⟩ = some (.slice ac NC cc)) := fun W h => (hA.th h).c
  unfold boxQ at hW1
  have HBW := Lib.hid hB
  have H1 := Lib.hid h1'
  have H2 := Lib.hid h2'
  clear hA hB h1' h2'
  unfold Q.val at HR ⊢
  by_cases hr : RightP r
  · have HRP := Lib.hid hr
    have HR := Lib.hid (HR.out W1 (Below.refl _ _))
    rw [show rightB r = true from decide_eq_true hr] at HR
    have HE0 := Lib.hid (encE_yes hr)
    obtain ⟨q1, q2, q3, ⟨q4, q5⟩, q6, q7⟩ := hr.1
    rw [KD.out] at q4 q5
    rw [KC.out] at q6 q7
    have HSD := Lib.hid hr.small.1
    have HSC := Lib.hid hr.small.2
    have P1 := Lib.hid (fun W => bytes_ref r.cp 6 W (by omega) (by omega) (by omega))
    have P2 := Lib.hid (fun W => bytes_ref r.tick 6 W (by omega) (by omega) (by omega))
    have P3 := Lib.hid (fun W => bytes_ref ND 1 W (by omega) (by omega) (by omega))
    have P4 := Lib.hid (fun W => bytes_ref NC 1 W (by omega) (by omega) (by omega))
    have HHD : Hid (numB r.cp 6 ++ numB r.tick 6 ++ numB ND 1 ++ numB NC 1 = headB r) := by unfold Hid headB; rw [KD.out, KC.out]
    have HPZ6 : Hid ((headB r).size ≤ 400) := by unfold Hid; rw [headB_size]; omega
    have HPZ7 : Hid ((headB r ++ numsB r.dats).size ≤ 400) := by unfold Hid; rw [ByteArray.size_append, headB_size, numsB_size, KD.out]; omega
    obtain ⟨C1, hC1⟩ : ∃ x, numB r.cp 6 = x := ⟨_, rfl⟩
    obtain ⟨C2, hC2⟩ : ∃ x, numB r.tick 6 = x := ⟨_, rfl⟩
    obtain ⟨C3, hC3⟩ : ∃ x, numB ND 1 = x := ⟨_, rfl⟩
    obtain ⟨C4, hC4⟩ : ∃ x, numB NC 1 = x := ⟨_, rfl⟩
    have z1 : C1.size = 6 := by rw [← hC1, numB_size]
    have z2 : C2.size = 6 := by rw [← hC2, numB_size]
    have z3 : C3.size = 1 := by rw [← hC3, numB_size]
    have z4 : C4.size = 1 := by rw [← hC4, numB_size]
    simp only [hC1, hC2, hC3, hC4] at P1 P2 P3 P4 HHD
    have hadd1 := fun W => run_string_add_sum (P := Try.prog) (w := W) C1 C2 (by omega)
    have hadd2 := fun W => run_string_add_sum (P := Try.prog) (w := W) (C1 ++ C2) C3 (by simp only [ByteArray.size_append]; omega)
    have hadd3 := fun W => run_string_add_sum (P := Try.prog) (w := W) (C1 ++ C2 ++ C3) C4 (by simp only [ByteArray.size_append]; omega)
    have vd : IntKind.u64.wrap (ND : Int) = (ND : Int) := by rw [IntKind.wrap_u64]; omega
    have vc : IntKind.u64.wrap (NC : Int) = (NC : Int) := by rw [IntKind.wrap_u64]; omega
    clear hr hC1 hC2 hC3 hC4 q1 q2 q3
    go_enter Try.func10, Try.ntmps10
    go_wp2_with (go_at_call 14; (with_reducible refine Calls.mono HR.out ?_); rintro e w2 ⟨rfl, hB2⟩)
    have hself : Below W1.heap.size W1 w2 := hB2
    have hself2 : Below W1.heap.size W1 w2.drew := hself.drew
    clear g0 g1 g2 g3
    go_region_held3 (fun w' => (w'.cell? ⟨w.heap.size, 0, none⟩ = some (.int .u64 (r.cp : Int)) ∧ w'.cell? ⟨w.heap.size, 1, none⟩ = some (.int .u64 (r.tick : Int)) ∧ w'.cell? ⟨w.heap.size, 2, none⟩ = some (.slice ad ND cd) ∧ w'.cell? ⟨w.heap.size, 3, none⟩ = some (.slice ac NC cc))) (exact HCL.out _ (by assumption)) (first
      | (go_at_call 32; with_reducible refine Calls.mono (P1.out _) ?_; rintro e w' ⟨rfl, hBn⟩; have := below_th (by assumption : Below W1.heap.size W1 _) hBn)
      | (go_at_call 32; with_reducible refine Calls.mono (P2.out _) ?_; rintro e w' ⟨rfl, hBn⟩; have := below_th (by assumption : Below W1.heap.size W1 _) hBn)
      | (go_at_call 32; with_reducible refine Calls.mono (P3.out _) ?_; rintro e w' ⟨rfl, hBn⟩; have := below_th (by assumption : Below W1.heap.size W1 _) hBn)
      | (go_at_call 32; with_reducible refine Calls.mono (P4.out _) ?_; rintro e w' ⟨rfl, hBn⟩; have := below_th (by assumption : Below W1.heap.size W1 _) hBn))
    have HB4 := Lib.hid (by assumption : Below W1.heap.size W1 _)
    rw [HHD.out]
    clear hadd1 hadd2 hadd3 hself hself2
    go_wp2
    go_loopw [5, 6] (fun s i wr => ∃ k : Nat, k ≤ ND ∧ i = .int .i64 (k : Int) ∧ s = .string (headB r ++ numsB (r.dats.take k)) ∧ Hid (Below W1.heap.size W1 wr)) (fun _ i _ => ND - (intOf i).toNat)
    case atStart => exact ⟨0, Nat.zero_le _, rfl, by rw [List.take_zero]; show _ = Value.string (headB r ++ ⟨#[]⟩); rw [app_none], HB4.out⟩
    case round =>
      obtain ⟨k, hk, rfl, rfl, HBr⟩ := hrel
      obtain ⟨y0, y1, y2, y3⟩ := HCL.out _ HBr.out
      by_cases hlt : k < ND
      · have hlti : (k : Int) < (ND : Int) := by omega
        have hk1 := Lib.hid (Nat.succ_le_of_lt hlt)
        obtain ⟨b1, o1, rfl, c1⟩ := (H1.out.below HBr.out).at KD.out (k := k) hlt
        have HSN : Hid (headB r ++ numsB (r.dats.take (k + 1)) = headB r ++ numsB (r.dats.take k) ++ numB (nu r.dats k) 4) := by
          unfold Hid
          rw [List.take_add_one, nu_get (by rw [KD.out]; exact hlt)]
          show headB r ++ numsB (r.dats.take k ++ [nu r.dats k]) = _
          rw [numsB_snoc, app_assoc]
        have hxs : nu r.dats k < 4294967296 := HSD.out _ (List.mem_of_getElem? (nu_get (by rw [KD.out]; exact hlt)))
        have hssz : (headB r ++ numsB (r.dats.take k)).size ≤ 1000 := by
          rw [ByteArray.size_append, numsB_size, List.length_take]
          have := HPZ6.out
          have := KD.out
          omega
        obtain ⟨x, hx⟩ : ∃ x, nu r.dats k = x := ⟨_, rfl⟩
        obtain ⟨st, hst⟩ : ∃ s, headB r ++ numsB (r.dats.take k) = s := ⟨_, rfl⟩
        rw [hx] at c1 HSN hxs
        rw [hst] at HSN hssz
        rw [hst]
        have P := Lib.hid (fun W => bytes_ref x 4 W (by omega) (by omega) (by omega))
        obtain ⟨C, hC⟩ : ∃ c, numB x 4 = c := ⟨_, rfl⟩
        have hCs : C.size = 4 := by rw [← hC, numB_size]
        rw [hC] at P HSN
        have hadd := fun W => run_string_add_sum (P := Try.prog) (w := W) st C (by omega)
        have vx : IntKind.u64.wrap (x : Int) = (x : Int) := by rw [IntKind.wrap_u64]; omega
        clear hx hst hC
        go_wp2_with (go_at_call 32; (with_reducible refine Calls.mono (P.out _) ?_); rintro e w5 ⟨rfl, hB5⟩; have HB5 := Lib.hid (below_th HBr.out hB5); clear hB5)
        go_roundw
        case rel => exact ⟨k + 1, hk1.out, by go_num, by rw [HSN.out], HB5.out⟩
        case measure => have := hk1.out; simp [intOf]; omega
      · have hlti : ¬ (k : Int) < (ND : Int) := by omega
        obtain rfl : k = ND := by omega
        have HFULL : Hid (r.dats.take k = r.dats) := List.take_of_length_le (by rw [KD.out]; exact Nat.le_refl _)
        rw [HFULL.out]
        clear HFULL
        have HBK := HBr
        go_wp2
        go_loopw [5, 7] (fun s i wr => ∃ k : Nat, k ≤ NC ∧ i = .int .i64 (k : Int) ∧ s = .string (headB r ++ numsB r.dats ++ numsB (r.cps.take k)) ∧ Hid (Below W1.heap.size W1 wr)) (fun _ i _ => NC - (intOf i).toNat)
        case atStart => exact ⟨0, Nat.zero_le _, rfl, by rw [List.take_zero]; show _ = Value.string (headB r ++ numsB r.dats ++ ⟨#[]⟩); rw [app_none], HBr.out⟩
        case round =>
          obtain ⟨k, hk, rfl, rfl, HBr⟩ := hrel
          obtain ⟨y0, y1, y2, y3⟩ := HCL.out _ HBr.out
          by_cases hlt : k < NC
          · have hlti : (k : Int) < (NC : Int) := by omega
            have hk1 := Lib.hid (Nat.succ_le_of_lt hlt)
            obtain ⟨b1, o1, rfl, c1⟩ := (H2.out.below HBr.out).at KC.out (k := k) hlt
            have HSN : Hid (headB r ++ numsB r.dats ++ numsB (r.cps.take (k + 1)) = headB r ++ numsB r.dats ++ numsB (r.cps.take k) ++ numB (nu r.cps k) 4) := by
              unfold Hid
              rw [List.take_add_one, nu_get (by rw [KC.out]; exact hlt)]
              show headB r ++ numsB r.dats ++ numsB (r.cps.take k ++ [nu r.cps k]) = _
              rw [numsB_snoc, app_assoc]
            have hxs : nu r.cps k < 4294967296 := HSC.out _ (List.mem_of_getElem? (nu_get (by rw [KC.out]; exact hlt)))
            have hssz : (headB r ++ numsB r.dats ++ numsB (r.cps.take k)).size ≤ 1000 := by
              rw [ByteArray.size_append, numsB_size, List.length_take]
              have := HPZ7.out
              have := KC.out
              omega
            obtain ⟨x, hx⟩ : ∃ x, nu r.cps k = x := ⟨_, rfl⟩
            obtain ⟨st, hst⟩ : ∃ s, headB r ++ numsB r.dats ++ numsB (r.cps.take k) = s := ⟨_, rfl⟩
            rw [hx] at c1 HSN hxs
            rw [hst] at HSN hssz
            rw [hst]
            have P := Lib.hid (fun W => bytes_ref x 4 W (by omega) (by omega) (by omega))
            obtain ⟨C, hC⟩ : ∃ c, numB x 4 = c := ⟨_, rfl⟩
            have hCs : C.size = 4 := by rw [← hC, numB_size]
            rw [hC] at P HSN
            have hadd := fun W => run_string_add_sum (P := Try.prog) (w := W) st C (by omega)
            have vx : IntKind.u64.wrap (x : Int) = (x : Int) := by rw [IntKind.wrap_u64]; omega
            clear hx hst hC
            go_wp2_with (go_at_call 32; (with_reducible refine Calls.mono (P.out _) ?_); rintro e w5 ⟨rfl, hB5⟩; have HB5 := Lib.hid (below_th HBr.out hB5); clear hB5)
            go_roundw
            case rel => exact ⟨k + 1, hk1.out, by go_num, by rw [HSN.out], HB5.out⟩
            case measure => have := hk1.out; simp [intOf]; omega
          · have hlti : ¬ (k : Int) < (NC : Int) := by omega
            obtain rfl : k = NC := by omega
            have HFULL : Hid (r.cps.take k = r.cps) := List.take_of_length_le (by rw [KC.out]; exact Nat.le_refl _)
            rw [HFULL.out]
            have hrz : (headB r ++ numsB r.dats ++ numsB r.cps).size = 14 + 4 * r.dats.length + 4 * r.cps.length := rawB_size r
            obtain ⟨S, hS⟩ : ∃ S, headB r ++ numsB r.dats ++ numsB r.cps = S := ⟨_, rfl⟩
            rw [hS] at hrz
            have HEND : Hid (S ++ zeros (508 - S.size) = encS r) := by unfold Hid; rw [encS_yes HRP.out, ← hS]; rfl
            have hK1 := KD.out
            have hK2 := KC.out
            obtain ⟨K, hK⟩ : ∃ K, S.size = K := ⟨_, rfl⟩
            have hK302 : K ≤ 302 := by omega
            obtain ⟨m, hm⟩ : ∃ m, 508 - K = m := ⟨_, rfl⟩
            have ec : (508 : Int) - (K : Int) = (m : Int) := by omega
            have hmk : ∀ W : World, (Instr.makeSlice 57 (.int .i64 (m : Int)) (.int .i64 (m : Int))).run Try.prog W = .ok (.slice (some ⟨W.heap.size, 0, none⟩) m m) (W.alloc (.cells (madeCells #[.int .u8 0] m) 5)) := fun W => by
              exact run_make_row' (P := Try.prog) 57 5 (.int .u8 0) 1 Try.underlying57 infoByte rfl .i64 .i64 m (by omega) (by omega) W
            have hcv := conv_zeros _ _ _ (World.rowIs_made wr (.int .u8 0) m 5) m
            have hadd := fun W => run_string_add_sum (P := Try.prog) (w := W) S (zeros m) (by rw [zeros_size]; omega)
            rw [hK, hm] at HEND
            have HFIN : Hid (Below w.heap.size w (wr.alloc (.cells (madeCells #[.int .u8 0] m) 5))) := below_al (HBW.out.trans (HBr.out.mono HBW.out.size)) _ (HBW.out.trans (HBr.out.mono HBW.out.size)).size
            rw [hS]
            clear hS hrz hm hK1 hK2
            go_wp2
            go_ret2
            exact ⟨by rw [← HEND.out, HE0.out]; rfl, HFIN.out⟩
  · have HR := Lib.hid (HR.out W1 (Below.refl _ _))
    rw [show rightB r = false from decide_eq_false hr] at HR
    rw [encS_no hr, encE_no hr]
    clear hr
    go_enter Try.func10, Try.ntmps10
    go_wp2_with (go_at_call 14; (with_reducible refine Calls.mono HR.out ?_); rintro e w2 ⟨rfl, hB2⟩)
    go_ret2
    exact ⟨rfl, HBW.out.trans (hB2.mono HBW.out.size)⟩
end
end Go.Proofs.Ytdniakoedgohkaa.Root.R
