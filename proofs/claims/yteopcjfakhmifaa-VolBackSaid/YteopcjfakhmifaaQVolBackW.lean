/- VolBack, walked, given what the program answers. -/
import Derived.Deep.Cut
import Derived.Deep.DeepCutAuto
import Derived.Test.YteopcjfakhmifaaPk26
import Derived.Test.YteopcjfakhmifaaPk01
namespace Go.Proofs.Yteopcjfakhmifaa.Vol
open Go.RowKit
attribute [local go_sem] Oper.semAt_some
set_option linter.unusedVariables false
set_option linter.unusedSimpArgs false
theorem cv_drew (n : Nat) (W : World) : (convert 57 9 (.slice (some ⟨W.heap.size, 0, none⟩) n n)).run Try.prog (W.alloc (.cells (madeCells #[.int .u8 0] n) 5)).drew = .ok (.string (zeros n)) (W.alloc (.cells (madeCells #[.int .u8 0] n) 5)).drew :=
  conv_zeros _ _ _ (show (W.alloc _).drew.rowIs W.heap.size 5 n (fun _ => .int .u8 0) from World.rowIs_made W (.int .u8 0) n 5) n
section
set_option maxRecDepth 100000
set_option maxHeartbeats 4000000
theorem VolBack_given (G : Given) (was is : ByteArray) (w : World) (z0 : was.size ≤ 140737488351232) (z1 : is.size ≤ 140737488351232) :
    Calls Try.prog 6 #[.string was, .string is] w fun e w' => e = .returned (.bool true) ∧ Below w.heap.size w w' := by
  have HSH := Lib.hid (fun W => shown_any G W)
  have HC0 := Lib.hid (fun W => cutl_any was W (Nat.le_trans z0 (by decide)))
  have HC1 := Lib.hid (fun W => cutl_any is W (Nat.le_trans z1 (by decide)))
  obtain ⟨x, hx⟩ : ∃ x, hd was = x := ⟨_, rfl⟩
  obtain ⟨y, hy⟩ : ∃ y, hd is = y := ⟨_, rfl⟩
  have hxs : x.size ≤ 10000 := by have := hd_size was; rw [hx] at this; exact this
  have hys : y.size ≤ 10000 := by have := hd_size is; rw [hy] at this; exact this
  rw [hx] at HC0
  rw [hy] at HC1
  obtain ⟨NX, hNX⟩ : ∃ n, nb x.size = n := ⟨_, rfl⟩
  obtain ⟨NY, hNY⟩ : ∃ n, nb y.size = n := ⟨_, rfl⟩
  have hNX9 : NX ≤ 20 := by rw [← hNX]; unfold nb; omega
  have hNY9 : NY ≤ 20 := by rw [← hNY]; unfold nb; omega
  have HLX : Hid ((cuts x).length = NX) := (cuts_len x).trans hNX
  have HLY : Hid ((cuts y).length = NY) := (cuts_len y).trans hNY
  have HX := Lib.hid (fun W => G.cut x W (by omega))
  have HY := Lib.hid (fun W => G.cut y W (by omega))
  have HCH := Lib.hid (fun W => G.changed x y W (by omega) (by omega))
  have HCS := Lib.hid (fun W => G.changed y y W (by omega) (by omega))
  have HP := Lib.hid (fun v W (h : Strs W v (cuts y)) => G.paste v (cuts y) y.size W h (by omega) (by rw [HLY.out]; omega) (fun i _ => by have := tx_cuts_le y i; omega))
  obtain ⟨hpv, hpe⟩ := pasteV_cuts (s := y) (by omega)
  rw [hpv, hpe] at HP
  unfold CutPost at HX HY
  unfold ChgPost at HCH HCS
  rw [chg_same] at HCS
  obtain ⟨CH, hCH⟩ : ∃ l, chg x y = l := ⟨_, rfl⟩
  obtain ⟨MM, hM⟩ : ∃ n, CH.length = n := ⟨_, rfl⟩
  have hM9 : MM ≤ 20 := by rw [← hM, ← hCH]; unfold chg; have := chgK_le x y (nb y.size); omega
  have HML := Lib.hid hM
  -- what stands at the place where the first k are told
  have HNO : Hid (∀ k, k < NY → ¬ stays x y k → (chgK x y k).length < MM ∧ CH.getD (chgK x y k).length 0 = k ∧ (chgK x y (k + 1)).length = (chgK x y k).length + 1) := fun k hk hs => by
    have h1 := (chg_next (was := x) (is := y) (k := k) (by rw [hNY]; exact hk)).2 hs
    rw [hCH] at h1
    have h2 := (List.getElem?_eq_some_iff.1 h1).1
    refine ⟨by omega, by rw [List.getD_eq_getElem?_getD, h1]; rfl, by rw [chgK_no hs, List.length_append]; rfl⟩
  have HYE : Hid (∀ k, k < NY → stays x y k → ¬ ((chgK x y k).length < MM ∧ CH.getD (chgK x y k).length 0 = k) ∧ (chgK x y (k + 1)).length = (chgK x y k).length) := fun k hk hs => by
    refine ⟨fun h => ?_, by rw [chgK_yes hs]⟩
    have h1 := (chg_next (was := x) (is := y) (k := k) (by rw [hNY]; exact hk)).1
    rw [hCH] at h1
    refine h1 ?_ hs
    have h3 : (chgK x y k).length < CH.length := by omega
    have h2 := h.2
    rw [List.getD_eq_getElem?_getD, List.getElem?_eq_getElem h3] at h2
    rw [List.getElem?_eq_getElem h3]
    exact congrArg some h2
  have HST : Hid (∀ k, stays x y k → k < NX ∧ full (tx (cuts x) k) = full (ch y k)) := fun k hs => ⟨by rw [← hNX]; exact hs.1, by rw [tx_cuts hs.1]; exact hs.2⟩
  have HTY : Hid (∀ k, k < NY → tx (cuts y) k = ch y k) := fun k hk => tx_cuts (by rw [hNY]; exact hk)
  have HEND : Hid ((chgK x y NY).length = MM) := by unfold Hid; rw [← hM, ← hCH, ← hNY]; rfl
  have HAL : Hid (∀ k, k ≤ NY → (chgK x y k).length ≤ 20) := fun k hk => Nat.le_trans (chgK_le x y k) (by omega)
  have HSX := Lib.hid (tx_cuts_le x)
  have HSY := Lib.hid (tx_cuts_le y)
  rw [hCH] at HCH
  have hsq : (y.toList == y.toList) = true := by simp
  have hwy : IntKind.u32.wrap (y.size : Int) = (y.size : Int) := by rw [IntKind.wrap_u32]; omega
  clear hx hy hxs hys hNX hNY hpv hpe hCH hM z0 z1
  go_enter Try.func6, Try.ntmps6
  go_wp2_with (first
    | (go_at_call 10; (with_reducible refine Calls.mono (HSH.out _) ?_); rintro e w1 ⟨rfl, hB1⟩; have HB1 := Lib.hid hB1; clear hB1)
    | (go_at_call 11; (with_reducible refine Calls.mono (HC0.out _) ?_); rintro e w2 ⟨rfl, rfl⟩)
    | (go_at_call 11; (with_reducible refine Calls.mono (HC1.out _) ?_); rintro e w2 ⟨rfl, rfl⟩)
    | (go_at_call 15; (with_reducible refine Calls.mono (HY.out _) ?_); rintro e w3 ⟨v3, rfl, hV3, hb3⟩; have HV3 := Lib.hid hV3; have HB3 := Lib.hid (below_th HB1.out hb3); clear hV3 hb3)
    | (go_at_call 12; (with_reducible refine Calls.mono (HP.out _ _ HV3.out) ?_); rintro e w4 ⟨rfl, hb4⟩; have HV4 := Lib.hid (HV3.out.below hb4); have HB4 := Lib.hid (below_th HB3.out hb4); clear hb4)
    | (go_at_call 15; (with_reducible refine Calls.mono (HX.out _) ?_); rintro e w5 ⟨v5, rfl, hV5, hb5⟩; have HV5 := Lib.hid hV5; have HV45 := Lib.hid (HV4.out.below hb5); have HB5 := Lib.hid (below_th HB4.out hb5); clear hV5 hb5)
    | (go_at_call 18; (with_reducible refine Calls.mono (HCH.out _) ?_); rintro e w6 ⟨v6, rfl, hV6, hb6⟩; have HV6 := Lib.hid hV6; have HVA := Lib.hid (HV45.out.below hb6); have HVO := Lib.hid (HV5.out.below hb6); have HB6 := Lib.hid (below_th HB5.out hb6); clear hV6 hb6))
  obtain ⟨a3, cap3, rfl, y1, y2⟩ := HVA.out.parts
  obtain ⟨a5, cap5, rfl, y3, y4⟩ := HVO.out.parts
  obtain ⟨a6, cap6, rfl, y5, y6⟩ := HV6.out.parts
  rw [HLY.out] at HVA y1 ⊢
  rw [HLX.out] at HVO y3 ⊢
  rw [HML.out] at HV6 y5 ⊢
  go_loopw [11, 12] (fun at' i wr => ∃ k t : Nat, i = .int .i64 (k : Int) ∧ k ≤ NY ∧ at' = .int .i64 (t : Int) ∧ Hid (t = (chgK x y k).length) ∧ t ≤ 20 ∧ Hid (Below w6.heap.size w6 wr)) (fun _ i _ => NY - (intOf i).toNat)
  case atStart => exact ⟨0, 0, rfl, by omega, rfl, rfl, by omega, Below.refl _ _⟩
  case round =>
    obtain ⟨k, t, rfl, hk, rfl, HT, ht20, HBR⟩ := hrel
    by_cases hlt : k < NY
    · have hkI : (k : Int) < (NY : Int) := by omega
      by_cases hs : stays x y k
      · obtain ⟨hn1, hn2⟩ := HYE.out k hlt hs
        obtain ⟨hkx, hfull⟩ := HST.out k hs
        rw [← HTY.out k hlt] at hfull
        rw [← HT.out] at hn1 hn2
        have HT2 : Hid (t = (chgK x y (k + 1)).length) := hn2.symm
        have hkx1 : decide ((k : Int) ≥ (NX : Int)) = false := decide_eq_false (by omega)
        have hkx2 : ¬ (NX : Int) ≤ (k : Int) := by omega
        have hkx3 : (k : Int) < (NX : Int) := by omega
        obtain ⟨b5, o5, e5, r5⟩ := (HVO.out.below HBR.out).at HLX.out hkx
        obtain ⟨b3, o3, e3, r3⟩ := (HVA.out.below HBR.out).at HLY.out hlt
        cases e5
        cases e3
        have hsx := HSX.out k
        have hsy := HSY.out k
        obtain ⟨X0, hX0⟩ : ∃ z, tx (cuts x) k = z := ⟨_, rfl⟩
        obtain ⟨Y0, hY0⟩ : ∃ z, tx (cuts y) k = z := ⟨_, rfl⟩
        have c5 := r5 X0 hX0.symm
        have c3 := r3 Y0 hY0.symm
        rw [hX0] at hfull hsx
        rw [hY0] at hfull hsy
        obtain ⟨Z, hZ⟩ : ∃ z, full X0 = z := ⟨_, rfl⟩
        rw [hZ] at hfull
        obtain ⟨mx, hmx⟩ : ∃ m, 508 - X0.size = m := ⟨_, rfl⟩
        obtain ⟨my, hmy⟩ : ∃ m, 508 - Y0.size = m := ⟨_, rfl⟩
        have hmin1 : min (508 : Int) (X0.size : Int) = (X0.size : Int) := by omega
        have hmin2 : min (508 : Int) (Y0.size : Int) = (Y0.size : Int) := by omega
        have HB5' : Hid (∀ W, Below wr.heap.size wr W → W.cell? ⟨b5, o5 + k, none⟩ = some (.string X0) ∧ W.cell? ⟨b3, o3 + k, none⟩ = some (.string Y0)) := fun W h => ⟨((HVO.out.below HBR.out).below h).get HLX.out hkx hX0.symm, ((HVA.out.below HBR.out).below h).get HLY.out hlt hY0.symm⟩
        obtain ⟨O1, hO1⟩ : ∃ O, Obj.cells (madeCells #[Value.int .u8 0] mx) 5 = O := ⟨_, rfl⟩
        obtain ⟨O2, hO2⟩ : ∃ O, Obj.cells (madeCells #[Value.int .u8 0] my) 5 = O := ⟨_, rfl⟩
        have hmk1 : ∀ W : World, (Instr.makeSlice 57 (.int .i64 (508 - (X0.size : Int))) (.int .i64 (508 - (X0.size : Int)))).run Try.prog W = .ok (.slice (some ⟨W.heap.size, 0, none⟩) mx mx) (W.alloc O1) := fun W => by
          rw [show (508 : Int) - (X0.size : Int) = ((mx : Nat) : Int) by omega, ← hO1]
          exact mk_bytes mx (by omega) W
        have hmk2 : ∀ W : World, (Instr.makeSlice 57 (.int .i64 (508 - (Y0.size : Int))) (.int .i64 (508 - (Y0.size : Int)))).run Try.prog W = .ok (.slice (some ⟨W.heap.size, 0, none⟩) my my) (W.alloc O2) := fun W => by
          rw [show (508 : Int) - (Y0.size : Int) = ((my : Nat) : Int) by omega, ← hO2]
          exact mk_bytes my (by omega) W
        have HCV1 : Hid (∀ W : World, (convert 57 9 (.slice (some ⟨W.heap.size, 0, none⟩) mx mx)).run Try.prog (W.alloc O1).drew = .ok (.string (zeros mx)) (W.alloc O1).drew) := fun W => by rw [← hO1]; exact cv_drew mx W
        have HCV2 : Hid (∀ W : World, (convert 57 9 (.slice (some ⟨W.heap.size, 0, none⟩) my my)).run Try.prog (W.alloc O2).drew = .ok (.string (zeros my)) (W.alloc O2).drew) := fun W => by rw [← hO2]; exact cv_drew my W
        have he1 : X0 ++ zeros mx = Z := by rw [← hZ, ← hmx]; rfl
        have he2 : Y0 ++ zeros my = Z := by rw [hfull, ← hmy]; rfl
        have hadd1 := fun W => run_string_add_sum (P := Try.prog) (w := W) X0 (zeros mx) (by rw [zeros_size]; omega)
        have hadd2 := fun W => run_string_add_sum (P := Try.prog) (w := W) Y0 (zeros my) (by rw [zeros_size]; omega)
        rw [he1] at hadd1
        rw [he2] at hadd2
        have hzq : (Z.toList == Z.toList) = true := by simp
        clear hs hn2 hX0 hY0 hfull hZ hmx hmy r5 r3 hO1 hO2 he1 he2
        by_cases htm : t < MM
        · have htI : (t : Int) < (MM : Int) := by omega
          obtain ⟨b6, o6, e6, r6⟩ := (HV6.out.below HBR.out).at HML.out htm
          cases e6
          obtain ⟨cc, hcc⟩ : ∃ z, CH.getD t 0 = z := ⟨_, rfl⟩
          have c6 := r6 cc hcc.symm
          have hne : ((cc : Int) == (k : Int)) = false := beq_eq_false_iff_ne.2 (fun h => hn1 ⟨htm, by rw [hcc]; omega⟩)
          have hne2 : ¬ (cc : Int) = (k : Int) := fun h => hn1 ⟨htm, by rw [hcc]; omega⟩
          clear hn1 hcc r6
          have hd0 : wr.drew.cell? ⟨b5, o5 + k, none⟩ = some (.string X0) := c5
          have hd1 := (HB5'.out (wr.alloc O1) (below_new wr O1)).1
          have hd2 := (HB5'.out (wr.alloc O1).drew (below_drew (below_new wr O1))).1
          have hcv1 := HCV1.out wr
          have HW2 : Hid (Below wr.heap.size wr (wr.alloc O1).drew) := below_drew (below_new wr O1)
          go_upto_region 16 with fail
          go_region
          obtain ⟨W2, hW2⟩ : ∃ W2, (wr.alloc O1).drew = W2 := ⟨_, rfl⟩
          rw [hW2] at HW2 ⊢
          clear hd0 hd1 hd2 hcv1 hW2 c5 c3
          have hd3 := (HB5'.out W2 HW2.out).2
          have hd4 : W2.drew.cell? ⟨b3, o3 + k, none⟩ = some (.string Y0) := hd3
          have hd5 := (HB5'.out (W2.alloc O2) (below_th HW2.out (below_new W2 O2))).2
          have hd6 := (HB5'.out (W2.alloc O2).drew (below_th HW2.out (below_drew (below_new W2 O2)))).2
          have hcv2 := HCV2.out W2
          have HW3 : Hid (Below wr.heap.size wr (W2.alloc O2).drew) := below_th HW2.out (below_drew (below_new W2 O2))
          go_upto_region 17 with fail
          go_region
          go_wp2
          go_roundw
          case rel => exact ⟨k + 1, t, by go_num, hlt, rfl, HT2.out, ht20, below_th HBR.out HW3.out⟩
          case measure => simp [intOf]; omega
        · have htI : ¬ (t : Int) < (MM : Int) := by omega
          clear hn1
          have hd0 : wr.drew.cell? ⟨b5, o5 + k, none⟩ = some (.string X0) := c5
          have hd1 := (HB5'.out (wr.alloc O1) (below_new wr O1)).1
          have hd2 := (HB5'.out (wr.alloc O1).drew (below_drew (below_new wr O1))).1
          have hcv1 := HCV1.out wr
          have HW2 : Hid (Below wr.heap.size wr (wr.alloc O1).drew) := below_drew (below_new wr O1)
          go_upto_region 16 with fail
          go_region
          obtain ⟨W2, hW2⟩ : ∃ W2, (wr.alloc O1).drew = W2 := ⟨_, rfl⟩
          rw [hW2] at HW2 ⊢
          clear hd0 hd1 hd2 hcv1 hW2 c5 c3
          have hd3 := (HB5'.out W2 HW2.out).2
          have hd4 : W2.drew.cell? ⟨b3, o3 + k, none⟩ = some (.string Y0) := hd3
          have hd5 := (HB5'.out (W2.alloc O2) (below_th HW2.out (below_new W2 O2))).2
          have hd6 := (HB5'.out (W2.alloc O2).drew (below_th HW2.out (below_drew (below_new W2 O2)))).2
          have hcv2 := HCV2.out W2
          have HW3 : Hid (Below wr.heap.size wr (W2.alloc O2).drew) := below_th HW2.out (below_drew (below_new W2 O2))
          go_upto_region 17 with fail
          go_region
          go_wp2
          go_roundw
          case rel => exact ⟨k + 1, t, by go_num, hlt, rfl, HT2.out, ht20, below_th HBR.out HW3.out⟩
          case measure => simp [intOf]; omega
      · obtain ⟨htm, hcc, hn2⟩ := HNO.out k hlt hs
        rw [← HT.out] at htm hcc hn2
        have htI : (t : Int) < (MM : Int) := by omega
        obtain ⟨b6, o6, e6, r6⟩ := (HV6.out.below HBR.out).at HML.out htm
        cases e6
        have c6 := r6 k hcc.symm
        have HT2 : Hid (t + 1 = (chgK x y (k + 1)).length) := hn2.symm
        have ht21 : t + 1 ≤ 20 := by have := HAL.out (k + 1) hlt; have := HT2.out; omega
        have hqk : ((k : Int) == (k : Int)) = true := by simp
        clear hcc hn2 r6 hs
        go_wp2
        go_roundw
        case rel => exact ⟨k + 1, t + 1, by go_num, hlt, by go_num, HT2.out, ht21, HBR.out⟩
        case measure => simp [intOf]; omega
    · obtain rfl : k = NY := by omega
      have htM : t = MM := HT.out.trans HEND.out
      subst htM
      have HBP := Lib.hid (below_th HB6.out HBR.out)
      go_wp2_with (first
        | (go_at_call 18; (with_reducible refine Calls.mono (HCS.out _) ?_); rintro e w9 ⟨v9, rfl, hV9, hb9⟩; obtain ⟨a9, cap9, rfl, y7, y8⟩ := hV9.parts; have HB9 := Lib.hid (below_th HBP.out hb9); clear hV9 hb9))
      go_ret
      exact ⟨rfl, HB9.out⟩
end
end Go.Proofs.Yteopcjfakhmifaa.Vol
