/- PlainSizes, walked (made by wip/tools/plainsizes.py; its last region by wip/tools/heldtree.py and tree.py). -/
import Derived.Test.YtkipkcmcolomcaaGreatPk36
import Derived.Test.YtkipkcmcolomcaaGreatPk35
import Derived.Test.YtkipkcmcolomcaaGreatPk08
import Derived.Test.YtkipkcmcolomcaaGreatPk02
import Derived.Test.YtkipkcmcolomcaaGreatPk03
namespace Go.Proofs.YtkipkcmcolomcaaGreat.Pln
open Go.RowKit
attribute [local go_sem] Oper.semAt_some
set_option linter.unusedVariables false
set_option linter.unusedSimpArgs false
section
set_option maxRecDepth 100000
set_option maxHeartbeats 8000000
theorem sizes_nat (v : Value) (l : List Nd) (path : ByteArray) (size : Int) (now : Nat) (w : World) (hL : Nodes w v l) (hk : ∀ n ∈ l, n.Ok ∧ n.data.size ≤ 281474976710656) (wz : path.size ≤ 140737488351232) (ws : -9223372036854775808 ≤ size ∧ size ≤ 9223372036854775807) (wn : now < 18446744073709551616) :
    Calls Tryz.prog 9 #[v, .string path, .int .i64 size, .int .u64 now] w (Ans w (.bool true)) := by
  have HL := Lib.hid hL
  have hF := fun W (h : Nodes W v l) => few_any v l W h
  by_cases hf : fewP l
  · rw [decide_eq_true hf] at hF
    have HF := Lib.hid hF
    have hA : AbleS l := ableS_few hk hf
    have HR1 := Lib.hid (fun u W (h : Nodes W u l) => do_anyS u l (rdC path 0 200000) now W h hA (by have hz0 : none0.size = 0 := rfl; unfold Cl.OkS Cl.Ok rdC; dsimp only; omega) (by show (0 : Nat) ≤ _; omega) wn)
    have HT1 := Lib.hid (fun u W (h : Nodes W u l) => do_anyS u l (cutC path size) now W h hA (by have hz0 : none0.size = 0 := rfl; unfold Cl.OkS Cl.Ok cutC; dsimp only; omega) (by show (0 : Nat) ≤ _; omega) wn)
    have HI := Lib.hid (fun u W (h : Nodes W u (doV l (cutC path size) now)) => do_anyS u (doV l (cutC path size) now) (rdC path 0 200000) now W h (ableS_do hA _ _) (by have hz0 : none0.size = 0 := rfl; unfold Cl.OkS Cl.Ok rdC; dsimp only; omega) (by show (0 : Nat) ≤ _; omega) wn)
    have hcut := fun h => cut_law (l := l) (path := path) (n := size) (now := now) h
    have herr := fun h => do_err (l := l) (c := cutC path size) (now := now) h
    rw [do_asksV (c := rdC path 0 200000) (.inl rfl)] at HR1 HI
    generalize doR l (rdC path 0 200000) now = r1 at HR1 hcut
    generalize doR l (cutC path size) now = r2 at HT1 hcut herr
    generalize hm : doV l (cutC path size) now = m at HT1 HI hcut herr
    generalize doR m (rdC path 0 200000) now = r3 at HI hcut
    unfold Cl.val rdC at HR1 HI
    unfold Cl.val cutC at HT1
    unfold none0 at HR1 HI HT1
    dsimp only at HR1 HI HT1
    clear hF hf hA hL hk hm
    by_cases hc : r2.code = 0
    · obtain ⟨g1, g2, s, rfl, h3⟩ := hcut hc
      obtain ⟨n, rfl⟩ : ∃ n : Nat, size = (n : Int) := ⟨size.toNat, by omega⟩
      rw [show ((n : Int).toNat) = n from rfl] at h3
      subst h3
      have q2 : (r2.code != 0) = false := by simp [hc]
      have z1 := cut_size s n
      have z2 := cut_ahead s n
      have z3 := cut_behind s n
      generalize (stood s n ⟨#[]⟩).extract 0 n = t at z1 z2 z3 HI
      clear herr hcut hc
      obtain ⟨k, hk⟩ : ∃ k, min s.size n = k := ⟨_, rfl⟩
      rw [hk] at z2 z3
      have hkl : k ≤ n := by omega
      have hks : k ≤ s.size := by omega
      have hmn : min (s.size : Int) (n : Int) = (k : Int) := by omega
      have hsz : ((t.size : Int) == (n : Int)) = true := by rw [z1]; simp
      have htk : k ≤ t.size := by omega
      have Z2 := Lib.hid z2
      have Z3 := Lib.hid z3
      have ZS := Lib.hid z1
      clear hk
      go_enter Tryz.func9, Tryz.ntmps9
      go_wp2_with (first
        | (go_at_call 11; (with_reducible refine Calls.mono (shown_any _) ?_); rintro e w1 ⟨rfl, hB1⟩; have HL1 := Lib.hid (HL.out.below hB1); have HB1 := Lib.hid hB1; clear hB1)
        | (go_at_call 20; (with_reducible refine Calls.mono (HF.out _ HL1.out) ?_); rintro e w2 ⟨rfl, hB2⟩; have HL2 := Lib.hid (HL1.out.below hB2); have HB2 := Lib.hid (below_th HB1.out hB2); clear hB2)
        | (go_at_call 14; (with_reducible refine Calls.mono (HR1.out _ _ HL2.out) ?_); intro e w3 hp; obtain ⟨v1, a1, n1, rfl, hL, hu, hB⟩ := hp.open; have HL2 := Lib.hid (HL2.out.below hB); have HB2 := Lib.hid (below_th HB2.out hB); clear hp hL hB hu HR1)
        | (go_at_call 14; (with_reducible refine Calls.mono (HT1.out _ _ (HL2.out.below (below_new _ _))) ?_); intro e w4 hp; obtain ⟨v2, a2, n2, rfl, hL, hu, hB⟩ := hp.open; have HL2 := Lib.hid ((HL2.out.below (below_new w3 (rpBox (⟨0, s, [], St.zero⟩ : Rp) (.slice a1 0 n1)))).below hB); have HQ1 := Lib.hid ((RpAt.new w3 (⟨0, s, [], St.zero⟩ : Rp) (.slice a1 0 n1)).th hB); have HB2 := Lib.hid (below_th (below_th HB2.out (below_new w3 (rpBox (⟨0, s, [], St.zero⟩ : Rp) (.slice a1 0 n1)))) hB); have HM := Lib.hid hL; clear hp hL hB hu HT1)
        | (go_at_call 14; (with_reducible refine Calls.mono (HI.out _ _ (HM.out.below (below_new _ _))) ?_); intro e w5 hp; obtain ⟨v3, a3, n3, rfl, hL, hu, hB⟩ := hp.open; have HL2 := Lib.hid ((HL2.out.below (below_new w4 (rpBox r2 (.slice a2 r2.names.length n2)))).below hB); have HM := Lib.hid ((HM.out.below (below_new w4 (rpBox r2 (.slice a2 r2.names.length n2)))).below hB); have HQ1 := Lib.hid ((HQ1.out.th (below_new w4 (rpBox r2 (.slice a2 r2.names.length n2)))).th hB); have HQ2 := Lib.hid ((RpAt.new w4 r2 (.slice a2 r2.names.length n2)).th hB); have HB2 := Lib.hid (below_th (below_th HB2.out (below_new w4 (rpBox r2 (.slice a2 r2.names.length n2)))) hB); have HL2 := Lib.hid (HL2.out.below (below_new w5 (rpBox (⟨0, t, [], St.zero⟩ : Rp) (.slice a3 0 n3)))); have HM := Lib.hid (HM.out.below (below_new w5 (rpBox (⟨0, t, [], St.zero⟩ : Rp) (.slice a3 0 n3)))); have HQ1 := Lib.hid (HQ1.out.th (below_new w5 (rpBox (⟨0, t, [], St.zero⟩ : Rp) (.slice a3 0 n3)))); have HQ2 := Lib.hid (HQ2.out.th (below_new w5 (rpBox (⟨0, t, [], St.zero⟩ : Rp) (.slice a3 0 n3)))); have HQ3 := Lib.hid (RpAt.new w5 (⟨0, t, [], St.zero⟩ : Rp) (.slice a3 0 n3)); have HB2 := Lib.hid (below_th HB2.out (below_new w5 (rpBox (⟨0, t, [], St.zero⟩ : Rp) (.slice a3 0 n3)))); unfold rpBox at HL2 HM HQ1 HQ2 HQ3; have k10 := HQ1.out.c.1; have k11 := HQ1.out.c.2.1; have k20 := HQ2.out.c.1; have k21 := HQ2.out.c.2.1; have k30 := HQ3.out.c.1; have k31 := HQ3.out.c.2.1; clear hp hL hB hu HI))
      unfold rpBox at HB2
      generalize w5.alloc (Obj.cells #[.int .i64 0, .string t, .slice a3 0 n3, .int .i64 St.zero.kind, .int .u16 St.zero.mode, .int .u16 St.zero.links, .int .i64 St.zero.size, .int .u64 St.zero.time] 36) = W5 at *
      have HK : Hid (∀ W', Below W5.heap.size W5 W' → W'.cell? ⟨w3.heap.size, 1, none⟩ = some (.string s) ∧ W'.cell? ⟨w5.heap.size, 0, none⟩ = some (.int .i64 0) ∧ W'.cell? ⟨w5.heap.size, 1, none⟩ = some (.string t)) := fun W' h => ⟨(HQ1.out.th h).c.2.1, (HQ3.out.th h).c.1, (HQ3.out.th h).c.2.1⟩
      have hself : Below W5.heap.size W5 W5 := Below.refl _ _
      have hself2 : Below W5.heap.size W5 W5.drew := hself.drew
      obtain ⟨r, hr⟩ : ∃ r, n - k = r := ⟨_, rfl⟩
      have hwr : IntKind.i64.wrap ((n : Int) - (k : Int)) = (r : Int) := by rw [IntKind.wrap_i64] <;> omega
      have hmk : ∀ W : World, (Instr.makeSlice 44 (.int .i64 (r : Int)) (.int .i64 (r : Int))).run Tryz.prog W = .ok (.slice (some ⟨W.heap.size, 0, none⟩) r r) (W.alloc (.cells (madeCells #[.int .u8 0] r) 5)) := fun W =>
        run_make_row' (P := Tryz.prog) 44 5 (.int .u8 0) 1 Tryz.underlying44 infoByte rfl .i64 .i64 r (by omega) (by omega) W
      have hcv := fun W : World => conv_zeros _ _ _ (World.rowIs_made W (.int .u8 0) r 5) r
      have hcvd := fun W : World => conv_zeros (W.alloc (.cells (madeCells #[.int .u8 0] r) 5)).drew _ _ (World.rowIs_made W (.int .u8 0) r 5) r
      clear k10 k20 k21
      refine wp_region_noPanic ?_
      refine wp_region_held_drew (S := (fun w' => w'.cell? ⟨w3.heap.size, 1, none⟩ = some (.string s) ∧ w'.cell? ⟨w5.heap.size, 0, none⟩ = some (.int .i64 0) ∧ w'.cell? ⟨w5.heap.size, 1, none⟩ = some (.string t))) (by kernel_rfl) (HK.out _ hself2) (fun hHeld => ?_)
      refine takeAt (i := 0) 61 (oi := ?oi0_1) (v := ?v0_1) ?lit0_1 ?dst0_1 (by kernel_rfl) (by kernel_rfl) (by kernel_rfl) (fun _ _ _ h => h) (Or.inl ⟨?want0_1, ?yields0_1⟩) (by assumption) ?rest0_1
      case lit0_1 => rfl
      case dst0_1 => rfl
      case want0_1 => rfl
      case yields0_1 => (intro w hSw; (try dsimp only at hSw); go_simp; try (with_reducible rfl))
      simp only [Act.put, List.setIfInBounds_toArray, List.set_cons_zero, List.set_cons_succ]
      refine takeAt (i := 1) 62 (oi := ?oi1_2) (v := ?v1_2) ?lit1_2 ?dst1_2 (by kernel_rfl) (by kernel_rfl) (by kernel_rfl) (fun _ _ _ h => h) (Or.inl ⟨?want1_2, ?yields1_2⟩) (by assumption) ?rest1_2
      case lit1_2 => rfl
      case dst1_2 => rfl
      case want1_2 => rfl
      case yields1_2 => (intro w hSw; (try dsimp only at hSw); go_simp; try (with_reducible rfl))
      simp only [Act.put, List.setIfInBounds_toArray, List.set_cons_zero, List.set_cons_succ]
      refine takeAt (i := 2) 63 (oi := ?oi2_3) (v := ?v2_3) ?lit2_3 ?dst2_3 (by kernel_rfl) (by kernel_rfl) (by kernel_rfl) (fun _ _ _ h => h) (Or.inl ⟨?want2_3, ?yields2_3⟩) (by assumption) ?rest2_3
      case lit2_3 => rfl
      case dst2_3 => rfl
      case want2_3 => rfl
      case yields2_3 => (intro w hSw; (try dsimp only at hSw); go_simp; try (with_reducible rfl))
      simp only [Act.put, List.setIfInBounds_toArray, List.set_cons_zero, List.set_cons_succ]
      refine takeAt (i := 3) 64 (oi := ?oi3_4) (v := ?v3_4) ?lit3_4 ?dst3_4 (by kernel_rfl) (by kernel_rfl) (by kernel_rfl) (fun _ _ _ h => h) (Or.inl ⟨?want3_4, ?yields3_4⟩) (by assumption) ?rest3_4
      case lit3_4 => rfl
      case dst3_4 => rfl
      case want3_4 => rfl
      case yields3_4 => (intro w hSw; (try dsimp only at hSw); go_simp; try (with_reducible rfl))
      simp only [Act.put, List.setIfInBounds_toArray, List.set_cons_zero, List.set_cons_succ]
      refine takeAt (i := 4) 65 (oi := ?oi4_5) (v := ?v4_5) ?lit4_5 ?dst4_5 (by kernel_rfl) (by kernel_rfl) (by kernel_rfl) (fun _ _ _ h => h) (Or.inl ⟨?want4_5, ?yields4_5⟩) (by assumption) ?rest4_5
      case lit4_5 => rfl
      case dst4_5 => rfl
      case want4_5 => rfl
      case yields4_5 => (intro w hSw; (try dsimp only at hSw); go_simp; try (with_reducible rfl))
      simp only [Act.put, List.setIfInBounds_toArray, List.set_cons_zero, List.set_cons_succ]
      refine takeAt (i := 5) 66 (oi := ?oi5_6) (v := ?v5_6) ?lit5_6 ?dst5_6 (by kernel_rfl) (by kernel_rfl) (by kernel_rfl) (fun _ _ _ h => h) (Or.inl ⟨?want5_6, ?yields5_6⟩) (by assumption) ?rest5_6
      case lit5_6 => rfl
      case dst5_6 => rfl
      case want5_6 => rfl
      case yields5_6 => (intro w hSw; (try dsimp only at hSw); go_simp; try (with_reducible rfl))
      simp only [Act.put, List.setIfInBounds_toArray, List.set_cons_zero, List.set_cons_succ]
      refine takeAt (i := 6) 67 (oi := ?oi6_7) (v := ?v6_7) ?lit6_7 ?dst6_7 (by kernel_rfl) (by kernel_rfl) (by kernel_rfl) (fun _ _ _ h => h) (Or.inl ⟨?want6_7, ?yields6_7⟩) (by assumption) ?rest6_7
      case lit6_7 => rfl
      case dst6_7 => rfl
      case want6_7 => rfl
      case yields6_7 => (intro w hSw; (try dsimp only at hSw); go_simp; try (with_reducible rfl))
      simp only [Act.put, List.setIfInBounds_toArray, List.set_cons_zero, List.set_cons_succ]
      refine takeAt (i := 7) 68 (oi := ?oi7_8) (v := ?v7_8) ?lit7_8 ?dst7_8 (by kernel_rfl) (by kernel_rfl) (by kernel_rfl) (fun _ _ _ h => h) (Or.inl ⟨?want7_8, ?yields7_8⟩) (by assumption) ?rest7_8
      case lit7_8 => rfl
      case dst7_8 => rfl
      case want7_8 => rfl
      case yields7_8 => (intro w hSw; (try dsimp only at hSw); go_simp; try (with_reducible rfl))
      simp only [Act.put, List.setIfInBounds_toArray, List.set_cons_zero, List.set_cons_succ]
      refine takeAt (i := 8) 69 (oi := ?oi8_9) (v := ?v8_9) ?lit8_9 ?dst8_9 (by kernel_rfl) (by kernel_rfl) (by kernel_rfl) (fun _ _ _ h => h) (Or.inl ⟨?want8_9, ?yields8_9⟩) (by assumption) ?rest8_9
      case lit8_9 => rfl
      case dst8_9 => rfl
      case want8_9 => rfl
      case yields8_9 => (intro w hSw; (try dsimp only at hSw); go_simp; try (with_reducible rfl))
      simp only [Act.put, List.setIfInBounds_toArray, List.set_cons_zero, List.set_cons_succ]
      refine takeAt (i := 9) 70 (oi := ?oi9_10) (v := ?v9_10) ?lit9_10 ?dst9_10 (by kernel_rfl) (by kernel_rfl) (by kernel_rfl) (fun _ _ _ h => h) (Or.inl ⟨?want9_10, ?yields9_10⟩) (by assumption) ?rest9_10
      case lit9_10 => rfl
      case dst9_10 => rfl
      case want9_10 => rfl
      case yields9_10 => (intro w hSw; (try dsimp only at hSw); go_simp; try (with_reducible rfl))
      simp only [Act.put, List.setIfInBounds_toArray, List.set_cons_zero, List.set_cons_succ]
      refine takeAt (i := 10) 71 (oi := ?oi10_11) (v := ?v10_11) ?lit10_11 ?dst10_11 (by kernel_rfl) (by kernel_rfl) (by kernel_rfl) (fun _ _ _ h => h) (Or.inl ⟨?want10_11, ?yields10_11⟩) (by assumption) ?rest10_11
      case lit10_11 => rfl
      case dst10_11 => rfl
      case want10_11 => rfl
      case yields10_11 => (intro w hSw; (try dsimp only at hSw); go_simp; try (with_reducible rfl))
      simp only [Act.put, List.setIfInBounds_toArray, List.set_cons_zero, List.set_cons_succ]
      refine takeAt (i := 11) 72 (oi := ?oi11_12) (v := ?v11_12) ?lit11_12 ?dst11_12 (by kernel_rfl) (by kernel_rfl) (by kernel_rfl) (fun _ _ _ h => h) (Or.inl ⟨?want11_12, ?yields11_12⟩) (by assumption) ?rest11_12
      case lit11_12 => rfl
      case dst11_12 => rfl
      case want11_12 => rfl
      case yields11_12 => (intro w hSw; (try dsimp only at hSw); go_simp; try (with_reducible rfl))
      simp only [Act.put, List.setIfInBounds_toArray, List.set_cons_zero, List.set_cons_succ]
      refine takeAt (i := 12) 73 (oi := ?oi12_13) (v := ?v12_13) ?lit12_13 ?dst12_13 (by kernel_rfl) (by kernel_rfl) (by kernel_rfl) (fun _ _ _ h => h) (Or.inl ⟨?want12_13, ?yields12_13⟩) (by assumption) ?rest12_13
      case lit12_13 => rfl
      case dst12_13 => rfl
      case want12_13 => rfl
      case yields12_13 => (intro w hSw; (try dsimp only at hSw); go_simp; try (with_reducible rfl))
      simp only [Act.put, List.setIfInBounds_toArray, List.set_cons_zero, List.set_cons_succ]
      refine takeAt (i := 13) 74 (oi := ?oi13_14) (v := ?v13_14) ?lit13_14 ?dst13_14 (by kernel_rfl) (by kernel_rfl) (by kernel_rfl) (fun _ _ _ h => h) (Or.inl ⟨?want13_14, ?yields13_14⟩) (by assumption) ?rest13_14
      case lit13_14 => rfl
      case dst13_14 => rfl
      case want13_14 => rfl
      case yields13_14 => (intro w hSw; (try dsimp only at hSw); go_simp; try (with_reducible rfl))
      simp only [Act.put, List.setIfInBounds_toArray, List.set_cons_zero, List.set_cons_succ]
      refine takeAt (i := 14) 75 (oi := ?oi14_15) (v := ?v14_15) ?lit14_15 ?dst14_15 (by kernel_rfl) (by kernel_rfl) (by kernel_rfl) (fun _ _ _ h => h) (Or.inl ⟨?want14_15, ?yields14_15⟩) (by assumption) ?rest14_15
      case lit14_15 => rfl
      case dst14_15 => rfl
      case want14_15 => rfl
      case yields14_15 => (intro w hSw; (try dsimp only at hSw); go_simp; try (with_reducible rfl))
      simp only [Act.put, List.setIfInBounds_toArray, List.set_cons_zero, List.set_cons_succ]
      refine takeAt (i := 15) 76 (oi := ?oi15_16) (v := ?v15_16) ?lit15_16 ?dst15_16 (by kernel_rfl) (by kernel_rfl) (by kernel_rfl) (fun _ _ _ h => h) (Or.inl ⟨?want15_16, ?yields15_16⟩) (by assumption) ?rest15_16
      case lit15_16 => rfl
      case dst15_16 => rfl
      case want15_16 => rfl
      case yields15_16 => (intro w hSw; (try dsimp only at hSw); go_simp; try (with_reducible rfl))
      simp only [Act.put, List.setIfInBounds_toArray, List.set_cons_zero, List.set_cons_succ]
      refine takeAt (i := 16) 77 (oi := ?oi16_17) (v := ?v16_17) ?lit16_17 ?dst16_17 (by kernel_rfl) (by kernel_rfl) (by kernel_rfl) (fun _ _ _ h => h) (Or.inl ⟨?want16_17, ?yields16_17⟩) (by assumption) ?rest16_17
      case lit16_17 => rfl
      case dst16_17 => rfl
      case want16_17 => rfl
      case yields16_17 => (intro w hSw; (try dsimp only at hSw); go_simp; try (with_reducible rfl))
      simp only [Act.put, List.setIfInBounds_toArray, List.set_cons_zero, List.set_cons_succ]
      refine takeAt (i := 17) 78 (oi := ?oi17_18) (v := ?v17_18) ?lit17_18 ?dst17_18 (by kernel_rfl) (by kernel_rfl) (by kernel_rfl) (fun _ _ _ h => h) (Or.inl ⟨?want17_18, ?yields17_18⟩) (by assumption) ?rest17_18
      case lit17_18 => rfl
      case dst17_18 => rfl
      case want17_18 => rfl
      case yields17_18 => (intro w hSw; (try dsimp only at hSw); go_simp; try (with_reducible rfl))
      simp only [Act.put, List.setIfInBounds_toArray, List.set_cons_zero, List.set_cons_succ]
      refine takeAt (i := 18) 79 (oi := ?oi18_19) (v := ?v18_19) ?lit18_19 ?dst18_19 (by kernel_rfl) (by kernel_rfl) (by kernel_rfl) (fun _ _ _ h => h) (Or.inl ⟨?want18_19, ?yields18_19⟩) (by assumption) ?rest18_19
      case lit18_19 => rfl
      case dst18_19 => rfl
      case want18_19 => rfl
      case yields18_19 => (intro w hSw; (try dsimp only at hSw); go_simp; try (with_reducible rfl))
      simp only [Act.put, List.setIfInBounds_toArray, List.set_cons_zero, List.set_cons_succ]
      refine takeAt (i := 19) 80 (oi := ?oi19_20) (v := ?v19_20) ?lit19_20 ?dst19_20 (by kernel_rfl) (by kernel_rfl) (by kernel_rfl) (fun _ _ _ h => h) (Or.inl ⟨?want19_20, ?yields19_20⟩) (by assumption) ?rest19_20
      case lit19_20 => rfl
      case dst19_20 => rfl
      case want19_20 => rfl
      case yields19_20 => (intro w hSw; (try dsimp only at hSw); go_simp; try (with_reducible rfl))
      simp only [Act.put, List.setIfInBounds_toArray, List.set_cons_zero, List.set_cons_succ]
      refine takeAt (i := 20) 81 (oi := ?oi20_21) (v := ?v20_21) ?lit20_21 ?dst20_21 (by kernel_rfl) (by kernel_rfl) (by kernel_rfl) (fun _ _ _ h => h) (Or.inl ⟨?want20_21, ?yields20_21⟩) (by assumption) ?rest20_21
      case lit20_21 => rfl
      case dst20_21 => rfl
      case want20_21 => rfl
      case yields20_21 => (intro w hSw; (try dsimp only at hSw); go_simp; try (with_reducible rfl))
      simp only [Act.put, List.setIfInBounds_toArray, List.set_cons_zero, List.set_cons_succ]
      refine takeAt (i := 21) 82 (oi := ?oi21_22) (v := ?v21_22) ?lit21_22 ?dst21_22 (by kernel_rfl) (by kernel_rfl) (by kernel_rfl) (fun _ _ _ h => h) (Or.inl ⟨?want21_22, ?yields21_22⟩) (by assumption) ?rest21_22
      case lit21_22 => rfl
      case dst21_22 => rfl
      case want21_22 => rfl
      case yields21_22 => (intro w hSw; (try dsimp only at hSw); go_simp; try (with_reducible rfl))
      simp only [Act.put, List.setIfInBounds_toArray, List.set_cons_zero, List.set_cons_succ]
      refine takeAt (i := 22) 83 (oi := ?oi22_23) (v := ?v22_23) ?lit22_23 ?dst22_23 (by kernel_rfl) (by kernel_rfl) (by kernel_rfl) (fun _ _ _ h => h) (Or.inl ⟨?want22_23, ?yields22_23⟩) (by assumption) ?rest22_23
      case lit22_23 => rfl
      case dst22_23 => rfl
      case want22_23 => rfl
      case yields22_23 => (intro w hSw; (try dsimp only at hSw); go_simp; try (with_reducible rfl))
      simp only [Act.put, List.setIfInBounds_toArray, List.set_cons_zero, List.set_cons_succ]
      refine takeAt (i := 23) 84 (oi := ?oi23_24) (v := ?v23_24) ?lit23_24 ?dst23_24 (by kernel_rfl) (by kernel_rfl) (by kernel_rfl) (fun _ _ _ h => h) (Or.inl ⟨?want23_24, ?yields23_24⟩) (by assumption) ?rest23_24
      case lit23_24 => rfl
      case dst23_24 => rfl
      case want23_24 => rfl
      case yields23_24 => (intro w hSw; (try dsimp only at hSw); go_simp; try (with_reducible rfl))
      simp only [Act.put, List.setIfInBounds_toArray, List.set_cons_zero, List.set_cons_succ]
      refine takeAt (i := 24) 85 (oi := ?oi24_25) (v := ?v24_25) ?lit24_25 ?dst24_25 (by kernel_rfl) (by kernel_rfl) (by kernel_rfl) (fun _ _ _ h => h) (Or.inl ⟨?want24_25, ?yields24_25⟩) (by assumption) ?rest24_25
      case lit24_25 => rfl
      case dst24_25 => rfl
      case want24_25 => rfl
      case yields24_25 => (intro w hSw; (try dsimp only at hSw); go_simp; try (with_reducible rfl))
      simp only [Act.put, List.setIfInBounds_toArray, List.set_cons_zero, List.set_cons_succ]
      refine takeAt (i := 25) 86 (oi := ?oi25_26) (v := ?v25_26) ?lit25_26 ?dst25_26 (by kernel_rfl) (by kernel_rfl) (by kernel_rfl) (fun _ _ _ h => h) (Or.inl ⟨?want25_26, ?yields25_26⟩) (by assumption) ?rest25_26
      case lit25_26 => rfl
      case dst25_26 => rfl
      case want25_26 => rfl
      case yields25_26 => (intro w hSw; (try dsimp only at hSw); go_simp; try (with_reducible rfl))
      simp only [Act.put, List.setIfInBounds_toArray, List.set_cons_zero, List.set_cons_succ]
      refine takeAt (i := 26) 87 (oi := ?oi26_27) (v := ?v26_27) ?lit26_27 ?dst26_27 (by kernel_rfl) (by kernel_rfl) (by kernel_rfl) (fun _ _ _ h => h) (Or.inl ⟨?want26_27, ?yields26_27⟩) (by assumption) ?rest26_27
      case lit26_27 => rfl
      case dst26_27 => rfl
      case want26_27 => rfl
      case yields26_27 => (intro w hSw; (try dsimp only at hSw); go_simp; try (with_reducible rfl))
      simp only [Act.put, List.setIfInBounds_toArray, List.set_cons_zero, List.set_cons_succ]
      refine takeAt (i := 27) 88 (oi := ?oi27_28) (v := ?v27_28) ?lit27_28 ?dst27_28 (by kernel_rfl) (by kernel_rfl) (by kernel_rfl) (fun _ _ _ h => h) (Or.inl ⟨?want27_28, ?yields27_28⟩) (by assumption) ?rest27_28
      case lit27_28 => rfl
      case dst27_28 => rfl
      case want27_28 => rfl
      case yields27_28 => (intro w hSw; (try dsimp only at hSw); go_simp; try (with_reducible rfl))
      simp only [Act.put, List.setIfInBounds_toArray, List.set_cons_zero, List.set_cons_succ]
      refine takeAt (i := 28) 89 (oi := ?oi28_29) (v := ?v28_29) ?lit28_29 ?dst28_29 (by kernel_rfl) (by kernel_rfl) (by kernel_rfl) (fun _ _ _ h => h) (Or.inl ⟨?want28_29, ?yields28_29⟩) (by assumption) ?rest28_29
      case lit28_29 => rfl
      case dst28_29 => rfl
      case want28_29 => rfl
      case yields28_29 => (intro w hSw; (try dsimp only at hSw); go_simp; try (with_reducible rfl))
      simp only [Act.put, List.setIfInBounds_toArray, List.set_cons_zero, List.set_cons_succ]
      refine takeAt (i := 29) 90 (oi := ?oi29_30) (v := ?v29_30) ?lit29_30 ?dst29_30 (by kernel_rfl) (by kernel_rfl) (by kernel_rfl) (fun _ _ _ h => h) (Or.inl ⟨?want29_30, ?yields29_30⟩) (by assumption) ?rest29_30
      case lit29_30 => rfl
      case dst29_30 => rfl
      case want29_30 => rfl
      case yields29_30 => (intro w hSw; (try dsimp only at hSw); go_simp; try (with_reducible rfl))
      simp only [Act.put, List.setIfInBounds_toArray, List.set_cons_zero, List.set_cons_succ]
      refine takeAt (i := 30) 91 (oi := ?oi30_31) (v := ?v30_31) ?lit30_31 ?dst30_31 (by kernel_rfl) (by kernel_rfl) (by kernel_rfl) (fun _ _ _ h => h) (Or.inl ⟨?want30_31, ?yields30_31⟩) (by assumption) ?rest30_31
      case lit30_31 => rfl
      case dst30_31 => rfl
      case want30_31 => rfl
      case yields30_31 => (intro w hSw; (try dsimp only at hSw); go_simp; try (with_reducible rfl))
      simp only [Act.put, List.setIfInBounds_toArray, List.set_cons_zero, List.set_cons_succ]
      refine takeAt (i := 31) 92 (oi := ?oi31_32) (v := ?v31_32) ?lit31_32 ?dst31_32 (by kernel_rfl) (by kernel_rfl) (by kernel_rfl) (fun _ _ _ h => h) (Or.inl ⟨?want31_32, ?yields31_32⟩) (by assumption) ?rest31_32
      case lit31_32 => rfl
      case dst31_32 => rfl
      case want31_32 => rfl
      case yields31_32 => (intro w hSw; (try dsimp only at hSw); go_simp; try (with_reducible rfl))
      simp only [Act.put, List.setIfInBounds_toArray, List.set_cons_zero, List.set_cons_succ]
      refine wpAnyH_ready (rs := [32]) (by kernel_rfl) (by simp) ?_
      refine AllReadyH.cons (o := ?oi32_33) ?lit32_33 (fun K hK => ?rest32_33) AllReadyH.nil
      case lit32_33 => rfl
      go_simp
      refine hK.out _ _ (HK.out _ (by first | assumption | exact below_al (by assumption) _ | exact (below_al (by assumption) _).drew)) (fun hHeld => ?_)
      clear hK K
      try simp only [Act.put, List.setIfInBounds_toArray, List.set_cons_zero, List.set_cons_succ]
      refine wpAnyH_ready (rs := [33]) (by kernel_rfl) (by simp) ?_
      refine AllReadyH.cons (o := ?oi33_34) ?lit33_34 (fun K hK => ?rest33_34) AllReadyH.nil
      case lit33_34 => rfl
      go_simp
      refine hK.out _ _ (HK.out _ (by first | assumption | exact below_al (by assumption) _ | exact (below_al (by assumption) _).drew)) (fun hHeld => ?_)
      clear hK K
      try simp only [Act.put, List.setIfInBounds_toArray, List.set_cons_zero, List.set_cons_succ]
      refine takeAt (i := 34) 95 (oi := ?oi34_35) (v := ?v34_35) ?lit34_35 ?dst34_35 (by kernel_rfl) (by kernel_rfl) (by kernel_rfl) (fun _ _ _ h => h) (Or.inl ⟨?want34_35, ?yields34_35⟩) (by assumption) ?rest34_35
      case lit34_35 => rfl
      case dst34_35 => rfl
      case want34_35 => rfl
      case yields34_35 => (intro w hSw; (try dsimp only at hSw); go_simp; try (with_reducible rfl))
      simp only [Act.put, List.setIfInBounds_toArray, List.set_cons_zero, List.set_cons_succ]
      refine takeAt (i := 35) 96 (oi := ?oi35_36) (v := ?v35_36) ?lit35_36 ?dst35_36 (by kernel_rfl) (by kernel_rfl) (by kernel_rfl) (fun _ _ _ h => h) (Or.inl ⟨?want35_36, ?yields35_36⟩) (by assumption) ?rest35_36
      case lit35_36 => rfl
      case dst35_36 => rfl
      case want35_36 => rfl
      case yields35_36 => (intro w hSw; (try dsimp only at hSw); go_simp; try (with_reducible rfl))
      simp only [Act.put, List.setIfInBounds_toArray, List.set_cons_zero, List.set_cons_succ]
      refine takeAt (i := 36) 8 (oi := ?oi36_37) (v := ?v36_37) ?lit36_37 ?dst36_37 (by kernel_rfl) (by kernel_rfl) (by kernel_rfl) (fun _ _ _ h => h) (Or.inl ⟨?want36_37, ?yields36_37⟩) (by assumption) ?rest36_37
      case lit36_37 => rfl
      case dst36_37 => rfl
      case want36_37 => rfl
      case yields36_37 => (intro w hSw; (try dsimp only at hSw); go_simp; try (with_reducible rfl))
      simp only [Act.put, List.setIfInBounds_toArray, List.set_cons_zero, List.set_cons_succ]
      refine wpAnyH_done (by kernel_rfl) ?_ _
      try refine NoPanic.normal ?_
      try go_simp
      have HBE := Lib.hid (below_th HB2.out (below_al hself (.cells (madeCells #[.int .u8 0] r) 5)).drew)
      go_wp2
      go_ret
      exact ⟨rfl, HBE.out⟩
    · have e := herr hc
      subst e
      have q2 : (r2.code != 0) = true := by simp [hc]
      clear herr hcut hc
      go_enter Tryz.func9, Tryz.ntmps9
      go_wp2_with (first
        | (go_at_call 11; (with_reducible refine Calls.mono (shown_any _) ?_); rintro e w1 ⟨rfl, hB1⟩; have HL1 := Lib.hid (HL.out.below hB1); have HB1 := Lib.hid hB1; clear hB1)
        | (go_at_call 20; (with_reducible refine Calls.mono (HF.out _ HL1.out) ?_); rintro e w2 ⟨rfl, hB2⟩; have HL2 := Lib.hid (HL1.out.below hB2); have HB2 := Lib.hid (below_th HB1.out hB2); clear hB2)
        | (go_at_call 14; (with_reducible refine Calls.mono (HR1.out _ _ HL2.out) ?_); intro e w3 hp; obtain ⟨v1, a1, n1, rfl, hL, hu, hB⟩ := hp.open; have HL2 := Lib.hid (HL2.out.below hB); have HB2 := Lib.hid (below_th HB2.out hB); clear hp hL hB hu HR1)
        | (go_at_call 14; (with_reducible refine Calls.mono (HT1.out _ _ (HL2.out.below (below_new _ _))) ?_); intro e w4 hp; obtain ⟨v2, a2, n2, rfl, hL, hu, hB⟩ := hp.open; have HL2 := Lib.hid ((HL2.out.below (below_new w3 (rpBox r1 (.slice a1 r1.names.length n1)))).below hB); have HQ1 := Lib.hid ((RpAt.new w3 r1 (.slice a1 r1.names.length n1)).th hB); have HB2 := Lib.hid (below_th (below_th HB2.out (below_new w3 (rpBox r1 (.slice a1 r1.names.length n1)))) hB); have HM := Lib.hid hL; clear hp hL hB hu HT1)
        | (go_at_call 14; (with_reducible refine Calls.mono (HI.out _ _ (HM.out.below (below_new _ _))) ?_); intro e w5 hp; obtain ⟨v3, a3, n3, rfl, hL, hu, hB⟩ := hp.open; have HL2 := Lib.hid ((HL2.out.below (below_new w4 (rpBox r2 (.slice a2 r2.names.length n2)))).below hB); have HM := Lib.hid ((HM.out.below (below_new w4 (rpBox r2 (.slice a2 r2.names.length n2)))).below hB); have HQ1 := Lib.hid ((HQ1.out.th (below_new w4 (rpBox r2 (.slice a2 r2.names.length n2)))).th hB); have HQ2 := Lib.hid ((RpAt.new w4 r2 (.slice a2 r2.names.length n2)).th hB); have HB2 := Lib.hid (below_th (below_th HB2.out (below_new w4 (rpBox r2 (.slice a2 r2.names.length n2)))) hB); have HL2 := Lib.hid (HL2.out.below (below_new w5 (rpBox r3 (.slice a3 r3.names.length n3)))); have HM := Lib.hid (HM.out.below (below_new w5 (rpBox r3 (.slice a3 r3.names.length n3)))); have HQ1 := Lib.hid (HQ1.out.th (below_new w5 (rpBox r3 (.slice a3 r3.names.length n3)))); have HQ2 := Lib.hid (HQ2.out.th (below_new w5 (rpBox r3 (.slice a3 r3.names.length n3)))); have HQ3 := Lib.hid (RpAt.new w5 r3 (.slice a3 r3.names.length n3)); have HB2 := Lib.hid (below_th HB2.out (below_new w5 (rpBox r3 (.slice a3 r3.names.length n3)))); unfold rpBox at HL2 HM HQ1 HQ2 HQ3; have k10 := HQ1.out.c.1; have k11 := HQ1.out.c.2.1; have k20 := HQ2.out.c.1; have k21 := HQ2.out.c.2.1; have k30 := HQ3.out.c.1; have k31 := HQ3.out.c.2.1; clear hp hL hB hu HI)
        | (go_at_call 17; (with_reducible refine Calls.mono (same_any _ _ m m _ HM.out HL2.out) ?_); rintro e w6 ⟨rfl, hB6⟩; rw [show decide (m = m) = true from decide_eq_true rfl]))
      go_ret
      exact ⟨rfl, below_th HB2.out hB6⟩
  · rw [decide_eq_false hf] at hF
    have HF := Lib.hid hF
    clear hF hf hL
    go_enter Tryz.func9, Tryz.ntmps9
    go_wp2_with (first
        | (go_at_call 11; (with_reducible refine Calls.mono (shown_any _) ?_); rintro e w1 ⟨rfl, hB1⟩; have HL1 := Lib.hid (HL.out.below hB1); have HB1 := Lib.hid hB1; clear hB1)
        | (go_at_call 20; (with_reducible refine Calls.mono (HF.out _ HL1.out) ?_); rintro e w2 ⟨rfl, hB2⟩; have HL2 := Lib.hid (HL1.out.below hB2); have HB2 := Lib.hid (below_th HB1.out hB2); clear hB2))
    go_ret
    exact ⟨rfl, HB2.out⟩
theorem PlainSizes_walk (v : Value) (l : List Nd) (path : ByteArray) (size now : Int) (w : World) (hL : Nodes w v l) (hk : ∀ n ∈ l, n.Ok ∧ n.data.size ≤ 281474976710656) (z : path.size ≤ 140737488351232) (ws : (Lit.int .i64 size).wf = true) (wn : (Lit.int .u64 now).wf = true) :
    Calls Tryz.prog 9 #[v, .string path, .int .i64 size, .int .u64 now] w (Ans w (.bool true)) := by
  have b1 := bounds64 ws
  have b2 := boundsU wn
  obtain ⟨k, rfl⟩ := Int.eq_ofNat_of_zero_le b2.1
  exact sizes_nat v l path size k w hL hk z b1 (by omega)
end
end Go.Proofs.YtkipkcmcolomcaaGreat.Pln
