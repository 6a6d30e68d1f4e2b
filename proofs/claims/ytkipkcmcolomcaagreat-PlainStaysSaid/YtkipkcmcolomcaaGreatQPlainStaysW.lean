/- PlainStays, walked. -/
import Derived.BigQuiet
import Derived.Lib.Strings
import Derived.Deep.RegionHeld3
import Derived.Deep.DeepCutAuto
import Derived.Test.YtkipkcmcolomcaaGreatPk36
namespace Go.Proofs.YtkipkcmcolomcaaGreat.Pln
open Go.RowKit
attribute [local go_sem] Oper.semAt_some
set_option linter.unusedVariables false
set_option linter.unusedSimpArgs false
section
set_option maxRecDepth 100000
set_option maxHeartbeats 8000000
theorem PlainStays_walk (v : Value) (L : List Cl) (u : Value) (T : List Int) (w : World) (hL : Cls w v L) (wL : ∀ c ∈ L, c.Ok ∧ c.path.size ≤ 281474976710656 ∧ c.to_.size ≤ 281474976710656 ∧ c.data.size ≤ 281474976710656) (hT : Nums w u T) (wT : ∀ n ∈ T, (Lit.int .u64 n).wf = true) :
    Calls Tryz.prog 4 #[v, u] w (Ans w (.bool true)) := by
  have HL := Lib.hid hL
  have HT := Lib.hid hT
  obtain ⟨a0, c0, rfl, hcap1, hcap2⟩ := hL.parts
  obtain ⟨a1, c1, rfl, hcap3, hcap4⟩ := hT.parts
  obtain ⟨NL, hNL⟩ : ∃ n, L.length = n := ⟨_, rfl⟩
  obtain ⟨NT, hNT⟩ : ∃ n, T.length = n := ⟨_, rfl⟩
  have HNL := Lib.hid hNL
  have HNT := Lib.hid hNT
  have HWL := Lib.hid wL
  have HWT : Hid (∀ k, k < NT → ∃ t : Nat, T.getD k 0 = (t : Int) ∧ t < 18446744073709551616) := fun k hk => by
    have hm : T.getD k 0 ∈ T := by
      rw [List.getD_eq_getElem?_getD, List.getElem?_eq_getElem (by omega)]
      exact List.getElem_mem _
    have b := boundsU (wT _ hm)
    obtain ⟨t, ht⟩ := Int.eq_ofNat_of_zero_le b.1
    exact ⟨t, ht, by omega⟩
  rw [hNL] at HL hcap1 ⊢
  rw [hNT] at HT hcap3 ⊢
  clear hL hT wL wT hNL hNT
  go_enter Tryz.func4, Tryz.ntmps4
  go_wp2_with (first
    | (go_at_call 11; (with_reducible refine Calls.mono (shown_any _) ?_); rintro e w1 ⟨rfl, hB1⟩; have HL1 := Lib.hid (HL.out.below hB1); have HT1 := Lib.hid (HT.out.below hB1); have HB1 := Lib.hid hB1; clear hB1 HL HT)
    | (go_at_call 12; (with_reducible refine Calls.mono (new_any _) ?_); rintro e w2 ⟨v2, rfl, hN, hB2⟩; have HL1 := Lib.hid (HL1.out.below hB2); have HT1 := Lib.hid (HT1.out.below hB2); have HB1 := Lib.hid (below_th HB1.out hB2); have HN := Lib.hid hN; clear hB2 hN))
  have HK : Hid (∀ W', Below w2.heap.size w2 W' → Cls W' (.slice a0 NL c0) L ∧ Nums W' (.slice a1 NT c1) T ∧ Below w.heap.size w W') := fun W' h => ⟨HL1.out.below h, HT1.out.below h, below_th HB1.out h⟩
  have hself : Below w2.heap.size w2 w2 := Below.refl _ _
  clear HL1 HT1 HB1
  go_loopw [6, 7] (fun lv i wr => ∃ k : Nat, k ≤ NL ∧ k ≤ NT ∧ k ≤ 30 ∧ i = .int .i64 (k : Int) ∧ Hid (∃ l, Nodes wr lv l ∧ RightL l) ∧ Hid (Below w2.heap.size w2 wr)) (fun _ i _ => 30 - (intOf i).toNat)
  case atStart => exact ⟨0, by omega, by omega, by omega, rfl, ⟨newL, HN.out, newL_right⟩, hself⟩
  case round =>
    obtain ⟨k, hk1, hk2, hk3, rfl, HLV, HBw⟩ := hrel
    clear hself HN
    obtain ⟨M1, M2, M3⟩ := HK.out _ HBw.out
    have HE := Lib.hid M3
    by_cases h1 : k < NL
    · by_cases h2 : k < NT
      · by_cases h3 : k < 30
        · obtain ⟨l, hl, hr⟩ := HLV.out
          obtain ⟨t, ht, htk⟩ := HWT.out k h2
          obtain ⟨lb, lo, cp, e1, y0, y1, y2, y3, y4, y5, y6⟩ := M1.at (k := k) (by rw [HNL.out]; exact h1)
          rw [HNL.out] at e1
          cases e1
          obtain ⟨tb, tf, cp, e2, x0⟩ := M2.at (k := k) (by rw [HNT.out]; exact h2)
          rw [HNT.out] at e2
          cases e2
          rw [ht] at x0
          have hok := HWL.out _ (cl_mem (L := L) (i := k) (by rw [HNL.out]; exact h1))
          obtain ⟨c, hc⟩ : ∃ c, cl L k = c := ⟨_, rfl⟩
          rw [hc] at hok y0 y1 y2 y3 y4 y5 y6
          obtain ⟨o1, o2⟩ := cutC2_ok hok
          have HD := Lib.hid (fun u W (h : Nodes W u l) => do_anyS u l (cutC2 c) t W h (ableS_right hr) o1 o2 htk)
          obtain ⟨s1, s2, s3⟩ := stays_law hr (cutC2 c) t
          have HR := Lib.hid (fun u W (h : Nodes W u (doV l (cutC2 c) t)) => right_any u _ W h (able_right s1))
          obtain ⟨m, hm⟩ : ∃ m, doV l (cutC2 c) t = m := ⟨_, rfl⟩
          obtain ⟨r, hrp⟩ : ∃ r, doR l (cutC2 c) t = r := ⟨_, rfl⟩
          rw [hm] at HR s1 s2
          rw [hm, hrp] at s3
          simp only [hm, hrp] at HD
          rw [decide_eq_true s1] at HR
          have hs1 := Lib.hid s1
          obtain ⟨op, path, to_, data, off, n, mode⟩ := c
          unfold cutC2 at HD s3
          unfold Cl.val at HD
          dsimp only at HD s3 y0 y1 y2 y3 y4 y5 y6
          have hmin : (min (data.size : Int) 2000) = ((min data.size 2000 : Nat) : Int) := by omega
          have HHL := Lib.hid hl
          obtain ⟨la, lc, rfl, hl1, hl2⟩ := hl.parts
          have HTK := Lib.hid ht
          clear hok hr o1 o2 hm hrp hc ht htk hl s1
          have hpc : Tryz.prog.cellsOf 36 = 8 := by kernel_rfl
          go_upto_region 8 with fail
          obtain ⟨q, hq⟩ : ∃ q, data.extract 0 (min data.size 2000) = q := ⟨_, rfl⟩
          rw [hq] at HD ⊢
          have HC5 := Lib.hid (ClAt.new wr (⟨op, path, to_, q, off, n, mode⟩ : Cl))
          have HB5 := Lib.hid (below_new wr (clO (⟨op, path, to_, q, off, n, mode⟩ : Cl)))
          unfold clO at HC5 HB5
          dsimp only at HC5 HB5
          obtain ⟨s5, hs5⟩ : ∃ s5, wr.heap.size = s5 := ⟨_, rfl⟩
          have hw5 : w2.heap.size ≤ s5 := by rw [← hs5]; exact HBw.out.size
          generalize hW5 : wr.alloc (Obj.cells #[.int .i64 op, .string path, .string to_, .string q, .int .i64 off, .int .i64 n, .int .i64 mode] 28) = W5 at *
          have HBW := Lib.hid (below_th HBw.out HB5.out)
          have HL5 := Lib.hid (HHL.out.below HB5.out)
          have hx5 := (M2.below HB5.out).get HNT.out h2
          rw [HTK.out] at hx5
          have HX5 := Lib.hid hx5
          rw [hs5] at HC5 ⊢
          have HCE : Hid (∀ W', Below W5.heap.size W5 W' → (W'.cell? ⟨s5, 0, none⟩ = some (.int .i64 op) ∧ W'.cell? ⟨s5, 1, none⟩ = some (.string path) ∧ W'.cell? ⟨s5, 2, none⟩ = some (.string to_) ∧ W'.cell? ⟨s5, 3, none⟩ = some (.string q) ∧ W'.cell? ⟨s5, 4, none⟩ = some (.int .i64 off) ∧ W'.cell? ⟨s5, 5, none⟩ = some (.int .i64 n) ∧ W'.cell? ⟨s5, 6, none⟩ = some (.int .i64 mode)) ∧ W'.cell? ⟨tb, tf + k, none⟩ = some (.int .u64 (t : Int))) := fun W' h => ⟨(HC5.out.th h).c, ((HK.out _ (below_th HBW.out h)).2.1.get HNT.out h2).trans (by rw [HTK.out])⟩
          obtain ⟨d0, e0⟩ := HCE.out _ (Below.refl _ _)
          have hself : Below W5.heap.size W5 W5 := Below.refl _ _
          clear hx5 M1 M2 x0 hW5 hq
          go_cut [9, 10] from 13 to 77 (fun s9 s10 wx => ∃ b v9 u9, s9 = v9 ∧ s10 = .pointer (some ⟨b, 0, none⟩) ∧ Hid (Nodes wx v9 m) ∧ Hid (RpAt wx b r u9) ∧ Hid (Below W5.heap.size W5 wx))
          case first =>
            rename_i J1 K1 hJ1 hK1
            have hal : Below W5.heap.size W5 (W5.alloc (.cells #[.int .i64 0, .string ⟨#[]⟩, .slice none 0 0, .int .i64 0, .int .u16 0, .int .u16 0, .int .i64 0, .int .u64 0] 36)) := below_new _ _
            have HZd : Hid (∀ W', Below (W5.alloc (.cells #[.int .i64 0, .string ⟨#[]⟩, .slice none 0 0, .int .i64 0, .int .u16 0, .int .u16 0, .int .i64 0, .int .u64 0] 36)).drew.heap.size (W5.alloc (.cells #[.int .i64 0, .string ⟨#[]⟩, .slice none 0 0, .int .i64 0, .int .u16 0, .int .u16 0, .int .i64 0, .int .u64 0] 36)).drew W' → RpAt W' W5.heap.size (⟨0, ⟨#[]⟩, [], St.zero⟩ : Rp) (.slice none 0 0)) := fun W' h => RpAt.th (W := (W5.alloc (.cells #[.int .i64 0, .string ⟨#[]⟩, .slice none 0 0, .int .i64 0, .int .u16 0, .int .u16 0, .int .i64 0, .int .u64 0] 36)).drew) (RpAt.new W5 (⟨0, ⟨#[]⟩, [], St.zero⟩ : Rp) (.slice none 0 0)) h
            refine wp_region_noPanic ?_
            refine wp_region_held_drew (S := (fun w' => (w'.cell? ⟨s5, 0, none⟩ = some (.int .i64 op) ∧ w'.cell? ⟨s5, 1, none⟩ = some (.string path) ∧ w'.cell? ⟨s5, 2, none⟩ = some (.string to_) ∧ w'.cell? ⟨s5, 3, none⟩ = some (.string q) ∧ w'.cell? ⟨s5, 4, none⟩ = some (.int .i64 off) ∧ w'.cell? ⟨s5, 5, none⟩ = some (.int .i64 n) ∧ w'.cell? ⟨s5, 6, none⟩ = some (.int .i64 mode)) ∧ w'.cell? ⟨tb, tf + k, none⟩ = some (.int .u64 (t : Int)))) (by kernel_rfl) ⟨d0, e0⟩ (fun hHeld => ?_)
            refine wpAnyH_take (i := 0) (oi := ?oi0_1) (v := ?v0_1) ?lit0_1 (by kernel_rfl) (by kernel_rfl) (by kernel_rfl) (fun _ _ _ h => h) (Or.inl ⟨?want0_1, ?yields0_1⟩) (by assumption) ?rest0_1
            case lit0_1 => rfl
            case want0_1 => rfl
            case yields0_1 => (intro w hSw; (try dsimp only at hSw); go_simp; try (with_reducible rfl))
            try simp only [Act.put, List.setIfInBounds_toArray, List.set_cons_zero, List.set_cons_succ]
            refine wpAnyH_take (i := 1) (oi := ?oi1_2) (v := ?v1_2) ?lit1_2 (by kernel_rfl) (by kernel_rfl) (by kernel_rfl) (fun _ _ _ h => h) (Or.inl ⟨?want1_2, ?yields1_2⟩) (by assumption) ?rest1_2
            case lit1_2 => rfl
            case want1_2 => rfl
            case yields1_2 => (intro w hSw; (try dsimp only at hSw); go_simp; try (with_reducible rfl))
            try simp only [Act.put, List.setIfInBounds_toArray, List.set_cons_zero, List.set_cons_succ]
            refine wpAnyH_take (i := 2) (oi := ?oi2_3) (v := ?v2_3) ?lit2_3 (by kernel_rfl) (by kernel_rfl) (by kernel_rfl) (fun _ _ _ h => h) (Or.inl ⟨?want2_3, ?yields2_3⟩) (by assumption) ?rest2_3
            case lit2_3 => rfl
            case want2_3 => rfl
            case yields2_3 => (intro w hSw; (try dsimp only at hSw); go_simp; try (with_reducible rfl))
            try simp only [Act.put, List.setIfInBounds_toArray, List.set_cons_zero, List.set_cons_succ]
            refine wpAnyH_take (i := 3) (oi := ?oi3_4) (v := ?v3_4) ?lit3_4 (by kernel_rfl) (by kernel_rfl) (by kernel_rfl) (fun _ _ _ h => h) (Or.inl ⟨?want3_4, ?yields3_4⟩) (by assumption) ?rest3_4
            case lit3_4 => rfl
            case want3_4 => rfl
            case yields3_4 => (intro w hSw; (try dsimp only at hSw); go_simp; try (with_reducible rfl))
            try simp only [Act.put, List.setIfInBounds_toArray, List.set_cons_zero, List.set_cons_succ]
            refine wpAnyH_take (i := 4) (oi := ?oi4_5) (v := ?v4_5) ?lit4_5 (by kernel_rfl) (by kernel_rfl) (by kernel_rfl) (fun _ _ _ h => h) (Or.inl ⟨?want4_5, ?yields4_5⟩) (by assumption) ?rest4_5
            case lit4_5 => rfl
            case want4_5 => rfl
            case yields4_5 => (intro w hSw; (try dsimp only at hSw); go_simp; try (with_reducible rfl))
            try simp only [Act.put, List.setIfInBounds_toArray, List.set_cons_zero, List.set_cons_succ]
            refine wpAnyH_take (i := 5) (oi := ?oi5_6) (v := ?v5_6) ?lit5_6 (by kernel_rfl) (by kernel_rfl) (by kernel_rfl) (fun _ _ _ h => h) (Or.inl ⟨?want5_6, ?yields5_6⟩) (by assumption) ?rest5_6
            case lit5_6 => rfl
            case want5_6 => rfl
            case yields5_6 => (intro w hSw; (try dsimp only at hSw); go_simp; try (with_reducible rfl))
            try simp only [Act.put, List.setIfInBounds_toArray, List.set_cons_zero, List.set_cons_succ]
            refine wpAnyH_ready (rs := [6, 10]) (by kernel_rfl) (by simp) ?_
            refine AllReadyH.cons (o := ?oi6_7) ?lit6_7 (fun K hK => ?rest6_7) (AllReadyH.cons (o := ?oi10_7) ?lit10_7 (fun K hK => ?rest10_7) AllReadyH.nil)
            case lit6_7 => rfl
            case lit10_7 => rfl
            case rest6_7 =>
              go_simp
              go_at_call 14
              (with_reducible refine Calls.mono (HD.out _ _ (HL5.out.below hself.drew)) ?_)
              intro e w7 hp
              obtain ⟨v9, a9, n9, rfl, hN9, _, hB9⟩ := hp.open
              have hBn : Below W5.heap.size W5 w7 := below_th hself.drew hB9
              try go_simp
              refine hK.out _ _ (HCE.out _ hBn) (fun hHeld => ?_)
              clear hK K
              try simp only [Act.put, List.setIfInBounds_toArray, List.set_cons_zero, List.set_cons_succ]
              refine wpAnyH_take (i := 7) (oi := ?oi7_8) (v := ?v7_8) ?lit7_8 (by kernel_rfl) (by kernel_rfl) (by kernel_rfl) (fun _ _ _ h => h) (Or.inl ⟨?want7_8, ?yields7_8⟩) (by assumption) ?rest7_8
              case lit7_8 => rfl
              case want7_8 => rfl
              case yields7_8 => (intro w hSw; (try dsimp only at hSw); go_simp; try (with_reducible rfl))
              try simp only [Act.put, List.setIfInBounds_toArray, List.set_cons_zero, List.set_cons_succ]
              refine wpAnyH_take (i := 8) (oi := ?oi8_9) (v := ?v8_9) ?lit8_9 (by kernel_rfl) (by kernel_rfl) (by kernel_rfl) (fun _ _ _ h => h) (Or.inl ⟨?want8_9, ?yields8_9⟩) (by assumption) ?rest8_9
              case lit8_9 => rfl
              case want8_9 => rfl
              case yields8_9 => (intro w hSw; (try dsimp only at hSw); go_simp; try (with_reducible rfl))
              try simp only [Act.put, List.setIfInBounds_toArray, List.set_cons_zero, List.set_cons_succ]
              refine wpAnyH_take (i := 9) (oi := ?oi9_10) (v := ?v9_10) ?lit9_10 (by kernel_rfl) (by kernel_rfl) (by kernel_rfl) (fun _ _ _ h => h) (Or.inl ⟨?want9_10, ?yields9_10⟩) (by assumption) ?rest9_10
              case lit9_10 => rfl
              case want9_10 => rfl
              case yields9_10 => (intro w hSw; (try dsimp only at hSw); go_simp; try (with_reducible rfl))
              try simp only [Act.put, List.setIfInBounds_toArray, List.set_cons_zero, List.set_cons_succ]
              refine wpAnyH_ready (rs := [10]) (by kernel_rfl) (by simp) ?_
              refine AllReadyH.cons (o := ?oi10_11) ?lit10_11 (fun K hK => ?rest10_11) AllReadyH.nil
              case lit10_11 => rfl
              go_simp
              refine hK.out _ _ (HCE.out _ (below_al hBn _)) (fun hHeld => ?_)
              clear hK K
              try simp only [Act.put, List.setIfInBounds_toArray, List.set_cons_zero, List.set_cons_succ]
              refine wpAnyH_take (i := 11) (oi := ?oi11_12) (v := ?v11_12) ?lit11_12 (by kernel_rfl) (by kernel_rfl) (by kernel_rfl) (fun _ _ _ h => h) (Or.inl ⟨?want11_12, ?yields11_12⟩) (by assumption) ?rest11_12
              case lit11_12 => rfl
              case want11_12 => rfl
              case yields11_12 => (intro w hSw; (try dsimp only at hSw); go_simp; try (with_reducible rfl))
              try simp only [Act.put, List.setIfInBounds_toArray, List.set_cons_zero, List.set_cons_succ]
              refine wpAnyH_ready (rs := [12]) (by kernel_rfl) (by simp) ?_
              refine AllReadyH.cons (o := ?oi12_13) ?lit12_13 (fun K hK => ?rest12_13) AllReadyH.nil
              case lit12_13 => rfl
              refine step_reply rfl rfl (.tmp 10) (.tmp 50) rfl _ (⟨0, ⟨#[]⟩, [], St.zero⟩ : Rp) (.slice none 0 0) ?_ r a9 r.names.length n9 rfl rfl ?_
              · exact RpAt.new w7 (⟨0, ⟨#[]⟩, [], St.zero⟩ : Rp) (.slice none 0 0)
              intro W6 hR6 hK6 hB6
              have hB67 : Below w7.heap.size w7 W6 := (below_new w7 _).trans hB6
              have hB65 : Below W5.heap.size W5 W6 := below_th hBn hB67
              have hN6 := hN9.below hB67
              refine hK.out _ _ (HCE.out _ hB65) (fun hHeld => ?_)
              clear hK K
              try simp only [Act.put, List.setIfInBounds_toArray, List.set_cons_zero, List.set_cons_succ]
              refine wpAnyH_done (by kernel_rfl) ?_ _
              try go_simp
              refine hK1 _ _ (Met.intro (hJ1 _ _ ?_))
              (repeat apply Exists.intro)
              exact ⟨⟨_, _, _, rfl, rfl, hN6, hR6, hB65⟩, rfl⟩
            case rest10_7 =>
              go_simp
              refine hK.out _ _ (HCE.out _ hal.drew) (fun hHeld => ?_)
              clear hK K
              try simp only [Act.put, List.setIfInBounds_toArray, List.set_cons_zero, List.set_cons_succ]
              refine wpAnyH_ready (rs := [6]) (by kernel_rfl) (by simp) ?_
              refine AllReadyH.cons (o := ?oi6_14) ?lit6_14 (fun K hK => ?rest6_14) AllReadyH.nil
              case lit6_14 => rfl
              go_simp
              go_at_call 14
              (with_reducible refine Calls.mono (HD.out _ _ (HL5.out.below hal.drew)) ?_)
              intro e w7 hp
              obtain ⟨v9, a9, n9, rfl, hN9, _, hB9⟩ := hp.open
              have hBn : Below W5.heap.size W5 w7 := below_th hal.drew hB9
              try go_simp
              refine hK.out _ _ (HCE.out _ hBn) (fun hHeld => ?_)
              clear hK K
              try simp only [Act.put, List.setIfInBounds_toArray, List.set_cons_zero, List.set_cons_succ]
              refine wpAnyH_take (i := 7) (oi := ?oi7_15) (v := ?v7_15) ?lit7_15 (by kernel_rfl) (by kernel_rfl) (by kernel_rfl) (fun _ _ _ h => h) (Or.inl ⟨?want7_15, ?yields7_15⟩) (by assumption) ?rest7_15
              case lit7_15 => rfl
              case want7_15 => rfl
              case yields7_15 => (intro w hSw; (try dsimp only at hSw); go_simp; try (with_reducible rfl))
              try simp only [Act.put, List.setIfInBounds_toArray, List.set_cons_zero, List.set_cons_succ]
              refine wpAnyH_take (i := 8) (oi := ?oi8_16) (v := ?v8_16) ?lit8_16 (by kernel_rfl) (by kernel_rfl) (by kernel_rfl) (fun _ _ _ h => h) (Or.inl ⟨?want8_16, ?yields8_16⟩) (by assumption) ?rest8_16
              case lit8_16 => rfl
              case want8_16 => rfl
              case yields8_16 => (intro w hSw; (try dsimp only at hSw); go_simp; try (with_reducible rfl))
              try simp only [Act.put, List.setIfInBounds_toArray, List.set_cons_zero, List.set_cons_succ]
              refine wpAnyH_take (i := 9) (oi := ?oi9_17) (v := ?v9_17) ?lit9_17 (by kernel_rfl) (by kernel_rfl) (by kernel_rfl) (fun _ _ _ h => h) (Or.inl ⟨?want9_17, ?yields9_17⟩) (by assumption) ?rest9_17
              case lit9_17 => rfl
              case want9_17 => rfl
              case yields9_17 => (intro w hSw; (try dsimp only at hSw); go_simp; try (with_reducible rfl))
              try simp only [Act.put, List.setIfInBounds_toArray, List.set_cons_zero, List.set_cons_succ]
              refine wpAnyH_take (i := 11) (oi := ?oi11_18) (v := ?v11_18) ?lit11_18 (by kernel_rfl) (by kernel_rfl) (by kernel_rfl) (fun _ _ _ h => h) (Or.inl ⟨?want11_18, ?yields11_18⟩) (by assumption) ?rest11_18
              case lit11_18 => rfl
              case want11_18 => rfl
              case yields11_18 => (intro w hSw; (try dsimp only at hSw); go_simp; try (with_reducible rfl))
              try simp only [Act.put, List.setIfInBounds_toArray, List.set_cons_zero, List.set_cons_succ]
              refine wpAnyH_ready (rs := [12]) (by kernel_rfl) (by simp) ?_
              refine AllReadyH.cons (o := ?oi12_19) ?lit12_19 (fun K hK => ?rest12_19) AllReadyH.nil
              case lit12_19 => rfl
              have hz9 := HZd.out _ hB9
              refine step_reply rfl rfl (.tmp 10) (.tmp 50) rfl _ (⟨0, ⟨#[]⟩, [], St.zero⟩ : Rp) (.slice none 0 0) ?_ r a9 r.names.length n9 rfl rfl ?_
              · exact hz9
              intro W6 hR6 hK6 hB6
              have hB65 : Below W5.heap.size W5 W6 := hBn.trans hB6
              have hN6 : Nodes W6 _ m := hN9.keep (fun g o k c e hk => hK6 g (Nodes.off hz9 hN9 g o k c e hk))
              refine hK.out _ _ (HCE.out _ hB65) (fun hHeld => ?_)
              clear hK K
              try simp only [Act.put, List.setIfInBounds_toArray, List.set_cons_zero, List.set_cons_succ]
              refine wpAnyH_done (by kernel_rfl) ?_ _
              try go_simp
              refine hK1 _ _ (Met.intro (hJ1 _ _ ?_))
              (repeat apply Exists.intro)
              exact ⟨⟨_, _, _, rfl, rfl, hN6, hR6, hB65⟩, rfl⟩
          case rest =>
            obtain ⟨b9, v9, u9, rfl, rfl, HN9, HR9, HB9⟩ := hcut
            have HBc := Lib.hid (below_th HBW.out HB9.out)
            have HL9 := Lib.hid (HL5.out.below HB9.out)
            obtain ⟨la9, lc9, rfl, hm1, hm2⟩ := HN9.out.parts
            have hlen : decide ((m.length : Int) < (l.length : Int)) = false := decide_eq_false (by omega)
            have hlen2 : decide (m.length < l.length) = false := decide_eq_false (by omega)
            have HAs := Lib.hid (fun W => asks_any op W)
            by_cases hc0 : r.code = 0
            · have q1 : (r.code != 0) = false := by simp [hc0]
              by_cases has : asksP op
              · have hml := s3 (.inr has)
                have HAs : Hid (∀ W, Calls Tryz.prog 19 #[.int .i64 op] W (Ans W (.bool true))) := fun W => by
                  have := HAs.out W
                  rwa [decide_eq_true (by exact has)] at this
                have HS := Lib.hid (fun W (h1 : Nodes W (.slice la9 m.length lc9) m) (h2 : Nodes W (.slice la l.length lc) l) => same_any _ _ m l W h1 h2)
                rw [decide_eq_true hml] at HS
                clear hml s3 has hc0 d0 e0
                go_wp2_with (first
                  | (go_at_call 18; (with_reducible refine Calls.mono (HR.out _ _ HN9.out) ?_); rintro e x1 ⟨rfl, hB1⟩; have HX1 := Lib.hid (below_th HBc.out hB1); have HN9 := Lib.hid (HN9.out.below hB1); have HL9 := Lib.hid (HL9.out.below hB1); have r0 := (HR9.out.th hB1).c.1; have o0 := (HCE.out _ (below_th HB9.out hB1)).1.1; have HB9 := Lib.hid (below_th HB9.out hB1); clear hB1)
                  | (go_at_call 19; (with_reducible refine Calls.mono (HAs.out _) ?_); rintro e x2 ⟨rfl, hB1⟩; have HX1 := Lib.hid (below_th HX1.out hB1); have HN9 := Lib.hid (HN9.out.below hB1); have HL9 := Lib.hid (HL9.out.below hB1); clear hB1)
                  | (go_at_call 17; (with_reducible refine Calls.mono (HS.out _ HN9.out HL9.out) ?_); rintro e x3 ⟨rfl, hB1⟩; have HX1 := Lib.hid (below_th HX1.out hB1); have HN9 := Lib.hid (HN9.out.below hB1); clear hB1))
                go_roundw
                case rel => exact ⟨k + 1, by omega, by omega, by omega, by go_num, ⟨m, HN9.out, hs1.out⟩, HX1.out⟩
                case measure => simp [intOf]; omega
              · have HAs : Hid (∀ W, Calls Tryz.prog 19 #[.int .i64 op] W (Ans W (.bool false))) := fun W => by
                  have := HAs.out W
                  rwa [decide_eq_false (by exact has)] at this
                clear s3 has hc0 d0 e0
                go_wp2_with (first
                  | (go_at_call 18; (with_reducible refine Calls.mono (HR.out _ _ HN9.out) ?_); rintro e x1 ⟨rfl, hB1⟩; have HX1 := Lib.hid (below_th HBc.out hB1); have HN9 := Lib.hid (HN9.out.below hB1); have HL9 := Lib.hid (HL9.out.below hB1); have r0 := (HR9.out.th hB1).c.1; have o0 := (HCE.out _ (below_th HB9.out hB1)).1.1; have HB9 := Lib.hid (below_th HB9.out hB1); clear hB1)
                  | (go_at_call 19; (with_reducible refine Calls.mono (HAs.out _) ?_); rintro e x2 ⟨rfl, hB1⟩; have HX1 := Lib.hid (below_th HX1.out hB1); have HN9 := Lib.hid (HN9.out.below hB1); have HL9 := Lib.hid (HL9.out.below hB1); clear hB1)
                  | (go_at_call 17; (with_reducible refine Calls.mono (HS.out _ HN9.out HL9.out) ?_); rintro e x3 ⟨rfl, hB1⟩; have HX1 := Lib.hid (below_th HX1.out hB1); have HN9 := Lib.hid (HN9.out.below hB1); clear hB1))
                go_roundw
                case rel => exact ⟨k + 1, by omega, by omega, by omega, by go_num, ⟨m, HN9.out, hs1.out⟩, HX1.out⟩
                case measure => simp [intOf]; omega
            · have q1 : (r.code != 0) = true := by simp [hc0]
              have hml := s3 (.inl hc0)
              have HS := Lib.hid (fun W (h1 : Nodes W (.slice la9 m.length lc9) m) (h2 : Nodes W (.slice la l.length lc) l) => same_any _ _ m l W h1 h2)
              rw [decide_eq_true hml] at HS
              clear hml s3 hc0 d0 e0
              go_wp2_with (first
                | (go_at_call 18; (with_reducible refine Calls.mono (HR.out _ _ HN9.out) ?_); rintro e x1 ⟨rfl, hB1⟩; have HX1 := Lib.hid (below_th HBc.out hB1); have HN9 := Lib.hid (HN9.out.below hB1); have HL9 := Lib.hid (HL9.out.below hB1); have r0 := (HR9.out.th hB1).c.1; have o0 := (HCE.out _ (below_th HB9.out hB1)).1.1; have HB9 := Lib.hid (below_th HB9.out hB1); clear hB1)
                | (go_at_call 19; (with_reducible refine Calls.mono (HAs.out _) ?_); rintro e x2 ⟨rfl, hB1⟩; have HX1 := Lib.hid (below_th HX1.out hB1); have HN9 := Lib.hid (HN9.out.below hB1); have HL9 := Lib.hid (HL9.out.below hB1); clear hB1)
                | (go_at_call 17; (with_reducible refine Calls.mono (HS.out _ HN9.out HL9.out) ?_); rintro e x3 ⟨rfl, hB1⟩; have HX1 := Lib.hid (below_th HX1.out hB1); have HN9 := Lib.hid (HN9.out.below hB1); clear hB1))
              go_roundw
              case rel => exact ⟨k + 1, by omega, by omega, by omega, by go_num, ⟨m, HN9.out, hs1.out⟩, HX1.out⟩
              case measure => simp [intOf]; omega
        · go_wp2
          go_ret
          exact ⟨rfl, HE.out⟩
      · go_wp2
        go_ret
        exact ⟨rfl, HE.out⟩
    · go_wp2
      go_ret
      exact ⟨rfl, HE.out⟩
end
end Go.Proofs.YtkipkcmcolomcaaGreat.Pln
