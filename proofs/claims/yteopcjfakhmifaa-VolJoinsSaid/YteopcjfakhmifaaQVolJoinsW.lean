/- VolJoins, walked, given what the program answers. -/
import Derived.Test.YteopcjfakhmifaaQVolInodesW
namespace Go.Proofs.Yteopcjfakhmifaa.Vol
open Go.RowKit
open Pln (Nd nd Nodes)
attribute [local go_sem] Oper.semAt_some
set_option linter.unusedVariables false
set_option linter.unusedSimpArgs false
section
set_option maxRecDepth 100000
set_option maxHeartbeats 4000000
theorem VolJoins_given (G : Given) (s t : ByteArray) (v : Value) (l : List Nd) (w : World) (zs : s.size ≤ 140737488351232) (zt : t.size ≤ 140737488351232) (hl : Nodes w v l) (wl : ∀ o ∈ l, NdOk o ∧ o.data.size ≤ 281474976710656) :
    Calls Try.prog 8 #[.string s, .string t, v] w fun e w' => e = .returned (.bool true) ∧ Below w.heap.size w w' := by
  obtain ⟨a, cap, rfl, m1, m2⟩ := hl.parts
  obtain ⟨N, hN⟩ : ∃ N, l.length = N := ⟨_, rfl⟩
  have hl2 : Nodes w (.slice a N cap) l := by rw [← hN]; exact hl
  rw [hN] at m1 ⊢
  obtain ⟨k, hk⟩ : ∃ m, min N 100 = m := ⟨_, rfl⟩
  have hkI : min (N : Int) 100 = (k : Int) := by omega
  have hkN : (k : Int) ≤ (N : Int) := by omega
  have hkc : (k : Int) ≤ (cap : Int) := by omega
  have HL := Lib.hid (hl2.cut k (by omega))
  have HWT : Hid (∀ o ∈ l.take k, o.data.size ≤ 281474976710656) := fun o ho => (wl o (List.mem_of_mem_take ho)).2
  clear wl
  obtain ⟨D, hD⟩ : ∃ D, l.take k = D := ⟨_, rfl⟩
  have hDl : D.length = k := by rw [← hD, List.length_take]; omega
  rw [hD] at HL HWT
  -- the files
  obtain ⟨p, hp⟩ : ∃ p, min s.size 5000 = p := ⟨_, rfl⟩
  have hpI : min (s.size : Int) 5000 = (p : Int) := by omega
  have hps : (p : Int) ≤ (s.size : Int) := by omega
  obtain ⟨p2, hp2⟩ : ∃ p, min t.size 5000 = p := ⟨_, rfl⟩
  have hpI2 : min (t.size : Int) 5000 = (p2 : Int) := by omega
  have hps2 : (p2 : Int) ≤ (t.size : Int) := by omega
  obtain ⟨s0, hs0⟩ : ∃ x, s.extract 0 p = x := ⟨_, rfl⟩
  obtain ⟨t0, ht0⟩ : ∃ x, t.extract 0 p2 = x := ⟨_, rfl⟩
  have hs0z : s0.size = p := by rw [← hs0, ByteArray.size_extract]; omega
  have ht0z : t0.size = p2 := by rw [← ht0, ByteArray.size_extract]; omega
  obtain ⟨q, hq⟩ : ∃ q, s0.size / 508 = q := ⟨_, rfl⟩
  have hq9 : q ≤ 9 := by omega
  have hqe : (s0.size : Int) / 508 = (q : Int) := by omega
  have hqt : (s0.size : Int).tdiv 508 = (q : Int) := by rw [Int.tdiv_eq_ediv_of_nonneg (by omega)]; exact hqe
  have hqw : IntKind.i64.wrap (q : Int) = (q : Int) := by rw [IntKind.wrap_i64]; omega
  obtain ⟨f, hf⟩ : ∃ f, q * 508 = f := ⟨_, rfl⟩
  have hfe : (q : Int) * 508 = (f : Int) := by omega
  have hfw : IntKind.i64.wrap (f : Int) = (f : Int) := by rw [IntKind.wrap_i64]; omega
  have hfs : (f : Int) ≤ (s0.size : Int) := by omega
  obtain ⟨s1, hs1⟩ : ∃ x, s0.extract 0 f = x := ⟨_, rfl⟩
  have hs1z : s1.size = f := by rw [← hs1, ByteArray.size_extract]; omega
  have hjoin := cuts_join (s := s1) (by rw [hs1z, ← hf]; omega) t0
  have HA := Lib.hid (fun W => G.cut s1 W (by omega))
  have HB := Lib.hid (fun W => G.cut t0 W (by omega))
  have HAB := Lib.hid (fun W => G.cut (s1 ++ t0) W (by rw [ByteArray.size_append]; omega))
  have hadd := fun W => run_string_add_sum (P := Try.prog) (w := W) s1 t0 (by omega)
  unfold CutPost at HA HB HAB
  rw [hjoin] at HAB
  have hla : (cuts s1).length ≤ 10 := by rw [cuts_len]; unfold nb; omega
  have hlb : (cuts t0).length ≤ 10 := by rw [cuts_len]; unfold nb; omega
  obtain ⟨A, hA⟩ : ∃ x, cuts s1 = x := ⟨_, rfl⟩
  obtain ⟨B, hB⟩ : ∃ x, cuts t0 = x := ⟨_, rfl⟩
  rw [hA] at HA HAB hla
  rw [hB] at HB HAB hlb
  obtain ⟨na, hna⟩ : ∃ n, A.length = n := ⟨_, rfl⟩
  obtain ⟨nb', hnb⟩ : ∃ n, B.length = n := ⟨_, rfl⟩
  have HNA := Lib.hid hna
  have HNB := Lib.hid hnb
  have hna9 : na ≤ 10 := by omega
  have hnb9 : nb' ≤ 10 := by omega
  have hnw : IntKind.i64.wrap ((na : Int) + (nb' : Int)) = (na : Int) + (nb' : Int) := by rw [IntKind.wrap_i64]; omega
  obtain ⟨Rw, hR, hmk0⟩ := make_strs (na + nb') (by omega)
  have hmk : ∀ W : World, (Instr.makeSlice 22 (.int .i64 0) (.int .i64 ((na : Int) + (nb' : Int)))).run Try.prog W = .ok (.slice (some ⟨W.heap.size, 0, none⟩) 0 (na + nb')) (W.alloc (.cells Rw 9)) := fun W => by
    have h := hmk0 W
    rw [Int.natCast_add] at h
    exact h
  obtain ⟨i0, hin, hz0, hz1, hz2⟩ := info_parts infoStrs
  have HST : Hid (∀ (u v : Value) (W : World), Strs W u (A ++ B) → Strs W v (A ++ B) → Calls Try.prog 14 #[u, v] W (Ans W (.bool true))) := fun u v W h1 h2 => by
    have h := R.texts_any u v (A ++ B) (A ++ B) W h1 h2
    rw [decide_eq_true rfl] at h
    exact h
  -- trimmed
  have HT := Lib.hid (fun W (h : Nodes W (.slice a k cap) D) => G.trim _ D W h (by omega) HWT.out)
  unfold TrimPost at HT
  obtain ⟨T, hT⟩ : ∃ n, trimN D k = n := ⟨_, rfl⟩
  have hTk : T ≤ k := by rw [← hT]; exact trimN_le _ _
  have hTl : (trm D).length = T := by rw [trm_len, hDl, hT]
  have HZ : Hid (∀ i, T ≤ i → i < k → nd D i = Nd.zero) := fun i h1 h2 => trimN_zero D k i (by rw [hT]; exact h1) h2
  have HTD : Hid (D.take T = trm D) := by unfold Hid trm; rw [hDl, hT]
  have HT2 := Lib.hid (fun v W (h : Nodes W v (trm D)) => G.trim v (trm D) W h (by omega) (fun o ho => HWT.out o (List.mem_of_mem_take ho)))
  unfold TrimPost at HT2
  rw [trm_twice] at HT2
  have HTL := Lib.hid hTl
  obtain ⟨TM, hTM⟩ : ∃ x, trm D = x := ⟨_, rfl⟩
  rw [hTM] at HT HT2 HTD HTL
  have HSA : Hid (∀ (u v : Value) (W : World), Nodes W u TM → Nodes W v TM → Calls Try.prog 24 #[u, v] W fun e w' => e = .returned (.bool true) ∧ Below W.heap.size W w') := fun u v W h1 h2 => by
    have h := Pln.same_any u v TM TM W h1 h2
    rw [decide_eq_true rfl] at h
    exact h
  have HDL := Lib.hid hDl
  have HSH := Lib.hid (fun W => shown_any G W)
  have hTkI : (T : Int) ≤ (k : Int) := by omega
  have hTc : (T : Int) ≤ (cap : Int) := by omega
  have hk9 : k ≤ 100 := by omega
  clear hl hl2 hN hk hD hDl hp hp2 hs0z ht0z hq hf hs1z hjoin hla hlb hA hB hna hnb hmk0 hT hTl hTM zs zt
  go_enter Try.func8, Try.ntmps8
  go_wp2_with (first
    | (go_at_call 10; (with_reducible refine Calls.mono (HSH.out _) ?_); rintro e w1 ⟨rfl, hb1⟩; have HB1 := Lib.hid hb1; have HL1 := Lib.hid (HL.out.below hb1); clear hb1)
    | (go_at_call 15; (with_reducible refine Calls.mono (HA.out _) ?_); rintro e w2 ⟨v2, rfl, hV2, hb2⟩; obtain ⟨a3, cap3, rfl, z1, z2⟩ := hV2.parts; rw [HNA.out] at hV2 ⊢; have HV2 := Lib.hid hV2; have HL2 := Lib.hid (HL1.out.below hb2); have HB2 := Lib.hid (below_th HB1.out hb2); clear hb2 hV2)
    | (go_at_call 15; (with_reducible refine Calls.mono (HB.out _) ?_); rintro e w3 ⟨v3, rfl, hV3, hb3⟩; obtain ⟨a4, cap4, rfl, z3, z4⟩ := hV3.parts; rw [HNB.out] at hV3 ⊢; have hal := below_new w3 (.cells Rw 9); have HO3 : Hid ((w3.alloc (.cells Rw 9)).ownsRow w3.heap.size 9 1 (.slice (some ⟨w3.heap.size, 0, none⟩) 0 (na + nb')) 0 []) := World.ownsRow_made w3 Rw (na + nb') (Nat.le_refl _) (by unfold maxLen; omega) hR; have HV23 := Lib.hid ((HV2.out.below hb3).below hal); have HV33 := Lib.hid hV3; have HL3 := Lib.hid (HL2.out.below hb3); have HB3 := Lib.hid (below_th HB2.out hb3); have HAL := Lib.hid hal; clear hb3 hV3 hal)
    | (at_builtin; (refine wpList_append_strs rfl _ _ rfl rfl w3.heap.size _ 0 _ rfl HO3.out _ A rfl HV23.out (by have := HNA.out; omega) HAL.out.size ?_; intro v5 w5 hown5 hgrow5; rw [Nat.zero_add, List.nil_append] at hown5; have hb5 : Below w3.heap.size w3 w5 := HAL.out.grown hgrow5 HAL.out.size (fun r e => ((HO3.out).lt r e).1); have HO5 := Lib.hid hown5; have HB5 := Lib.hid hb5; have HG5 := Lib.hid hgrow5; clear hown5 hgrow5 hb5))
    | (at_builtin; (refine wpList_append_strs rfl _ _ rfl rfl w3.heap.size _ A.length _ rfl HO5.out _ B rfl (HV33.out.below HB5.out) (by have := HNA.out; have := HNB.out; omega) HB5.out.size ?_; intro v6 w6 hown6 hgrow6; have hb6 : Below w3.heap.size w3 w6 := HB5.out.grown hgrow6 HB5.out.size (fun r e => ((HO5.out).lt r e).1); have HV6 : Hid (Strs w6 v6 (A ++ B)) := Strs.own (base := w3.heap.size) (by rw [List.length_append, List.map_append]; exact hown6); have HL6 := Lib.hid (HL3.out.below hb6); have HB6 := Lib.hid (below_th HB3.out hb6); clear hown6 hgrow6 hb6))
    | (go_at_call 25; (with_reducible refine Calls.mono (HT.out _ HL6.out) ?_); rintro e w7 ⟨v7, rfl, hV7, hb7⟩; have HV7 := Lib.hid hV7; have HV67 := Lib.hid (HV6.out.below hb7); have HL7 := Lib.hid (HL6.out.below hb7); have HB7 := Lib.hid (below_th HB6.out hb7); clear hb7 hV7)
    | (go_at_call 25; (with_reducible refine Calls.mono (HT2.out _ _ HV7.out) ?_); rintro e w8 ⟨v8, rfl, hV8, hb8⟩; have HV8 := Lib.hid hV8; have HV78 := Lib.hid (HV7.out.below hb8); have HV68 := Lib.hid (HV67.out.below hb8); have HL8 := Lib.hid (HL7.out.below hb8); have HB8 := Lib.hid (below_th HB7.out hb8); obtain ⟨a7, cap7, rfl, z5, z6⟩ := HV78.out.parts; rw [HTL.out] at HV78 ⊢; clear hb8 hV8))
  go_loopw [13] (fun i wr => ∃ j : Nat, i = .int .i64 (j : Int) ∧ T ≤ j ∧ j ≤ k ∧ Hid (Below w8.heap.size w8 wr)) (fun i _ => k - (intOf i).toNat)
  case atStart => exact ⟨T, rfl, Nat.le_refl _, hTk, Below.refl _ _⟩
  case round =>
    obtain ⟨j, rfl, hTj, hjk, HBR⟩ := hrel
    by_cases hlt : j < k
    · have hjI : (j : Int) < (k : Int) := by omega
      obtain ⟨b, off, cap9, eb, c0, c1, c2, c3, c4⟩ := (HL8.out.below HBR.out).at (k := j) (by rw [HDL.out]; exact hlt)
      rw [HDL.out] at eb
      cases eb
      obtain ⟨X0, hX0⟩ : ∃ x, nd D j = x := ⟨_, rfl⟩
      have hz0 : X0 = Nd.zero := by rw [← hX0]; exact HZ.out j hTj hlt
      rw [hX0] at c0 c1 c2 c3 c4
      have hqz : ∀ W, (binOp .neq 38 (.agg #[.int .i64 X0.kind, .int .u16 X0.mode, .int .u16 X0.links, .int .u64 X0.time, .string X0.data]) (.agg #[.int .i64 0, .int .u16 0, .int .u16 0, .int .u64 0, .string ⟨#[]⟩])).run Try.prog W = .ok (.bool false) W := fun W => by
        have h := Pln.neqN X0 Nd.zero W
        rw [decide_eq_true hz0] at h
        exact h
      clear hX0 hz0
      go_wp2
      go_roundw
      case rel => exact ⟨j + 1, by go_num, by omega, by omega, HBR.out⟩
      case measure => simp [intOf]; omega
    · obtain rfl : j = k := by omega
      have HBP := Lib.hid (below_th HB8.out HBR.out)
      have HVT := Lib.hid (HV78.out.below HBR.out)
      have HVN := Lib.hid (HV8.out.below HBR.out)
      have HVJ := Lib.hid (HV68.out.below HBR.out)
      have HLT := Lib.hid ((HL8.out.below HBR.out).cut T (by rw [HDL.out]; exact hTk))
      rw [HTD.out] at HLT
      go_wp2_with (first
        | (go_at_call 15; (with_reducible refine Calls.mono (HAB.out _) ?_); rintro e w9 ⟨v9, rfl, hV9, hb9⟩; have HV9 := Lib.hid hV9; have HVJ9 := Lib.hid (HVJ.out.below hb9); have HVT9 := Lib.hid (HVT.out.below hb9); have HVN9 := Lib.hid (HVN.out.below hb9); have HLT9 := Lib.hid (HLT.out.below hb9); have HB9 := Lib.hid (below_th HBP.out hb9); clear hb9 hV9)
        | (go_at_call 14; (with_reducible refine Calls.mono (HST.out _ _ _ HV9.out HVJ9.out) ?_); rintro e w10 ⟨rfl, hb10⟩; have HVT10 := Lib.hid (HVT9.out.below hb10); have HVN10 := Lib.hid (HVN9.out.below hb10); have HLT10 := Lib.hid (HLT9.out.below hb10); have HB10 := Lib.hid (below_th HB9.out hb10); clear hb10)
        | (go_at_call 24; (with_reducible refine Calls.mono (HSA.out _ _ _ HVT10.out HLT10.out) ?_); rintro e w11 ⟨rfl, hb11⟩; have HVT11 := Lib.hid (HVT10.out.below hb11); have HVN11 := Lib.hid (HVN10.out.below hb11); have HB11 := Lib.hid (below_th HB10.out hb11); clear hb11)
        | (go_at_call 24; (with_reducible refine Calls.mono (HSA.out _ _ _ HVN11.out HVT11.out) ?_); rintro e w12 ⟨rfl, hb12⟩; have HB12 := Lib.hid (below_th HB11.out hb12); clear hb12))
      go_ret
      exact ⟨rfl, HB12.out⟩
end
end Go.Proofs.Yteopcjfakhmifaa.Vol
