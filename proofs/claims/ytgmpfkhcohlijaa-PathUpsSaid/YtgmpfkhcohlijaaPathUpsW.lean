/- PathUps, walked. -/
import Derived.Test.YtgmpfkhcohlijaaPathChainW
namespace Go.Proofs.Ytgmpfkhcohlijaa.Pth
open Go.RowKit Nam
attribute [local go_sem] Oper.semAt_some
set_option linter.unusedVariables false
set_option linter.unusedSimpArgs false
theorem fit_one {p : ByteArray} (h : nameP p) : fitJ [p] := ⟨by simp, fun q hq => by rw [List.mem_singleton.1 hq]; exact h, by have := h.2.1; simp only [szP]; omega⟩
theorem fit_size {L : List ByteArray} (h : fitJ L) : (outJ L).size ≤ 1000 := by rw [outJ_size]; have := h.2.2; omega
theorem within_pre (A B : List ByteArray) : withinB A (A ++ B) = true := decide_eq_true (by rw [List.take_left])
section
set_option maxRecDepth 100000
set_option maxHeartbeats 4000000
theorem ups_y1 (v3 v4 : Value) (L3 L4 : List ByteArray) (name s : ByteArray) (w : World) (h3 : Strs w v3 L3) (h4 : Strs w v4 L4) (z0 : name.size ≤ 140737488351232) (z1 : s.size ≤ 140737488351232) (A B : List ByteArray) (hA : L3.take (min L3.length 20) = A) (hB : L4.take (min L4.length 20) = B) (np : nameP name) (f1 : ¬ fitJ A) : Calls Try.prog 6 #[.string name, .string s, v3, v4] w fun e w' => e = .returned (.bool true) ∧ Below w.heap.size w w' := by
  obtain ⟨K, hK⟩ : ∃ K, min s.size 500 = K := ⟨_, rfl⟩
  have hk1 : (min (s.size : Int) 500) = (K : Int) := by omega
  have hk2 : (K : Int) ≤ (s.size : Int) := by omega
  have hk3 : K ≤ s.size := by omega
  obtain ⟨c, hc⟩ : ∃ c, s.extract 0 K = c := ⟨_, rfl⟩
  have hcz : c.size ≤ 500 := by rw [← hc, ByteArray.size_extract]; omega
  obtain ⟨a3, cap3, rfl, hc3, hd3⟩ := h3.parts
  obtain ⟨n3, hn3⟩ : ∃ n, L3.length = n := ⟨_, rfl⟩
  obtain ⟨m3, hm3⟩ : ∃ m, min n3 20 = m := ⟨_, rfl⟩
  have hp3 : (min (n3 : Int) 20) = (m3 : Int) := by omega
  have hz3 : m3 ≤ 20 := by omega
  have j3 := h3.cut m3 (by omega)
  have hl3 : (L3.take m3).length = m3 := by rw [List.length_take]; omega
  rw [hn3, hm3] at hA
  rw [hn3] at hc3 ⊢
  have hq3 : m3 ≤ cap3 := by omega
  have hr3 : (m3 : Int) ≤ (cap3 : Int) := by omega
  rw [hA] at j3 hl3
  have k3 := Lib.hid (fun W (h : Below w.heap.size w W) => j3.below h)
  clear h3 hn3 hm3 hA j3
  obtain ⟨a4, cap4, rfl, hc4, hd4⟩ := h4.parts
  obtain ⟨n4, hn4⟩ : ∃ n, L4.length = n := ⟨_, rfl⟩
  obtain ⟨m4, hm4⟩ : ∃ m, min n4 20 = m := ⟨_, rfl⟩
  have hp4 : (min (n4 : Int) 20) = (m4 : Int) := by omega
  have hz4 : m4 ≤ 20 := by omega
  have j4 := h4.cut m4 (by omega)
  have hl4 : (L4.take m4).length = m4 := by rw [List.length_take]; omega
  rw [hn4, hm4] at hB
  rw [hn4] at hc4 ⊢
  have hq4 : m4 ≤ cap4 := by omega
  have hr4 : (m4 : Int) ≤ (cap4 : Int) := by omega
  rw [hB] at j4 hl4
  have k4 := Lib.hid (fun W (h : Below w.heap.size w W) => j4.below h)
  clear h4 hn4 hm4 hB j4
  have t1 : ((⟨#[47]⟩ : ByteArray)).size = 1 := rfl
  have t3 : ((⟨#[47, 46, 46, 47]⟩ : ByteArray)).size = 4 := rfl
  have hadd1 := fun W => run_string_add_sum (P := Try.prog) (w := W) ⟨#[47]⟩ c (by omega)
  have hadd2 := fun W => run_string_add_sum (P := Try.prog) (w := W) ⟨#[47]⟩ name (by omega)
  have hadd3 := fun W => run_string_add_sum (P := Try.prog) (w := W) (⟨#[47]⟩ ++ name) ⟨#[47, 46, 46, 47]⟩ (by rw [ByteArray.size_append]; omega)
  have hadd4 := fun W => run_string_add_sum (P := Try.prog) (w := W) ((⟨#[47]⟩ ++ name) ++ ⟨#[47, 46, 46, 47]⟩) c (by rw [ByteArray.size_append, ByteArray.size_append]; omega)
  have H1 := fun W => split_any (⟨#[47]⟩ ++ c) W (by rw [ByteArray.size_append]; omega)
  have H2 := fun W => split_any (((⟨#[47]⟩ ++ name) ++ ⟨#[47, 46, 46, 47]⟩) ++ c) W (by rw [ByteArray.size_append, ByteArray.size_append, ByteArray.size_append]; omega)
  have H3 := fun W v (h : Strs W v [name]) => join_any v [name] W h
  have H4 := fun W v (h : Strs W v A) => join_any v A W h
  have H5 := fun W v (h : Strs W v B) => join_any v B W h
  have H6 := fun W v (h : Strs W v (A ++ B)) => join_any v (A ++ B) W h
  have HOWN : Hid (∀ W base v, W.ownsRow base 9 1 v (m3 + m4) (A.map .string ++ B.map .string) → Strs W v (A ++ B)) := fun W base v h => Strs.own (base := base) (by rw [List.length_append, hl3, hl4, List.map_append]; exact h)
  obtain ⟨mm, hmm⟩ : ∃ mm, m3 + m4 = mm := ⟨_, rfl⟩
  have hwm : IntKind.i64.wrap ((m3 : Int) + (m4 : Int)) = (mm : Int) := by rw [IntKind.wrap_i64]; omega
  obtain ⟨X, hX, hmk⟩ := make_strs mm (by omega)
  have HO0 := Lib.hid (fun W => World.ownsRow_made (base := W.heap.size) (e := 9) (size := 1) W X mm (Nat.le_refl _) (by unfold maxLen; omega) hX)
  have e3 : 0 + A.length ≤ 100000 := by omega
  have e4 : m3 + B.length ≤ 100000 := by omega
  unfold SplitPost at H1 H2
  have hD : splitD (((⟨#[47]⟩ ++ name) ++ ⟨#[47, 46, 46, 47]⟩) ++ c) = splitD (⟨#[47]⟩ ++ c) := split_up np hcz
  have hD1 : splitV (((⟨#[47]⟩ ++ name) ++ ⟨#[47, 46, 46, 47]⟩) ++ c) = splitV (⟨#[47]⟩ ++ c) := by unfold splitV; rw [hD]
  have hD2 : splitE (((⟨#[47]⟩ ++ name) ++ ⟨#[47, 46, 46, 47]⟩) ++ c) = splitE (⟨#[47]⟩ ++ c) := by unfold splitE; rw [hD]
  rw [hD1, hD2] at H2
  rw [(join_yes (fit_one np)).1, (join_yes (fit_one np)).2] at H3
  have hnz : (name.size : Int) < 60 := by have := np.2.1; omega
  clear hD hD1 hD2
  obtain ⟨T1, hT1⟩ : ∃ T, (⟨#[47]⟩ : ByteArray) ++ c = T := ⟨_, rfl⟩
  obtain ⟨T2, hT2⟩ : ∃ T, (⟨#[47]⟩ : ByteArray) ++ name = T := ⟨_, rfl⟩
  obtain ⟨T3, hT3⟩ : ∃ T, T2 ++ (⟨#[47, 46, 46, 47]⟩ : ByteArray) = T := ⟨_, rfl⟩
  obtain ⟨T4, hT4⟩ : ∃ T, T3 ++ c = T := ⟨_, rfl⟩
  simp only [hT1, hT2, hT3, hT4] at hadd1 hadd2 hadd3 hadd4 H1 H2
  generalize splitV T1 = V at *
  generalize splitE T1 = E at *
  have hEE : (E != E) = false := bne_self_eq_false E
  generalize outJ [name] = nj at *
  rw [(join_no f1).1, (join_no f1).2] at H4
  generalize joinV (A ++ B) = rv at *
  generalize joinE (A ++ B) = re at *
  have HL3 := Lib.hid hl3
  have HL4 := Lib.hid hl4
  have HMM := Lib.hid hmm
  have I1 := Lib.hid H1
  have I2 := Lib.hid H2
  have I3 := Lib.hid H3
  have I4 := Lib.hid H4
  have I5 := Lib.hid H5
  have I6 := Lib.hid H6
  clear H1 H2 H3 H4 H5 H6 hl3 hl4 hmm np f1  hT1 hT2 hT3 hT4 t1 t3 hcz z0 z1 hK
  obtain ⟨W0, rfl⟩ : ∃ W0 : World, W0 = w := ⟨_, rfl⟩
  go_enter Try.func6, Try.ntmps6
  go_wp2_with (first
    | (go_at_call 8; (with_reducible refine Calls.mono (shown_any _) ?_); rintro e w1 ⟨rfl, hB1⟩; have HB1 := Lib.hid hB1; clear hB1)
    | (go_at_call 9; (with_reducible refine Calls.mono (I1.out _) ?_); rintro e w2 ⟨v1, rfl, hv1, hB2⟩; have HV1 := Lib.hid hv1; have HB2 := Lib.hid (below_th HB1.out hB2); clear hB2 hv1)
    | (go_at_call 9; (with_reducible refine Calls.mono (I2.out _) ?_); rintro e w3 ⟨v2, rfl, hv2, hB3⟩; have HV2 := Lib.hid hv2; have HV13 := Lib.hid (HV1.out.below hB3); have HB3 := Lib.hid (below_al (below_th HB2.out hB3) (.cells #[.string name] 9)); have HS1 := Lib.hid (Strs.one (World.alloc_heap_new w3 (.cells #[.string name] 9))); have HV2b := Lib.hid (hv2.below (below_new w3 (.cells #[.string name] 9))); have HV13b := Lib.hid (HV13.out.below (below_new w3 (.cells #[.string name] 9))); clear hB3 hv2)
    | (go_at_call 11; (with_reducible refine Calls.mono (I3.out _ _ HS1.out) ?_); rintro e w4 ⟨rfl, hB4⟩; have HV24 := Lib.hid (HV2b.out.below hB4); have HV14 := Lib.hid (HV13b.out.below hB4); have HB4 := Lib.hid (below_th HB3.out hB4); clear hB4)
    | (go_at_call 13; (with_reducible refine Calls.mono (R.same_any _ _ V V _ HV14.out HV24.out) ?_); rintro e w5 ⟨rfl, hB5⟩; have HB5 := Lib.hid (below_th HB4.out hB5); have hdd : decide (V = V) = true := decide_eq_true rfl; clear hB5)
    | (go_at_call 11; (with_reducible refine Calls.mono (I4.out _ _ (k3.out _ HB5.out)) ?_); rintro e w6 ⟨rfl, hB6⟩; have HB6 := Lib.hid (below_th HB5.out hB6); clear hB6)
    | (go_at_call 11; (with_reducible refine Calls.mono (I5.out _ _ (k4.out _ HB6.out)) ?_); rintro e w7 ⟨rfl, hB7⟩; have HB7 := Lib.hid (below_th HB6.out hB7); have HB7a := Lib.hid (below_al HB7.out (.cells X 9)); clear hB7)
    | (at_builtin; (refine wpList_append_strs rfl (.tmp 93) (.tmp 94) rfl rfl w7.heap.size (.slice (some ⟨w7.heap.size, 0, none⟩) 0 mm) 0 [] rfl (HO0.out w7) _ A rfl (k3.out _ HB7a.out) e3 (by simp) ?_); intro va w8 hown8 hgrow8; rw [Nat.zero_add, List.nil_append, HL3.out] at hown8; have HO8 := Lib.hid hown8; have HB8 := Lib.hid (HB7a.out.grown hgrow8 HB7a.out.size (fun r e => by simp [Value.ownBlock] at e; exact e ▸ HB7.out.size)); have HZ8 := Lib.hid (show w7.heap.size ≤ w8.heap.size by have := hgrow8.size; simp at this; omega); clear hown8 hgrow8)
    | (at_builtin; (refine wpList_append_strs rfl (.tmp 95) (.tmp 96) rfl rfl w7.heap.size _ m3 (A.map .string) rfl HO8.out _ B rfl (k4.out _ HB8.out) e4 HZ8.out ?_); intro vb w9 hown9 hgrow9; rw [HL4.out] at hown9; have HS9 := Lib.hid (HOWN.out _ _ _ hown9); have HB9 := Lib.hid (HB8.out.grown hgrow9 HB8.out.size (fun r e => Nat.le_trans HB7.out.size (HO8.out.lt r e).1)); clear hown9 hgrow9)
    | (go_at_call 11; (with_reducible refine Calls.mono (I6.out _ _ HS9.out) ?_); rintro e w10 ⟨rfl, hB10⟩; have HS10 := Lib.hid (HS9.out.below hB10); have HB10 := Lib.hid (below_th HB9.out hB10); clear hB10))
  go_ret
  exact ⟨rfl, HB10.out⟩
theorem ups_y2 (v3 v4 : Value) (L3 L4 : List ByteArray) (name s : ByteArray) (w : World) (h3 : Strs w v3 L3) (h4 : Strs w v4 L4) (z0 : name.size ≤ 140737488351232) (z1 : s.size ≤ 140737488351232) (A B : List ByteArray) (hA : L3.take (min L3.length 20) = A) (hB : L4.take (min L4.length 20) = B) (np : nameP name) (f1 : fitJ A) (f2 : ¬ fitJ B) : Calls Try.prog 6 #[.string name, .string s, v3, v4] w fun e w' => e = .returned (.bool true) ∧ Below w.heap.size w w' := by
  obtain ⟨K, hK⟩ : ∃ K, min s.size 500 = K := ⟨_, rfl⟩
  have hk1 : (min (s.size : Int) 500) = (K : Int) := by omega
  have hk2 : (K : Int) ≤ (s.size : Int) := by omega
  have hk3 : K ≤ s.size := by omega
  obtain ⟨c, hc⟩ : ∃ c, s.extract 0 K = c := ⟨_, rfl⟩
  have hcz : c.size ≤ 500 := by rw [← hc, ByteArray.size_extract]; omega
  obtain ⟨a3, cap3, rfl, hc3, hd3⟩ := h3.parts
  obtain ⟨n3, hn3⟩ : ∃ n, L3.length = n := ⟨_, rfl⟩
  obtain ⟨m3, hm3⟩ : ∃ m, min n3 20 = m := ⟨_, rfl⟩
  have hp3 : (min (n3 : Int) 20) = (m3 : Int) := by omega
  have hz3 : m3 ≤ 20 := by omega
  have j3 := h3.cut m3 (by omega)
  have hl3 : (L3.take m3).length = m3 := by rw [List.length_take]; omega
  rw [hn3, hm3] at hA
  rw [hn3] at hc3 ⊢
  have hq3 : m3 ≤ cap3 := by omega
  have hr3 : (m3 : Int) ≤ (cap3 : Int) := by omega
  rw [hA] at j3 hl3
  have k3 := Lib.hid (fun W (h : Below w.heap.size w W) => j3.below h)
  clear h3 hn3 hm3 hA j3
  obtain ⟨a4, cap4, rfl, hc4, hd4⟩ := h4.parts
  obtain ⟨n4, hn4⟩ : ∃ n, L4.length = n := ⟨_, rfl⟩
  obtain ⟨m4, hm4⟩ : ∃ m, min n4 20 = m := ⟨_, rfl⟩
  have hp4 : (min (n4 : Int) 20) = (m4 : Int) := by omega
  have hz4 : m4 ≤ 20 := by omega
  have j4 := h4.cut m4 (by omega)
  have hl4 : (L4.take m4).length = m4 := by rw [List.length_take]; omega
  rw [hn4, hm4] at hB
  rw [hn4] at hc4 ⊢
  have hq4 : m4 ≤ cap4 := by omega
  have hr4 : (m4 : Int) ≤ (cap4 : Int) := by omega
  rw [hB] at j4 hl4
  have k4 := Lib.hid (fun W (h : Below w.heap.size w W) => j4.below h)
  clear h4 hn4 hm4 hB j4
  have t1 : ((⟨#[47]⟩ : ByteArray)).size = 1 := rfl
  have t3 : ((⟨#[47, 46, 46, 47]⟩ : ByteArray)).size = 4 := rfl
  have hadd1 := fun W => run_string_add_sum (P := Try.prog) (w := W) ⟨#[47]⟩ c (by omega)
  have hadd2 := fun W => run_string_add_sum (P := Try.prog) (w := W) ⟨#[47]⟩ name (by omega)
  have hadd3 := fun W => run_string_add_sum (P := Try.prog) (w := W) (⟨#[47]⟩ ++ name) ⟨#[47, 46, 46, 47]⟩ (by rw [ByteArray.size_append]; omega)
  have hadd4 := fun W => run_string_add_sum (P := Try.prog) (w := W) ((⟨#[47]⟩ ++ name) ++ ⟨#[47, 46, 46, 47]⟩) c (by rw [ByteArray.size_append, ByteArray.size_append]; omega)
  have H1 := fun W => split_any (⟨#[47]⟩ ++ c) W (by rw [ByteArray.size_append]; omega)
  have H2 := fun W => split_any (((⟨#[47]⟩ ++ name) ++ ⟨#[47, 46, 46, 47]⟩) ++ c) W (by rw [ByteArray.size_append, ByteArray.size_append, ByteArray.size_append]; omega)
  have H3 := fun W v (h : Strs W v [name]) => join_any v [name] W h
  have H4 := fun W v (h : Strs W v A) => join_any v A W h
  have H5 := fun W v (h : Strs W v B) => join_any v B W h
  have H6 := fun W v (h : Strs W v (A ++ B)) => join_any v (A ++ B) W h
  have HOWN : Hid (∀ W base v, W.ownsRow base 9 1 v (m3 + m4) (A.map .string ++ B.map .string) → Strs W v (A ++ B)) := fun W base v h => Strs.own (base := base) (by rw [List.length_append, hl3, hl4, List.map_append]; exact h)
  obtain ⟨mm, hmm⟩ : ∃ mm, m3 + m4 = mm := ⟨_, rfl⟩
  have hwm : IntKind.i64.wrap ((m3 : Int) + (m4 : Int)) = (mm : Int) := by rw [IntKind.wrap_i64]; omega
  obtain ⟨X, hX, hmk⟩ := make_strs mm (by omega)
  have HO0 := Lib.hid (fun W => World.ownsRow_made (base := W.heap.size) (e := 9) (size := 1) W X mm (Nat.le_refl _) (by unfold maxLen; omega) hX)
  have e3 : 0 + A.length ≤ 100000 := by omega
  have e4 : m3 + B.length ≤ 100000 := by omega
  unfold SplitPost at H1 H2
  have hD : splitD (((⟨#[47]⟩ ++ name) ++ ⟨#[47, 46, 46, 47]⟩) ++ c) = splitD (⟨#[47]⟩ ++ c) := split_up np hcz
  have hD1 : splitV (((⟨#[47]⟩ ++ name) ++ ⟨#[47, 46, 46, 47]⟩) ++ c) = splitV (⟨#[47]⟩ ++ c) := by unfold splitV; rw [hD]
  have hD2 : splitE (((⟨#[47]⟩ ++ name) ++ ⟨#[47, 46, 46, 47]⟩) ++ c) = splitE (⟨#[47]⟩ ++ c) := by unfold splitE; rw [hD]
  rw [hD1, hD2] at H2
  rw [(join_yes (fit_one np)).1, (join_yes (fit_one np)).2] at H3
  have hnz : (name.size : Int) < 60 := by have := np.2.1; omega
  clear hD hD1 hD2
  obtain ⟨T1, hT1⟩ : ∃ T, (⟨#[47]⟩ : ByteArray) ++ c = T := ⟨_, rfl⟩
  obtain ⟨T2, hT2⟩ : ∃ T, (⟨#[47]⟩ : ByteArray) ++ name = T := ⟨_, rfl⟩
  obtain ⟨T3, hT3⟩ : ∃ T, T2 ++ (⟨#[47, 46, 46, 47]⟩ : ByteArray) = T := ⟨_, rfl⟩
  obtain ⟨T4, hT4⟩ : ∃ T, T3 ++ c = T := ⟨_, rfl⟩
  simp only [hT1, hT2, hT3, hT4] at hadd1 hadd2 hadd3 hadd4 H1 H2
  generalize splitV T1 = V at *
  generalize splitE T1 = E at *
  have hEE : (E != E) = false := bne_self_eq_false E
  generalize outJ [name] = nj at *
  rw [(join_yes f1).1, (join_yes f1).2] at H4
  rw [(join_no f2).1, (join_no f2).2] at H5
  generalize joinV (A ++ B) = rv at *
  generalize joinE (A ++ B) = re at *
  generalize outJ A = p at *
  have HL3 := Lib.hid hl3
  have HL4 := Lib.hid hl4
  have HMM := Lib.hid hmm
  have I1 := Lib.hid H1
  have I2 := Lib.hid H2
  have I3 := Lib.hid H3
  have I4 := Lib.hid H4
  have I5 := Lib.hid H5
  have I6 := Lib.hid H6
  clear H1 H2 H3 H4 H5 H6 hl3 hl4 hmm np f1 f2  hT1 hT2 hT3 hT4 t1 t3 hcz z0 z1 hK
  obtain ⟨W0, rfl⟩ : ∃ W0 : World, W0 = w := ⟨_, rfl⟩
  go_enter Try.func6, Try.ntmps6
  go_wp2_with (first
    | (go_at_call 8; (with_reducible refine Calls.mono (shown_any _) ?_); rintro e w1 ⟨rfl, hB1⟩; have HB1 := Lib.hid hB1; clear hB1)
    | (go_at_call 9; (with_reducible refine Calls.mono (I1.out _) ?_); rintro e w2 ⟨v1, rfl, hv1, hB2⟩; have HV1 := Lib.hid hv1; have HB2 := Lib.hid (below_th HB1.out hB2); clear hB2 hv1)
    | (go_at_call 9; (with_reducible refine Calls.mono (I2.out _) ?_); rintro e w3 ⟨v2, rfl, hv2, hB3⟩; have HV2 := Lib.hid hv2; have HV13 := Lib.hid (HV1.out.below hB3); have HB3 := Lib.hid (below_al (below_th HB2.out hB3) (.cells #[.string name] 9)); have HS1 := Lib.hid (Strs.one (World.alloc_heap_new w3 (.cells #[.string name] 9))); have HV2b := Lib.hid (hv2.below (below_new w3 (.cells #[.string name] 9))); have HV13b := Lib.hid (HV13.out.below (below_new w3 (.cells #[.string name] 9))); clear hB3 hv2)
    | (go_at_call 11; (with_reducible refine Calls.mono (I3.out _ _ HS1.out) ?_); rintro e w4 ⟨rfl, hB4⟩; have HV24 := Lib.hid (HV2b.out.below hB4); have HV14 := Lib.hid (HV13b.out.below hB4); have HB4 := Lib.hid (below_th HB3.out hB4); clear hB4)
    | (go_at_call 13; (with_reducible refine Calls.mono (R.same_any _ _ V V _ HV14.out HV24.out) ?_); rintro e w5 ⟨rfl, hB5⟩; have HB5 := Lib.hid (below_th HB4.out hB5); have hdd : decide (V = V) = true := decide_eq_true rfl; clear hB5)
    | (go_at_call 11; (with_reducible refine Calls.mono (I4.out _ _ (k3.out _ HB5.out)) ?_); rintro e w6 ⟨rfl, hB6⟩; have HB6 := Lib.hid (below_th HB5.out hB6); clear hB6)
    | (go_at_call 11; (with_reducible refine Calls.mono (I5.out _ _ (k4.out _ HB6.out)) ?_); rintro e w7 ⟨rfl, hB7⟩; have HB7 := Lib.hid (below_th HB6.out hB7); have HB7a := Lib.hid (below_al HB7.out (.cells X 9)); clear hB7)
    | (at_builtin; (refine wpList_append_strs rfl (.tmp 93) (.tmp 94) rfl rfl w7.heap.size (.slice (some ⟨w7.heap.size, 0, none⟩) 0 mm) 0 [] rfl (HO0.out w7) _ A rfl (k3.out _ HB7a.out) e3 (by simp) ?_); intro va w8 hown8 hgrow8; rw [Nat.zero_add, List.nil_append, HL3.out] at hown8; have HO8 := Lib.hid hown8; have HB8 := Lib.hid (HB7a.out.grown hgrow8 HB7a.out.size (fun r e => by simp [Value.ownBlock] at e; exact e ▸ HB7.out.size)); have HZ8 := Lib.hid (show w7.heap.size ≤ w8.heap.size by have := hgrow8.size; simp at this; omega); clear hown8 hgrow8)
    | (at_builtin; (refine wpList_append_strs rfl (.tmp 95) (.tmp 96) rfl rfl w7.heap.size _ m3 (A.map .string) rfl HO8.out _ B rfl (k4.out _ HB8.out) e4 HZ8.out ?_); intro vb w9 hown9 hgrow9; rw [HL4.out] at hown9; have HS9 := Lib.hid (HOWN.out _ _ _ hown9); have HB9 := Lib.hid (HB8.out.grown hgrow9 HB8.out.size (fun r e => Nat.le_trans HB7.out.size (HO8.out.lt r e).1)); clear hown9 hgrow9)
    | (go_at_call 11; (with_reducible refine Calls.mono (I6.out _ _ HS9.out) ?_); rintro e w10 ⟨rfl, hB10⟩; have HS10 := Lib.hid (HS9.out.below hB10); have HB10 := Lib.hid (below_th HB9.out hB10); clear hB10))
  go_ret
  exact ⟨rfl, HB10.out⟩
theorem ups_y3 (v3 v4 : Value) (L3 L4 : List ByteArray) (name s : ByteArray) (w : World) (h3 : Strs w v3 L3) (h4 : Strs w v4 L4) (z0 : name.size ≤ 140737488351232) (z1 : s.size ≤ 140737488351232) (A B : List ByteArray) (hA : L3.take (min L3.length 20) = A) (hB : L4.take (min L4.length 20) = B) (np : nameP name) (f1 : fitJ A) (f2 : fitJ B) (f3 : A = []) : Calls Try.prog 6 #[.string name, .string s, v3, v4] w fun e w' => e = .returned (.bool true) ∧ Below w.heap.size w w' := by
  obtain ⟨K, hK⟩ : ∃ K, min s.size 500 = K := ⟨_, rfl⟩
  have hk1 : (min (s.size : Int) 500) = (K : Int) := by omega
  have hk2 : (K : Int) ≤ (s.size : Int) := by omega
  have hk3 : K ≤ s.size := by omega
  obtain ⟨c, hc⟩ : ∃ c, s.extract 0 K = c := ⟨_, rfl⟩
  have hcz : c.size ≤ 500 := by rw [← hc, ByteArray.size_extract]; omega
  obtain ⟨a3, cap3, rfl, hc3, hd3⟩ := h3.parts
  obtain ⟨n3, hn3⟩ : ∃ n, L3.length = n := ⟨_, rfl⟩
  obtain ⟨m3, hm3⟩ : ∃ m, min n3 20 = m := ⟨_, rfl⟩
  have hp3 : (min (n3 : Int) 20) = (m3 : Int) := by omega
  have hz3 : m3 ≤ 20 := by omega
  have j3 := h3.cut m3 (by omega)
  have hl3 : (L3.take m3).length = m3 := by rw [List.length_take]; omega
  rw [hn3, hm3] at hA
  rw [hn3] at hc3 ⊢
  have hq3 : m3 ≤ cap3 := by omega
  have hr3 : (m3 : Int) ≤ (cap3 : Int) := by omega
  rw [hA] at j3 hl3
  have k3 := Lib.hid (fun W (h : Below w.heap.size w W) => j3.below h)
  clear h3 hn3 hm3 hA j3
  obtain ⟨a4, cap4, rfl, hc4, hd4⟩ := h4.parts
  obtain ⟨n4, hn4⟩ : ∃ n, L4.length = n := ⟨_, rfl⟩
  obtain ⟨m4, hm4⟩ : ∃ m, min n4 20 = m := ⟨_, rfl⟩
  have hp4 : (min (n4 : Int) 20) = (m4 : Int) := by omega
  have hz4 : m4 ≤ 20 := by omega
  have j4 := h4.cut m4 (by omega)
  have hl4 : (L4.take m4).length = m4 := by rw [List.length_take]; omega
  rw [hn4, hm4] at hB
  rw [hn4] at hc4 ⊢
  have hq4 : m4 ≤ cap4 := by omega
  have hr4 : (m4 : Int) ≤ (cap4 : Int) := by omega
  rw [hB] at j4 hl4
  have k4 := Lib.hid (fun W (h : Below w.heap.size w W) => j4.below h)
  clear h4 hn4 hm4 hB j4
  have t1 : ((⟨#[47]⟩ : ByteArray)).size = 1 := rfl
  have t3 : ((⟨#[47, 46, 46, 47]⟩ : ByteArray)).size = 4 := rfl
  have hadd1 := fun W => run_string_add_sum (P := Try.prog) (w := W) ⟨#[47]⟩ c (by omega)
  have hadd2 := fun W => run_string_add_sum (P := Try.prog) (w := W) ⟨#[47]⟩ name (by omega)
  have hadd3 := fun W => run_string_add_sum (P := Try.prog) (w := W) (⟨#[47]⟩ ++ name) ⟨#[47, 46, 46, 47]⟩ (by rw [ByteArray.size_append]; omega)
  have hadd4 := fun W => run_string_add_sum (P := Try.prog) (w := W) ((⟨#[47]⟩ ++ name) ++ ⟨#[47, 46, 46, 47]⟩) c (by rw [ByteArray.size_append, ByteArray.size_append]; omega)
  have H1 := fun W => split_any (⟨#[47]⟩ ++ c) W (by rw [ByteArray.size_append]; omega)
  have H2 := fun W => split_any (((⟨#[47]⟩ ++ name) ++ ⟨#[47, 46, 46, 47]⟩) ++ c) W (by rw [ByteArray.size_append, ByteArray.size_append, ByteArray.size_append]; omega)
  have H3 := fun W v (h : Strs W v [name]) => join_any v [name] W h
  have H4 := fun W v (h : Strs W v A) => join_any v A W h
  have H5 := fun W v (h : Strs W v B) => join_any v B W h
  have H6 := fun W v (h : Strs W v (A ++ B)) => join_any v (A ++ B) W h
  have HOWN : Hid (∀ W base v, W.ownsRow base 9 1 v (m3 + m4) (A.map .string ++ B.map .string) → Strs W v (A ++ B)) := fun W base v h => Strs.own (base := base) (by rw [List.length_append, hl3, hl4, List.map_append]; exact h)
  obtain ⟨mm, hmm⟩ : ∃ mm, m3 + m4 = mm := ⟨_, rfl⟩
  have hwm : IntKind.i64.wrap ((m3 : Int) + (m4 : Int)) = (mm : Int) := by rw [IntKind.wrap_i64]; omega
  obtain ⟨X, hX, hmk⟩ := make_strs mm (by omega)
  have HO0 := Lib.hid (fun W => World.ownsRow_made (base := W.heap.size) (e := 9) (size := 1) W X mm (Nat.le_refl _) (by unfold maxLen; omega) hX)
  have e3 : 0 + A.length ≤ 100000 := by omega
  have e4 : m3 + B.length ≤ 100000 := by omega
  unfold SplitPost at H1 H2
  have hD : splitD (((⟨#[47]⟩ ++ name) ++ ⟨#[47, 46, 46, 47]⟩) ++ c) = splitD (⟨#[47]⟩ ++ c) := split_up np hcz
  have hD1 : splitV (((⟨#[47]⟩ ++ name) ++ ⟨#[47, 46, 46, 47]⟩) ++ c) = splitV (⟨#[47]⟩ ++ c) := by unfold splitV; rw [hD]
  have hD2 : splitE (((⟨#[47]⟩ ++ name) ++ ⟨#[47, 46, 46, 47]⟩) ++ c) = splitE (⟨#[47]⟩ ++ c) := by unfold splitE; rw [hD]
  rw [hD1, hD2] at H2
  rw [(join_yes (fit_one np)).1, (join_yes (fit_one np)).2] at H3
  have hnz : (name.size : Int) < 60 := by have := np.2.1; omega
  clear hD hD1 hD2
  obtain ⟨T1, hT1⟩ : ∃ T, (⟨#[47]⟩ : ByteArray) ++ c = T := ⟨_, rfl⟩
  obtain ⟨T2, hT2⟩ : ∃ T, (⟨#[47]⟩ : ByteArray) ++ name = T := ⟨_, rfl⟩
  obtain ⟨T3, hT3⟩ : ∃ T, T2 ++ (⟨#[47, 46, 46, 47]⟩ : ByteArray) = T := ⟨_, rfl⟩
  obtain ⟨T4, hT4⟩ : ∃ T, T3 ++ c = T := ⟨_, rfl⟩
  simp only [hT1, hT2, hT3, hT4] at hadd1 hadd2 hadd3 hadd4 H1 H2
  generalize splitV T1 = V at *
  generalize splitE T1 = E at *
  have hEE : (E != E) = false := bne_self_eq_false E
  generalize outJ [name] = nj at *
  rw [(join_yes f1).1, (join_yes f1).2] at H4
  rw [(join_yes f2).1, (join_yes f2).2] at H5
  have s1 := fit_size f1
  have s2 := fit_size f2
  have q3 : ((m3 : Int) == 0) = true := by rw [← hl3, f3]; rfl
  generalize joinV (A ++ B) = rv at *
  generalize joinE (A ++ B) = re at *
  generalize outJ A = p at *
  generalize outJ B = q at *
  have HL3 := Lib.hid hl3
  have HL4 := Lib.hid hl4
  have HMM := Lib.hid hmm
  have I1 := Lib.hid H1
  have I2 := Lib.hid H2
  have I3 := Lib.hid H3
  have I4 := Lib.hid H4
  have I5 := Lib.hid H5
  have I6 := Lib.hid H6
  clear H1 H2 H3 H4 H5 H6 hl3 hl4 hmm np f1 f2 f3 s1 s2 hT1 hT2 hT3 hT4 t1 t3 hcz z0 z1 hK
  obtain ⟨W0, rfl⟩ : ∃ W0 : World, W0 = w := ⟨_, rfl⟩
  go_enter Try.func6, Try.ntmps6
  go_wp2_with (first
    | (go_at_call 8; (with_reducible refine Calls.mono (shown_any _) ?_); rintro e w1 ⟨rfl, hB1⟩; have HB1 := Lib.hid hB1; clear hB1)
    | (go_at_call 9; (with_reducible refine Calls.mono (I1.out _) ?_); rintro e w2 ⟨v1, rfl, hv1, hB2⟩; have HV1 := Lib.hid hv1; have HB2 := Lib.hid (below_th HB1.out hB2); clear hB2 hv1)
    | (go_at_call 9; (with_reducible refine Calls.mono (I2.out _) ?_); rintro e w3 ⟨v2, rfl, hv2, hB3⟩; have HV2 := Lib.hid hv2; have HV13 := Lib.hid (HV1.out.below hB3); have HB3 := Lib.hid (below_al (below_th HB2.out hB3) (.cells #[.string name] 9)); have HS1 := Lib.hid (Strs.one (World.alloc_heap_new w3 (.cells #[.string name] 9))); have HV2b := Lib.hid (hv2.below (below_new w3 (.cells #[.string name] 9))); have HV13b := Lib.hid (HV13.out.below (below_new w3 (.cells #[.string name] 9))); clear hB3 hv2)
    | (go_at_call 11; (with_reducible refine Calls.mono (I3.out _ _ HS1.out) ?_); rintro e w4 ⟨rfl, hB4⟩; have HV24 := Lib.hid (HV2b.out.below hB4); have HV14 := Lib.hid (HV13b.out.below hB4); have HB4 := Lib.hid (below_th HB3.out hB4); clear hB4)
    | (go_at_call 13; (with_reducible refine Calls.mono (R.same_any _ _ V V _ HV14.out HV24.out) ?_); rintro e w5 ⟨rfl, hB5⟩; have HB5 := Lib.hid (below_th HB4.out hB5); have hdd : decide (V = V) = true := decide_eq_true rfl; clear hB5)
    | (go_at_call 11; (with_reducible refine Calls.mono (I4.out _ _ (k3.out _ HB5.out)) ?_); rintro e w6 ⟨rfl, hB6⟩; have HB6 := Lib.hid (below_th HB5.out hB6); clear hB6)
    | (go_at_call 11; (with_reducible refine Calls.mono (I5.out _ _ (k4.out _ HB6.out)) ?_); rintro e w7 ⟨rfl, hB7⟩; have HB7 := Lib.hid (below_th HB6.out hB7); have HB7a := Lib.hid (below_al HB7.out (.cells X 9)); clear hB7)
    | (at_builtin; (refine wpList_append_strs rfl (.tmp 93) (.tmp 94) rfl rfl w7.heap.size (.slice (some ⟨w7.heap.size, 0, none⟩) 0 mm) 0 [] rfl (HO0.out w7) _ A rfl (k3.out _ HB7a.out) e3 (by simp) ?_); intro va w8 hown8 hgrow8; rw [Nat.zero_add, List.nil_append, HL3.out] at hown8; have HO8 := Lib.hid hown8; have HB8 := Lib.hid (HB7a.out.grown hgrow8 HB7a.out.size (fun r e => by simp [Value.ownBlock] at e; exact e ▸ HB7.out.size)); have HZ8 := Lib.hid (show w7.heap.size ≤ w8.heap.size by have := hgrow8.size; simp at this; omega); clear hown8 hgrow8)
    | (at_builtin; (refine wpList_append_strs rfl (.tmp 95) (.tmp 96) rfl rfl w7.heap.size _ m3 (A.map .string) rfl HO8.out _ B rfl (k4.out _ HB8.out) e4 HZ8.out ?_); intro vb w9 hown9 hgrow9; rw [HL4.out] at hown9; have HS9 := Lib.hid (HOWN.out _ _ _ hown9); have HB9 := Lib.hid (HB8.out.grown hgrow9 HB8.out.size (fun r e => Nat.le_trans HB7.out.size (HO8.out.lt r e).1)); clear hown9 hgrow9)
    | (go_at_call 11; (with_reducible refine Calls.mono (I6.out _ _ HS9.out) ?_); rintro e w10 ⟨rfl, hB10⟩; have HS10 := Lib.hid (HS9.out.below hB10); have HB10 := Lib.hid (below_th HB9.out hB10); clear hB10))
  go_ret
  exact ⟨rfl, HB10.out⟩
theorem ups_y4 (v3 v4 : Value) (L3 L4 : List ByteArray) (name s : ByteArray) (w : World) (h3 : Strs w v3 L3) (h4 : Strs w v4 L4) (z0 : name.size ≤ 140737488351232) (z1 : s.size ≤ 140737488351232) (A B : List ByteArray) (hA : L3.take (min L3.length 20) = A) (hB : L4.take (min L4.length 20) = B) (np : nameP name) (f1 : fitJ A) (f2 : fitJ B) (f3 : ¬ A = []) (f4 : B = []) : Calls Try.prog 6 #[.string name, .string s, v3, v4] w fun e w' => e = .returned (.bool true) ∧ Below w.heap.size w w' := by
  obtain ⟨K, hK⟩ : ∃ K, min s.size 500 = K := ⟨_, rfl⟩
  have hk1 : (min (s.size : Int) 500) = (K : Int) := by omega
  have hk2 : (K : Int) ≤ (s.size : Int) := by omega
  have hk3 : K ≤ s.size := by omega
  obtain ⟨c, hc⟩ : ∃ c, s.extract 0 K = c := ⟨_, rfl⟩
  have hcz : c.size ≤ 500 := by rw [← hc, ByteArray.size_extract]; omega
  obtain ⟨a3, cap3, rfl, hc3, hd3⟩ := h3.parts
  obtain ⟨n3, hn3⟩ : ∃ n, L3.length = n := ⟨_, rfl⟩
  obtain ⟨m3, hm3⟩ : ∃ m, min n3 20 = m := ⟨_, rfl⟩
  have hp3 : (min (n3 : Int) 20) = (m3 : Int) := by omega
  have hz3 : m3 ≤ 20 := by omega
  have j3 := h3.cut m3 (by omega)
  have hl3 : (L3.take m3).length = m3 := by rw [List.length_take]; omega
  rw [hn3, hm3] at hA
  rw [hn3] at hc3 ⊢
  have hq3 : m3 ≤ cap3 := by omega
  have hr3 : (m3 : Int) ≤ (cap3 : Int) := by omega
  rw [hA] at j3 hl3
  have k3 := Lib.hid (fun W (h : Below w.heap.size w W) => j3.below h)
  clear h3 hn3 hm3 hA j3
  obtain ⟨a4, cap4, rfl, hc4, hd4⟩ := h4.parts
  obtain ⟨n4, hn4⟩ : ∃ n, L4.length = n := ⟨_, rfl⟩
  obtain ⟨m4, hm4⟩ : ∃ m, min n4 20 = m := ⟨_, rfl⟩
  have hp4 : (min (n4 : Int) 20) = (m4 : Int) := by omega
  have hz4 : m4 ≤ 20 := by omega
  have j4 := h4.cut m4 (by omega)
  have hl4 : (L4.take m4).length = m4 := by rw [List.length_take]; omega
  rw [hn4, hm4] at hB
  rw [hn4] at hc4 ⊢
  have hq4 : m4 ≤ cap4 := by omega
  have hr4 : (m4 : Int) ≤ (cap4 : Int) := by omega
  rw [hB] at j4 hl4
  have k4 := Lib.hid (fun W (h : Below w.heap.size w W) => j4.below h)
  clear h4 hn4 hm4 hB j4
  have t1 : ((⟨#[47]⟩ : ByteArray)).size = 1 := rfl
  have t3 : ((⟨#[47, 46, 46, 47]⟩ : ByteArray)).size = 4 := rfl
  have hadd1 := fun W => run_string_add_sum (P := Try.prog) (w := W) ⟨#[47]⟩ c (by omega)
  have hadd2 := fun W => run_string_add_sum (P := Try.prog) (w := W) ⟨#[47]⟩ name (by omega)
  have hadd3 := fun W => run_string_add_sum (P := Try.prog) (w := W) (⟨#[47]⟩ ++ name) ⟨#[47, 46, 46, 47]⟩ (by rw [ByteArray.size_append]; omega)
  have hadd4 := fun W => run_string_add_sum (P := Try.prog) (w := W) ((⟨#[47]⟩ ++ name) ++ ⟨#[47, 46, 46, 47]⟩) c (by rw [ByteArray.size_append, ByteArray.size_append]; omega)
  have H1 := fun W => split_any (⟨#[47]⟩ ++ c) W (by rw [ByteArray.size_append]; omega)
  have H2 := fun W => split_any (((⟨#[47]⟩ ++ name) ++ ⟨#[47, 46, 46, 47]⟩) ++ c) W (by rw [ByteArray.size_append, ByteArray.size_append, ByteArray.size_append]; omega)
  have H3 := fun W v (h : Strs W v [name]) => join_any v [name] W h
  have H4 := fun W v (h : Strs W v A) => join_any v A W h
  have H5 := fun W v (h : Strs W v B) => join_any v B W h
  have H6 := fun W v (h : Strs W v (A ++ B)) => join_any v (A ++ B) W h
  have HOWN : Hid (∀ W base v, W.ownsRow base 9 1 v (m3 + m4) (A.map .string ++ B.map .string) → Strs W v (A ++ B)) := fun W base v h => Strs.own (base := base) (by rw [List.length_append, hl3, hl4, List.map_append]; exact h)
  obtain ⟨mm, hmm⟩ : ∃ mm, m3 + m4 = mm := ⟨_, rfl⟩
  have hwm : IntKind.i64.wrap ((m3 : Int) + (m4 : Int)) = (mm : Int) := by rw [IntKind.wrap_i64]; omega
  obtain ⟨X, hX, hmk⟩ := make_strs mm (by omega)
  have HO0 := Lib.hid (fun W => World.ownsRow_made (base := W.heap.size) (e := 9) (size := 1) W X mm (Nat.le_refl _) (by unfold maxLen; omega) hX)
  have e3 : 0 + A.length ≤ 100000 := by omega
  have e4 : m3 + B.length ≤ 100000 := by omega
  unfold SplitPost at H1 H2
  have hD : splitD (((⟨#[47]⟩ ++ name) ++ ⟨#[47, 46, 46, 47]⟩) ++ c) = splitD (⟨#[47]⟩ ++ c) := split_up np hcz
  have hD1 : splitV (((⟨#[47]⟩ ++ name) ++ ⟨#[47, 46, 46, 47]⟩) ++ c) = splitV (⟨#[47]⟩ ++ c) := by unfold splitV; rw [hD]
  have hD2 : splitE (((⟨#[47]⟩ ++ name) ++ ⟨#[47, 46, 46, 47]⟩) ++ c) = splitE (⟨#[47]⟩ ++ c) := by unfold splitE; rw [hD]
  rw [hD1, hD2] at H2
  rw [(join_yes (fit_one np)).1, (join_yes (fit_one np)).2] at H3
  have hnz : (name.size : Int) < 60 := by have := np.2.1; omega
  clear hD hD1 hD2
  obtain ⟨T1, hT1⟩ : ∃ T, (⟨#[47]⟩ : ByteArray) ++ c = T := ⟨_, rfl⟩
  obtain ⟨T2, hT2⟩ : ∃ T, (⟨#[47]⟩ : ByteArray) ++ name = T := ⟨_, rfl⟩
  obtain ⟨T3, hT3⟩ : ∃ T, T2 ++ (⟨#[47, 46, 46, 47]⟩ : ByteArray) = T := ⟨_, rfl⟩
  obtain ⟨T4, hT4⟩ : ∃ T, T3 ++ c = T := ⟨_, rfl⟩
  simp only [hT1, hT2, hT3, hT4] at hadd1 hadd2 hadd3 hadd4 H1 H2
  generalize splitV T1 = V at *
  generalize splitE T1 = E at *
  have hEE : (E != E) = false := bne_self_eq_false E
  generalize outJ [name] = nj at *
  rw [(join_yes f1).1, (join_yes f1).2] at H4
  rw [(join_yes f2).1, (join_yes f2).2] at H5
  have s1 := fit_size f1
  have s2 := fit_size f2
  have q3 : ((m3 : Int) == 0) = false := beq_eq_false_iff_ne.2 (fun h => f3 (List.eq_nil_of_length_eq_zero (by omega)))
  have q4 : ((m4 : Int) == 0) = true := by rw [← hl4, f4]; rfl
  generalize joinV (A ++ B) = rv at *
  generalize joinE (A ++ B) = re at *
  generalize outJ A = p at *
  generalize outJ B = q at *
  have HL3 := Lib.hid hl3
  have HL4 := Lib.hid hl4
  have HMM := Lib.hid hmm
  have I1 := Lib.hid H1
  have I2 := Lib.hid H2
  have I3 := Lib.hid H3
  have I4 := Lib.hid H4
  have I5 := Lib.hid H5
  have I6 := Lib.hid H6
  clear H1 H2 H3 H4 H5 H6 hl3 hl4 hmm np f1 f2 f3 f4 s1 s2 hT1 hT2 hT3 hT4 t1 t3 hcz z0 z1 hK
  obtain ⟨W0, rfl⟩ : ∃ W0 : World, W0 = w := ⟨_, rfl⟩
  go_enter Try.func6, Try.ntmps6
  go_wp2_with (first
    | (go_at_call 8; (with_reducible refine Calls.mono (shown_any _) ?_); rintro e w1 ⟨rfl, hB1⟩; have HB1 := Lib.hid hB1; clear hB1)
    | (go_at_call 9; (with_reducible refine Calls.mono (I1.out _) ?_); rintro e w2 ⟨v1, rfl, hv1, hB2⟩; have HV1 := Lib.hid hv1; have HB2 := Lib.hid (below_th HB1.out hB2); clear hB2 hv1)
    | (go_at_call 9; (with_reducible refine Calls.mono (I2.out _) ?_); rintro e w3 ⟨v2, rfl, hv2, hB3⟩; have HV2 := Lib.hid hv2; have HV13 := Lib.hid (HV1.out.below hB3); have HB3 := Lib.hid (below_al (below_th HB2.out hB3) (.cells #[.string name] 9)); have HS1 := Lib.hid (Strs.one (World.alloc_heap_new w3 (.cells #[.string name] 9))); have HV2b := Lib.hid (hv2.below (below_new w3 (.cells #[.string name] 9))); have HV13b := Lib.hid (HV13.out.below (below_new w3 (.cells #[.string name] 9))); clear hB3 hv2)
    | (go_at_call 11; (with_reducible refine Calls.mono (I3.out _ _ HS1.out) ?_); rintro e w4 ⟨rfl, hB4⟩; have HV24 := Lib.hid (HV2b.out.below hB4); have HV14 := Lib.hid (HV13b.out.below hB4); have HB4 := Lib.hid (below_th HB3.out hB4); clear hB4)
    | (go_at_call 13; (with_reducible refine Calls.mono (R.same_any _ _ V V _ HV14.out HV24.out) ?_); rintro e w5 ⟨rfl, hB5⟩; have HB5 := Lib.hid (below_th HB4.out hB5); have hdd : decide (V = V) = true := decide_eq_true rfl; clear hB5)
    | (go_at_call 11; (with_reducible refine Calls.mono (I4.out _ _ (k3.out _ HB5.out)) ?_); rintro e w6 ⟨rfl, hB6⟩; have HB6 := Lib.hid (below_th HB5.out hB6); clear hB6)
    | (go_at_call 11; (with_reducible refine Calls.mono (I5.out _ _ (k4.out _ HB6.out)) ?_); rintro e w7 ⟨rfl, hB7⟩; have HB7 := Lib.hid (below_th HB6.out hB7); have HB7a := Lib.hid (below_al HB7.out (.cells X 9)); clear hB7)
    | (at_builtin; (refine wpList_append_strs rfl (.tmp 93) (.tmp 94) rfl rfl w7.heap.size (.slice (some ⟨w7.heap.size, 0, none⟩) 0 mm) 0 [] rfl (HO0.out w7) _ A rfl (k3.out _ HB7a.out) e3 (by simp) ?_); intro va w8 hown8 hgrow8; rw [Nat.zero_add, List.nil_append, HL3.out] at hown8; have HO8 := Lib.hid hown8; have HB8 := Lib.hid (HB7a.out.grown hgrow8 HB7a.out.size (fun r e => by simp [Value.ownBlock] at e; exact e ▸ HB7.out.size)); have HZ8 := Lib.hid (show w7.heap.size ≤ w8.heap.size by have := hgrow8.size; simp at this; omega); clear hown8 hgrow8)
    | (at_builtin; (refine wpList_append_strs rfl (.tmp 95) (.tmp 96) rfl rfl w7.heap.size _ m3 (A.map .string) rfl HO8.out _ B rfl (k4.out _ HB8.out) e4 HZ8.out ?_); intro vb w9 hown9 hgrow9; rw [HL4.out] at hown9; have HS9 := Lib.hid (HOWN.out _ _ _ hown9); have HB9 := Lib.hid (HB8.out.grown hgrow9 HB8.out.size (fun r e => Nat.le_trans HB7.out.size (HO8.out.lt r e).1)); clear hown9 hgrow9)
    | (go_at_call 11; (with_reducible refine Calls.mono (I6.out _ _ HS9.out) ?_); rintro e w10 ⟨rfl, hB10⟩; have HS10 := Lib.hid (HS9.out.below hB10); have HB10 := Lib.hid (below_th HB9.out hB10); clear hB10))
  go_ret
  exact ⟨rfl, HB10.out⟩
theorem ups_y5 (v3 v4 : Value) (L3 L4 : List ByteArray) (name s : ByteArray) (w : World) (h3 : Strs w v3 L3) (h4 : Strs w v4 L4) (z0 : name.size ≤ 140737488351232) (z1 : s.size ≤ 140737488351232) (A B : List ByteArray) (hA : L3.take (min L3.length 20) = A) (hB : L4.take (min L4.length 20) = B) (np : nameP name) (f1 : fitJ A) (f2 : fitJ B) (f3 : ¬ A = []) (f4 : ¬ B = []) (f5 : 1000 < (outJ A).size + (outJ B).size) : Calls Try.prog 6 #[.string name, .string s, v3, v4] w fun e w' => e = .returned (.bool true) ∧ Below w.heap.size w w' := by
  obtain ⟨K, hK⟩ : ∃ K, min s.size 500 = K := ⟨_, rfl⟩
  have hk1 : (min (s.size : Int) 500) = (K : Int) := by omega
  have hk2 : (K : Int) ≤ (s.size : Int) := by omega
  have hk3 : K ≤ s.size := by omega
  obtain ⟨c, hc⟩ : ∃ c, s.extract 0 K = c := ⟨_, rfl⟩
  have hcz : c.size ≤ 500 := by rw [← hc, ByteArray.size_extract]; omega
  obtain ⟨a3, cap3, rfl, hc3, hd3⟩ := h3.parts
  obtain ⟨n3, hn3⟩ : ∃ n, L3.length = n := ⟨_, rfl⟩
  obtain ⟨m3, hm3⟩ : ∃ m, min n3 20 = m := ⟨_, rfl⟩
  have hp3 : (min (n3 : Int) 20) = (m3 : Int) := by omega
  have hz3 : m3 ≤ 20 := by omega
  have j3 := h3.cut m3 (by omega)
  have hl3 : (L3.take m3).length = m3 := by rw [List.length_take]; omega
  rw [hn3, hm3] at hA
  rw [hn3] at hc3 ⊢
  have hq3 : m3 ≤ cap3 := by omega
  have hr3 : (m3 : Int) ≤ (cap3 : Int) := by omega
  rw [hA] at j3 hl3
  have k3 := Lib.hid (fun W (h : Below w.heap.size w W) => j3.below h)
  clear h3 hn3 hm3 hA j3
  obtain ⟨a4, cap4, rfl, hc4, hd4⟩ := h4.parts
  obtain ⟨n4, hn4⟩ : ∃ n, L4.length = n := ⟨_, rfl⟩
  obtain ⟨m4, hm4⟩ : ∃ m, min n4 20 = m := ⟨_, rfl⟩
  have hp4 : (min (n4 : Int) 20) = (m4 : Int) := by omega
  have hz4 : m4 ≤ 20 := by omega
  have j4 := h4.cut m4 (by omega)
  have hl4 : (L4.take m4).length = m4 := by rw [List.length_take]; omega
  rw [hn4, hm4] at hB
  rw [hn4] at hc4 ⊢
  have hq4 : m4 ≤ cap4 := by omega
  have hr4 : (m4 : Int) ≤ (cap4 : Int) := by omega
  rw [hB] at j4 hl4
  have k4 := Lib.hid (fun W (h : Below w.heap.size w W) => j4.below h)
  clear h4 hn4 hm4 hB j4
  have t1 : ((⟨#[47]⟩ : ByteArray)).size = 1 := rfl
  have t3 : ((⟨#[47, 46, 46, 47]⟩ : ByteArray)).size = 4 := rfl
  have hadd1 := fun W => run_string_add_sum (P := Try.prog) (w := W) ⟨#[47]⟩ c (by omega)
  have hadd2 := fun W => run_string_add_sum (P := Try.prog) (w := W) ⟨#[47]⟩ name (by omega)
  have hadd3 := fun W => run_string_add_sum (P := Try.prog) (w := W) (⟨#[47]⟩ ++ name) ⟨#[47, 46, 46, 47]⟩ (by rw [ByteArray.size_append]; omega)
  have hadd4 := fun W => run_string_add_sum (P := Try.prog) (w := W) ((⟨#[47]⟩ ++ name) ++ ⟨#[47, 46, 46, 47]⟩) c (by rw [ByteArray.size_append, ByteArray.size_append]; omega)
  have H1 := fun W => split_any (⟨#[47]⟩ ++ c) W (by rw [ByteArray.size_append]; omega)
  have H2 := fun W => split_any (((⟨#[47]⟩ ++ name) ++ ⟨#[47, 46, 46, 47]⟩) ++ c) W (by rw [ByteArray.size_append, ByteArray.size_append, ByteArray.size_append]; omega)
  have H3 := fun W v (h : Strs W v [name]) => join_any v [name] W h
  have H4 := fun W v (h : Strs W v A) => join_any v A W h
  have H5 := fun W v (h : Strs W v B) => join_any v B W h
  have H6 := fun W v (h : Strs W v (A ++ B)) => join_any v (A ++ B) W h
  have HOWN : Hid (∀ W base v, W.ownsRow base 9 1 v (m3 + m4) (A.map .string ++ B.map .string) → Strs W v (A ++ B)) := fun W base v h => Strs.own (base := base) (by rw [List.length_append, hl3, hl4, List.map_append]; exact h)
  obtain ⟨mm, hmm⟩ : ∃ mm, m3 + m4 = mm := ⟨_, rfl⟩
  have hwm : IntKind.i64.wrap ((m3 : Int) + (m4 : Int)) = (mm : Int) := by rw [IntKind.wrap_i64]; omega
  obtain ⟨X, hX, hmk⟩ := make_strs mm (by omega)
  have HO0 := Lib.hid (fun W => World.ownsRow_made (base := W.heap.size) (e := 9) (size := 1) W X mm (Nat.le_refl _) (by unfold maxLen; omega) hX)
  have e3 : 0 + A.length ≤ 100000 := by omega
  have e4 : m3 + B.length ≤ 100000 := by omega
  unfold SplitPost at H1 H2
  have hD : splitD (((⟨#[47]⟩ ++ name) ++ ⟨#[47, 46, 46, 47]⟩) ++ c) = splitD (⟨#[47]⟩ ++ c) := split_up np hcz
  have hD1 : splitV (((⟨#[47]⟩ ++ name) ++ ⟨#[47, 46, 46, 47]⟩) ++ c) = splitV (⟨#[47]⟩ ++ c) := by unfold splitV; rw [hD]
  have hD2 : splitE (((⟨#[47]⟩ ++ name) ++ ⟨#[47, 46, 46, 47]⟩) ++ c) = splitE (⟨#[47]⟩ ++ c) := by unfold splitE; rw [hD]
  rw [hD1, hD2] at H2
  rw [(join_yes (fit_one np)).1, (join_yes (fit_one np)).2] at H3
  have hnz : (name.size : Int) < 60 := by have := np.2.1; omega
  clear hD hD1 hD2
  obtain ⟨T1, hT1⟩ : ∃ T, (⟨#[47]⟩ : ByteArray) ++ c = T := ⟨_, rfl⟩
  obtain ⟨T2, hT2⟩ : ∃ T, (⟨#[47]⟩ : ByteArray) ++ name = T := ⟨_, rfl⟩
  obtain ⟨T3, hT3⟩ : ∃ T, T2 ++ (⟨#[47, 46, 46, 47]⟩ : ByteArray) = T := ⟨_, rfl⟩
  obtain ⟨T4, hT4⟩ : ∃ T, T3 ++ c = T := ⟨_, rfl⟩
  simp only [hT1, hT2, hT3, hT4] at hadd1 hadd2 hadd3 hadd4 H1 H2
  generalize splitV T1 = V at *
  generalize splitE T1 = E at *
  have hEE : (E != E) = false := bne_self_eq_false E
  generalize outJ [name] = nj at *
  rw [(join_yes f1).1, (join_yes f1).2] at H4
  rw [(join_yes f2).1, (join_yes f2).2] at H5
  have s1 := fit_size f1
  have s2 := fit_size f2
  have q3 : ((m3 : Int) == 0) = false := beq_eq_false_iff_ne.2 (fun h => f3 (List.eq_nil_of_length_eq_zero (by omega)))
  have q4 : ((m4 : Int) == 0) = false := beq_eq_false_iff_ne.2 (fun h => f4 (List.eq_nil_of_length_eq_zero (by omega)))
  obtain ⟨pq, hpq⟩ : ∃ pq, (outJ A).size + (outJ B).size = pq := ⟨_, rfl⟩
  have hwp : IntKind.i64.wrap (((outJ A).size : Int) + ((outJ B).size : Int)) = (pq : Int) := by rw [IntKind.wrap_i64]; omega
  have q5 : (1000 : Int) < (pq : Int) := by omega
  generalize joinV (A ++ B) = rv at *
  generalize joinE (A ++ B) = re at *
  generalize outJ A = p at *
  generalize outJ B = q at *
  have HL3 := Lib.hid hl3
  have HL4 := Lib.hid hl4
  have HMM := Lib.hid hmm
  have I1 := Lib.hid H1
  have I2 := Lib.hid H2
  have I3 := Lib.hid H3
  have I4 := Lib.hid H4
  have I5 := Lib.hid H5
  have I6 := Lib.hid H6
  clear H1 H2 H3 H4 H5 H6 hl3 hl4 hmm np f1 f2 f3 f4 f5 s1 s2 hpq hT1 hT2 hT3 hT4 t1 t3 hcz z0 z1 hK
  obtain ⟨W0, rfl⟩ : ∃ W0 : World, W0 = w := ⟨_, rfl⟩
  go_enter Try.func6, Try.ntmps6
  go_wp2_with (first
    | (go_at_call 8; (with_reducible refine Calls.mono (shown_any _) ?_); rintro e w1 ⟨rfl, hB1⟩; have HB1 := Lib.hid hB1; clear hB1)
    | (go_at_call 9; (with_reducible refine Calls.mono (I1.out _) ?_); rintro e w2 ⟨v1, rfl, hv1, hB2⟩; have HV1 := Lib.hid hv1; have HB2 := Lib.hid (below_th HB1.out hB2); clear hB2 hv1)
    | (go_at_call 9; (with_reducible refine Calls.mono (I2.out _) ?_); rintro e w3 ⟨v2, rfl, hv2, hB3⟩; have HV2 := Lib.hid hv2; have HV13 := Lib.hid (HV1.out.below hB3); have HB3 := Lib.hid (below_al (below_th HB2.out hB3) (.cells #[.string name] 9)); have HS1 := Lib.hid (Strs.one (World.alloc_heap_new w3 (.cells #[.string name] 9))); have HV2b := Lib.hid (hv2.below (below_new w3 (.cells #[.string name] 9))); have HV13b := Lib.hid (HV13.out.below (below_new w3 (.cells #[.string name] 9))); clear hB3 hv2)
    | (go_at_call 11; (with_reducible refine Calls.mono (I3.out _ _ HS1.out) ?_); rintro e w4 ⟨rfl, hB4⟩; have HV24 := Lib.hid (HV2b.out.below hB4); have HV14 := Lib.hid (HV13b.out.below hB4); have HB4 := Lib.hid (below_th HB3.out hB4); clear hB4)
    | (go_at_call 13; (with_reducible refine Calls.mono (R.same_any _ _ V V _ HV14.out HV24.out) ?_); rintro e w5 ⟨rfl, hB5⟩; have HB5 := Lib.hid (below_th HB4.out hB5); have hdd : decide (V = V) = true := decide_eq_true rfl; clear hB5)
    | (go_at_call 11; (with_reducible refine Calls.mono (I4.out _ _ (k3.out _ HB5.out)) ?_); rintro e w6 ⟨rfl, hB6⟩; have HB6 := Lib.hid (below_th HB5.out hB6); clear hB6)
    | (go_at_call 11; (with_reducible refine Calls.mono (I5.out _ _ (k4.out _ HB6.out)) ?_); rintro e w7 ⟨rfl, hB7⟩; have HB7 := Lib.hid (below_th HB6.out hB7); have HB7a := Lib.hid (below_al HB7.out (.cells X 9)); clear hB7)
    | (at_builtin; (refine wpList_append_strs rfl (.tmp 93) (.tmp 94) rfl rfl w7.heap.size (.slice (some ⟨w7.heap.size, 0, none⟩) 0 mm) 0 [] rfl (HO0.out w7) _ A rfl (k3.out _ HB7a.out) e3 (by simp) ?_); intro va w8 hown8 hgrow8; rw [Nat.zero_add, List.nil_append, HL3.out] at hown8; have HO8 := Lib.hid hown8; have HB8 := Lib.hid (HB7a.out.grown hgrow8 HB7a.out.size (fun r e => by simp [Value.ownBlock] at e; exact e ▸ HB7.out.size)); have HZ8 := Lib.hid (show w7.heap.size ≤ w8.heap.size by have := hgrow8.size; simp at this; omega); clear hown8 hgrow8)
    | (at_builtin; (refine wpList_append_strs rfl (.tmp 95) (.tmp 96) rfl rfl w7.heap.size _ m3 (A.map .string) rfl HO8.out _ B rfl (k4.out _ HB8.out) e4 HZ8.out ?_); intro vb w9 hown9 hgrow9; rw [HL4.out] at hown9; have HS9 := Lib.hid (HOWN.out _ _ _ hown9); have HB9 := Lib.hid (HB8.out.grown hgrow9 HB8.out.size (fun r e => Nat.le_trans HB7.out.size (HO8.out.lt r e).1)); clear hown9 hgrow9)
    | (go_at_call 11; (with_reducible refine Calls.mono (I6.out _ _ HS9.out) ?_); rintro e w10 ⟨rfl, hB10⟩; have HS10 := Lib.hid (HS9.out.below hB10); have HB10 := Lib.hid (below_th HB9.out hB10); clear hB10))
  go_ret
  exact ⟨rfl, HB10.out⟩
theorem ups_y6 (v3 v4 : Value) (L3 L4 : List ByteArray) (name s : ByteArray) (w : World) (h3 : Strs w v3 L3) (h4 : Strs w v4 L4) (z0 : name.size ≤ 140737488351232) (z1 : s.size ≤ 140737488351232) (A B : List ByteArray) (hA : L3.take (min L3.length 20) = A) (hB : L4.take (min L4.length 20) = B) (np : nameP name) (f1 : fitJ A) (f2 : fitJ B) (f3 : ¬ A = []) (f4 : ¬ B = []) (f5 : (outJ A).size + (outJ B).size ≤ 1000) : Calls Try.prog 6 #[.string name, .string s, v3, v4] w fun e w' => e = .returned (.bool true) ∧ Below w.heap.size w w' := by
  obtain ⟨K, hK⟩ : ∃ K, min s.size 500 = K := ⟨_, rfl⟩
  have hk1 : (min (s.size : Int) 500) = (K : Int) := by omega
  have hk2 : (K : Int) ≤ (s.size : Int) := by omega
  have hk3 : K ≤ s.size := by omega
  obtain ⟨c, hc⟩ : ∃ c, s.extract 0 K = c := ⟨_, rfl⟩
  have hcz : c.size ≤ 500 := by rw [← hc, ByteArray.size_extract]; omega
  obtain ⟨a3, cap3, rfl, hc3, hd3⟩ := h3.parts
  obtain ⟨n3, hn3⟩ : ∃ n, L3.length = n := ⟨_, rfl⟩
  obtain ⟨m3, hm3⟩ : ∃ m, min n3 20 = m := ⟨_, rfl⟩
  have hp3 : (min (n3 : Int) 20) = (m3 : Int) := by omega
  have hz3 : m3 ≤ 20 := by omega
  have j3 := h3.cut m3 (by omega)
  have hl3 : (L3.take m3).length = m3 := by rw [List.length_take]; omega
  rw [hn3, hm3] at hA
  rw [hn3] at hc3 ⊢
  have hq3 : m3 ≤ cap3 := by omega
  have hr3 : (m3 : Int) ≤ (cap3 : Int) := by omega
  rw [hA] at j3 hl3
  have k3 := Lib.hid (fun W (h : Below w.heap.size w W) => j3.below h)
  clear h3 hn3 hm3 hA j3
  obtain ⟨a4, cap4, rfl, hc4, hd4⟩ := h4.parts
  obtain ⟨n4, hn4⟩ : ∃ n, L4.length = n := ⟨_, rfl⟩
  obtain ⟨m4, hm4⟩ : ∃ m, min n4 20 = m := ⟨_, rfl⟩
  have hp4 : (min (n4 : Int) 20) = (m4 : Int) := by omega
  have hz4 : m4 ≤ 20 := by omega
  have j4 := h4.cut m4 (by omega)
  have hl4 : (L4.take m4).length = m4 := by rw [List.length_take]; omega
  rw [hn4, hm4] at hB
  rw [hn4] at hc4 ⊢
  have hq4 : m4 ≤ cap4 := by omega
  have hr4 : (m4 : Int) ≤ (cap4 : Int) := by omega
  rw [hB] at j4 hl4
  have k4 := Lib.hid (fun W (h : Below w.heap.size w W) => j4.below h)
  clear h4 hn4 hm4 hB j4
  have t1 : ((⟨#[47]⟩ : ByteArray)).size = 1 := rfl
  have t3 : ((⟨#[47, 46, 46, 47]⟩ : ByteArray)).size = 4 := rfl
  have hadd1 := fun W => run_string_add_sum (P := Try.prog) (w := W) ⟨#[47]⟩ c (by omega)
  have hadd2 := fun W => run_string_add_sum (P := Try.prog) (w := W) ⟨#[47]⟩ name (by omega)
  have hadd3 := fun W => run_string_add_sum (P := Try.prog) (w := W) (⟨#[47]⟩ ++ name) ⟨#[47, 46, 46, 47]⟩ (by rw [ByteArray.size_append]; omega)
  have hadd4 := fun W => run_string_add_sum (P := Try.prog) (w := W) ((⟨#[47]⟩ ++ name) ++ ⟨#[47, 46, 46, 47]⟩) c (by rw [ByteArray.size_append, ByteArray.size_append]; omega)
  have H1 := fun W => split_any (⟨#[47]⟩ ++ c) W (by rw [ByteArray.size_append]; omega)
  have H2 := fun W => split_any (((⟨#[47]⟩ ++ name) ++ ⟨#[47, 46, 46, 47]⟩) ++ c) W (by rw [ByteArray.size_append, ByteArray.size_append, ByteArray.size_append]; omega)
  have H3 := fun W v (h : Strs W v [name]) => join_any v [name] W h
  have H4 := fun W v (h : Strs W v A) => join_any v A W h
  have H5 := fun W v (h : Strs W v B) => join_any v B W h
  have H6 := fun W v (h : Strs W v (A ++ B)) => join_any v (A ++ B) W h
  have HOWN : Hid (∀ W base v, W.ownsRow base 9 1 v (m3 + m4) (A.map .string ++ B.map .string) → Strs W v (A ++ B)) := fun W base v h => Strs.own (base := base) (by rw [List.length_append, hl3, hl4, List.map_append]; exact h)
  obtain ⟨mm, hmm⟩ : ∃ mm, m3 + m4 = mm := ⟨_, rfl⟩
  have hwm : IntKind.i64.wrap ((m3 : Int) + (m4 : Int)) = (mm : Int) := by rw [IntKind.wrap_i64]; omega
  obtain ⟨X, hX, hmk⟩ := make_strs mm (by omega)
  have HO0 := Lib.hid (fun W => World.ownsRow_made (base := W.heap.size) (e := 9) (size := 1) W X mm (Nat.le_refl _) (by unfold maxLen; omega) hX)
  have e3 : 0 + A.length ≤ 100000 := by omega
  have e4 : m3 + B.length ≤ 100000 := by omega
  unfold SplitPost at H1 H2
  have hD : splitD (((⟨#[47]⟩ ++ name) ++ ⟨#[47, 46, 46, 47]⟩) ++ c) = splitD (⟨#[47]⟩ ++ c) := split_up np hcz
  have hD1 : splitV (((⟨#[47]⟩ ++ name) ++ ⟨#[47, 46, 46, 47]⟩) ++ c) = splitV (⟨#[47]⟩ ++ c) := by unfold splitV; rw [hD]
  have hD2 : splitE (((⟨#[47]⟩ ++ name) ++ ⟨#[47, 46, 46, 47]⟩) ++ c) = splitE (⟨#[47]⟩ ++ c) := by unfold splitE; rw [hD]
  rw [hD1, hD2] at H2
  rw [(join_yes (fit_one np)).1, (join_yes (fit_one np)).2] at H3
  have hnz : (name.size : Int) < 60 := by have := np.2.1; omega
  clear hD hD1 hD2
  obtain ⟨T1, hT1⟩ : ∃ T, (⟨#[47]⟩ : ByteArray) ++ c = T := ⟨_, rfl⟩
  obtain ⟨T2, hT2⟩ : ∃ T, (⟨#[47]⟩ : ByteArray) ++ name = T := ⟨_, rfl⟩
  obtain ⟨T3, hT3⟩ : ∃ T, T2 ++ (⟨#[47, 46, 46, 47]⟩ : ByteArray) = T := ⟨_, rfl⟩
  obtain ⟨T4, hT4⟩ : ∃ T, T3 ++ c = T := ⟨_, rfl⟩
  simp only [hT1, hT2, hT3, hT4] at hadd1 hadd2 hadd3 hadd4 H1 H2
  generalize splitV T1 = V at *
  generalize splitE T1 = E at *
  have hEE : (E != E) = false := bne_self_eq_false E
  generalize outJ [name] = nj at *
  rw [(join_yes f1).1, (join_yes f1).2] at H4
  rw [(join_yes f2).1, (join_yes f2).2] at H5
  have s1 := fit_size f1
  have s2 := fit_size f2
  have q3 : ((m3 : Int) == 0) = false := beq_eq_false_iff_ne.2 (fun h => f3 (List.eq_nil_of_length_eq_zero (by omega)))
  have q4 : ((m4 : Int) == 0) = false := beq_eq_false_iff_ne.2 (fun h => f4 (List.eq_nil_of_length_eq_zero (by omega)))
  obtain ⟨pq, hpq⟩ : ∃ pq, (outJ A).size + (outJ B).size = pq := ⟨_, rfl⟩
  have hwp : IntKind.i64.wrap (((outJ A).size : Int) + ((outJ B).size : Int)) = (pq : Int) := by rw [IntKind.wrap_i64]; omega
  have q5 : ¬ (1000 : Int) < (pq : Int) := by omega
  obtain ⟨jf, jo⟩ := join_two f1 f2 f3 f4 (by omega) (by omega)
  rw [(join_yes jf).1, (join_yes jf).2, jo] at H6
  have hadd5 := fun W => run_string_add_sum (P := Try.prog) (w := W) (outJ A) (outJ B) (by omega)
  have hW1 : withinB A (A ++ B) = true := within_pre A B
  have hW2 : withinB (A ++ B) A = false := within_long (by rw [List.length_append]; have : 0 < B.length := List.length_pos_iff.2 f4; omega)
  clear jf jo
  generalize outJ A = p at *
  generalize outJ B = q at *
  obtain ⟨pp, hpp⟩ : ∃ pp, p ++ q = pp := ⟨_, rfl⟩
  simp only [hpp] at hadd5 H6
  have hbe : (pp.toList == pp.toList) = true := by simp
  clear hpp
  have HL3 := Lib.hid hl3
  have HL4 := Lib.hid hl4
  have HMM := Lib.hid hmm
  have I1 := Lib.hid H1
  have I2 := Lib.hid H2
  have I3 := Lib.hid H3
  have I4 := Lib.hid H4
  have I5 := Lib.hid H5
  have I6 := Lib.hid H6
  clear H1 H2 H3 H4 H5 H6 hl3 hl4 hmm np f1 f2 f3 f4 f5 s1 s2 hpq hT1 hT2 hT3 hT4 t1 t3 hcz z0 z1 hK
  obtain ⟨W0, rfl⟩ : ∃ W0 : World, W0 = w := ⟨_, rfl⟩
  go_enter Try.func6, Try.ntmps6
  go_wp2_with (first
    | (go_at_call 8; (with_reducible refine Calls.mono (shown_any _) ?_); rintro e w1 ⟨rfl, hB1⟩; have HB1 := Lib.hid hB1; clear hB1)
    | (go_at_call 9; (with_reducible refine Calls.mono (I1.out _) ?_); rintro e w2 ⟨v1, rfl, hv1, hB2⟩; have HV1 := Lib.hid hv1; have HB2 := Lib.hid (below_th HB1.out hB2); clear hB2 hv1)
    | (go_at_call 9; (with_reducible refine Calls.mono (I2.out _) ?_); rintro e w3 ⟨v2, rfl, hv2, hB3⟩; have HV2 := Lib.hid hv2; have HV13 := Lib.hid (HV1.out.below hB3); have HB3 := Lib.hid (below_al (below_th HB2.out hB3) (.cells #[.string name] 9)); have HS1 := Lib.hid (Strs.one (World.alloc_heap_new w3 (.cells #[.string name] 9))); have HV2b := Lib.hid (hv2.below (below_new w3 (.cells #[.string name] 9))); have HV13b := Lib.hid (HV13.out.below (below_new w3 (.cells #[.string name] 9))); clear hB3 hv2)
    | (go_at_call 11; (with_reducible refine Calls.mono (I3.out _ _ HS1.out) ?_); rintro e w4 ⟨rfl, hB4⟩; have HV24 := Lib.hid (HV2b.out.below hB4); have HV14 := Lib.hid (HV13b.out.below hB4); have HB4 := Lib.hid (below_th HB3.out hB4); clear hB4)
    | (go_at_call 13; (with_reducible refine Calls.mono (R.same_any _ _ V V _ HV14.out HV24.out) ?_); rintro e w5 ⟨rfl, hB5⟩; have HB5 := Lib.hid (below_th HB4.out hB5); have hdd : decide (V = V) = true := decide_eq_true rfl; clear hB5)
    | (go_at_call 11; (with_reducible refine Calls.mono (I4.out _ _ (k3.out _ HB5.out)) ?_); rintro e w6 ⟨rfl, hB6⟩; have HB6 := Lib.hid (below_th HB5.out hB6); clear hB6)
    | (go_at_call 11; (with_reducible refine Calls.mono (I5.out _ _ (k4.out _ HB6.out)) ?_); rintro e w7 ⟨rfl, hB7⟩; have HB7 := Lib.hid (below_th HB6.out hB7); have HB7a := Lib.hid (below_al HB7.out (.cells X 9)); clear hB7)
    | (at_builtin; (refine wpList_append_strs rfl (.tmp 93) (.tmp 94) rfl rfl w7.heap.size (.slice (some ⟨w7.heap.size, 0, none⟩) 0 mm) 0 [] rfl (HO0.out w7) _ A rfl (k3.out _ HB7a.out) e3 (by simp) ?_); intro va w8 hown8 hgrow8; rw [Nat.zero_add, List.nil_append, HL3.out] at hown8; have HO8 := Lib.hid hown8; have HB8 := Lib.hid (HB7a.out.grown hgrow8 HB7a.out.size (fun r e => by simp [Value.ownBlock] at e; exact e ▸ HB7.out.size)); have HZ8 := Lib.hid (show w7.heap.size ≤ w8.heap.size by have := hgrow8.size; simp at this; omega); clear hown8 hgrow8)
    | (at_builtin; (refine wpList_append_strs rfl (.tmp 95) (.tmp 96) rfl rfl w7.heap.size _ m3 (A.map .string) rfl HO8.out _ B rfl (k4.out _ HB8.out) e4 HZ8.out ?_); intro vb w9 hown9 hgrow9; rw [HL4.out] at hown9; have HS9 := Lib.hid (HOWN.out _ _ _ hown9); have HB9 := Lib.hid (HB8.out.grown hgrow9 HB8.out.size (fun r e => Nat.le_trans HB7.out.size (HO8.out.lt r e).1)); clear hown9 hgrow9)
    | (go_at_call 11; (with_reducible refine Calls.mono (I6.out _ _ HS9.out) ?_); rintro e w10 ⟨rfl, hB10⟩; have HS10 := Lib.hid (HS9.out.below hB10); have HB10 := Lib.hid (below_th HB9.out hB10); clear hB10)
    | (go_at_call 16; (with_reducible refine Calls.mono (within_any _ _ A (A ++ B) _ (k3.out _ HB10.out) HS10.out) ?_); rw [hW1]; rintro e w11 ⟨rfl, hB11⟩; have HS11 := Lib.hid (HS10.out.below hB11); have HB11 := Lib.hid (below_th HB10.out hB11); clear hB11)
    | (go_at_call 16; (with_reducible refine Calls.mono (within_any _ _ (A ++ B) A _ HS11.out (k3.out _ HB11.out)) ?_); rw [hW2]; rintro e w12 ⟨rfl, hB12⟩; have HB12 := Lib.hid (below_th HB11.out hB12); clear hB12))
  go_ret
  exact ⟨rfl, HB12.out⟩
theorem ups_n1 (v3 v4 : Value) (L3 L4 : List ByteArray) (name s : ByteArray) (w : World) (h3 : Strs w v3 L3) (h4 : Strs w v4 L4) (z0 : name.size ≤ 140737488351232) (z1 : s.size ≤ 140737488351232) (A B : List ByteArray) (hA : L3.take (min L3.length 20) = A) (hB : L4.take (min L4.length 20) = B) (np : ¬ nameP name) (f1 : ¬ fitJ A) : Calls Try.prog 6 #[.string name, .string s, v3, v4] w fun e w' => e = .returned (.bool true) ∧ Below w.heap.size w w' := by
  obtain ⟨K, hK⟩ : ∃ K, min s.size 500 = K := ⟨_, rfl⟩
  have hk1 : (min (s.size : Int) 500) = (K : Int) := by omega
  have hk2 : (K : Int) ≤ (s.size : Int) := by omega
  have hk3 : K ≤ s.size := by omega
  obtain ⟨c, hc⟩ : ∃ c, s.extract 0 K = c := ⟨_, rfl⟩
  have hcz : c.size ≤ 500 := by rw [← hc, ByteArray.size_extract]; omega
  obtain ⟨a3, cap3, rfl, hc3, hd3⟩ := h3.parts
  obtain ⟨n3, hn3⟩ : ∃ n, L3.length = n := ⟨_, rfl⟩
  obtain ⟨m3, hm3⟩ : ∃ m, min n3 20 = m := ⟨_, rfl⟩
  have hp3 : (min (n3 : Int) 20) = (m3 : Int) := by omega
  have hz3 : m3 ≤ 20 := by omega
  have j3 := h3.cut m3 (by omega)
  have hl3 : (L3.take m3).length = m3 := by rw [List.length_take]; omega
  rw [hn3, hm3] at hA
  rw [hn3] at hc3 ⊢
  have hq3 : m3 ≤ cap3 := by omega
  have hr3 : (m3 : Int) ≤ (cap3 : Int) := by omega
  rw [hA] at j3 hl3
  have k3 := Lib.hid (fun W (h : Below w.heap.size w W) => j3.below h)
  clear h3 hn3 hm3 hA j3
  obtain ⟨a4, cap4, rfl, hc4, hd4⟩ := h4.parts
  obtain ⟨n4, hn4⟩ : ∃ n, L4.length = n := ⟨_, rfl⟩
  obtain ⟨m4, hm4⟩ : ∃ m, min n4 20 = m := ⟨_, rfl⟩
  have hp4 : (min (n4 : Int) 20) = (m4 : Int) := by omega
  have hz4 : m4 ≤ 20 := by omega
  have j4 := h4.cut m4 (by omega)
  have hl4 : (L4.take m4).length = m4 := by rw [List.length_take]; omega
  rw [hn4, hm4] at hB
  rw [hn4] at hc4 ⊢
  have hq4 : m4 ≤ cap4 := by omega
  have hr4 : (m4 : Int) ≤ (cap4 : Int) := by omega
  rw [hB] at j4 hl4
  have k4 := Lib.hid (fun W (h : Below w.heap.size w W) => j4.below h)
  clear h4 hn4 hm4 hB j4
  have t1 : ((⟨#[47]⟩ : ByteArray)).size = 1 := rfl
  have t3 : ((⟨#[47, 46, 46, 47]⟩ : ByteArray)).size = 4 := rfl
  have hadd1 := fun W => run_string_add_sum (P := Try.prog) (w := W) ⟨#[47]⟩ c (by omega)
  have hadd2 := fun W => run_string_add_sum (P := Try.prog) (w := W) ⟨#[47]⟩ name (by omega)
  have hadd3 := fun W => run_string_add_sum (P := Try.prog) (w := W) (⟨#[47]⟩ ++ name) ⟨#[47, 46, 46, 47]⟩ (by rw [ByteArray.size_append]; omega)
  have hadd4 := fun W => run_string_add_sum (P := Try.prog) (w := W) ((⟨#[47]⟩ ++ name) ++ ⟨#[47, 46, 46, 47]⟩) c (by rw [ByteArray.size_append, ByteArray.size_append]; omega)
  have H1 := fun W => split_any (⟨#[47]⟩ ++ c) W (by rw [ByteArray.size_append]; omega)
  have H2 := fun W => split_any (((⟨#[47]⟩ ++ name) ++ ⟨#[47, 46, 46, 47]⟩) ++ c) W (by rw [ByteArray.size_append, ByteArray.size_append, ByteArray.size_append]; omega)
  have H3 := fun W v (h : Strs W v [name]) => join_any v [name] W h
  have H4 := fun W v (h : Strs W v A) => join_any v A W h
  have H5 := fun W v (h : Strs W v B) => join_any v B W h
  have H6 := fun W v (h : Strs W v (A ++ B)) => join_any v (A ++ B) W h
  have HOWN : Hid (∀ W base v, W.ownsRow base 9 1 v (m3 + m4) (A.map .string ++ B.map .string) → Strs W v (A ++ B)) := fun W base v h => Strs.own (base := base) (by rw [List.length_append, hl3, hl4, List.map_append]; exact h)
  obtain ⟨mm, hmm⟩ : ∃ mm, m3 + m4 = mm := ⟨_, rfl⟩
  have hwm : IntKind.i64.wrap ((m3 : Int) + (m4 : Int)) = (mm : Int) := by rw [IntKind.wrap_i64]; omega
  obtain ⟨X, hX, hmk⟩ := make_strs mm (by omega)
  have HO0 := Lib.hid (fun W => World.ownsRow_made (base := W.heap.size) (e := 9) (size := 1) W X mm (Nat.le_refl _) (by unfold maxLen; omega) hX)
  have e3 : 0 + A.length ≤ 100000 := by omega
  have e4 : m3 + B.length ≤ 100000 := by omega
  unfold SplitPost at H1 H2
  have nf : ¬ fitJ [name] := fun h => np (h.2.1 name (List.mem_singleton.2 rfl))
  rw [(join_no nf).1, (join_no nf).2] at H3
  clear nf
  obtain ⟨T1, hT1⟩ : ∃ T, (⟨#[47]⟩ : ByteArray) ++ c = T := ⟨_, rfl⟩
  obtain ⟨T2, hT2⟩ : ∃ T, (⟨#[47]⟩ : ByteArray) ++ name = T := ⟨_, rfl⟩
  obtain ⟨T3, hT3⟩ : ∃ T, T2 ++ (⟨#[47, 46, 46, 47]⟩ : ByteArray) = T := ⟨_, rfl⟩
  obtain ⟨T4, hT4⟩ : ∃ T, T3 ++ c = T := ⟨_, rfl⟩
  simp only [hT1, hT2, hT3, hT4] at hadd1 hadd2 hadd3 hadd4 H1 H2
  generalize splitV T1 = V at *
  generalize splitE T1 = E at *
  generalize splitV T4 = V2 at *
  generalize splitE T4 = E2 at *
  have hEE : (E != E) = false := bne_self_eq_false E
  rw [(join_no f1).1, (join_no f1).2] at H4
  generalize joinV (A ++ B) = rv at *
  generalize joinE (A ++ B) = re at *
  have HL3 := Lib.hid hl3
  have HL4 := Lib.hid hl4
  have HMM := Lib.hid hmm
  have I1 := Lib.hid H1
  have I2 := Lib.hid H2
  have I3 := Lib.hid H3
  have I4 := Lib.hid H4
  have I5 := Lib.hid H5
  have I6 := Lib.hid H6
  clear H1 H2 H3 H4 H5 H6 hl3 hl4 hmm np f1  hT1 hT2 hT3 hT4 t1 t3 hcz z0 z1 hK
  obtain ⟨W0, rfl⟩ : ∃ W0 : World, W0 = w := ⟨_, rfl⟩
  go_enter Try.func6, Try.ntmps6
  go_wp2_with (first
    | (go_at_call 8; (with_reducible refine Calls.mono (shown_any _) ?_); rintro e w1 ⟨rfl, hB1⟩; have HB1 := Lib.hid hB1; clear hB1)
    | (go_at_call 9; (with_reducible refine Calls.mono (I1.out _) ?_); rintro e w2 ⟨v1, rfl, hv1, hB2⟩; have HV1 := Lib.hid hv1; have HB2 := Lib.hid (below_th HB1.out hB2); clear hB2 hv1)
    | (go_at_call 9; (with_reducible refine Calls.mono (I2.out _) ?_); rintro e w3 ⟨v2, rfl, hv2, hB3⟩; have HV2 := Lib.hid hv2; have HV13 := Lib.hid (HV1.out.below hB3); have HB3 := Lib.hid (below_al (below_th HB2.out hB3) (.cells #[.string name] 9)); have HS1 := Lib.hid (Strs.one (World.alloc_heap_new w3 (.cells #[.string name] 9))); have HV2b := Lib.hid (hv2.below (below_new w3 (.cells #[.string name] 9))); have HV13b := Lib.hid (HV13.out.below (below_new w3 (.cells #[.string name] 9))); clear hB3 hv2)
    | (go_at_call 11; (with_reducible refine Calls.mono (I3.out _ _ HS1.out) ?_); rintro e w4 ⟨rfl, hB4⟩; have HV24 := Lib.hid (HV2b.out.below hB4); have HV14 := Lib.hid (HV13b.out.below hB4); have HB4 := Lib.hid (below_th HB3.out hB4); clear hB4)
    | (go_at_call 11; (with_reducible refine Calls.mono (I4.out _ _ (k3.out _ HB4.out)) ?_); rintro e w6 ⟨rfl, hB6⟩; have HB6 := Lib.hid (below_th HB4.out hB6); clear hB6)
    | (go_at_call 11; (with_reducible refine Calls.mono (I5.out _ _ (k4.out _ HB6.out)) ?_); rintro e w7 ⟨rfl, hB7⟩; have HB7 := Lib.hid (below_th HB6.out hB7); have HB7a := Lib.hid (below_al HB7.out (.cells X 9)); clear hB7)
    | (at_builtin; (refine wpList_append_strs rfl (.tmp 93) (.tmp 94) rfl rfl w7.heap.size (.slice (some ⟨w7.heap.size, 0, none⟩) 0 mm) 0 [] rfl (HO0.out w7) _ A rfl (k3.out _ HB7a.out) e3 (by simp) ?_); intro va w8 hown8 hgrow8; rw [Nat.zero_add, List.nil_append, HL3.out] at hown8; have HO8 := Lib.hid hown8; have HB8 := Lib.hid (HB7a.out.grown hgrow8 HB7a.out.size (fun r e => by simp [Value.ownBlock] at e; exact e ▸ HB7.out.size)); have HZ8 := Lib.hid (show w7.heap.size ≤ w8.heap.size by have := hgrow8.size; simp at this; omega); clear hown8 hgrow8)
    | (at_builtin; (refine wpList_append_strs rfl (.tmp 95) (.tmp 96) rfl rfl w7.heap.size _ m3 (A.map .string) rfl HO8.out _ B rfl (k4.out _ HB8.out) e4 HZ8.out ?_); intro vb w9 hown9 hgrow9; rw [HL4.out] at hown9; have HS9 := Lib.hid (HOWN.out _ _ _ hown9); have HB9 := Lib.hid (HB8.out.grown hgrow9 HB8.out.size (fun r e => Nat.le_trans HB7.out.size (HO8.out.lt r e).1)); clear hown9 hgrow9)
    | (go_at_call 11; (with_reducible refine Calls.mono (I6.out _ _ HS9.out) ?_); rintro e w10 ⟨rfl, hB10⟩; have HS10 := Lib.hid (HS9.out.below hB10); have HB10 := Lib.hid (below_th HB9.out hB10); clear hB10))
  go_ret
  exact ⟨rfl, HB10.out⟩
theorem ups_n2 (v3 v4 : Value) (L3 L4 : List ByteArray) (name s : ByteArray) (w : World) (h3 : Strs w v3 L3) (h4 : Strs w v4 L4) (z0 : name.size ≤ 140737488351232) (z1 : s.size ≤ 140737488351232) (A B : List ByteArray) (hA : L3.take (min L3.length 20) = A) (hB : L4.take (min L4.length 20) = B) (np : ¬ nameP name) (f1 : fitJ A) (f2 : ¬ fitJ B) : Calls Try.prog 6 #[.string name, .string s, v3, v4] w fun e w' => e = .returned (.bool true) ∧ Below w.heap.size w w' := by
  obtain ⟨K, hK⟩ : ∃ K, min s.size 500 = K := ⟨_, rfl⟩
  have hk1 : (min (s.size : Int) 500) = (K : Int) := by omega
  have hk2 : (K : Int) ≤ (s.size : Int) := by omega
  have hk3 : K ≤ s.size := by omega
  obtain ⟨c, hc⟩ : ∃ c, s.extract 0 K = c := ⟨_, rfl⟩
  have hcz : c.size ≤ 500 := by rw [← hc, ByteArray.size_extract]; omega
  obtain ⟨a3, cap3, rfl, hc3, hd3⟩ := h3.parts
  obtain ⟨n3, hn3⟩ : ∃ n, L3.length = n := ⟨_, rfl⟩
  obtain ⟨m3, hm3⟩ : ∃ m, min n3 20 = m := ⟨_, rfl⟩
  have hp3 : (min (n3 : Int) 20) = (m3 : Int) := by omega
  have hz3 : m3 ≤ 20 := by omega
  have j3 := h3.cut m3 (by omega)
  have hl3 : (L3.take m3).length = m3 := by rw [List.length_take]; omega
  rw [hn3, hm3] at hA
  rw [hn3] at hc3 ⊢
  have hq3 : m3 ≤ cap3 := by omega
  have hr3 : (m3 : Int) ≤ (cap3 : Int) := by omega
  rw [hA] at j3 hl3
  have k3 := Lib.hid (fun W (h : Below w.heap.size w W) => j3.below h)
  clear h3 hn3 hm3 hA j3
  obtain ⟨a4, cap4, rfl, hc4, hd4⟩ := h4.parts
  obtain ⟨n4, hn4⟩ : ∃ n, L4.length = n := ⟨_, rfl⟩
  obtain ⟨m4, hm4⟩ : ∃ m, min n4 20 = m := ⟨_, rfl⟩
  have hp4 : (min (n4 : Int) 20) = (m4 : Int) := by omega
  have hz4 : m4 ≤ 20 := by omega
  have j4 := h4.cut m4 (by omega)
  have hl4 : (L4.take m4).length = m4 := by rw [List.length_take]; omega
  rw [hn4, hm4] at hB
  rw [hn4] at hc4 ⊢
  have hq4 : m4 ≤ cap4 := by omega
  have hr4 : (m4 : Int) ≤ (cap4 : Int) := by omega
  rw [hB] at j4 hl4
  have k4 := Lib.hid (fun W (h : Below w.heap.size w W) => j4.below h)
  clear h4 hn4 hm4 hB j4
  have t1 : ((⟨#[47]⟩ : ByteArray)).size = 1 := rfl
  have t3 : ((⟨#[47, 46, 46, 47]⟩ : ByteArray)).size = 4 := rfl
  have hadd1 := fun W => run_string_add_sum (P := Try.prog) (w := W) ⟨#[47]⟩ c (by omega)
  have hadd2 := fun W => run_string_add_sum (P := Try.prog) (w := W) ⟨#[47]⟩ name (by omega)
  have hadd3 := fun W => run_string_add_sum (P := Try.prog) (w := W) (⟨#[47]⟩ ++ name) ⟨#[47, 46, 46, 47]⟩ (by rw [ByteArray.size_append]; omega)
  have hadd4 := fun W => run_string_add_sum (P := Try.prog) (w := W) ((⟨#[47]⟩ ++ name) ++ ⟨#[47, 46, 46, 47]⟩) c (by rw [ByteArray.size_append, ByteArray.size_append]; omega)
  have H1 := fun W => split_any (⟨#[47]⟩ ++ c) W (by rw [ByteArray.size_append]; omega)
  have H2 := fun W => split_any (((⟨#[47]⟩ ++ name) ++ ⟨#[47, 46, 46, 47]⟩) ++ c) W (by rw [ByteArray.size_append, ByteArray.size_append, ByteArray.size_append]; omega)
  have H3 := fun W v (h : Strs W v [name]) => join_any v [name] W h
  have H4 := fun W v (h : Strs W v A) => join_any v A W h
  have H5 := fun W v (h : Strs W v B) => join_any v B W h
  have H6 := fun W v (h : Strs W v (A ++ B)) => join_any v (A ++ B) W h
  have HOWN : Hid (∀ W base v, W.ownsRow base 9 1 v (m3 + m4) (A.map .string ++ B.map .string) → Strs W v (A ++ B)) := fun W base v h => Strs.own (base := base) (by rw [List.length_append, hl3, hl4, List.map_append]; exact h)
  obtain ⟨mm, hmm⟩ : ∃ mm, m3 + m4 = mm := ⟨_, rfl⟩
  have hwm : IntKind.i64.wrap ((m3 : Int) + (m4 : Int)) = (mm : Int) := by rw [IntKind.wrap_i64]; omega
  obtain ⟨X, hX, hmk⟩ := make_strs mm (by omega)
  have HO0 := Lib.hid (fun W => World.ownsRow_made (base := W.heap.size) (e := 9) (size := 1) W X mm (Nat.le_refl _) (by unfold maxLen; omega) hX)
  have e3 : 0 + A.length ≤ 100000 := by omega
  have e4 : m3 + B.length ≤ 100000 := by omega
  unfold SplitPost at H1 H2
  have nf : ¬ fitJ [name] := fun h => np (h.2.1 name (List.mem_singleton.2 rfl))
  rw [(join_no nf).1, (join_no nf).2] at H3
  clear nf
  obtain ⟨T1, hT1⟩ : ∃ T, (⟨#[47]⟩ : ByteArray) ++ c = T := ⟨_, rfl⟩
  obtain ⟨T2, hT2⟩ : ∃ T, (⟨#[47]⟩ : ByteArray) ++ name = T := ⟨_, rfl⟩
  obtain ⟨T3, hT3⟩ : ∃ T, T2 ++ (⟨#[47, 46, 46, 47]⟩ : ByteArray) = T := ⟨_, rfl⟩
  obtain ⟨T4, hT4⟩ : ∃ T, T3 ++ c = T := ⟨_, rfl⟩
  simp only [hT1, hT2, hT3, hT4] at hadd1 hadd2 hadd3 hadd4 H1 H2
  generalize splitV T1 = V at *
  generalize splitE T1 = E at *
  generalize splitV T4 = V2 at *
  generalize splitE T4 = E2 at *
  have hEE : (E != E) = false := bne_self_eq_false E
  rw [(join_yes f1).1, (join_yes f1).2] at H4
  rw [(join_no f2).1, (join_no f2).2] at H5
  generalize joinV (A ++ B) = rv at *
  generalize joinE (A ++ B) = re at *
  generalize outJ A = p at *
  have HL3 := Lib.hid hl3
  have HL4 := Lib.hid hl4
  have HMM := Lib.hid hmm
  have I1 := Lib.hid H1
  have I2 := Lib.hid H2
  have I3 := Lib.hid H3
  have I4 := Lib.hid H4
  have I5 := Lib.hid H5
  have I6 := Lib.hid H6
  clear H1 H2 H3 H4 H5 H6 hl3 hl4 hmm np f1 f2  hT1 hT2 hT3 hT4 t1 t3 hcz z0 z1 hK
  obtain ⟨W0, rfl⟩ : ∃ W0 : World, W0 = w := ⟨_, rfl⟩
  go_enter Try.func6, Try.ntmps6
  go_wp2_with (first
    | (go_at_call 8; (with_reducible refine Calls.mono (shown_any _) ?_); rintro e w1 ⟨rfl, hB1⟩; have HB1 := Lib.hid hB1; clear hB1)
    | (go_at_call 9; (with_reducible refine Calls.mono (I1.out _) ?_); rintro e w2 ⟨v1, rfl, hv1, hB2⟩; have HV1 := Lib.hid hv1; have HB2 := Lib.hid (below_th HB1.out hB2); clear hB2 hv1)
    | (go_at_call 9; (with_reducible refine Calls.mono (I2.out _) ?_); rintro e w3 ⟨v2, rfl, hv2, hB3⟩; have HV2 := Lib.hid hv2; have HV13 := Lib.hid (HV1.out.below hB3); have HB3 := Lib.hid (below_al (below_th HB2.out hB3) (.cells #[.string name] 9)); have HS1 := Lib.hid (Strs.one (World.alloc_heap_new w3 (.cells #[.string name] 9))); have HV2b := Lib.hid (hv2.below (below_new w3 (.cells #[.string name] 9))); have HV13b := Lib.hid (HV13.out.below (below_new w3 (.cells #[.string name] 9))); clear hB3 hv2)
    | (go_at_call 11; (with_reducible refine Calls.mono (I3.out _ _ HS1.out) ?_); rintro e w4 ⟨rfl, hB4⟩; have HV24 := Lib.hid (HV2b.out.below hB4); have HV14 := Lib.hid (HV13b.out.below hB4); have HB4 := Lib.hid (below_th HB3.out hB4); clear hB4)
    | (go_at_call 11; (with_reducible refine Calls.mono (I4.out _ _ (k3.out _ HB4.out)) ?_); rintro e w6 ⟨rfl, hB6⟩; have HB6 := Lib.hid (below_th HB4.out hB6); clear hB6)
    | (go_at_call 11; (with_reducible refine Calls.mono (I5.out _ _ (k4.out _ HB6.out)) ?_); rintro e w7 ⟨rfl, hB7⟩; have HB7 := Lib.hid (below_th HB6.out hB7); have HB7a := Lib.hid (below_al HB7.out (.cells X 9)); clear hB7)
    | (at_builtin; (refine wpList_append_strs rfl (.tmp 93) (.tmp 94) rfl rfl w7.heap.size (.slice (some ⟨w7.heap.size, 0, none⟩) 0 mm) 0 [] rfl (HO0.out w7) _ A rfl (k3.out _ HB7a.out) e3 (by simp) ?_); intro va w8 hown8 hgrow8; rw [Nat.zero_add, List.nil_append, HL3.out] at hown8; have HO8 := Lib.hid hown8; have HB8 := Lib.hid (HB7a.out.grown hgrow8 HB7a.out.size (fun r e => by simp [Value.ownBlock] at e; exact e ▸ HB7.out.size)); have HZ8 := Lib.hid (show w7.heap.size ≤ w8.heap.size by have := hgrow8.size; simp at this; omega); clear hown8 hgrow8)
    | (at_builtin; (refine wpList_append_strs rfl (.tmp 95) (.tmp 96) rfl rfl w7.heap.size _ m3 (A.map .string) rfl HO8.out _ B rfl (k4.out _ HB8.out) e4 HZ8.out ?_); intro vb w9 hown9 hgrow9; rw [HL4.out] at hown9; have HS9 := Lib.hid (HOWN.out _ _ _ hown9); have HB9 := Lib.hid (HB8.out.grown hgrow9 HB8.out.size (fun r e => Nat.le_trans HB7.out.size (HO8.out.lt r e).1)); clear hown9 hgrow9)
    | (go_at_call 11; (with_reducible refine Calls.mono (I6.out _ _ HS9.out) ?_); rintro e w10 ⟨rfl, hB10⟩; have HS10 := Lib.hid (HS9.out.below hB10); have HB10 := Lib.hid (below_th HB9.out hB10); clear hB10))
  go_ret
  exact ⟨rfl, HB10.out⟩
theorem ups_n3 (v3 v4 : Value) (L3 L4 : List ByteArray) (name s : ByteArray) (w : World) (h3 : Strs w v3 L3) (h4 : Strs w v4 L4) (z0 : name.size ≤ 140737488351232) (z1 : s.size ≤ 140737488351232) (A B : List ByteArray) (hA : L3.take (min L3.length 20) = A) (hB : L4.take (min L4.length 20) = B) (np : ¬ nameP name) (f1 : fitJ A) (f2 : fitJ B) (f3 : A = []) : Calls Try.prog 6 #[.string name, .string s, v3, v4] w fun e w' => e = .returned (.bool true) ∧ Below w.heap.size w w' := by
  obtain ⟨K, hK⟩ : ∃ K, min s.size 500 = K := ⟨_, rfl⟩
  have hk1 : (min (s.size : Int) 500) = (K : Int) := by omega
  have hk2 : (K : Int) ≤ (s.size : Int) := by omega
  have hk3 : K ≤ s.size := by omega
  obtain ⟨c, hc⟩ : ∃ c, s.extract 0 K = c := ⟨_, rfl⟩
  have hcz : c.size ≤ 500 := by rw [← hc, ByteArray.size_extract]; omega
  obtain ⟨a3, cap3, rfl, hc3, hd3⟩ := h3.parts
  obtain ⟨n3, hn3⟩ : ∃ n, L3.length = n := ⟨_, rfl⟩
  obtain ⟨m3, hm3⟩ : ∃ m, min n3 20 = m := ⟨_, rfl⟩
  have hp3 : (min (n3 : Int) 20) = (m3 : Int) := by omega
  have hz3 : m3 ≤ 20 := by omega
  have j3 := h3.cut m3 (by omega)
  have hl3 : (L3.take m3).length = m3 := by rw [List.length_take]; omega
  rw [hn3, hm3] at hA
  rw [hn3] at hc3 ⊢
  have hq3 : m3 ≤ cap3 := by omega
  have hr3 : (m3 : Int) ≤ (cap3 : Int) := by omega
  rw [hA] at j3 hl3
  have k3 := Lib.hid (fun W (h : Below w.heap.size w W) => j3.below h)
  clear h3 hn3 hm3 hA j3
  obtain ⟨a4, cap4, rfl, hc4, hd4⟩ := h4.parts
  obtain ⟨n4, hn4⟩ : ∃ n, L4.length = n := ⟨_, rfl⟩
  obtain ⟨m4, hm4⟩ : ∃ m, min n4 20 = m := ⟨_, rfl⟩
  have hp4 : (min (n4 : Int) 20) = (m4 : Int) := by omega
  have hz4 : m4 ≤ 20 := by omega
  have j4 := h4.cut m4 (by omega)
  have hl4 : (L4.take m4).length = m4 := by rw [List.length_take]; omega
  rw [hn4, hm4] at hB
  rw [hn4] at hc4 ⊢
  have hq4 : m4 ≤ cap4 := by omega
  have hr4 : (m4 : Int) ≤ (cap4 : Int) := by omega
  rw [hB] at j4 hl4
  have k4 := Lib.hid (fun W (h : Below w.heap.size w W) => j4.below h)
  clear h4 hn4 hm4 hB j4
  have t1 : ((⟨#[47]⟩ : ByteArray)).size = 1 := rfl
  have t3 : ((⟨#[47, 46, 46, 47]⟩ : ByteArray)).size = 4 := rfl
  have hadd1 := fun W => run_string_add_sum (P := Try.prog) (w := W) ⟨#[47]⟩ c (by omega)
  have hadd2 := fun W => run_string_add_sum (P := Try.prog) (w := W) ⟨#[47]⟩ name (by omega)
  have hadd3 := fun W => run_string_add_sum (P := Try.prog) (w := W) (⟨#[47]⟩ ++ name) ⟨#[47, 46, 46, 47]⟩ (by rw [ByteArray.size_append]; omega)
  have hadd4 := fun W => run_string_add_sum (P := Try.prog) (w := W) ((⟨#[47]⟩ ++ name) ++ ⟨#[47, 46, 46, 47]⟩) c (by rw [ByteArray.size_append, ByteArray.size_append]; omega)
  have H1 := fun W => split_any (⟨#[47]⟩ ++ c) W (by rw [ByteArray.size_append]; omega)
  have H2 := fun W => split_any (((⟨#[47]⟩ ++ name) ++ ⟨#[47, 46, 46, 47]⟩) ++ c) W (by rw [ByteArray.size_append, ByteArray.size_append, ByteArray.size_append]; omega)
  have H3 := fun W v (h : Strs W v [name]) => join_any v [name] W h
  have H4 := fun W v (h : Strs W v A) => join_any v A W h
  have H5 := fun W v (h : Strs W v B) => join_any v B W h
  have H6 := fun W v (h : Strs W v (A ++ B)) => join_any v (A ++ B) W h
  have HOWN : Hid (∀ W base v, W.ownsRow base 9 1 v (m3 + m4) (A.map .string ++ B.map .string) → Strs W v (A ++ B)) := fun W base v h => Strs.own (base := base) (by rw [List.length_append, hl3, hl4, List.map_append]; exact h)
  obtain ⟨mm, hmm⟩ : ∃ mm, m3 + m4 = mm := ⟨_, rfl⟩
  have hwm : IntKind.i64.wrap ((m3 : Int) + (m4 : Int)) = (mm : Int) := by rw [IntKind.wrap_i64]; omega
  obtain ⟨X, hX, hmk⟩ := make_strs mm (by omega)
  have HO0 := Lib.hid (fun W => World.ownsRow_made (base := W.heap.size) (e := 9) (size := 1) W X mm (Nat.le_refl _) (by unfold maxLen; omega) hX)
  have e3 : 0 + A.length ≤ 100000 := by omega
  have e4 : m3 + B.length ≤ 100000 := by omega
  unfold SplitPost at H1 H2
  have nf : ¬ fitJ [name] := fun h => np (h.2.1 name (List.mem_singleton.2 rfl))
  rw [(join_no nf).1, (join_no nf).2] at H3
  clear nf
  obtain ⟨T1, hT1⟩ : ∃ T, (⟨#[47]⟩ : ByteArray) ++ c = T := ⟨_, rfl⟩
  obtain ⟨T2, hT2⟩ : ∃ T, (⟨#[47]⟩ : ByteArray) ++ name = T := ⟨_, rfl⟩
  obtain ⟨T3, hT3⟩ : ∃ T, T2 ++ (⟨#[47, 46, 46, 47]⟩ : ByteArray) = T := ⟨_, rfl⟩
  obtain ⟨T4, hT4⟩ : ∃ T, T3 ++ c = T := ⟨_, rfl⟩
  simp only [hT1, hT2, hT3, hT4] at hadd1 hadd2 hadd3 hadd4 H1 H2
  generalize splitV T1 = V at *
  generalize splitE T1 = E at *
  generalize splitV T4 = V2 at *
  generalize splitE T4 = E2 at *
  have hEE : (E != E) = false := bne_self_eq_false E
  rw [(join_yes f1).1, (join_yes f1).2] at H4
  rw [(join_yes f2).1, (join_yes f2).2] at H5
  have s1 := fit_size f1
  have s2 := fit_size f2
  have q3 : ((m3 : Int) == 0) = true := by rw [← hl3, f3]; rfl
  generalize joinV (A ++ B) = rv at *
  generalize joinE (A ++ B) = re at *
  generalize outJ A = p at *
  generalize outJ B = q at *
  have HL3 := Lib.hid hl3
  have HL4 := Lib.hid hl4
  have HMM := Lib.hid hmm
  have I1 := Lib.hid H1
  have I2 := Lib.hid H2
  have I3 := Lib.hid H3
  have I4 := Lib.hid H4
  have I5 := Lib.hid H5
  have I6 := Lib.hid H6
  clear H1 H2 H3 H4 H5 H6 hl3 hl4 hmm np f1 f2 f3 s1 s2 hT1 hT2 hT3 hT4 t1 t3 hcz z0 z1 hK
  obtain ⟨W0, rfl⟩ : ∃ W0 : World, W0 = w := ⟨_, rfl⟩
  go_enter Try.func6, Try.ntmps6
  go_wp2_with (first
    | (go_at_call 8; (with_reducible refine Calls.mono (shown_any _) ?_); rintro e w1 ⟨rfl, hB1⟩; have HB1 := Lib.hid hB1; clear hB1)
    | (go_at_call 9; (with_reducible refine Calls.mono (I1.out _) ?_); rintro e w2 ⟨v1, rfl, hv1, hB2⟩; have HV1 := Lib.hid hv1; have HB2 := Lib.hid (below_th HB1.out hB2); clear hB2 hv1)
    | (go_at_call 9; (with_reducible refine Calls.mono (I2.out _) ?_); rintro e w3 ⟨v2, rfl, hv2, hB3⟩; have HV2 := Lib.hid hv2; have HV13 := Lib.hid (HV1.out.below hB3); have HB3 := Lib.hid (below_al (below_th HB2.out hB3) (.cells #[.string name] 9)); have HS1 := Lib.hid (Strs.one (World.alloc_heap_new w3 (.cells #[.string name] 9))); have HV2b := Lib.hid (hv2.below (below_new w3 (.cells #[.string name] 9))); have HV13b := Lib.hid (HV13.out.below (below_new w3 (.cells #[.string name] 9))); clear hB3 hv2)
    | (go_at_call 11; (with_reducible refine Calls.mono (I3.out _ _ HS1.out) ?_); rintro e w4 ⟨rfl, hB4⟩; have HV24 := Lib.hid (HV2b.out.below hB4); have HV14 := Lib.hid (HV13b.out.below hB4); have HB4 := Lib.hid (below_th HB3.out hB4); clear hB4)
    | (go_at_call 11; (with_reducible refine Calls.mono (I4.out _ _ (k3.out _ HB4.out)) ?_); rintro e w6 ⟨rfl, hB6⟩; have HB6 := Lib.hid (below_th HB4.out hB6); clear hB6)
    | (go_at_call 11; (with_reducible refine Calls.mono (I5.out _ _ (k4.out _ HB6.out)) ?_); rintro e w7 ⟨rfl, hB7⟩; have HB7 := Lib.hid (below_th HB6.out hB7); have HB7a := Lib.hid (below_al HB7.out (.cells X 9)); clear hB7)
    | (at_builtin; (refine wpList_append_strs rfl (.tmp 93) (.tmp 94) rfl rfl w7.heap.size (.slice (some ⟨w7.heap.size, 0, none⟩) 0 mm) 0 [] rfl (HO0.out w7) _ A rfl (k3.out _ HB7a.out) e3 (by simp) ?_); intro va w8 hown8 hgrow8; rw [Nat.zero_add, List.nil_append, HL3.out] at hown8; have HO8 := Lib.hid hown8; have HB8 := Lib.hid (HB7a.out.grown hgrow8 HB7a.out.size (fun r e => by simp [Value.ownBlock] at e; exact e ▸ HB7.out.size)); have HZ8 := Lib.hid (show w7.heap.size ≤ w8.heap.size by have := hgrow8.size; simp at this; omega); clear hown8 hgrow8)
    | (at_builtin; (refine wpList_append_strs rfl (.tmp 95) (.tmp 96) rfl rfl w7.heap.size _ m3 (A.map .string) rfl HO8.out _ B rfl (k4.out _ HB8.out) e4 HZ8.out ?_); intro vb w9 hown9 hgrow9; rw [HL4.out] at hown9; have HS9 := Lib.hid (HOWN.out _ _ _ hown9); have HB9 := Lib.hid (HB8.out.grown hgrow9 HB8.out.size (fun r e => Nat.le_trans HB7.out.size (HO8.out.lt r e).1)); clear hown9 hgrow9)
    | (go_at_call 11; (with_reducible refine Calls.mono (I6.out _ _ HS9.out) ?_); rintro e w10 ⟨rfl, hB10⟩; have HS10 := Lib.hid (HS9.out.below hB10); have HB10 := Lib.hid (below_th HB9.out hB10); clear hB10))
  go_ret
  exact ⟨rfl, HB10.out⟩
theorem ups_n4 (v3 v4 : Value) (L3 L4 : List ByteArray) (name s : ByteArray) (w : World) (h3 : Strs w v3 L3) (h4 : Strs w v4 L4) (z0 : name.size ≤ 140737488351232) (z1 : s.size ≤ 140737488351232) (A B : List ByteArray) (hA : L3.take (min L3.length 20) = A) (hB : L4.take (min L4.length 20) = B) (np : ¬ nameP name) (f1 : fitJ A) (f2 : fitJ B) (f3 : ¬ A = []) (f4 : B = []) : Calls Try.prog 6 #[.string name, .string s, v3, v4] w fun e w' => e = .returned (.bool true) ∧ Below w.heap.size w w' := by
  obtain ⟨K, hK⟩ : ∃ K, min s.size 500 = K := ⟨_, rfl⟩
  have hk1 : (min (s.size : Int) 500) = (K : Int) := by omega
  have hk2 : (K : Int) ≤ (s.size : Int) := by omega
  have hk3 : K ≤ s.size := by omega
  obtain ⟨c, hc⟩ : ∃ c, s.extract 0 K = c := ⟨_, rfl⟩
  have hcz : c.size ≤ 500 := by rw [← hc, ByteArray.size_extract]; omega
  obtain ⟨a3, cap3, rfl, hc3, hd3⟩ := h3.parts
  obtain ⟨n3, hn3⟩ : ∃ n, L3.length = n := ⟨_, rfl⟩
  obtain ⟨m3, hm3⟩ : ∃ m, min n3 20 = m := ⟨_, rfl⟩
  have hp3 : (min (n3 : Int) 20) = (m3 : Int) := by omega
  have hz3 : m3 ≤ 20 := by omega
  have j3 := h3.cut m3 (by omega)
  have hl3 : (L3.take m3).length = m3 := by rw [List.length_take]; omega
  rw [hn3, hm3] at hA
  rw [hn3] at hc3 ⊢
  have hq3 : m3 ≤ cap3 := by omega
  have hr3 : (m3 : Int) ≤ (cap3 : Int) := by omega
  rw [hA] at j3 hl3
  have k3 := Lib.hid (fun W (h : Below w.heap.size w W) => j3.below h)
  clear h3 hn3 hm3 hA j3
  obtain ⟨a4, cap4, rfl, hc4, hd4⟩ := h4.parts
  obtain ⟨n4, hn4⟩ : ∃ n, L4.length = n := ⟨_, rfl⟩
  obtain ⟨m4, hm4⟩ : ∃ m, min n4 20 = m := ⟨_, rfl⟩
  have hp4 : (min (n4 : Int) 20) = (m4 : Int) := by omega
  have hz4 : m4 ≤ 20 := by omega
  have j4 := h4.cut m4 (by omega)
  have hl4 : (L4.take m4).length = m4 := by rw [List.length_take]; omega
  rw [hn4, hm4] at hB
  rw [hn4] at hc4 ⊢
  have hq4 : m4 ≤ cap4 := by omega
  have hr4 : (m4 : Int) ≤ (cap4 : Int) := by omega
  rw [hB] at j4 hl4
  have k4 := Lib.hid (fun W (h : Below w.heap.size w W) => j4.below h)
  clear h4 hn4 hm4 hB j4
  have t1 : ((⟨#[47]⟩ : ByteArray)).size = 1 := rfl
  have t3 : ((⟨#[47, 46, 46, 47]⟩ : ByteArray)).size = 4 := rfl
  have hadd1 := fun W => run_string_add_sum (P := Try.prog) (w := W) ⟨#[47]⟩ c (by omega)
  have hadd2 := fun W => run_string_add_sum (P := Try.prog) (w := W) ⟨#[47]⟩ name (by omega)
  have hadd3 := fun W => run_string_add_sum (P := Try.prog) (w := W) (⟨#[47]⟩ ++ name) ⟨#[47, 46, 46, 47]⟩ (by rw [ByteArray.size_append]; omega)
  have hadd4 := fun W => run_string_add_sum (P := Try.prog) (w := W) ((⟨#[47]⟩ ++ name) ++ ⟨#[47, 46, 46, 47]⟩) c (by rw [ByteArray.size_append, ByteArray.size_append]; omega)
  have H1 := fun W => split_any (⟨#[47]⟩ ++ c) W (by rw [ByteArray.size_append]; omega)
  have H2 := fun W => split_any (((⟨#[47]⟩ ++ name) ++ ⟨#[47, 46, 46, 47]⟩) ++ c) W (by rw [ByteArray.size_append, ByteArray.size_append, ByteArray.size_append]; omega)
  have H3 := fun W v (h : Strs W v [name]) => join_any v [name] W h
  have H4 := fun W v (h : Strs W v A) => join_any v A W h
  have H5 := fun W v (h : Strs W v B) => join_any v B W h
  have H6 := fun W v (h : Strs W v (A ++ B)) => join_any v (A ++ B) W h
  have HOWN : Hid (∀ W base v, W.ownsRow base 9 1 v (m3 + m4) (A.map .string ++ B.map .string) → Strs W v (A ++ B)) := fun W base v h => Strs.own (base := base) (by rw [List.length_append, hl3, hl4, List.map_append]; exact h)
  obtain ⟨mm, hmm⟩ : ∃ mm, m3 + m4 = mm := ⟨_, rfl⟩
  have hwm : IntKind.i64.wrap ((m3 : Int) + (m4 : Int)) = (mm : Int) := by rw [IntKind.wrap_i64]; omega
  obtain ⟨X, hX, hmk⟩ := make_strs mm (by omega)
  have HO0 := Lib.hid (fun W => World.ownsRow_made (base := W.heap.size) (e := 9) (size := 1) W X mm (Nat.le_refl _) (by unfold maxLen; omega) hX)
  have e3 : 0 + A.length ≤ 100000 := by omega
  have e4 : m3 + B.length ≤ 100000 := by omega
  unfold SplitPost at H1 H2
  have nf : ¬ fitJ [name] := fun h => np (h.2.1 name (List.mem_singleton.2 rfl))
  rw [(join_no nf).1, (join_no nf).2] at H3
  clear nf
  obtain ⟨T1, hT1⟩ : ∃ T, (⟨#[47]⟩ : ByteArray) ++ c = T := ⟨_, rfl⟩
  obtain ⟨T2, hT2⟩ : ∃ T, (⟨#[47]⟩ : ByteArray) ++ name = T := ⟨_, rfl⟩
  obtain ⟨T3, hT3⟩ : ∃ T, T2 ++ (⟨#[47, 46, 46, 47]⟩ : ByteArray) = T := ⟨_, rfl⟩
  obtain ⟨T4, hT4⟩ : ∃ T, T3 ++ c = T := ⟨_, rfl⟩
  simp only [hT1, hT2, hT3, hT4] at hadd1 hadd2 hadd3 hadd4 H1 H2
  generalize splitV T1 = V at *
  generalize splitE T1 = E at *
  generalize splitV T4 = V2 at *
  generalize splitE T4 = E2 at *
  have hEE : (E != E) = false := bne_self_eq_false E
  rw [(join_yes f1).1, (join_yes f1).2] at H4
  rw [(join_yes f2).1, (join_yes f2).2] at H5
  have s1 := fit_size f1
  have s2 := fit_size f2
  have q3 : ((m3 : Int) == 0) = false := beq_eq_false_iff_ne.2 (fun h => f3 (List.eq_nil_of_length_eq_zero (by omega)))
  have q4 : ((m4 : Int) == 0) = true := by rw [← hl4, f4]; rfl
  generalize joinV (A ++ B) = rv at *
  generalize joinE (A ++ B) = re at *
  generalize outJ A = p at *
  generalize outJ B = q at *
  have HL3 := Lib.hid hl3
  have HL4 := Lib.hid hl4
  have HMM := Lib.hid hmm
  have I1 := Lib.hid H1
  have I2 := Lib.hid H2
  have I3 := Lib.hid H3
  have I4 := Lib.hid H4
  have I5 := Lib.hid H5
  have I6 := Lib.hid H6
  clear H1 H2 H3 H4 H5 H6 hl3 hl4 hmm np f1 f2 f3 f4 s1 s2 hT1 hT2 hT3 hT4 t1 t3 hcz z0 z1 hK
  obtain ⟨W0, rfl⟩ : ∃ W0 : World, W0 = w := ⟨_, rfl⟩
  go_enter Try.func6, Try.ntmps6
  go_wp2_with (first
    | (go_at_call 8; (with_reducible refine Calls.mono (shown_any _) ?_); rintro e w1 ⟨rfl, hB1⟩; have HB1 := Lib.hid hB1; clear hB1)
    | (go_at_call 9; (with_reducible refine Calls.mono (I1.out _) ?_); rintro e w2 ⟨v1, rfl, hv1, hB2⟩; have HV1 := Lib.hid hv1; have HB2 := Lib.hid (below_th HB1.out hB2); clear hB2 hv1)
    | (go_at_call 9; (with_reducible refine Calls.mono (I2.out _) ?_); rintro e w3 ⟨v2, rfl, hv2, hB3⟩; have HV2 := Lib.hid hv2; have HV13 := Lib.hid (HV1.out.below hB3); have HB3 := Lib.hid (below_al (below_th HB2.out hB3) (.cells #[.string name] 9)); have HS1 := Lib.hid (Strs.one (World.alloc_heap_new w3 (.cells #[.string name] 9))); have HV2b := Lib.hid (hv2.below (below_new w3 (.cells #[.string name] 9))); have HV13b := Lib.hid (HV13.out.below (below_new w3 (.cells #[.string name] 9))); clear hB3 hv2)
    | (go_at_call 11; (with_reducible refine Calls.mono (I3.out _ _ HS1.out) ?_); rintro e w4 ⟨rfl, hB4⟩; have HV24 := Lib.hid (HV2b.out.below hB4); have HV14 := Lib.hid (HV13b.out.below hB4); have HB4 := Lib.hid (below_th HB3.out hB4); clear hB4)
    | (go_at_call 11; (with_reducible refine Calls.mono (I4.out _ _ (k3.out _ HB4.out)) ?_); rintro e w6 ⟨rfl, hB6⟩; have HB6 := Lib.hid (below_th HB4.out hB6); clear hB6)
    | (go_at_call 11; (with_reducible refine Calls.mono (I5.out _ _ (k4.out _ HB6.out)) ?_); rintro e w7 ⟨rfl, hB7⟩; have HB7 := Lib.hid (below_th HB6.out hB7); have HB7a := Lib.hid (below_al HB7.out (.cells X 9)); clear hB7)
    | (at_builtin; (refine wpList_append_strs rfl (.tmp 93) (.tmp 94) rfl rfl w7.heap.size (.slice (some ⟨w7.heap.size, 0, none⟩) 0 mm) 0 [] rfl (HO0.out w7) _ A rfl (k3.out _ HB7a.out) e3 (by simp) ?_); intro va w8 hown8 hgrow8; rw [Nat.zero_add, List.nil_append, HL3.out] at hown8; have HO8 := Lib.hid hown8; have HB8 := Lib.hid (HB7a.out.grown hgrow8 HB7a.out.size (fun r e => by simp [Value.ownBlock] at e; exact e ▸ HB7.out.size)); have HZ8 := Lib.hid (show w7.heap.size ≤ w8.heap.size by have := hgrow8.size; simp at this; omega); clear hown8 hgrow8)
    | (at_builtin; (refine wpList_append_strs rfl (.tmp 95) (.tmp 96) rfl rfl w7.heap.size _ m3 (A.map .string) rfl HO8.out _ B rfl (k4.out _ HB8.out) e4 HZ8.out ?_); intro vb w9 hown9 hgrow9; rw [HL4.out] at hown9; have HS9 := Lib.hid (HOWN.out _ _ _ hown9); have HB9 := Lib.hid (HB8.out.grown hgrow9 HB8.out.size (fun r e => Nat.le_trans HB7.out.size (HO8.out.lt r e).1)); clear hown9 hgrow9)
    | (go_at_call 11; (with_reducible refine Calls.mono (I6.out _ _ HS9.out) ?_); rintro e w10 ⟨rfl, hB10⟩; have HS10 := Lib.hid (HS9.out.below hB10); have HB10 := Lib.hid (below_th HB9.out hB10); clear hB10))
  go_ret
  exact ⟨rfl, HB10.out⟩
theorem ups_n5 (v3 v4 : Value) (L3 L4 : List ByteArray) (name s : ByteArray) (w : World) (h3 : Strs w v3 L3) (h4 : Strs w v4 L4) (z0 : name.size ≤ 140737488351232) (z1 : s.size ≤ 140737488351232) (A B : List ByteArray) (hA : L3.take (min L3.length 20) = A) (hB : L4.take (min L4.length 20) = B) (np : ¬ nameP name) (f1 : fitJ A) (f2 : fitJ B) (f3 : ¬ A = []) (f4 : ¬ B = []) (f5 : 1000 < (outJ A).size + (outJ B).size) : Calls Try.prog 6 #[.string name, .string s, v3, v4] w fun e w' => e = .returned (.bool true) ∧ Below w.heap.size w w' := by
  obtain ⟨K, hK⟩ : ∃ K, min s.size 500 = K := ⟨_, rfl⟩
  have hk1 : (min (s.size : Int) 500) = (K : Int) := by omega
  have hk2 : (K : Int) ≤ (s.size : Int) := by omega
  have hk3 : K ≤ s.size := by omega
  obtain ⟨c, hc⟩ : ∃ c, s.extract 0 K = c := ⟨_, rfl⟩
  have hcz : c.size ≤ 500 := by rw [← hc, ByteArray.size_extract]; omega
  obtain ⟨a3, cap3, rfl, hc3, hd3⟩ := h3.parts
  obtain ⟨n3, hn3⟩ : ∃ n, L3.length = n := ⟨_, rfl⟩
  obtain ⟨m3, hm3⟩ : ∃ m, min n3 20 = m := ⟨_, rfl⟩
  have hp3 : (min (n3 : Int) 20) = (m3 : Int) := by omega
  have hz3 : m3 ≤ 20 := by omega
  have j3 := h3.cut m3 (by omega)
  have hl3 : (L3.take m3).length = m3 := by rw [List.length_take]; omega
  rw [hn3, hm3] at hA
  rw [hn3] at hc3 ⊢
  have hq3 : m3 ≤ cap3 := by omega
  have hr3 : (m3 : Int) ≤ (cap3 : Int) := by omega
  rw [hA] at j3 hl3
  have k3 := Lib.hid (fun W (h : Below w.heap.size w W) => j3.below h)
  clear h3 hn3 hm3 hA j3
  obtain ⟨a4, cap4, rfl, hc4, hd4⟩ := h4.parts
  obtain ⟨n4, hn4⟩ : ∃ n, L4.length = n := ⟨_, rfl⟩
  obtain ⟨m4, hm4⟩ : ∃ m, min n4 20 = m := ⟨_, rfl⟩
  have hp4 : (min (n4 : Int) 20) = (m4 : Int) := by omega
  have hz4 : m4 ≤ 20 := by omega
  have j4 := h4.cut m4 (by omega)
  have hl4 : (L4.take m4).length = m4 := by rw [List.length_take]; omega
  rw [hn4, hm4] at hB
  rw [hn4] at hc4 ⊢
  have hq4 : m4 ≤ cap4 := by omega
  have hr4 : (m4 : Int) ≤ (cap4 : Int) := by omega
  rw [hB] at j4 hl4
  have k4 := Lib.hid (fun W (h : Below w.heap.size w W) => j4.below h)
  clear h4 hn4 hm4 hB j4
  have t1 : ((⟨#[47]⟩ : ByteArray)).size = 1 := rfl
  have t3 : ((⟨#[47, 46, 46, 47]⟩ : ByteArray)).size = 4 := rfl
  have hadd1 := fun W => run_string_add_sum (P := Try.prog) (w := W) ⟨#[47]⟩ c (by omega)
  have hadd2 := fun W => run_string_add_sum (P := Try.prog) (w := W) ⟨#[47]⟩ name (by omega)
  have hadd3 := fun W => run_string_add_sum (P := Try.prog) (w := W) (⟨#[47]⟩ ++ name) ⟨#[47, 46, 46, 47]⟩ (by rw [ByteArray.size_append]; omega)
  have hadd4 := fun W => run_string_add_sum (P := Try.prog) (w := W) ((⟨#[47]⟩ ++ name) ++ ⟨#[47, 46, 46, 47]⟩) c (by rw [ByteArray.size_append, ByteArray.size_append]; omega)
  have H1 := fun W => split_any (⟨#[47]⟩ ++ c) W (by rw [ByteArray.size_append]; omega)
  have H2 := fun W => split_any (((⟨#[47]⟩ ++ name) ++ ⟨#[47, 46, 46, 47]⟩) ++ c) W (by rw [ByteArray.size_append, ByteArray.size_append, ByteArray.size_append]; omega)
  have H3 := fun W v (h : Strs W v [name]) => join_any v [name] W h
  have H4 := fun W v (h : Strs W v A) => join_any v A W h
  have H5 := fun W v (h : Strs W v B) => join_any v B W h
  have H6 := fun W v (h : Strs W v (A ++ B)) => join_any v (A ++ B) W h
  have HOWN : Hid (∀ W base v, W.ownsRow base 9 1 v (m3 + m4) (A.map .string ++ B.map .string) → Strs W v (A ++ B)) := fun W base v h => Strs.own (base := base) (by rw [List.length_append, hl3, hl4, List.map_append]; exact h)
  obtain ⟨mm, hmm⟩ : ∃ mm, m3 + m4 = mm := ⟨_, rfl⟩
  have hwm : IntKind.i64.wrap ((m3 : Int) + (m4 : Int)) = (mm : Int) := by rw [IntKind.wrap_i64]; omega
  obtain ⟨X, hX, hmk⟩ := make_strs mm (by omega)
  have HO0 := Lib.hid (fun W => World.ownsRow_made (base := W.heap.size) (e := 9) (size := 1) W X mm (Nat.le_refl _) (by unfold maxLen; omega) hX)
  have e3 : 0 + A.length ≤ 100000 := by omega
  have e4 : m3 + B.length ≤ 100000 := by omega
  unfold SplitPost at H1 H2
  have nf : ¬ fitJ [name] := fun h => np (h.2.1 name (List.mem_singleton.2 rfl))
  rw [(join_no nf).1, (join_no nf).2] at H3
  clear nf
  obtain ⟨T1, hT1⟩ : ∃ T, (⟨#[47]⟩ : ByteArray) ++ c = T := ⟨_, rfl⟩
  obtain ⟨T2, hT2⟩ : ∃ T, (⟨#[47]⟩ : ByteArray) ++ name = T := ⟨_, rfl⟩
  obtain ⟨T3, hT3⟩ : ∃ T, T2 ++ (⟨#[47, 46, 46, 47]⟩ : ByteArray) = T := ⟨_, rfl⟩
  obtain ⟨T4, hT4⟩ : ∃ T, T3 ++ c = T := ⟨_, rfl⟩
  simp only [hT1, hT2, hT3, hT4] at hadd1 hadd2 hadd3 hadd4 H1 H2
  generalize splitV T1 = V at *
  generalize splitE T1 = E at *
  generalize splitV T4 = V2 at *
  generalize splitE T4 = E2 at *
  have hEE : (E != E) = false := bne_self_eq_false E
  rw [(join_yes f1).1, (join_yes f1).2] at H4
  rw [(join_yes f2).1, (join_yes f2).2] at H5
  have s1 := fit_size f1
  have s2 := fit_size f2
  have q3 : ((m3 : Int) == 0) = false := beq_eq_false_iff_ne.2 (fun h => f3 (List.eq_nil_of_length_eq_zero (by omega)))
  have q4 : ((m4 : Int) == 0) = false := beq_eq_false_iff_ne.2 (fun h => f4 (List.eq_nil_of_length_eq_zero (by omega)))
  obtain ⟨pq, hpq⟩ : ∃ pq, (outJ A).size + (outJ B).size = pq := ⟨_, rfl⟩
  have hwp : IntKind.i64.wrap (((outJ A).size : Int) + ((outJ B).size : Int)) = (pq : Int) := by rw [IntKind.wrap_i64]; omega
  have q5 : (1000 : Int) < (pq : Int) := by omega
  generalize joinV (A ++ B) = rv at *
  generalize joinE (A ++ B) = re at *
  generalize outJ A = p at *
  generalize outJ B = q at *
  have HL3 := Lib.hid hl3
  have HL4 := Lib.hid hl4
  have HMM := Lib.hid hmm
  have I1 := Lib.hid H1
  have I2 := Lib.hid H2
  have I3 := Lib.hid H3
  have I4 := Lib.hid H4
  have I5 := Lib.hid H5
  have I6 := Lib.hid H6
  clear H1 H2 H3 H4 H5 H6 hl3 hl4 hmm np f1 f2 f3 f4 f5 s1 s2 hpq hT1 hT2 hT3 hT4 t1 t3 hcz z0 z1 hK
  obtain ⟨W0, rfl⟩ : ∃ W0 : World, W0 = w := ⟨_, rfl⟩
  go_enter Try.func6, Try.ntmps6
  go_wp2_with (first
    | (go_at_call 8; (with_reducible refine Calls.mono (shown_any _) ?_); rintro e w1 ⟨rfl, hB1⟩; have HB1 := Lib.hid hB1; clear hB1)
    | (go_at_call 9; (with_reducible refine Calls.mono (I1.out _) ?_); rintro e w2 ⟨v1, rfl, hv1, hB2⟩; have HV1 := Lib.hid hv1; have HB2 := Lib.hid (below_th HB1.out hB2); clear hB2 hv1)
    | (go_at_call 9; (with_reducible refine Calls.mono (I2.out _) ?_); rintro e w3 ⟨v2, rfl, hv2, hB3⟩; have HV2 := Lib.hid hv2; have HV13 := Lib.hid (HV1.out.below hB3); have HB3 := Lib.hid (below_al (below_th HB2.out hB3) (.cells #[.string name] 9)); have HS1 := Lib.hid (Strs.one (World.alloc_heap_new w3 (.cells #[.string name] 9))); have HV2b := Lib.hid (hv2.below (below_new w3 (.cells #[.string name] 9))); have HV13b := Lib.hid (HV13.out.below (below_new w3 (.cells #[.string name] 9))); clear hB3 hv2)
    | (go_at_call 11; (with_reducible refine Calls.mono (I3.out _ _ HS1.out) ?_); rintro e w4 ⟨rfl, hB4⟩; have HV24 := Lib.hid (HV2b.out.below hB4); have HV14 := Lib.hid (HV13b.out.below hB4); have HB4 := Lib.hid (below_th HB3.out hB4); clear hB4)
    | (go_at_call 11; (with_reducible refine Calls.mono (I4.out _ _ (k3.out _ HB4.out)) ?_); rintro e w6 ⟨rfl, hB6⟩; have HB6 := Lib.hid (below_th HB4.out hB6); clear hB6)
    | (go_at_call 11; (with_reducible refine Calls.mono (I5.out _ _ (k4.out _ HB6.out)) ?_); rintro e w7 ⟨rfl, hB7⟩; have HB7 := Lib.hid (below_th HB6.out hB7); have HB7a := Lib.hid (below_al HB7.out (.cells X 9)); clear hB7)
    | (at_builtin; (refine wpList_append_strs rfl (.tmp 93) (.tmp 94) rfl rfl w7.heap.size (.slice (some ⟨w7.heap.size, 0, none⟩) 0 mm) 0 [] rfl (HO0.out w7) _ A rfl (k3.out _ HB7a.out) e3 (by simp) ?_); intro va w8 hown8 hgrow8; rw [Nat.zero_add, List.nil_append, HL3.out] at hown8; have HO8 := Lib.hid hown8; have HB8 := Lib.hid (HB7a.out.grown hgrow8 HB7a.out.size (fun r e => by simp [Value.ownBlock] at e; exact e ▸ HB7.out.size)); have HZ8 := Lib.hid (show w7.heap.size ≤ w8.heap.size by have := hgrow8.size; simp at this; omega); clear hown8 hgrow8)
    | (at_builtin; (refine wpList_append_strs rfl (.tmp 95) (.tmp 96) rfl rfl w7.heap.size _ m3 (A.map .string) rfl HO8.out _ B rfl (k4.out _ HB8.out) e4 HZ8.out ?_); intro vb w9 hown9 hgrow9; rw [HL4.out] at hown9; have HS9 := Lib.hid (HOWN.out _ _ _ hown9); have HB9 := Lib.hid (HB8.out.grown hgrow9 HB8.out.size (fun r e => Nat.le_trans HB7.out.size (HO8.out.lt r e).1)); clear hown9 hgrow9)
    | (go_at_call 11; (with_reducible refine Calls.mono (I6.out _ _ HS9.out) ?_); rintro e w10 ⟨rfl, hB10⟩; have HS10 := Lib.hid (HS9.out.below hB10); have HB10 := Lib.hid (below_th HB9.out hB10); clear hB10))
  go_ret
  exact ⟨rfl, HB10.out⟩
theorem ups_n6 (v3 v4 : Value) (L3 L4 : List ByteArray) (name s : ByteArray) (w : World) (h3 : Strs w v3 L3) (h4 : Strs w v4 L4) (z0 : name.size ≤ 140737488351232) (z1 : s.size ≤ 140737488351232) (A B : List ByteArray) (hA : L3.take (min L3.length 20) = A) (hB : L4.take (min L4.length 20) = B) (np : ¬ nameP name) (f1 : fitJ A) (f2 : fitJ B) (f3 : ¬ A = []) (f4 : ¬ B = []) (f5 : (outJ A).size + (outJ B).size ≤ 1000) : Calls Try.prog 6 #[.string name, .string s, v3, v4] w fun e w' => e = .returned (.bool true) ∧ Below w.heap.size w w' := by
  obtain ⟨K, hK⟩ : ∃ K, min s.size 500 = K := ⟨_, rfl⟩
  have hk1 : (min (s.size : Int) 500) = (K : Int) := by omega
  have hk2 : (K : Int) ≤ (s.size : Int) := by omega
  have hk3 : K ≤ s.size := by omega
  obtain ⟨c, hc⟩ : ∃ c, s.extract 0 K = c := ⟨_, rfl⟩
  have hcz : c.size ≤ 500 := by rw [← hc, ByteArray.size_extract]; omega
  obtain ⟨a3, cap3, rfl, hc3, hd3⟩ := h3.parts
  obtain ⟨n3, hn3⟩ : ∃ n, L3.length = n := ⟨_, rfl⟩
  obtain ⟨m3, hm3⟩ : ∃ m, min n3 20 = m := ⟨_, rfl⟩
  have hp3 : (min (n3 : Int) 20) = (m3 : Int) := by omega
  have hz3 : m3 ≤ 20 := by omega
  have j3 := h3.cut m3 (by omega)
  have hl3 : (L3.take m3).length = m3 := by rw [List.length_take]; omega
  rw [hn3, hm3] at hA
  rw [hn3] at hc3 ⊢
  have hq3 : m3 ≤ cap3 := by omega
  have hr3 : (m3 : Int) ≤ (cap3 : Int) := by omega
  rw [hA] at j3 hl3
  have k3 := Lib.hid (fun W (h : Below w.heap.size w W) => j3.below h)
  clear h3 hn3 hm3 hA j3
  obtain ⟨a4, cap4, rfl, hc4, hd4⟩ := h4.parts
  obtain ⟨n4, hn4⟩ : ∃ n, L4.length = n := ⟨_, rfl⟩
  obtain ⟨m4, hm4⟩ : ∃ m, min n4 20 = m := ⟨_, rfl⟩
  have hp4 : (min (n4 : Int) 20) = (m4 : Int) := by omega
  have hz4 : m4 ≤ 20 := by omega
  have j4 := h4.cut m4 (by omega)
  have hl4 : (L4.take m4).length = m4 := by rw [List.length_take]; omega
  rw [hn4, hm4] at hB
  rw [hn4] at hc4 ⊢
  have hq4 : m4 ≤ cap4 := by omega
  have hr4 : (m4 : Int) ≤ (cap4 : Int) := by omega
  rw [hB] at j4 hl4
  have k4 := Lib.hid (fun W (h : Below w.heap.size w W) => j4.below h)
  clear h4 hn4 hm4 hB j4
  have t1 : ((⟨#[47]⟩ : ByteArray)).size = 1 := rfl
  have t3 : ((⟨#[47, 46, 46, 47]⟩ : ByteArray)).size = 4 := rfl
  have hadd1 := fun W => run_string_add_sum (P := Try.prog) (w := W) ⟨#[47]⟩ c (by omega)
  have hadd2 := fun W => run_string_add_sum (P := Try.prog) (w := W) ⟨#[47]⟩ name (by omega)
  have hadd3 := fun W => run_string_add_sum (P := Try.prog) (w := W) (⟨#[47]⟩ ++ name) ⟨#[47, 46, 46, 47]⟩ (by rw [ByteArray.size_append]; omega)
  have hadd4 := fun W => run_string_add_sum (P := Try.prog) (w := W) ((⟨#[47]⟩ ++ name) ++ ⟨#[47, 46, 46, 47]⟩) c (by rw [ByteArray.size_append, ByteArray.size_append]; omega)
  have H1 := fun W => split_any (⟨#[47]⟩ ++ c) W (by rw [ByteArray.size_append]; omega)
  have H2 := fun W => split_any (((⟨#[47]⟩ ++ name) ++ ⟨#[47, 46, 46, 47]⟩) ++ c) W (by rw [ByteArray.size_append, ByteArray.size_append, ByteArray.size_append]; omega)
  have H3 := fun W v (h : Strs W v [name]) => join_any v [name] W h
  have H4 := fun W v (h : Strs W v A) => join_any v A W h
  have H5 := fun W v (h : Strs W v B) => join_any v B W h
  have H6 := fun W v (h : Strs W v (A ++ B)) => join_any v (A ++ B) W h
  have HOWN : Hid (∀ W base v, W.ownsRow base 9 1 v (m3 + m4) (A.map .string ++ B.map .string) → Strs W v (A ++ B)) := fun W base v h => Strs.own (base := base) (by rw [List.length_append, hl3, hl4, List.map_append]; exact h)
  obtain ⟨mm, hmm⟩ : ∃ mm, m3 + m4 = mm := ⟨_, rfl⟩
  have hwm : IntKind.i64.wrap ((m3 : Int) + (m4 : Int)) = (mm : Int) := by rw [IntKind.wrap_i64]; omega
  obtain ⟨X, hX, hmk⟩ := make_strs mm (by omega)
  have HO0 := Lib.hid (fun W => World.ownsRow_made (base := W.heap.size) (e := 9) (size := 1) W X mm (Nat.le_refl _) (by unfold maxLen; omega) hX)
  have e3 : 0 + A.length ≤ 100000 := by omega
  have e4 : m3 + B.length ≤ 100000 := by omega
  unfold SplitPost at H1 H2
  have nf : ¬ fitJ [name] := fun h => np (h.2.1 name (List.mem_singleton.2 rfl))
  rw [(join_no nf).1, (join_no nf).2] at H3
  clear nf
  obtain ⟨T1, hT1⟩ : ∃ T, (⟨#[47]⟩ : ByteArray) ++ c = T := ⟨_, rfl⟩
  obtain ⟨T2, hT2⟩ : ∃ T, (⟨#[47]⟩ : ByteArray) ++ name = T := ⟨_, rfl⟩
  obtain ⟨T3, hT3⟩ : ∃ T, T2 ++ (⟨#[47, 46, 46, 47]⟩ : ByteArray) = T := ⟨_, rfl⟩
  obtain ⟨T4, hT4⟩ : ∃ T, T3 ++ c = T := ⟨_, rfl⟩
  simp only [hT1, hT2, hT3, hT4] at hadd1 hadd2 hadd3 hadd4 H1 H2
  generalize splitV T1 = V at *
  generalize splitE T1 = E at *
  generalize splitV T4 = V2 at *
  generalize splitE T4 = E2 at *
  have hEE : (E != E) = false := bne_self_eq_false E
  rw [(join_yes f1).1, (join_yes f1).2] at H4
  rw [(join_yes f2).1, (join_yes f2).2] at H5
  have s1 := fit_size f1
  have s2 := fit_size f2
  have q3 : ((m3 : Int) == 0) = false := beq_eq_false_iff_ne.2 (fun h => f3 (List.eq_nil_of_length_eq_zero (by omega)))
  have q4 : ((m4 : Int) == 0) = false := beq_eq_false_iff_ne.2 (fun h => f4 (List.eq_nil_of_length_eq_zero (by omega)))
  obtain ⟨pq, hpq⟩ : ∃ pq, (outJ A).size + (outJ B).size = pq := ⟨_, rfl⟩
  have hwp : IntKind.i64.wrap (((outJ A).size : Int) + ((outJ B).size : Int)) = (pq : Int) := by rw [IntKind.wrap_i64]; omega
  have q5 : ¬ (1000 : Int) < (pq : Int) := by omega
  obtain ⟨jf, jo⟩ := join_two f1 f2 f3 f4 (by omega) (by omega)
  rw [(join_yes jf).1, (join_yes jf).2, jo] at H6
  have hadd5 := fun W => run_string_add_sum (P := Try.prog) (w := W) (outJ A) (outJ B) (by omega)
  have hW1 : withinB A (A ++ B) = true := within_pre A B
  have hW2 : withinB (A ++ B) A = false := within_long (by rw [List.length_append]; have : 0 < B.length := List.length_pos_iff.2 f4; omega)
  clear jf jo
  generalize outJ A = p at *
  generalize outJ B = q at *
  obtain ⟨pp, hpp⟩ : ∃ pp, p ++ q = pp := ⟨_, rfl⟩
  simp only [hpp] at hadd5 H6
  have hbe : (pp.toList == pp.toList) = true := by simp
  clear hpp
  have HL3 := Lib.hid hl3
  have HL4 := Lib.hid hl4
  have HMM := Lib.hid hmm
  have I1 := Lib.hid H1
  have I2 := Lib.hid H2
  have I3 := Lib.hid H3
  have I4 := Lib.hid H4
  have I5 := Lib.hid H5
  have I6 := Lib.hid H6
  clear H1 H2 H3 H4 H5 H6 hl3 hl4 hmm np f1 f2 f3 f4 f5 s1 s2 hpq hT1 hT2 hT3 hT4 t1 t3 hcz z0 z1 hK
  obtain ⟨W0, rfl⟩ : ∃ W0 : World, W0 = w := ⟨_, rfl⟩
  go_enter Try.func6, Try.ntmps6
  go_wp2_with (first
    | (go_at_call 8; (with_reducible refine Calls.mono (shown_any _) ?_); rintro e w1 ⟨rfl, hB1⟩; have HB1 := Lib.hid hB1; clear hB1)
    | (go_at_call 9; (with_reducible refine Calls.mono (I1.out _) ?_); rintro e w2 ⟨v1, rfl, hv1, hB2⟩; have HV1 := Lib.hid hv1; have HB2 := Lib.hid (below_th HB1.out hB2); clear hB2 hv1)
    | (go_at_call 9; (with_reducible refine Calls.mono (I2.out _) ?_); rintro e w3 ⟨v2, rfl, hv2, hB3⟩; have HV2 := Lib.hid hv2; have HV13 := Lib.hid (HV1.out.below hB3); have HB3 := Lib.hid (below_al (below_th HB2.out hB3) (.cells #[.string name] 9)); have HS1 := Lib.hid (Strs.one (World.alloc_heap_new w3 (.cells #[.string name] 9))); have HV2b := Lib.hid (hv2.below (below_new w3 (.cells #[.string name] 9))); have HV13b := Lib.hid (HV13.out.below (below_new w3 (.cells #[.string name] 9))); clear hB3 hv2)
    | (go_at_call 11; (with_reducible refine Calls.mono (I3.out _ _ HS1.out) ?_); rintro e w4 ⟨rfl, hB4⟩; have HV24 := Lib.hid (HV2b.out.below hB4); have HV14 := Lib.hid (HV13b.out.below hB4); have HB4 := Lib.hid (below_th HB3.out hB4); clear hB4)
    | (go_at_call 11; (with_reducible refine Calls.mono (I4.out _ _ (k3.out _ HB4.out)) ?_); rintro e w6 ⟨rfl, hB6⟩; have HB6 := Lib.hid (below_th HB4.out hB6); clear hB6)
    | (go_at_call 11; (with_reducible refine Calls.mono (I5.out _ _ (k4.out _ HB6.out)) ?_); rintro e w7 ⟨rfl, hB7⟩; have HB7 := Lib.hid (below_th HB6.out hB7); have HB7a := Lib.hid (below_al HB7.out (.cells X 9)); clear hB7)
    | (at_builtin; (refine wpList_append_strs rfl (.tmp 93) (.tmp 94) rfl rfl w7.heap.size (.slice (some ⟨w7.heap.size, 0, none⟩) 0 mm) 0 [] rfl (HO0.out w7) _ A rfl (k3.out _ HB7a.out) e3 (by simp) ?_); intro va w8 hown8 hgrow8; rw [Nat.zero_add, List.nil_append, HL3.out] at hown8; have HO8 := Lib.hid hown8; have HB8 := Lib.hid (HB7a.out.grown hgrow8 HB7a.out.size (fun r e => by simp [Value.ownBlock] at e; exact e ▸ HB7.out.size)); have HZ8 := Lib.hid (show w7.heap.size ≤ w8.heap.size by have := hgrow8.size; simp at this; omega); clear hown8 hgrow8)
    | (at_builtin; (refine wpList_append_strs rfl (.tmp 95) (.tmp 96) rfl rfl w7.heap.size _ m3 (A.map .string) rfl HO8.out _ B rfl (k4.out _ HB8.out) e4 HZ8.out ?_); intro vb w9 hown9 hgrow9; rw [HL4.out] at hown9; have HS9 := Lib.hid (HOWN.out _ _ _ hown9); have HB9 := Lib.hid (HB8.out.grown hgrow9 HB8.out.size (fun r e => Nat.le_trans HB7.out.size (HO8.out.lt r e).1)); clear hown9 hgrow9)
    | (go_at_call 11; (with_reducible refine Calls.mono (I6.out _ _ HS9.out) ?_); rintro e w10 ⟨rfl, hB10⟩; have HS10 := Lib.hid (HS9.out.below hB10); have HB10 := Lib.hid (below_th HB9.out hB10); clear hB10)
    | (go_at_call 16; (with_reducible refine Calls.mono (within_any _ _ A (A ++ B) _ (k3.out _ HB10.out) HS10.out) ?_); rw [hW1]; rintro e w11 ⟨rfl, hB11⟩; have HS11 := Lib.hid (HS10.out.below hB11); have HB11 := Lib.hid (below_th HB10.out hB11); clear hB11)
    | (go_at_call 16; (with_reducible refine Calls.mono (within_any _ _ (A ++ B) A _ HS11.out (k3.out _ HB11.out)) ?_); rw [hW2]; rintro e w12 ⟨rfl, hB12⟩; have HB12 := Lib.hid (below_th HB11.out hB12); clear hB12))
  go_ret
  exact ⟨rfl, HB12.out⟩
theorem PathUps_walk (name s : ByteArray) (v3 : Value) (L3 : List ByteArray) (v4 : Value) (L4 : List ByteArray) (w : World) (z0 : name.size ≤ 140737488351232) (z1 : s.size ≤ 140737488351232) (h3 : Strs w v3 L3) (z3 : ∀ p ∈ L3, p.size ≤ maxLen) (h4 : Strs w v4 L4) (z4 : ∀ p ∈ L4, p.size ≤ maxLen) : Calls Try.prog 6 #[.string name, .string s, v3, v4] w fun e w' => e = .returned (.bool true) ∧ Below w.heap.size w w' := by
  by_cases f1 : fitJ (L3.take (min L3.length 20))
  · by_cases f2 : fitJ (L4.take (min L4.length 20))
    · by_cases f3 : L3.take (min L3.length 20) = []
      · by_cases np : nameP name
        · exact ups_y3 v3 v4 L3 L4 name s w h3 h4 z0 z1 _ _ rfl rfl np f1 f2 f3
        · exact ups_n3 v3 v4 L3 L4 name s w h3 h4 z0 z1 _ _ rfl rfl np f1 f2 f3
      · by_cases f4 : L4.take (min L4.length 20) = []
        · by_cases np : nameP name
          · exact ups_y4 v3 v4 L3 L4 name s w h3 h4 z0 z1 _ _ rfl rfl np f1 f2 f3 f4
          · exact ups_n4 v3 v4 L3 L4 name s w h3 h4 z0 z1 _ _ rfl rfl np f1 f2 f3 f4
        · by_cases f5 : 1000 < (outJ (L3.take (min L3.length 20))).size + (outJ (L4.take (min L4.length 20))).size
          · by_cases np : nameP name
            · exact ups_y5 v3 v4 L3 L4 name s w h3 h4 z0 z1 _ _ rfl rfl np f1 f2 f3 f4 f5
            · exact ups_n5 v3 v4 L3 L4 name s w h3 h4 z0 z1 _ _ rfl rfl np f1 f2 f3 f4 f5
          · by_cases np : nameP name
            · exact ups_y6 v3 v4 L3 L4 name s w h3 h4 z0 z1 _ _ rfl rfl np f1 f2 f3 f4 (by omega)
            · exact ups_n6 v3 v4 L3 L4 name s w h3 h4 z0 z1 _ _ rfl rfl np f1 f2 f3 f4 (by omega)
    · by_cases np : nameP name
      · exact ups_y2 v3 v4 L3 L4 name s w h3 h4 z0 z1 _ _ rfl rfl np f1 f2
      · exact ups_n2 v3 v4 L3 L4 name s w h3 h4 z0 z1 _ _ rfl rfl np f1 f2
  · by_cases np : nameP name
    · exact ups_y1 v3 v4 L3 L4 name s w h3 h4 z0 z1 _ _ rfl rfl np f1
    · exact ups_n1 v3 v4 L3 L4 name s w h3 h4 z0 z1 _ _ rfl rfl np f1
end
end Go.Proofs.Ytgmpfkhcohlijaa.Pth
