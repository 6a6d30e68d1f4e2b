/- UsageSets, walked. -/
import Derived.Test.YtgadclbenbakfaaUsgRefS
namespace Go.Proofs.Ytgadclbenbakfaa.Usage
open Go.RowKit
attribute [local go_sem] Oper.semAt_some
set_option linter.unusedVariables false

theorem same_eq (v1 v2 : Value) (X : List S) (W : World) (h1 : Segs W v1 X) (h2 : Segs W v2 X) : Calls Try.prog 20 #[v1, v2] W fun e w' => e = .returned (.bool true) ∧ Below W.heap.size W w' := by
  have h := R.same_any v1 v2 X X W h1 h2
  rw [decide_eq_true rfl] at h
  exact h
theorem Segs.nilOr {w : World} {v : Value} {L : List S} (h : Segs w v L) : (v = .slice none 0 0 ∧ L = []) ∨ ∃ ad cap, v = .slice (some ad) L.length cap ∧ L.length ≤ cap ∧ cap ≤ 9223372036854775807 := by
  obtain ⟨a, cap, rfl, h1, h2⟩ := h.parts
  cases a with
  | some ad => exact .inr ⟨ad, cap, rfl, h1, h2⟩
  | none =>
    have hc := Lies.none_cap h
    have hl : L = [] := List.eq_nil_of_length_eq_zero (by omega)
    subst hl
    subst hc
    exact .inl ⟨rfl, rfl⟩
section
set_option maxRecDepth 100000
set_option maxHeartbeats 4000000
theorem UsageSets_walk (v : Value) (L : List S) (i : Int) (s : S) (w : World) (hL : Segs w v L) (wL : ∀ o ∈ L, SOk o) (k1 : (Lit.int .i64 i).wf = true) (hs : SOk s) :
    Calls Try.prog 5 #[v, .int .i64 i, s.val] w fun e w' => e = .returned (.bool true) ∧ Below w.heap.size w w' := by
  obtain ⟨i0, hin, hz0, hz1, hz2⟩ := info_parts infoSeg
  have hnew := below_new w (boxO s)
  have hAt := At.new w s
  obtain ⟨K, hK⟩ : ∃ K, min L.length 300 = K := ⟨_, rfl⟩
  obtain ⟨M, hM⟩ : ∃ M, L.take K = M := ⟨_, rfl⟩
  have hMl : M.length = K := by rw [← hM, List.length_take]; omega
  have hmk := fun W (hB : Below w.heap.size w W) => R.make_any w.heap.size K (K : Int) rfl (by omega) W hB.size
  have h1 := fun v W (h : Segs W v M) => set_any v M i s W h
  have h2 := fun v W (h : Segs W v M) => R.set_any v M i s W h (by omega)
  unfold SetPost at h1 h2
  have HBX := Lib.hid (fun W (hB : Below (w.alloc (boxO s)).heap.size (w.alloc (boxO s)) W) => (hAt.th hB).c)
  obtain ⟨n, hn⟩ : ∃ n, setE M i s = n := ⟨_, rfl⟩
  obtain ⟨X, hX⟩ : ∃ X, setV M i s = X := ⟨_, rfl⟩
  simp only [hn, hX] at h1 h2
  have hV := cellsL_length M
  rw [hMl] at hV
  have HV := Lib.hid hV
  have HO := Lib.hid (cellsL_one M)
  have HMK := Lib.hid hmk
  have H1 := Lib.hid h1
  have H2 := Lib.hid h2
  have HB0 := Lib.hid hnew
  have HOwn : Hid (∀ (W : World) (base : Nat) (v3 : Value), W.ownsRow base 35 3 v3 K (cellsL M) → Segs W v3 M) := fun W base v3 h => Segs.own (base := base) (by rw [hMl]; exact h)
  have hK3 : K ≤ 300 := by omega
  have hcase : (v = .slice none 0 0 ∧ L = [] ∧ K = 0 ∧ M = []) ∨ ∃ ad cap, v = .slice (some ad) L.length cap ∧ L.length ≤ cap ∧ cap ≤ 9223372036854775807 ∧ Hid (Segs w (.slice (some ad) K cap) M) := by
    rcases hL.nilOr with ⟨e1, e2⟩ | ⟨ad, cap, e, g1, g2⟩
    · subst e2
      refine .inl ⟨e1, rfl, by rw [← hK]; rfl, ?_⟩
      rw [← hM]; simp
    · subst e
      exact .inr ⟨ad, cap, rfl, g1, g2, by rw [← hM]; exact hL.take (by omega)⟩
  clear h1 h2 hmk hV hn hX hAt hnew hM hL wL hMl k1 hs
  obtain ⟨lv, bg, st⟩ := s
  unfold S.val at H1 H2 ⊢
  unfold boxO at HBX HB0
  dsimp only at *
  obtain ⟨W0, rfl⟩ : ∃ W0 : World, W0 = w := ⟨_, rfl⟩
  have hbx := Below.refl (W0.alloc (.cells #[.int .i64 lv, .int .u64 bg, .int .i64 st] 35)).heap.size (W0.alloc (.cells #[.int .i64 lv, .int .u64 bg, .int .i64 st] 35))
  rcases hcase with ⟨rfl, rfl, rfl, rfl⟩ | ⟨ad, cap, rfl, hc1, hc2, HT⟩
  · have HMK3 := Lib.hid (show ∀ W, Below W0.heap.size W0 W → ∃ w2, (Instr.makeSlice 22 (.int .i64 0) (.int .i64 0)).run Try.prog W = .ok (.slice (some ⟨W.heap.size, 0, none⟩) 0 0) w2 ∧ w2.ownsRow W0.heap.size 35 3 (.slice (some ⟨W.heap.size, 0, none⟩) 0 0) 0 [] ∧ W.grownBy w2 none from HMK.out)
    clear hK hK3 HMK
    go_enter Try.func5, Try.ntmps5
    go_wp2_with (first
      | (go_at_call 9; refine (shown_any _).mono ?_; rintro e w1 ⟨rfl, hB1⟩; have hbx := below_th hbx hB1; have hb := below_th HB0.out hbx; obtain ⟨w2, hm2, hown2, hgrow2⟩ := HMK3.out w1 hb; have hB2 := R.make_below hgrow2; have hb2 := below_th hb hB2)
      | (at_builtin; (refine wpList_append_own_none rfl _ _ 22 rfl W0.heap.size 35 i0 3 Try.underlying22 hin (.slice (some ⟨w1.heap.size, 0, none⟩) 0 0) 0 [] rfl hown2 rfl ?_; have hW := HOwn.out _ _ _ hown2; have hbx := below_th hbx hB2; have hT := segs_nil w2; obtain ⟨z0, z1, z2⟩ := HBX.out _ hbx; clear hown2))
      | (go_at_call 18; with_reducible refine Calls.mono (H1.out _ _ hT) ?_; rintro e w4 ⟨va, rfl, hXa, hB4⟩; have hbx := below_th hbx hB4; have hT := hT.below hB4; have hW := hW.below hB4; obtain ⟨z0, z1, z2⟩ := HBX.out _ hbx)
      | (go_at_call 19; with_reducible refine Calls.mono (H2.out _ _ hT) ?_; rintro e w5 ⟨vb, rfl, hXb, hB5⟩; have hbx := below_th hbx hB5; have hT := hT.below hB5; have hW := hW.below hB5; have hXa := hXa.below hB5)
      | (go_at_call 20; with_reducible refine Calls.mono (same_eq _ _ _ _ hXa hXb) ?_; rintro e w6 ⟨rfl, hB6⟩; have hbx := below_th hbx hB6; have hT := hT.below hB6; have hW := hW.below hB6)
      | (go_at_call 20; with_reducible refine Calls.mono (same_eq _ _ _ _ hT hW) ?_; rintro e w7 ⟨rfl, hB7⟩; have hbx := below_th hbx hB7))
    go_ret
    exact ⟨by simp, below_th HB0.out hbx⟩
  · have HN := Lib.hid (fun W (hB : Below W0.heap.size W0 W) => (HT.out.below hB).news)
    obtain ⟨xs, hxs⟩ : ∃ xs, cellsL M = xs := ⟨_, rfl⟩
    simp only [hxs] at HN HV HO HOwn
    clear hxs
    rcases Nat.lt_or_ge 300 L.length with h300 | h300
    · obtain rfl : K = 300 := by omega
      have h3 : (300 : Int) < (L.length : Int) := by omega
      have HMK3 := Lib.hid (show ∀ W, Below W0.heap.size W0 W → ∃ w2, (Instr.makeSlice 22 (.int .i64 0) (.int .i64 300)).run Try.prog W = .ok (.slice (some ⟨W.heap.size, 0, none⟩) 0 300) w2 ∧ w2.ownsRow W0.heap.size 35 3 (.slice (some ⟨W.heap.size, 0, none⟩) 0 300) 0 [] ∧ W.grownBy w2 none from HMK.out)
      clear hK hK3 HMK
      go_enter Try.func5, Try.ntmps5
      go_wp2_with (first
        | (go_at_call 9; refine (shown_any _).mono ?_; rintro e w1 ⟨rfl, hB1⟩; have hbx := below_th hbx hB1; have hb := below_th HB0.out hbx; obtain ⟨w2, hm2, hown2, hgrow2⟩ := HMK3.out w1 hb; have hB2 := R.make_below hgrow2; have hb2 := below_th hb hB2)
        | (at_builtin; (refine wpList_append_own _ rfl _ _ 22 rfl W0.heap.size 35 i0 (.agg #[.int .i64 0, .int .u64 0, .int .i64 0]) 3 24 Try.underlying22 hin hz0 hz1 hz2 rfl (by decide) (.slice (some ⟨w1.heap.size, 0, none⟩) 0 300) 0 [] rfl hown2 ad 300 cap xs rfl HV.out (HN.out _ hb2) HO.out (by unfold maxLen; omega) (by omega) hb2.size ?_; intro v3 w3 hown3 hgrow3 _; rw [Nat.zero_add, List.nil_append] at hown3; have hb13 := hB2.grown hgrow3 hB2.size (fun r e => Nat.le_of_eq (by simpa [Value.ownBlock] using e)); have hW := HOwn.out _ _ _ hown3; have hbx := below_th hbx hb13; have hT := HT.out.below (below_th HB0.out hbx); clear hown3 hgrow3; obtain ⟨z0, z1, z2⟩ := HBX.out _ hbx; clear hown2))
        | (go_at_call 18; with_reducible refine Calls.mono (H1.out _ _ hT) ?_; rintro e w4 ⟨va, rfl, hXa, hB4⟩; have hbx := below_th hbx hB4; have hT := hT.below hB4; have hW := hW.below hB4; obtain ⟨z0, z1, z2⟩ := HBX.out _ hbx)
        | (go_at_call 19; with_reducible refine Calls.mono (H2.out _ _ hT) ?_; rintro e w5 ⟨vb, rfl, hXb, hB5⟩; have hbx := below_th hbx hB5; have hT := hT.below hB5; have hW := hW.below hB5; have hXa := hXa.below hB5)
        | (go_at_call 20; with_reducible refine Calls.mono (same_eq _ _ _ _ hXa hXb) ?_; rintro e w6 ⟨rfl, hB6⟩; have hbx := below_th hbx hB6; have hT := hT.below hB6; have hW := hW.below hB6)
        | (go_at_call 20; with_reducible refine Calls.mono (same_eq _ _ _ _ hT hW) ?_; rintro e w7 ⟨rfl, hB7⟩; have hbx := below_th hbx hB7))
      go_ret
      exact ⟨by simp, below_th HB0.out hbx⟩
    · obtain rfl : K = L.length := by omega
      have h3 : ¬ (300 : Int) < (L.length : Int) := by omega
      have HMK3 := HMK
      clear hK HMK
      go_enter Try.func5, Try.ntmps5
      go_wp2_with (first
        | (go_at_call 9; refine (shown_any _).mono ?_; rintro e w1 ⟨rfl, hB1⟩; have hbx := below_th hbx hB1; have hb := below_th HB0.out hbx; obtain ⟨w2, hm2, hown2, hgrow2⟩ := HMK3.out w1 hb; have hB2 := R.make_below hgrow2; have hb2 := below_th hb hB2)
        | (at_builtin; (refine wpList_append_own _ rfl _ _ 22 rfl W0.heap.size 35 i0 (.agg #[.int .i64 0, .int .u64 0, .int .i64 0]) 3 24 Try.underlying22 hin hz0 hz1 hz2 rfl (by decide) (.slice (some ⟨w1.heap.size, 0, none⟩) 0 L.length) 0 [] rfl hown2 ad L.length cap xs rfl HV.out (HN.out _ hb2) HO.out (by unfold maxLen; omega) (by omega) hb2.size ?_; intro v3 w3 hown3 hgrow3 _; rw [Nat.zero_add, List.nil_append] at hown3; have hb13 := hB2.grown hgrow3 hB2.size (fun r e => Nat.le_of_eq (by simpa [Value.ownBlock] using e)); have hW := HOwn.out _ _ _ hown3; have hbx := below_th hbx hb13; have hT := HT.out.below (below_th HB0.out hbx); clear hown3 hgrow3; obtain ⟨z0, z1, z2⟩ := HBX.out _ hbx; clear hown2))
        | (go_at_call 18; with_reducible refine Calls.mono (H1.out _ _ hT) ?_; rintro e w4 ⟨va, rfl, hXa, hB4⟩; have hbx := below_th hbx hB4; have hT := hT.below hB4; have hW := hW.below hB4; obtain ⟨z0, z1, z2⟩ := HBX.out _ hbx)
        | (go_at_call 19; with_reducible refine Calls.mono (H2.out _ _ hT) ?_; rintro e w5 ⟨vb, rfl, hXb, hB5⟩; have hbx := below_th hbx hB5; have hT := hT.below hB5; have hW := hW.below hB5; have hXa := hXa.below hB5)
        | (go_at_call 20; with_reducible refine Calls.mono (same_eq _ _ _ _ hXa hXb) ?_; rintro e w6 ⟨rfl, hB6⟩; have hbx := below_th hbx hB6; have hT := hT.below hB6; have hW := hW.below hB6)
        | (go_at_call 20; with_reducible refine Calls.mono (same_eq _ _ _ _ hT hW) ?_; rintro e w7 ⟨rfl, hB7⟩; have hbx := below_th hbx hB7))
      go_ret
      exact ⟨by simp, below_th HB0.out hbx⟩
end
end Go.Proofs.Ytgadclbenbakfaa.Usage
