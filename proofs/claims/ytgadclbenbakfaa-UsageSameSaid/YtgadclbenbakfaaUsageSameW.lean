/- UsageSame, walked. -/
import Derived.Test.YtgadclbenbakfaaUsageTakesW
namespace Go.Proofs.Ytgadclbenbakfaa.Usage
open Go.RowKit
attribute [local go_sem] Oper.semAt_some
set_option linter.unusedVariables false

theorem set_same {L : List S} {k : Nat} (h : k < L.length) : L.set k (seg L k) = L := by
  refine seg_ext (by rw [List.length_set]) (fun i hi => ?_)
  rw [seg_set _ h]
  by_cases e : i = k
  · rw [if_pos e, e]
  · rw [if_neg e]
theorem set_wrong (v : Value) (L : List S) (i : Nat) (s : S) (w : World) (hL : Segs w v L) (hi : i < L.length) (hr : ¬ (RightP L ∧ RightP (L.set i s))) :
    Calls Try.prog 18 #[v, .int .i64 i, s.val] w fun e w' => ∃ a cap, e = .returned (.tuple #[.slice a 0 cap, .int .i64 60]) ∧ Below w.heap.size w w' := by
  have hok : ¬ setOk L (i : Int) s := fun h => hr ⟨h.2.1, by have := h.2.2; rwa [Int.toNat_natCast] at this⟩
  refine (set_any v L i s w hL).mono fun e w' hh => ?_
  obtain ⟨v1, h1, h2, h3⟩ := hh
  unfold setV at h2
  unfold setE at h1
  rw [if_neg hok] at h2
  rw [if_pos (by omega), if_neg hok] at h1
  obtain ⟨a, cap, rfl, _⟩ := h2.parts
  exact ⟨a, cap, h1, h3⟩
theorem neq_same (a : S) (W : World) : (binOp .neq 35 a.val a.val).run Try.prog W = .ok (.bool false) W := by
  rw [R.neqG, decide_eq_true rfl]
  rfl
section
set_option maxRecDepth 100000
set_option maxHeartbeats 4000000
theorem UsageSame_head (v : Value) (L : List S) (i j : Int) (s : S) (w : World) (hL : Segs w v L) (h : ¬ RightP L ∨ (RightP L ∧ (i < 0 ∨ (0 ≤ i ∧ (L.length : Int) ≤ i) ∨ (0 ≤ i ∧ i < L.length ∧ j < 0) ∨ (0 ≤ i ∧ i < L.length ∧ 0 ≤ j ∧ (L.length : Int) ≤ j)))) :
    Calls Try.prog 8 #[v, .int .i64 i, .int .i64 j, s.val] w fun e w' => e = .returned (.bool true) ∧ Below w.heap.size w w' := by
  obtain ⟨a, cap, rfl, hn, hm⟩ := hL.parts
  have hb := below_new w (boxO s)
  obtain ⟨lv, bg, st⟩ := s
  unfold S.val
  unfold boxO at hb
  dsimp only at *
  obtain ⟨W0, rfl⟩ : ∃ W0 : World, W0 = w := ⟨_, rfl⟩
  rcases Nat.lt_or_ge 300 L.length with h300 | h300
  · have h3 : (300 : Int) < (L.length : Int) := by omega
    have hT := hL.take (K := 300) (by omega)
    have hR := fun W (h : Segs W (.slice a 300 cap) (L.take 300)) => right_any _ _ W h
    have hno : ¬ RightP (L.take 300) := fun h => by have := h.2.1; rw [List.length_take] at this; omega
    rw [show rightB (L.take 300) = false from decide_eq_false hno] at hR
    unfold Ans at hR
    have HR := Lib.hid hR
    have HT := Lib.hid hT
    clear hR hT hno hL h
    go_enter Try.func8, Try.ntmps8
    go_wp2_with (first
      | (go_at_call 9; refine (shown_any _).mono ?_; rintro e w1 ⟨rfl, hB1⟩; have hb := below_th hb hB1)
      | (go_at_call 12; with_reducible refine Calls.mono (HR.out _ (HT.out.below hb)) ?_; rintro e w1 ⟨rfl, hB1⟩; have hb := below_th hb hB1))
    go_ret
    exact ⟨by simp, hb⟩
  · have h3 : ¬ (300 : Int) < (L.length : Int) := by omega
    have hR := fun W (h : Segs W (.slice a L.length cap) L) => right_any _ _ W h
    have HT := Lib.hid hL
    rcases h with hr | ⟨hr, hc⟩
    · rw [show rightB L = false from decide_eq_false hr] at hR
      unfold Ans at hR
      have HR := Lib.hid hR
      clear hR hL hr
      go_enter Try.func8, Try.ntmps8
      go_wp2_with (first
        | (go_at_call 9; refine (shown_any _).mono ?_; rintro e w1 ⟨rfl, hB1⟩; have hb := below_th hb hB1)
        | (go_at_call 12; with_reducible refine Calls.mono (HR.out _ (HT.out.below hb)) ?_; rintro e w1 ⟨rfl, hB1⟩; have hb := below_th hb hB1))
      go_ret
      exact ⟨by simp, hb⟩
    · rw [show rightB L = true from decide_eq_true hr] at hR
      unfold Ans at hR
      have HR := Lib.hid hR
      clear hR hL hr
      rcases hc with hc | ⟨hc, hc2⟩ | ⟨hc, hc2, hc3⟩ | ⟨hc, hc2, hc3, hc4⟩
      all_goals
        go_enter Try.func8, Try.ntmps8
        go_wp2_with (first
          | (go_at_call 9; refine (shown_any _).mono ?_; rintro e w1 ⟨rfl, hB1⟩; have hb := below_th hb hB1)
          | (go_at_call 12; with_reducible refine Calls.mono (HR.out _ (HT.out.below hb)) ?_; rintro e w1 ⟨rfl, hB1⟩; have hb := below_th hb hB1))
        go_ret
        exact ⟨by simp, hb⟩
theorem UsageSame_main (v : Value) (L : List S) (k j : Nat) (s : S) (w : World) (hL : Segs w v L) (hr : RightP L) (hk : k < L.length) (hj : j < L.length) :
    Calls Try.prog 8 #[v, .int .i64 k, .int .i64 j, s.val] w fun e w' => e = .returned (.bool true) ∧ Below w.heap.size w w' := by
  obtain ⟨b, off, cap, rfl, _⟩ := hL.at (k := 0) (by have := hr.1; omega)
  obtain ⟨N, hN⟩ : ∃ N, L.length = N := ⟨_, rfl⟩
  have hcap : N ≤ cap ∧ cap ≤ 9223372036854775807 := by
    obtain ⟨a1, cap1, e, g1, g2⟩ := hL.parts
    cases e
    omega
  obtain ⟨hcap1, hcap2⟩ := hcap
  have h256 := hr.2.1
  have h3 : ¬ (300 : Int) < (L.length : Int) := by omega
  have hb := below_new w (boxO s)
  have hAt := At.new w s
  have HBX := Lib.hid (fun W (hB : Below (w.alloc (boxO s)).heap.size (w.alloc (boxO s)) W) => (hAt.th hB).c)
  have hR := fun W (h : Segs W (.slice (some ⟨b, off, none⟩) L.length cap) L) => right_any _ _ W h
  rw [show rightB L = true from decide_eq_true hr] at hR
  have hset1 := fun W (h : Segs W (.slice (some ⟨b, off, none⟩) L.length cap) L) => set_ok _ L k (seg L k) W h hr hk (by rw [set_same hk]; exact hr)
  rw [set_same hk] at hset1
  have hget := fun W (h : Segs W (.slice (some ⟨b, off, none⟩) N cap) L) i (hi : i < N) => h.get hN hi
  have hq := fun W => neq_same s W
  have hqj := fun W => neq_same (seg L j) W
  unfold Ans at hR
  by_cases hM : RightP (L.set k s)
  · have hset2 := fun W (h : Segs W (.slice (some ⟨b, off, none⟩) L.length cap) L) => set_ok _ L k s W h hr hk hM
    have hsl : (L.set k s).length = N := by rw [List.length_set]; exact hN
    have hg1 := fun W b2 off2 cap2 (h : Segs W (.slice (some ⟨b2, off2, none⟩) N cap2) (L.set k s)) => h.get hsl (k := k) (by omega)
    have hg2 := fun W b2 off2 cap2 (h : Segs W (.slice (some ⟨b2, off2, none⟩) N cap2) (L.set k s)) => h.get hsl (k := j) (by omega)
    rw [show seg (L.set k s) k = s by rw [seg_set _ hk, if_pos rfl]] at hg1
    rw [show seg (L.set k s) j = if j = k then s else seg L j from seg_set _ hk] at hg2
    have hpt := fun W b2 off2 cap2 (h : Segs W (.slice (some ⟨b2, off2, none⟩) N cap2) (L.set k s)) => (show N ≤ cap2 ∧ cap2 ≤ 9223372036854775807 by
      obtain ⟨a1, cap1, e, g1, g2⟩ := h.parts
      cases e
      omega)
    have HG1 := Lib.hid hg1
    have HPT := Lib.hid hpt
    have HT := Lib.hid hL
    have HGet := Lib.hid hget
    rw [hN] at hR hset1 hset2 HT h3 hk hj ⊢
    have HR := Lib.hid hR
    have HS1 := Lib.hid hset1
    have HS2 := Lib.hid hset2
    obtain ⟨M, hMM⟩ : ∃ M, L.set k s = M := ⟨_, rfl⟩
    rw [hMM] at HS2 HG1 HPT hg2
    by_cases hjk : j = k
    · subst hjk
      clear hg2 hqj hg1 hpt hget hR hset1 hset2 hL hr hAt hN hM hMM h256 hsl
      obtain ⟨lv, bg, st⟩ := s
      unfold S.val at HS1 HS2 hq ⊢
      unfold boxO at hb HBX
      dsimp only at *
      obtain ⟨W0, rfl⟩ : ∃ W0 : World, W0 = w := ⟨_, rfl⟩
      have hbx := Below.refl (W0.alloc (.cells #[.int .i64 lv, .int .u64 bg, .int .i64 st] 35)).heap.size (W0.alloc (.cells #[.int .i64 lv, .int .u64 bg, .int .i64 st] 35))
      go_enter Try.func8, Try.ntmps8
      go_wp2_with (first
        | (go_at_call 9; refine (shown_any _).mono ?_; rintro e w1 ⟨rfl, hB1⟩; have hb := below_th hb hB1; have hbx := below_th hbx hB1)
        | (go_at_call 12; with_reducible refine Calls.mono (HR.out _ (HT.out.below hb)) ?_; rintro e w2 ⟨rfl, hB2⟩; have hb := below_th hb hB2; have hbx := below_th hbx hB2; obtain ⟨c0, c1, c2⟩ := HGet.out _ (HT.out.below hb) j (by assumption))
        | (go_at_call 18; with_reducible refine Calls.mono (HS1.out _ (HT.out.below hb)) ?_; rintro e w3 ⟨b3, off3, cap3, rfl, hS3, hB3⟩; have hb := below_th hb hB3; have hbx := below_th hbx hB3; obtain ⟨z0, z1, z2⟩ := HBX.out _ hbx)
        | (go_at_call 18; with_reducible refine Calls.mono (HS2.out _ (HT.out.below hb)) ?_; rintro e w4 ⟨b4, off4, cap4, rfl, hS4, hB4⟩; have hb := below_th hb hB4; have hbx := below_th hbx hB4; have hS3 := hS3.below hB4; obtain ⟨x0, x1, x2⟩ := HBX.out _ hbx; obtain ⟨y0, y1, y2⟩ := HG1.out _ _ _ _ hS4; obtain ⟨p1, p2⟩ := HPT.out _ _ _ _ hS4; have HS3 := Lib.hid hS3; have HB := Lib.hid hb; clear hS3 hS4))
      go_quiet (fail)
      go_wp2_with (go_at_call 20; with_reducible refine Calls.mono (same_eq _ _ _ _ (HS3.out.below (below_drewN (Below.refl _ _) _)) (HT.out.below (below_drewN HB.out _))) ?_; rintro e w6 ⟨rfl, hB6⟩)
      go_ret
      exact ⟨by simp, below_th (below_drewN HB.out _) hB6⟩
    · rw [if_neg hjk] at hg2
      have HJ := Lib.hid hg2
      have hjk2 : ((j : Int) != (k : Int)) = true := by simp; omega
      clear hg2 hg1 hpt hget hR hset1 hset2 hL hr hAt hN hM hMM h256 hsl hjk
      obtain ⟨lv, bg, st⟩ := s
      unfold S.val at HS1 HS2 hq hqj ⊢
      unfold boxO at hb HBX
      dsimp only at *
      obtain ⟨W0, rfl⟩ : ∃ W0 : World, W0 = w := ⟨_, rfl⟩
      have hbx := Below.refl (W0.alloc (.cells #[.int .i64 lv, .int .u64 bg, .int .i64 st] 35)).heap.size (W0.alloc (.cells #[.int .i64 lv, .int .u64 bg, .int .i64 st] 35))
      go_enter Try.func8, Try.ntmps8
      go_wp2_with (first
        | (go_at_call 9; refine (shown_any _).mono ?_; rintro e w1 ⟨rfl, hB1⟩; have hb := below_th hb hB1; have hbx := below_th hbx hB1)
        | (go_at_call 12; with_reducible refine Calls.mono (HR.out _ (HT.out.below hb)) ?_; rintro e w2 ⟨rfl, hB2⟩; have hb := below_th hb hB2; have hbx := below_th hbx hB2; obtain ⟨c0, c1, c2⟩ := HGet.out _ (HT.out.below hb) k (by assumption))
        | (go_at_call 18; with_reducible refine Calls.mono (HS1.out _ (HT.out.below hb)) ?_; rintro e w3 ⟨b3, off3, cap3, rfl, hS3, hB3⟩; have hb := below_th hb hB3; have hbx := below_th hbx hB3; obtain ⟨z0, z1, z2⟩ := HBX.out _ hbx)
        | (go_at_call 18; with_reducible refine Calls.mono (HS2.out _ (HT.out.below hb)) ?_; rintro e w4 ⟨b4, off4, cap4, rfl, hS4, hB4⟩; have hb := below_th hb hB4; have hbx := below_th hbx hB4; have hS3 := hS3.below hB4; obtain ⟨x0, x1, x2⟩ := HBX.out _ hbx; obtain ⟨y0, y1, y2⟩ := HG1.out _ _ _ _ hS4; obtain ⟨p1, p2⟩ := HPT.out _ _ _ _ hS4; have HS3 := Lib.hid hS3; have HB := Lib.hid hb; obtain ⟨m0, m1, m2⟩ := HJ.out _ _ _ _ hS4; obtain ⟨n0, n1, n2⟩ := HGet.out _ (HT.out.below hb) j (by assumption); clear hS3 hS4))
      go_quiet (fail)
      go_wp2_with (go_at_call 20; with_reducible refine Calls.mono (same_eq _ _ _ _ (HS3.out.below (below_drewN (Below.refl _ _) _)) (HT.out.below (below_drewN HB.out _))) ?_; rintro e w6 ⟨rfl, hB6⟩)
      go_ret
      exact ⟨by simp, below_th (below_drewN HB.out _) hB6⟩
  · have hset2 := fun W (h : Segs W (.slice (some ⟨b, off, none⟩) L.length cap) L) => set_wrong _ L k s W h hk (fun hh => hM hh.2)
    have HT := Lib.hid hL
    have HGet := Lib.hid hget
    rw [hN] at hR hset1 hset2 HT h3 hk hj ⊢
    have HR := Lib.hid hR
    have HS1 := Lib.hid hset1
    have HS2 := Lib.hid hset2
    clear hqj hget hR hset1 hset2 hL hr hAt hN hM h256
    obtain ⟨lv, bg, st⟩ := s
    unfold S.val at HS1 HS2 hq ⊢
    unfold boxO at hb HBX
    dsimp only at *
    obtain ⟨W0, rfl⟩ : ∃ W0 : World, W0 = w := ⟨_, rfl⟩
    have hbx := Below.refl (W0.alloc (.cells #[.int .i64 lv, .int .u64 bg, .int .i64 st] 35)).heap.size (W0.alloc (.cells #[.int .i64 lv, .int .u64 bg, .int .i64 st] 35))
    go_enter Try.func8, Try.ntmps8
    go_wp2_with (first
      | (go_at_call 9; refine (shown_any _).mono ?_; rintro e w1 ⟨rfl, hB1⟩; have hb := below_th hb hB1; have hbx := below_th hbx hB1)
      | (go_at_call 12; with_reducible refine Calls.mono (HR.out _ (HT.out.below hb)) ?_; rintro e w2 ⟨rfl, hB2⟩; have hb := below_th hb hB2; have hbx := below_th hbx hB2; obtain ⟨c0, c1, c2⟩ := HGet.out _ (HT.out.below hb) k (by assumption))
      | (go_at_call 18; with_reducible refine Calls.mono (HS1.out _ (HT.out.below hb)) ?_; rintro e w3 ⟨b3, off3, cap3, rfl, hS3, hB3⟩; have hb := below_th hb hB3; have hbx := below_th hbx hB3; obtain ⟨z0, z1, z2⟩ := HBX.out _ hbx)
      | (go_at_call 18; with_reducible refine Calls.mono (HS2.out _ (HT.out.below hb)) ?_; rintro e w4 ⟨a4, cap4, rfl, hB4⟩; have hb := below_th hb hB4; have hbx := below_th hbx hB4; have hS3 := hS3.below hB4; have HS3 := Lib.hid hS3; have HB := Lib.hid hb; clear hS3))
    go_quiet (fail)
    go_wp2_with (go_at_call 20; with_reducible refine Calls.mono (same_eq _ _ _ _ (HS3.out.below (below_drewN (Below.refl _ _) _)) (HT.out.below (below_drewN HB.out _))) ?_; rintro e w6 ⟨rfl, hB6⟩)
    go_ret
    exact ⟨by simp, below_th (below_drewN HB.out _) hB6⟩
theorem UsageSame_walk (v : Value) (L : List S) (i j : Int) (s : S) (w : World) (hL : Segs w v L) (wL : ∀ o ∈ L, SOk o) (k1 : (Lit.int .i64 i).wf = true) (k2 : (Lit.int .i64 j).wf = true) (hs : SOk s) :
    Calls Try.prog 8 #[v, .int .i64 i, .int .i64 j, s.val] w fun e w' => e = .returned (.bool true) ∧ Below w.heap.size w w' := by
  by_cases hr : RightP L
  · by_cases h : (0 ≤ i ∧ i < L.length) ∧ 0 ≤ j ∧ j < L.length
    · obtain ⟨⟨h1, h2⟩, h3, h4⟩ := h
      obtain ⟨k, rfl⟩ := Int.eq_ofNat_of_zero_le h1
      obtain ⟨m, rfl⟩ := Int.eq_ofNat_of_zero_le h3
      exact UsageSame_main v L k m s w hL hr (by omega) (by omega)
    · exact UsageSame_head v L i j s w hL (.inr ⟨hr, by omega⟩)
  · exact UsageSame_head v L i j s w hL (.inl hr)
end
end Go.Proofs.Ytgadclbenbakfaa.Usage
