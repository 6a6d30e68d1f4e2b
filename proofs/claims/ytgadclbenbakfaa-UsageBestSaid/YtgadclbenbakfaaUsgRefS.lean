/- Set and Same of the document. -/
import Derived.Laws.StructEq
import Derived.Test.YtgadclbenbakfaaUsgSet
namespace Go.Proofs.Ytgadclbenbakfaa.Usage.R
open Go.RowKit
attribute [local go_sem] Oper.semAt_some
set_option linter.unusedVariables false

theorem make_any (base n : Nat) (C : Int) (hC : C = (n : Int)) (hn : n ≤ 4096) (W : World) (hb : base ≤ W.heap.size) : ∃ w2, (Instr.makeSlice 22 (.int .i64 0) (.int .i64 C)).run Try.prog W = .ok (.slice (some ⟨W.heap.size, 0, none⟩) 0 n) w2 ∧ w2.ownsRow base 35 3 (.slice (some ⟨W.heap.size, 0, none⟩) 0 n) 0 [] ∧ W.grownBy w2 none := by
  obtain ⟨i0, hi, hz0, hz1, hz2⟩ := info_parts infoSeg
  subst hC
  exact run_make_own (P := Try.prog) W base 22 35 i0 (.agg #[.int .i64 0, .int .u64 0, .int .i64 0]) 3 Try.underlying22 hi hz0 hz1 .i64 .i64 n (by rw [hz2]; omega) (by unfold maxLen; omega) hb
theorem make_below {W w2 : World} (h : W.grownBy w2 none) : Below W.heap.size W w2 := (Below.refl _ W).grown h (Nat.le_refl _) (fun r e => by cases e)

section
set_option maxRecDepth 100000
set_option maxHeartbeats 2000000
theorem set_any (v : Value) (L : List S) (i : Int) (s : S) (w : World) (hL : Segs w v L) (hle : L.length ≤ 4096) : Calls Try.prog 19 #[v, .int .i64 i, s.val] w (SetPost L i s w) := by
  have HNo := Lib.hid (fun (w' : World) (n : Int) => set_no (L := L) (i := i) (s := s) (w := w) (w' := w') (n := n))
  have hnew := below_new w (boxO s)
  have hAt := At.new w s
  by_cases hi0 : 0 ≤ i
  · by_cases hi1 : i < L.length
    · obtain ⟨i0, hin, hz0, hz1, hz2⟩ := info_parts infoSeg
      obtain ⟨k, rfl⟩ := Int.eq_ofNat_of_zero_le hi0
      have hkl : k < L.length := by omega
      obtain ⟨b, off, cap, rfl, _⟩ := hL.at hkl
      obtain ⟨N, hN⟩ : ∃ N, L.length = N := ⟨_, rfl⟩
      have hcap : N ≤ cap ∧ cap ≤ 9223372036854775807 := by
        obtain ⟨a1, cap1, e, g1, g2⟩ := hL.parts
        cases e
        omega
      obtain ⟨hcap1, hcap2⟩ := hcap
      have hN1 : 1 ≤ N := by omega
      have hRight := fun W (h : Below w.heap.size w W) => right_any _ L W (hL.below h)
      have HCC := Lib.hid (fun W (hB : Below w.heap.size w W) => (hL.below hB).news)
      have HV := Lib.hid (cellsL_length L)
      have HO := Lib.hid (cellsL_one L)
      have hmk := fun W (hB : Below w.heap.size w W) => make_any w.heap.size N (N : Int) rfl (by omega) W hB.size
      have hSet := fun (W : World) (base g cap : Nat) (h : W.ownsRow base 35 3 (.slice (some ⟨g, 0, none⟩) N cap) N (cellsL L)) => own_set hN h (k := k) (by omega) s
      have hR2 := fun (W : World) (g cap : Nat) (h : Segs W (.slice (some ⟨g, 0, none⟩) N cap) (L.set k s)) => right_any _ (L.set k s) W h
      have hsl : (L.set k s).length = L.length := by simp
      have hi : 0 ≤ (k : Int) ∧ (k : Int) < L.length := by omega
      have hsok : setOk L (k : Int) s ↔ (RightP L ∧ RightP (L.set k s)) := ⟨fun h => by have := h.2; rwa [Int.toNat_natCast] at this, fun h => ⟨hi, h.1, by rw [Int.toNat_natCast]; exact h.2⟩⟩
      have hsE : setE L (k : Int) s = if setOk L (k : Int) s then 0 else 60 := if_pos hi
      obtain ⟨M, hM⟩ : ∃ M, L.set k s = M := ⟨_, rfl⟩
      rw [hM] at hR2 hsl hsok
      simp only [hM] at hSet
      have hown : ∀ (W : World) (base g cap : Nat), W.ownsRow base 35 3 (.slice (some ⟨g, 0, none⟩) N cap) N (cellsL M) → Segs W (.slice (some ⟨g, 0, none⟩) N cap) M := fun W base g cap h => Segs.own (base := base) (by rw [hsl, hN]; exact h)
      have hfin : ∀ (W : World) (v2 : Value), RightP L → RightP M → Segs W v2 M → Below w.heap.size w W → SetPost L (k : Int) s w (.returned (.tuple #[v2, .int .i64 0])) W := fun W v2 h0 h1 h2 h3 => ⟨v2, by rw [hsE, if_pos (hsok.2 ⟨h0, h1⟩)], by unfold setV; rw [if_pos (hsok.2 ⟨h0, h1⟩), Int.toNat_natCast, hM]; exact h2, h3⟩
      have hno : ∀ (W : World), ¬ (RightP L ∧ RightP M) → Below w.heap.size w W → SetPost L (k : Int) s w (.returned (.tuple #[.slice none 0 0, .int .i64 60])) W := fun W h1 h3 => HNo.out W 60 (fun hh => h1 (hsok.1 hh)) (by rw [hsE, if_neg (fun hh => h1 (hsok.1 hh))]) h3
      have HRA : Hid ((RightP L ∧ rightB L = true) ∨ (¬ RightP L ∧ rightB L = false)) := by
        by_cases h : RightP L
        · exact .inl ⟨h, decide_eq_true h⟩
        · exact .inr ⟨h, decide_eq_false h⟩
      have HRB : Hid ((RightP M ∧ rightB M = true) ∨ (¬ RightP M ∧ rightB M = false)) := by
        by_cases h : RightP M
        · exact .inl ⟨h, decide_eq_true h⟩
        · exact .inr ⟨h, decide_eq_false h⟩
      unfold Ans at hR2 hRight
      rw [hN] at hle HV hi1 hkl
      rw [hN] at hRight ⊢
      have HMK := Lib.hid hmk
      have HSet := Lib.hid hSet
      have HR2 := Lib.hid hR2
      have HOwn := Lib.hid hown
      have HFin := Lib.hid hfin
      have HNo2 := Lib.hid hno
      have HRi := Lib.hid hRight
      have HB0 := Lib.hid hnew
      obtain ⟨y0, y1, y2⟩ := hAt.c
      have HBX := Lib.hid (fun W (hB : Below (w.alloc (boxO s)).heap.size (w.alloc (boxO s)) W) => (hAt.th hB).c)
      obtain ⟨xs, hxs⟩ : ∃ xs, cellsL L = xs := ⟨_, rfl⟩
      simp only [hxs] at HCC HV HO HSet
      clear hL hmk hSet hR2 hown hfin hno hRight HNo hsE hsok hsl hi hN hnew hAt hM hxs hi0
      obtain ⟨lv, bg, st⟩ := s
      unfold S.val
      unfold boxO at HB0 HBX y0 y1 y2
      dsimp only at *
      obtain ⟨W0, rfl⟩ : ∃ W0 : World, W0 = w := ⟨_, rfl⟩
      rcases HRA.out with ⟨hA, e⟩ | ⟨hA, e⟩
      all_goals
        rw [e] at HRi
        have HLA := Lib.hid hA
        clear hA e
        rcases HRB.out with ⟨hM, e⟩ | ⟨hM, e⟩
        all_goals
          rw [e] at HR2
          have HM := Lib.hid hM
          clear hM e
          go_enter Try.func19, Try.ntmps19
          go_wp2_with (first
            | (go_at_call 13; with_reducible refine Calls.mono (HRi.out _ HB0.out) ?_; rintro e w1 ⟨rfl, hB1⟩; have hb1 := below_th HB0.out hB1; obtain ⟨w2, hm2, hown2, hgrow2⟩ := HMK.out w1 hb1; have hB2 := make_below hgrow2; have hb2 := below_th hb1 hB2)
            | (at_builtin; (refine wpList_append_own _ rfl _ _ 22 rfl W0.heap.size 35 i0 (.agg #[.int .i64 0, .int .u64 0, .int .i64 0]) 3 24 Try.underlying22 hin hz0 hz1 hz2 rfl (by decide) (.slice (some ⟨w1.heap.size, 0, none⟩) 0 N) 0 [] rfl hown2 ⟨b, off, none⟩ N cap xs rfl HV.out (HCC.out _ hb2) HO.out (by unfold maxLen; omega) (by omega) hb2.size ?_; intro v3 w3 hown3 hgrow3 _; rw [Nat.zero_add, List.nil_append] at hown3; obtain ⟨g, cap3, rfl, hg, hc1, hc2⟩ := own_open hown3 (by omega); have hb13 := hB2.grown hgrow3 hB2.size (fun r e => Nat.le_of_eq (by simpa [Value.ownBlock] using e)); obtain ⟨z0, z1, z2⟩ := HBX.out _ (below_th hB1 hb13); obtain ⟨⟨u0, k0⟩, f0, ⟨u1, k1⟩, f1, ⟨u2, k2⟩, f2, hown4, hB4⟩ := HSet.out _ _ _ _ hown3; have HS3 := Lib.hid (HOwn.out _ _ _ _ hown4); have HB3 := Lib.hid ((below_th hb1 hb13).trans (hB4.mono hg)); clear hown2 hown3 hown4 hB4))
            | (go_at_call 13; with_reducible refine Calls.mono (HR2.out _ _ _ HS3.out) ?_; rintro e w4 ⟨rfl, hB4⟩))
          go_returns
          first
            | exact HFin.out _ _ HLA.out HM.out (HS3.out.below hB4) (below_th HB3.out hB4)
            | exact HNo2.out _ (fun hh => HM.out hh.2) (below_th HB3.out hB4)
            | exact HNo2.out _ (fun hh => HLA.out hh.1) (below_th HB3.out hB4)
    · have hsE : setE L i s = 2 := if_neg (fun hh => hi1 hh.2)
      obtain ⟨a, cap, rfl, hn, hm⟩ := hL.parts
      have HNo2 := Lib.hid (fun (W : World) (h3 : Below w.heap.size w W) => HNo.out W 2 (fun hh => hi1 hh.1.2) hsE.symm h3)
      have HB0 := Lib.hid hnew
      clear hL hnew hAt HNo hsE
      obtain ⟨N, hN⟩ : ∃ N, L.length = N := ⟨_, rfl⟩
      rw [hN] at hi1 ⊢
      obtain ⟨lv, bg, st⟩ := s
      unfold S.val
      unfold boxO at HB0
      dsimp only at *
      clear hN
      go_enter Try.func19, Try.ntmps19
      go_wp2
      go_returns
      exact HNo2.out _ HB0.out
  · have hsE : setE L i s = 2 := if_neg (fun hh => hi0 hh.1)
    obtain ⟨a, cap, rfl, hn, hm⟩ := hL.parts
    have HNo2 := Lib.hid (fun (W : World) (h3 : Below w.heap.size w W) => HNo.out W 2 (fun hh => hi0 hh.1.1) hsE.symm h3)
    have HB0 := Lib.hid hnew
    clear hL hnew hAt HNo hsE
    obtain ⟨lv, bg, st⟩ := s
    unfold S.val
    unfold boxO at HB0
    dsimp only at *
    go_enter Try.func19, Try.ntmps19
    go_wp2
    go_returns
    exact HNo2.out _ HB0.out

theorem eqlG (a b : S) (w : World) : (binOp .eql 35 a.val b.val).run Try.prog w = .ok (.bool (decide (a = b))) w := by
  obtain ⟨l1, b1, s1⟩ := a
  obtain ⟨l2, b2, s2⟩ := b
  have he : (Op.equalIn 10000 35 (.agg #[.int .i64 l1, .int .u64 b1, .int .i64 s1]) (.agg #[.int .i64 l2, .int .u64 b2, .int .i64 s2])).run Try.prog w = .ok (decide ((⟨l1, b1, s1⟩ : S) = ⟨l2, b2, s2⟩)) w := by
    rw [run_equalIn_agg w 9999 35 _ _ (by kernel_rfl) (by kernel_rfl)]
    simp only [S.mk.injEq]
    by_cases h1 : l1 = l2
    · by_cases h2 : b1 = b2
      · by_cases h3 : s1 = s2
        · simp [go_sem, h1, h2, h3]
        · simp [go_sem, h1, h2, h3]
      · have h2' : ¬ (b1 : Int) = b2 := by omega
        simp [go_sem, h1, h2, h2']
    · simp [go_sem, h1]
  unfold S.val
  dsimp only
  rw [run_eql_struct, he]
  rfl
theorem neqG (a b : S) (w : World) : (binOp .neq 35 a.val b.val).run Try.prog w = .ok (.bool (!decide (a = b))) w := by
  have h := eqlG a b w
  unfold S.val at h ⊢
  rw [run_eql_struct] at h
  rw [run_neq_struct]
  revert h
  generalize (Op.equalIn 10000 35 (.agg #[.int .i64 a.live, .int .u64 a.begun, .int .i64 a.state]) (.agg #[.int .i64 b.live, .int .u64 b.begun, .int .i64 b.state])).run Try.prog w = r
  intro h
  cases r with
  | ok x w1 =>
    simp only [Result.andThen] at h ⊢
    injection h with h1 h2
    injection h1 with h3
    rw [h3, h2]
  | halt x w1 => simp [Result.andThen] at h
/-- are two lists the same? -/
theorem same_any (v1 v2 : Value) (A B : List S) (w : World) (h1 : Segs w v1 A) (h2 : Segs w v2 B) : Calls Try.prog 20 #[v1, v2] w (Ans w (.bool (decide (A = B)))) := by
  obtain ⟨a1, cap1, rfl, hn1, hm1⟩ := h1.parts
  obtain ⟨a2, cap2, rfl, hn2, hm2⟩ := h2.parts
  by_cases hl : A.length = B.length
  · have hq : ((A.length : Int) != (B.length : Int)) = false := by simp [hl]
    obtain ⟨N, hN⟩ : ∃ N, A.length = N := ⟨_, rfl⟩
    have H1 := Lib.hid h1
    have H2 := Lib.hid h2
    have HEQ : Hid ((∀ j, j < N → seg A j = seg B j) → A = B) := fun h => seg_ext hl (fun j hj => h j (by omega))
    have HNE : Hid (∀ j, seg A j ≠ seg B j → ¬ A = B) := fun j h e => h (by rw [e])
    rw [← hl] at H2 hn2 hq ⊢
    have hBN : B.length = N := by omega
    rw [hN] at H1 H2 hn1 hn2 hq ⊢
    have HN1 := Lib.hid hN
    have HN2 := Lib.hid hBN
    clear h1 h2 hN hBN hl
    obtain ⟨W0, rfl⟩ : ∃ W0 : World, W0 = w := ⟨_, rfl⟩
    go_enter Try.func20, Try.ntmps20
    go_wp2
    go_loopw [5] (fun i wr => ∃ k : Nat, k ≤ N ∧ i = .int .i64 (k : Int) ∧ Hid (∀ j, j < k → seg A j = seg B j) ∧ Below W0.heap.size W0 wr) (fun i _ => N - (intOf i).toNat)
    case atStart => exact ⟨0, by omega, rfl, fun j hj => by omega, Below.refl _ _⟩
    case round =>
      obtain ⟨k, hk, rfl, HU, hB⟩ := hrel
      by_cases hlt : k < N
      · obtain ⟨b1, off1, cap3, e1, c0, c1, c2⟩ := (H1.out.below hB).at (k := k) (by rw [HN1.out]; exact hlt)
        obtain ⟨b2, off2, cap4, e2, d0, d1, d2⟩ := (H2.out.below hB).at (k := k) (by rw [HN2.out]; exact hlt)
        rw [HN1.out] at e1
        rw [HN2.out] at e2
        cases e1
        cases e2
        have HBq := Lib.hid hB
        have hq := fun W => neqG (seg A k) (seg B k) W
        unfold S.val at hq
        by_cases hx : seg A k = seg B k
        · rw [decide_eq_true hx] at hq
          have hq1 : ∀ W, (binOp .neq 35 (.agg #[.int .i64 (seg A k).live, .int .u64 (seg A k).begun, .int .i64 (seg A k).state]) (.agg #[.int .i64 (seg B k).live, .int .u64 (seg B k).begun, .int .i64 (seg B k).state])).run Try.prog W = .ok (.bool false) W := hq
          have HX := Lib.hid hx
          clear hx hq
          go_wp2
          go_quiet (fail)
          go_wp2
          go_roundw
          case rel => exact ⟨k + 1, by omega, by go_num, fun j hj => (by rcases Nat.lt_succ_iff_lt_or_eq.1 hj with h | h; exact HU.out j h; rw [h]; exact HX.out), below_drewN HBq.out _⟩
          case measure => simp [intOf]; omega
        · rw [decide_eq_false hx] at hq
          have hq1 : ∀ W, (binOp .neq 35 (.agg #[.int .i64 (seg A k).live, .int .u64 (seg A k).begun, .int .i64 (seg A k).state]) (.agg #[.int .i64 (seg B k).live, .int .u64 (seg B k).begun, .int .i64 (seg B k).state])).run Try.prog W = .ok (.bool true) W := hq
          have HX := Lib.hid (HNE.out k hx)
          clear hx hq
          go_wp2
          go_quiet (fail)
          go_wp2
          go_ret
          exact ⟨by rw [decide_eq_false HX.out]; rfl, below_drewN HBq.out _⟩
      · obtain rfl : k = N := by omega
        have HA := Lib.hid (HEQ.out HU.out)
        go_wp2
        go_ret
        exact ⟨by rw [decide_eq_true HA.out]; rfl, hB⟩
  · have hq : ((A.length : Int) != (B.length : Int)) = true := by simp; omega
    have HA : Hid (¬ A = B) := fun e => hl (by rw [e])
    clear h1 h2
    go_enter Try.func20, Try.ntmps20
    go_wp2
    go_ret
    exact ⟨by rw [decide_eq_false HA.out]; rfl, Below.refl _ _⟩
end
end Go.Proofs.Ytgadclbenbakfaa.Usage.R
