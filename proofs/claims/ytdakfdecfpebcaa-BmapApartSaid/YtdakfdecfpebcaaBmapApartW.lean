/- BmapApart, walked. -/
import Derived.Test.YtdakfdecfpebcaaBmpArgs
namespace Go.Proofs.Ytdakfdecfpebcaa.Bmp
open Go.RowKit Ino
attribute [local go_sem] Oper.semAt_some
set_option linter.unusedVariables false
set_option linter.unusedSimpArgs false
section
set_option maxRecDepth 100000
set_option maxHeartbeats 8000000
theorem apart_nat (s : Nat) (v1 v2 v3 : Value) (A B I : List Nat) (w : World) (ws : s < 4294967296) (hA : U32s w v1 A) (hB : U32s w v2 B) (hI : U32s w v3 I) (sA : Small A) (sB : Small B) (sI : Small I) : Calls Try.prog 7 #[.int .u32 s, v1, v2, v3] w (Ans w (.bool true)) := by
  obtain ⟨a1, c1, rfl, p1, q1⟩ := hA.parts
  obtain ⟨a2, c2, rfl, p2, q2⟩ := hB.parts
  obtain ⟨a3, c3, rfl, p3, q3⟩ := hI.parts
  by_cases k1 : 1000 < A.length
  · have g1 : (1000 : Int) < (A.length : Int) := by omega
    clear hA hB hI sA sB sI ws k1
    go_enter Try.func7, Try.ntmps7
    go_wp2_with (go_at_call 9; (with_reducible refine Calls.mono (shown_any _) ?_); rintro e w1 ⟨rfl, hB1⟩)
    go_ret
    exact ⟨rfl, hB1⟩
  have g1 : ¬ (1000 : Int) < (A.length : Int) := by omega
  by_cases k2 : 1000 < B.length
  · have g2 : (1000 : Int) < (B.length : Int) := by omega
    clear hA hB hI sA sB sI ws k2
    go_enter Try.func7, Try.ntmps7
    go_wp2_with (go_at_call 9; (with_reducible refine Calls.mono (shown_any _) ?_); rintro e w1 ⟨rfl, hB1⟩)
    go_ret
    exact ⟨rfl, hB1⟩
  have g2 : ¬ (1000 : Int) < (B.length : Int) := by omega
  by_cases k3 : 1000 < I.length
  · have g3 : (1000 : Int) < (I.length : Int) := by omega
    clear hA hB hI sA sB sI ws k3
    go_enter Try.func7, Try.ntmps7
    go_wp2_with (go_at_call 9; (with_reducible refine Calls.mono (shown_any _) ?_); rintro e w1 ⟨rfl, hB1⟩)
    go_ret
    exact ⟨rfl, hB1⟩
  have g3 : ¬ (1000 : Int) < (I.length : Int) := by omega
  have h1 := fun W (h : Below w.heap.size w W) => lay_any s _ _ A I W ws (hA.below h) (hI.below h) sA sI (by omega) (by omega)
  have h2 := fun W (h : Below w.heap.size w W) => lay_any s _ _ B I W ws (hB.below h) (hI.below h) sB sI (by omega) (by omega)
  have h3 := fun W (h : Below w.heap.size w W) => R.same_any _ _ A B W (hA.below h) (hB.below h)
  have h4 := fun W => count_any s W ws
  unfold LayPost at h1 h2
  by_cases l1 : layP s A I
  case neg =>
    rw [(lay_e1 l1).1, (lay_e1 l1).2.1, (lay_e1 l1).2.2] at h1
    generalize M.zero = p at h1
    generalize layM s B I = q at h2
    generalize layB s B I = Y at h2
    generalize layE s B I = F at h2
    have hF : F = 0 ∨ ¬ F = 0 := by omega
    obtain ⟨pa, pb, pc, pd, pe, pf⟩ := p
    obtain ⟨qa, qb, qc, qd, qe, qf⟩ := q
    clear hF
    unfold M.val at h1 h2
    dsimp only at h1 h2
    have H1 := Lib.hid h1
    have H2 := Lib.hid h2
    have H3 := Lib.hid h3
    have H4 := Lib.hid h4
    generalize A.length = na at *
    generalize B.length = nb at *
    generalize I.length = ni at *
    clear h1 h2 h3 h4 ws hA hB hI sA sB sI k1 k2 k3
    go_enter Try.func7, Try.ntmps7
    go_wp2_with (first
      | (go_at_call 9; (with_reducible refine Calls.mono (shown_any _) ?_); rintro e w1 ⟨rfl, hB1⟩)
      | (go_at_call 15; (with_reducible refine Calls.mono (H1.out _ hB1) ?_); rintro e w2 ⟨u2, rfl, hv2, hB2⟩; obtain ⟨xa, xc, ex, _, _⟩ := hv2.parts; subst ex; have HV2 := Lib.hid hv2; have hA2 := AtM.new w2 ⟨pa, pb, pc, pd, pe, pf⟩; have hB3 := below_al (below_th hB1 hB2) (boxM ⟨pa, pb, pc, pd, pe, pf⟩); have HN2 := Lib.hid (below_new w2 (boxM ⟨pa, pb, pc, pd, pe, pf⟩)); unfold boxM at hA2 hB3 HN2; dsimp only at hA2 hB3 HN2; clear hv2)
      | (go_at_call 15; (with_reducible refine Calls.mono (H2.out _ hB3) ?_); rintro e w4 ⟨u4, rfl, hv4, hB4⟩; have hA4 := (hA2.th hB4).th (below_new w4 (boxM ⟨qa, qb, qc, qd, qe, qf⟩)); have hC4 := AtM.new w4 ⟨qa, qb, qc, qd, qe, qf⟩; have HS4 := Lib.hid (And.intro (((HV2.out.below HN2.out).below hB4).below (below_new w4 (boxM ⟨qa, qb, qc, qd, qe, qf⟩))) (hv4.below (below_new w4 (boxM ⟨qa, qb, qc, qd, qe, qf⟩)))); have HN4 := Lib.hid (below_al (below_th hB3 hB4) (boxM ⟨qa, qb, qc, qd, qe, qf⟩)); unfold boxM at hA4 hC4 HS4 HN4; dsimp only at hA4 hC4 HS4 HN4; obtain ⟨x0, x1, x2, x3, x4, x5⟩ := hA4.c; obtain ⟨y0, y1, y2, y3, y4, y5⟩ := hC4.c; clear hv4))
    go_ret
    exact ⟨rfl, HN4.out⟩
  by_cases l2 : layP s B I
  case neg =>
    have e1 : layE s A I = 0 := if_pos l1
    rw [e1] at h1
    rw [(lay_e1 l2).1, (lay_e1 l2).2.1, (lay_e1 l2).2.2] at h2
    generalize M.zero = q at h2
    generalize layM s A I = p at h1
    generalize layB s A I = X at h1
    obtain ⟨pa, pb, pc, pd, pe, pf⟩ := p
    obtain ⟨qa, qb, qc, qd, qe, qf⟩ := q
    unfold M.val at h1 h2
    dsimp only at h1 h2
    have H1 := Lib.hid h1
    have H2 := Lib.hid h2
    have H3 := Lib.hid h3
    have H4 := Lib.hid h4
    generalize A.length = na at *
    generalize B.length = nb at *
    generalize I.length = ni at *
    clear h1 h2 h3 h4 ws hA hB hI sA sB sI k1 k2 k3
    go_enter Try.func7, Try.ntmps7
    go_wp2_with (first
      | (go_at_call 9; (with_reducible refine Calls.mono (shown_any _) ?_); rintro e w1 ⟨rfl, hB1⟩)
      | (go_at_call 15; (with_reducible refine Calls.mono (H1.out _ hB1) ?_); rintro e w2 ⟨u2, rfl, hv2, hB2⟩; obtain ⟨xa, xc, ex, _, _⟩ := hv2.parts; subst ex; have HV2 := Lib.hid hv2; have hA2 := AtM.new w2 ⟨pa, pb, pc, pd, pe, pf⟩; have hB3 := below_al (below_th hB1 hB2) (boxM ⟨pa, pb, pc, pd, pe, pf⟩); have HN2 := Lib.hid (below_new w2 (boxM ⟨pa, pb, pc, pd, pe, pf⟩)); unfold boxM at hA2 hB3 HN2; dsimp only at hA2 hB3 HN2; clear hv2)
      | (go_at_call 15; (with_reducible refine Calls.mono (H2.out _ hB3) ?_); rintro e w4 ⟨u4, rfl, hv4, hB4⟩; have hA4 := (hA2.th hB4).th (below_new w4 (boxM ⟨qa, qb, qc, qd, qe, qf⟩)); have hC4 := AtM.new w4 ⟨qa, qb, qc, qd, qe, qf⟩; have HS4 := Lib.hid (And.intro (((HV2.out.below HN2.out).below hB4).below (below_new w4 (boxM ⟨qa, qb, qc, qd, qe, qf⟩))) (hv4.below (below_new w4 (boxM ⟨qa, qb, qc, qd, qe, qf⟩)))); have HN4 := Lib.hid (below_al (below_th hB3 hB4) (boxM ⟨qa, qb, qc, qd, qe, qf⟩)); unfold boxM at hA4 hC4 HS4 HN4; dsimp only at hA4 hC4 HS4 HN4; obtain ⟨x0, x1, x2, x3, x4, x5⟩ := hA4.c; obtain ⟨y0, y1, y2, y3, y4, y5⟩ := hC4.c; clear hv4))
    go_ret
    exact ⟨rfl, HN4.out⟩
  have e1 : layE s A I = 0 := if_pos l1
  have e2 : layE s B I = 0 := if_pos l2
  have hX : (layB s A I).length = cntN s := by unfold layB; rw [if_pos l1]; exact blocks_length l1
  have hinj : layM s A I = layM s B I → layB s A I = layB s B I → A = B := fun x y => by
    unfold layM at x
    unfold layB at y
    rw [if_pos l1, if_pos l2] at x y
    exact (lay_inj l1 l2 sA sB sI sI x y).1
  have hsame : A = B → layM s A I = layM s B I ∧ layB s A I = layB s B I := fun x => by rw [x]; exact ⟨rfl, rfl⟩
  rw [e1] at h1
  rw [e2] at h2
  generalize layB s A I = X at *
  generalize layB s B I = Y at *
  generalize layM s A I = p at *
  generalize layM s B I = q at *
  rw [← hX] at h4
  clear hX l1 l2 e1 e2
  have hQ := fun W => eqlM p q W
  have hbb : ∀ x : Bool, (x == x) = true := fun x => beq_self_eq_true x
  have hcc : ((X.length : Int) == (X.length : Int)) = true := beq_self_eq_true _
  by_cases hpq : p = q
  · have hd : decide (X = Y) = decide (A = B) := decide_eq_decide.2 ⟨fun x => hinj hpq x, fun x => (hsame x).2⟩
    rw [decide_eq_true hpq] at hQ
    rw [← hd] at h3
    clear hd hinj hsame hpq
    obtain ⟨pa, pb, pc, pd, pe, pf⟩ := p
    obtain ⟨qa, qb, qc, qd, qe, qf⟩ := q
    unfold M.val at h1 h2 hQ
    dsimp only at h1 h2 hQ
    have H1 := Lib.hid h1
    have H2 := Lib.hid h2
    have H3 := Lib.hid h3
    have H4 := Lib.hid h4
    generalize A.length = na at *
    generalize B.length = nb at *
    generalize I.length = ni at *
    clear h1 h2 h3 h4 ws hA hB hI sA sB sI k1 k2 k3
    go_enter Try.func7, Try.ntmps7
    go_wp2_with (first
      | (go_at_call 9; (with_reducible refine Calls.mono (shown_any _) ?_); rintro e w1 ⟨rfl, hB1⟩)
      | (go_at_call 15; (with_reducible refine Calls.mono (H1.out _ hB1) ?_); rintro e w2 ⟨u2, rfl, hv2, hB2⟩; obtain ⟨xa, xc, ex, _, _⟩ := hv2.parts; subst ex; have HV2 := Lib.hid hv2; have hA2 := AtM.new w2 ⟨pa, pb, pc, pd, pe, pf⟩; have hB3 := below_al (below_th hB1 hB2) (boxM ⟨pa, pb, pc, pd, pe, pf⟩); have HN2 := Lib.hid (below_new w2 (boxM ⟨pa, pb, pc, pd, pe, pf⟩)); unfold boxM at hA2 hB3 HN2; dsimp only at hA2 hB3 HN2; clear hv2)
      | (go_at_call 15; (with_reducible refine Calls.mono (H2.out _ hB3) ?_); rintro e w4 ⟨u4, rfl, hv4, hB4⟩; have hA4 := (hA2.th hB4).th (below_new w4 (boxM ⟨qa, qb, qc, qd, qe, qf⟩)); have hC4 := AtM.new w4 ⟨qa, qb, qc, qd, qe, qf⟩; have HS4 := Lib.hid (And.intro (((HV2.out.below HN2.out).below hB4).below (below_new w4 (boxM ⟨qa, qb, qc, qd, qe, qf⟩))) (hv4.below (below_new w4 (boxM ⟨qa, qb, qc, qd, qe, qf⟩)))); have HN4 := Lib.hid (below_al (below_th hB3 hB4) (boxM ⟨qa, qb, qc, qd, qe, qf⟩)); unfold boxM at hA4 hC4 HS4 HN4; dsimp only at hA4 hC4 HS4 HN4; obtain ⟨x0, x1, x2, x3, x4, x5⟩ := hA4.c; obtain ⟨y0, y1, y2, y3, y4, y5⟩ := hC4.c; clear hv4)
      | (go_at_call 17; (with_reducible refine Calls.mono (R.sameTexts_any _ _ X Y _ HS4.out.1 HS4.out.2) ?_); rintro e w6 ⟨rfl, hB6⟩; have HN6 := Lib.hid (below_th HN4.out hB6))
      | (go_at_call 19; (with_reducible refine Calls.mono (H3.out _ HN6.out) ?_); rintro e w7 ⟨rfl, hB7⟩)
      | (go_at_call 12; (with_reducible refine Calls.mono (H4.out _) ?_); rintro e w8 ⟨rfl, hB8⟩))
    go_ret
    exact ⟨rfl, below_th (below_th HN6.out hB7) hB8⟩
  · have hd : decide (A = B) = false := decide_eq_false fun x => hpq (hsame x).1
    rw [decide_eq_false hpq] at hQ
    rw [hd] at h3
    clear hd hinj hsame hpq
    obtain ⟨pa, pb, pc, pd, pe, pf⟩ := p
    obtain ⟨qa, qb, qc, qd, qe, qf⟩ := q
    unfold M.val at h1 h2 hQ
    dsimp only at h1 h2 hQ
    have H1 := Lib.hid h1
    have H2 := Lib.hid h2
    have H3 := Lib.hid h3
    have H4 := Lib.hid h4
    generalize A.length = na at *
    generalize B.length = nb at *
    generalize I.length = ni at *
    clear h1 h2 h3 h4 ws hA hB hI sA sB sI k1 k2 k3
    go_enter Try.func7, Try.ntmps7
    go_wp2_with (first
      | (go_at_call 9; (with_reducible refine Calls.mono (shown_any _) ?_); rintro e w1 ⟨rfl, hB1⟩)
      | (go_at_call 15; (with_reducible refine Calls.mono (H1.out _ hB1) ?_); rintro e w2 ⟨u2, rfl, hv2, hB2⟩; obtain ⟨xa, xc, ex, _, _⟩ := hv2.parts; subst ex; have HV2 := Lib.hid hv2; have hA2 := AtM.new w2 ⟨pa, pb, pc, pd, pe, pf⟩; have hB3 := below_al (below_th hB1 hB2) (boxM ⟨pa, pb, pc, pd, pe, pf⟩); have HN2 := Lib.hid (below_new w2 (boxM ⟨pa, pb, pc, pd, pe, pf⟩)); unfold boxM at hA2 hB3 HN2; dsimp only at hA2 hB3 HN2; clear hv2)
      | (go_at_call 15; (with_reducible refine Calls.mono (H2.out _ hB3) ?_); rintro e w4 ⟨u4, rfl, hv4, hB4⟩; have hA4 := (hA2.th hB4).th (below_new w4 (boxM ⟨qa, qb, qc, qd, qe, qf⟩)); have hC4 := AtM.new w4 ⟨qa, qb, qc, qd, qe, qf⟩; have HS4 := Lib.hid (And.intro (((HV2.out.below HN2.out).below hB4).below (below_new w4 (boxM ⟨qa, qb, qc, qd, qe, qf⟩))) (hv4.below (below_new w4 (boxM ⟨qa, qb, qc, qd, qe, qf⟩)))); have HN4 := Lib.hid (below_al (below_th hB3 hB4) (boxM ⟨qa, qb, qc, qd, qe, qf⟩)); unfold boxM at hA4 hC4 HS4 HN4; dsimp only at hA4 hC4 HS4 HN4; obtain ⟨x0, x1, x2, x3, x4, x5⟩ := hA4.c; obtain ⟨y0, y1, y2, y3, y4, y5⟩ := hC4.c; clear hv4)
      | (go_at_call 19; (with_reducible refine Calls.mono (H3.out _ HN4.out) ?_); rintro e w7 ⟨rfl, hB7⟩)
      | (go_at_call 12; (with_reducible refine Calls.mono (H4.out _) ?_); rintro e w8 ⟨rfl, hB8⟩))
    go_ret
    exact ⟨rfl, below_th (below_th HN4.out hB7) hB8⟩
theorem BmapApart_walk (s : Int) (v1 : Value) (A : List Nat) (v2 : Value) (B : List Nat) (v3 : Value) (I : List Nat) (w : World) (ws : (Lit.int .u32 s).wf = true) (hA : U32s w v1 A) (sA : Small A) (hB : U32s w v2 B) (sB : Small B) (hI : U32s w v3 I) (sI : Small I) : Calls Try.prog 7 #[.int .u32 s, v1, v2, v3] w fun e w' => e = .returned (.bool true) ∧ Below w.heap.size w w' := by
  have h1 := bounds32 ws
  obtain ⟨n, rfl⟩ : ∃ n : Nat, s = (n : Int) := ⟨s.toNat, by omega⟩
  exact apart_nat n v1 v2 v3 A B I w (by omega) hA hB hI sA sB sI
end
end Go.Proofs.Ytdakfdecfpebcaa.Bmp
