/- BmapLays, walked. -/
import Derived.Test.YtdakfdecfpebcaaBmpArgs
namespace Go.Proofs.Ytdakfdecfpebcaa.Bmp
open Go.RowKit Ino
attribute [local go_sem] Oper.semAt_some
set_option linter.unusedVariables false
set_option linter.unusedSimpArgs false
section
set_option maxRecDepth 100000
set_option maxHeartbeats 8000000
theorem lays_nat (s : Nat) (v1 v2 : Value) (V I : List Nat) (w : World) (ws : s < 4294967296) (hV : U32s w v1 V) (hI : U32s w v2 I) (sV : Small V) (sI : Small I) : Calls Try.prog 4 #[.int .u32 s, v1, v2] w (Ans w (.bool true)) := by
  obtain ⟨a1, c1, rfl, p1, q1⟩ := hV.parts
  obtain ⟨a2, c2, rfl, p2, q2⟩ := hI.parts
  by_cases k1 : 1000 < V.length
  · have g1 : (1000 : Int) < (V.length : Int) := by omega
    clear hV hI sV sI ws k1
    go_enter Try.func4, Try.ntmps4
    go_wp2_with (go_at_call 9; (with_reducible refine Calls.mono (shown_any _) ?_); rintro e w1 ⟨rfl, hB1⟩)
    go_ret
    exact ⟨rfl, hB1⟩
  have g1 : ¬ (1000 : Int) < (V.length : Int) := by omega
  by_cases k2 : 1000 < I.length
  · have g2 : (1000 : Int) < (I.length : Int) := by omega
    clear hV hI sV sI ws k1 k2
    go_enter Try.func4, Try.ntmps4
    go_wp2_with (go_at_call 9; (with_reducible refine Calls.mono (shown_any _) ?_); rintro e w1 ⟨rfl, hB1⟩)
    go_ret
    exact ⟨rfl, hB1⟩
  have g2 : ¬ (1000 : Int) < (I.length : Int) := by omega
  have h1 := fun W (h : Below w.heap.size w W) => lay_any s _ _ V I W ws (hV.below h) (hI.below h) sV sI (by omega) (by omega)
  have h2 := fun W (h : Below w.heap.size w W) => R.lay_any s _ _ V I W ws (hV.below h) (hI.below h) sV sI
  unfold LayPost at h1 h2
  generalize layM s V I = m at h1 h2
  generalize layB s V I = B at h1 h2
  generalize layE s V I = E at h1 h2
  have hE : (E == E) = true := beq_self_eq_true _
  obtain ⟨ma, mb, mc, md, me, mf⟩ := m
  have hQ := fun W => eqlM ⟨ma, mb, mc, md, me, mf⟩ ⟨ma, mb, mc, md, me, mf⟩ W
  rw [decide_eq_true rfl] at hQ
  unfold M.val at h1 h2 hQ
  dsimp only at h1 h2 hQ
  have H1 := Lib.hid h1
  have H2 := Lib.hid h2
  generalize V.length = nv at *
  generalize I.length = ni at *
  clear h1 h2 ws hV hI sV sI k1 k2
  go_enter Try.func4, Try.ntmps4
  go_wp2_with (first
    | (go_at_call 9; (with_reducible refine Calls.mono (shown_any _) ?_); rintro e w1 ⟨rfl, hB1⟩)
    | (go_at_call 15; (with_reducible refine Calls.mono (H1.out _ hB1) ?_); rintro e w2 ⟨u2, rfl, hv2, hB2⟩; have HV2 := Lib.hid hv2; have hA2 := AtM.new w2 ⟨ma, mb, mc, md, me, mf⟩; have hB3 := below_al (below_th hB1 hB2) (boxM ⟨ma, mb, mc, md, me, mf⟩); have HN2 := Lib.hid (below_new w2 (boxM ⟨ma, mb, mc, md, me, mf⟩)); unfold boxM at hA2 hB3 HN2; dsimp only at hA2 hB3 HN2; clear hv2)
    | (go_at_call 16; (with_reducible refine Calls.mono (H2.out _ hB3) ?_); rintro e w4 ⟨u4, rfl, hv4, hB4⟩; have hA4 := (hA2.th hB4).th (below_new w4 (boxM ⟨ma, mb, mc, md, me, mf⟩)); have hC4 := AtM.new w4 ⟨ma, mb, mc, md, me, mf⟩; have HS4 := Lib.hid (And.intro (((HV2.out.below HN2.out).below hB4).below (below_new w4 (boxM ⟨ma, mb, mc, md, me, mf⟩))) (hv4.below (below_new w4 (boxM ⟨ma, mb, mc, md, me, mf⟩)))); have HN4 := Lib.hid (below_al (below_th hB3 hB4) (boxM ⟨ma, mb, mc, md, me, mf⟩)); unfold boxM at hA4 hC4 HS4 HN4; dsimp only at hA4 hC4 HS4 HN4; obtain ⟨x0, x1, x2, x3, x4, x5⟩ := hA4.c; obtain ⟨y0, y1, y2, y3, y4, y5⟩ := hC4.c; clear hv4)
    | (go_at_call 17; (with_reducible refine Calls.mono (R.sameTexts_any _ _ B B _ HS4.out.1 HS4.out.2) ?_); rintro e w6 ⟨rfl, hB6⟩; rw [show decide (B = B) = true from decide_eq_true rfl]))
  go_ret
  exact ⟨rfl, below_th HN4.out hB6⟩
theorem BmapLays_walk (s : Int) (v1 : Value) (V : List Nat) (v2 : Value) (I : List Nat) (w : World) (ws : (Lit.int .u32 s).wf = true) (hV : U32s w v1 V) (sV : Small V) (hI : U32s w v2 I) (sI : Small I) : Calls Try.prog 4 #[.int .u32 s, v1, v2] w fun e w' => e = .returned (.bool true) ∧ Below w.heap.size w w' := by
  have h1 := bounds32 ws
  obtain ⟨n, rfl⟩ : ∃ n : Nat, s = (n : Int) := ⟨s.toNat, by omega⟩
  exact lays_nat n v1 v2 V I w (by omega) hV hI sV sI
end
end Go.Proofs.Ytdakfdecfpebcaa.Bmp
