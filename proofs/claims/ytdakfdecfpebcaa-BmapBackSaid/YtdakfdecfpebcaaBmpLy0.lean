/- The program's Lay: where it refuses, and at no depth. -/
import Derived.Test.YtdakfdecfpebcaaBmpLyP
namespace Go.Proofs.Ytdakfdecfpebcaa.Bmp
open Go.RowKit Ino
attribute [local go_sem] Oper.semAt_some
set_option linter.unusedVariables false
set_option linter.unusedSimpArgs false
section
set_option maxRecDepth 100000
set_option maxHeartbeats 4000000
theorem plain_no (s : Nat) (v1 v2 : Value) (V I : List Nat) (w : World) (h : s < 4294967296) (hV : U32s w v1 V) (hI : U32s w v2 I) (h1 : ¬ layP s V I) :
    Calls Try.prog 15 #[.int .u32 s, v1, v2] w (LayPost s V I w) := by
  have HN := Lib.hid (fun w' (hB : Below w.heap.size w w') => lay_no (s := s) (V := V) (I := I) (w := w) (w' := w') h1 hB)
  have HH := Lib.hid (fun W (hB : Below w.heap.size w W) => has_any v2 I W (hI.below hB))
  obtain ⟨a1, c1, rfl, _, _⟩ := hV.parts
  obtain ⟨a2, c2, rfl, _, _⟩ := hI.parts
  have hBl := Lib.hid (fun W => Ino.blocks_any s W h)
  have hC := Lib.hid (fun W => count_eq s W h)
  have hL : Hid (s ≤ 8193532 → V.length = blN s → I.length = cntN s → decide (0 ∈ I) = true) := fun k1 k2 k3 => decide_eq_true (by
    refine Classical.byContradiction fun hz => h1 ⟨k1, k2, k3, fun x hx e => hz ?_⟩
    rw [← e]; exact hx)
  obtain ⟨R, hR⟩ : ∃ R, LayPost s V I w = R := ⟨_, rfl⟩
  rw [hR] at HN ⊢
  generalize V.length = nv at *
  generalize I.length = ni at *
  generalize blN s = b at *
  generalize cntN s = c at *
  obtain ⟨W0, rfl⟩ : ∃ W0 : World, W0 = w := ⟨_, rfl⟩
  have hZ1 := (zM_new W0).th (below_new _ boxZM)
  have hZ2 := zM_new (W0.alloc boxZM)
  have HB := Lib.hid (below_al (below_new W0 boxZM) boxZM)
  rw [World.size_alloc] at hZ2
  obtain ⟨x0, x1, x2, x3, x4, x5⟩ := zM_c hZ1
  obtain ⟨y0, y1, y2, y3, y4, y5⟩ := zM_c hZ2
  have f0 := hZ1.f 0
  have f1 := hZ1.f 1
  have f2 := hZ1.f 2
  have f3 := hZ1.f 3
  have f4 := hZ1.f 4
  have f5 := hZ1.f 5
  have HP := Lib.hid hZ1
  unfold boxZM at x0 x1 x2 x3 x4 x5 y0 y1 y2 y3 y4 y5 f0 f1 f2 f3 f4 f5 HP HB
  clear hZ1 hZ2 hV hI hR
  by_cases k1 : 8193532 < s
  · have g1 : (8193532 : Int) < (s : Int) := by omega
    clear h1 k1 h
    go_enter Try.func15, Try.ntmps15
    go_wp2
    refine bodyPost_ret (results_lay rfl _ _ rfl HP.out) rfl ?_
    exact HN.out _ HB.out
  · have g1 : ¬ (8193532 : Int) < (s : Int) := by omega
    by_cases k2 : nv = b
    · have g2 : ((nv : Int) != (b : Int)) = false := by rw [k2]; simp
      have g2b : (nv != b) = false := by rw [k2]; simp
      by_cases k3 : ni = c
      · have hD := hL.out (by omega) k2 k3
        have g3 : ((ni : Int) != (c : Int)) = false := by rw [k3]; simp
        have g3b : (ni != c) = false := by rw [k3]; simp
        rw [hD] at HH
        subst k2
        subst k3
        clear h1 k1 h hD hL
        go_enter Try.func15, Try.ntmps15
        go_wp2_with (first
          | (go_at_call 22; (with_reducible refine Calls.mono (hBl.out _) ?_); rintro e w1 ⟨rfl, hw⟩; rw [← hw]; clear hw w1)
          | (go_at_call 12; (with_reducible refine Calls.mono (hC.out _) ?_); rintro e w1 ⟨rfl, hw⟩; rw [← hw]; clear hw w1)
          | (go_at_call 27; (with_reducible refine Calls.mono (HH.out _ HB.out) ?_); rintro e w1 ⟨rfl, hw⟩; rw [hw]; clear hw w1))
        refine bodyPost_ret (results_lay rfl _ _ rfl HP.out) rfl ?_
        exact HN.out _ HB.out
      · have g3 : ((ni : Int) != (c : Int)) = true := bne_iff_ne.2 (by omega)
        have g3b : (ni != c) = true := bne_iff_ne.2 k3
        have g3c : (ni == c) = false := beq_eq_false_iff_ne.2 k3
        subst k2
        clear h1 k1 h k3 hL
        go_enter Try.func15, Try.ntmps15
        go_wp2_with (first
          | (go_at_call 22; (with_reducible refine Calls.mono (hBl.out _) ?_); rintro e w1 ⟨rfl, hw⟩; rw [← hw]; clear hw w1)
          | (go_at_call 12; (with_reducible refine Calls.mono (hC.out _) ?_); rintro e w1 ⟨rfl, hw⟩; rw [← hw]; clear hw w1))
        refine bodyPost_ret (results_lay rfl _ _ rfl HP.out) rfl ?_
        exact HN.out _ HB.out
    · have g2 : ((nv : Int) != (b : Int)) = true := bne_iff_ne.2 (by omega)
      have g2b : (nv != b) = true := bne_iff_ne.2 k2
      have g2c : (nv == b) = false := beq_eq_false_iff_ne.2 k2
      clear h1 k1 h k2 hL
      go_enter Try.func15, Try.ntmps15
      go_wp2_with (first
        | (go_at_call 22; (with_reducible refine Calls.mono (hBl.out _) ?_); rintro e w1 ⟨rfl, hw⟩; rw [← hw]; clear hw w1)
        | (go_at_call 12; (with_reducible refine Calls.mono (hC.out _) ?_); rintro e w1 ⟨rfl, hw⟩; rw [← hw]; clear hw w1))
      refine bodyPost_ret (results_lay rfl _ _ rfl HP.out) rfl ?_
      exact HN.out _ HB.out
end
end Go.Proofs.Ytdakfdecfpebcaa.Bmp
