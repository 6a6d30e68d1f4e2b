/- Which maps may be: the program's and the document's. -/
import Derived.Test.YtdakfdecfpebcaaInoFront
namespace Go.Proofs.Ytdakfdecfpebcaa.Ino
open Go.RowKit
attribute [local go_sem] Oper.semAt_some
set_option linter.unusedVariables false
set_option linter.unusedSimpArgs false

section
set_option maxRecDepth 100000
set_option maxHeartbeats 1000000
theorem isKind_any (k : Int) (w : World) : Calls Try.prog 48 #[.int .i64 k] w fun e w' => e = .returned (.bool (decide (1 ≤ k ∧ k ≤ 3))) ∧ w = w' := by
  by_cases h1 : 1 ≤ k
  · by_cases h3 : k ≤ 3
    · rw [decide_eq_true (And.intro h1 h3)]
      go_enter Try.func48, Try.ntmps48
      go_wp2
      go_ret
      exact ⟨rfl, rfl⟩
    · rw [decide_eq_false (fun h => h3 h.2)]
      go_enter Try.func48, Try.ntmps48
      go_wp2
      go_ret
      exact ⟨rfl, rfl⟩
  · rw [decide_eq_false (fun h => h1 h.1)]
    go_enter Try.func48, Try.ntmps48
    go_wp2
    go_ret
    exact ⟨rfl, rfl⟩

theorem isMap_any (m : M) (s : Nat) (hs : s < 4294967296) (w : World) : Calls Try.prog 49 #[m.val, .int .u32 s] w (Ans w (.bool (decide (mapP m s)))) := by
  have hd := fun W => depth_any s W hs
  have hb := fun W => blocks_any s W hs
  have hm : mapP m s = if dpN s = 0 then m = cutM m (blN s) else ¬ m.a = 0 ∧ m = cutM m 1 := rfl
  have hbl := bl_le s hs
  generalize dpN s = d at hd hm
  generalize blN s = b at hb hm hbl
  have hA := AtM.new w m
  have hB := below_new w (boxM m)
  unfold boxM at hA hB
  obtain ⟨W0, hW0⟩ : ∃ W0, w.alloc (.cells #[.int .u32 m.a, .int .u32 m.b, .int .u32 m.c, .int .u32 m.d, .int .u32 m.e, .int .u32 m.f] 32) = W0 := ⟨_, rfl⟩
  rw [hW0] at hA hB
  have HC : Hid (∀ W, Below W0.heap.size W0 W → W.cell? ⟨w.heap.size, 0, none⟩ = some (.int .u32 m.a) ∧ W.cell? ⟨w.heap.size, 1, none⟩ = some (.int .u32 m.b) ∧ W.cell? ⟨w.heap.size, 2, none⟩ = some (.int .u32 m.c) ∧ W.cell? ⟨w.heap.size, 3, none⟩ = some (.int .u32 m.d) ∧ W.cell? ⟨w.heap.size, 4, none⟩ = some (.int .u32 m.e) ∧ W.cell? ⟨w.heap.size, 5, none⟩ = some (.int .u32 m.f)) := fun W hW => (hA.th hW).c
  have HB := Lib.hid hB
  obtain ⟨c0, c1, c2, c3, c4, c5⟩ := hA.c
  have hD1 : Below W0.heap.size W0 W0.drew := (Below.refl _ _).drew
  by_cases h0 : d = 0
  · have hq : ((d : Int) == 0) = true := by simp [h0]
    rw [if_pos h0] at hm
    have hE := fun W => eqlM m (cutM m b) W
    have hF := fun W => front_any m b (by omega) W
    have HM : Hid (decide (mapP m s) = decide (m = cutM m b)) := by unfold Hid; exact decide_eq_decide.2 (by rw [hm])
    generalize decide (m = cutM m b) = r at hE HM
    obtain ⟨X, hX⟩ : ∃ X, cutM m b = X := ⟨_, rfl⟩
    rw [hX] at hE hF
    unfold M.val at hE hF ⊢
    have HF := Lib.hid hF
    clear hF h0 hm hA hB hX hbl hs
    go_enter Try.func49, Try.ntmps49
    go_wp2_with (go_at_call 23; refine (hd _).mono ?_; rintro e w1 ⟨rfl, rfl⟩)
    go_region_held3 (fun w' => (w'.cell? ⟨w.heap.size, 0, none⟩ = some (.int .u32 m.a) ∧ w'.cell? ⟨w.heap.size, 1, none⟩ = some (.int .u32 m.b) ∧ w'.cell? ⟨w.heap.size, 2, none⟩ = some (.int .u32 m.c) ∧ w'.cell? ⟨w.heap.size, 3, none⟩ = some (.int .u32 m.d) ∧ w'.cell? ⟨w.heap.size, 4, none⟩ = some (.int .u32 m.e) ∧ w'.cell? ⟨w.heap.size, 5, none⟩ = some (.int .u32 m.f))) (first | exact HC.out _ hD1 | exact HC.out _ (by assumption)) (first
      | (go_at_call 22; (with_reducible refine Calls.mono (hb _) ?_); rintro e w1 ⟨rfl, rfl⟩; have := hD1)
      | (go_at_call 54; (with_reducible refine Calls.mono (HF.out _) ?_); rintro e w2 ⟨rfl, hBn⟩; have := below_th hD1 hBn))
    go_wp2
    go_ret
    exact ⟨by rw [HM.out]; rfl, below_th HB.out (by assumption)⟩
  · have hq : ((d : Int) == 0) = false := beq_eq_false_iff_ne.2 (by omega)
    rw [if_neg h0] at hm
    have hE := fun W => eqlM m (cutM m 1) W
    have hF := fun W => front_any m 1 (by omega) W
    by_cases ha : m.a = 0
    · have hz : ((m.a : Int) != 0) = false := by simp [ha]
      have HM : Hid (decide (mapP m s) = false) := by unfold Hid; exact decide_eq_false (by rw [hm]; exact fun h => h.1 ha)
      unfold M.val
      clear hE hF h0 hm hA hB hbl hs ha
      go_enter Try.func49, Try.ntmps49
      go_wp2_with (go_at_call 23; refine (hd _).mono ?_; rintro e w1 ⟨rfl, rfl⟩)
      go_quiet (fail)
      go_wp2
      go_ret
      exact ⟨by rw [HM.out]; rfl, below_drewN HB.out _⟩
    · have hz : ((m.a : Int) != 0) = true := by simp [ha]
      have HM : Hid (decide (mapP m s) = decide (m = cutM m 1)) := by unfold Hid; exact decide_eq_decide.2 (by rw [hm]; exact ⟨fun h => h.2, fun h => ⟨ha, h⟩⟩)
      generalize decide (m = cutM m 1) = r at hE HM
      obtain ⟨X, hX⟩ : ∃ X, cutM m 1 = X := ⟨_, rfl⟩
      rw [hX] at hE hF
      unfold M.val at hE hF ⊢
      have HF := Lib.hid hF
      clear hF h0 hm hA hB hX hbl hs ha
      go_enter Try.func49, Try.ntmps49
      go_wp2_with (go_at_call 23; refine (hd _).mono ?_; rintro e w1 ⟨rfl, rfl⟩)
      go_region_held3 (fun w' => (w'.cell? ⟨w.heap.size, 0, none⟩ = some (.int .u32 m.a) ∧ w'.cell? ⟨w.heap.size, 1, none⟩ = some (.int .u32 m.b) ∧ w'.cell? ⟨w.heap.size, 2, none⟩ = some (.int .u32 m.c) ∧ w'.cell? ⟨w.heap.size, 3, none⟩ = some (.int .u32 m.d) ∧ w'.cell? ⟨w.heap.size, 4, none⟩ = some (.int .u32 m.e) ∧ w'.cell? ⟨w.heap.size, 5, none⟩ = some (.int .u32 m.f))) (first | exact HC.out _ hD1 | exact HC.out _ (by assumption)) (first
        | (go_at_call 54; (with_reducible refine Calls.mono (HF.out _) ?_); rintro e w2 ⟨rfl, hBn⟩; have := below_th hD1 hBn))
      go_wp2
      go_ret
      exact ⟨by rw [HM.out]; rfl, below_th HB.out (by assumption)⟩
end
end Go.Proofs.Ytdakfdecfpebcaa.Ino
