/- What the laws on maps ask first. -/
import Derived.Test.YtdakfdecfpebcaaBmpAll
namespace Go.Proofs.Ytdakfdecfpebcaa.Bmp
open Go.RowKit Ino
attribute [local go_sem] Oper.semAt_some
set_option linter.unusedVariables false
set_option linter.unusedSimpArgs false
theorem bounds64 {n : Int} (h : (Lit.int .i64 n).wf = true) : -9223372036854775808 ≤ n ∧ n ≤ 9223372036854775807 := by
  have h1 : IntKind.i64.min = -9223372036854775808 := rfl
  have h2 : IntKind.i64.max = 9223372036854775807 := rfl
  simp only [Lit.wf, Bool.and_eq_true, decide_eq_true_eq] at h
  omega
theorem boundsU {n : Int} (h : (Lit.int .u64 n).wf = true) : 0 ≤ n ∧ n ≤ 18446744073709551615 := by
  have h1 : IntKind.u64.min = 0 := rfl
  have h2 : IntKind.u64.max = 18446744073709551615 := rfl
  simp only [Lit.wf, Bool.and_eq_true, decide_eq_true_eq] at h
  omega
theorem bounds32 {n : Int} (h : (Lit.int .u32 n).wf = true) : 0 ≤ n ∧ n ≤ 4294967295 := by
  have h1 : IntKind.u32.min = 0 := rfl
  have h2 : IntKind.u32.max = 4294967295 := rfl
  simp only [Lit.wf, Bool.and_eq_true, decide_eq_true_eq] at h
  omega
theorem bounds16 {n : Int} (h : (Lit.int .u16 n).wf = true) : 0 ≤ n ∧ n ≤ 65535 := by
  have h1 : IntKind.u16.min = 0 := rfl
  have h2 : IntKind.u16.max = 65535 := rfl
  simp only [Lit.wf, Bool.and_eq_true, decide_eq_true_eq] at h
  omega
def exV : List Nat := [1, 2, 0, 4, 5, 6, 7]
theorem ex_lay : layP 3556 exV [9] := by decide
theorem exV_small : Small exV := by unfold Small; decide
theorem ex9_small : Small [9] := by unfold Small; decide
theorem lit_fst (w : World) (o1 o2 : Obj) : ((w.alloc o1).alloc o2).heap[w.heap.size]? = some o1 := ((below_new (w.alloc o1) o2).block _ (by simp)).trans (World.alloc_heap_new w o1)
theorem lit_snd (w : World) (o1 o2 : Obj) : ((w.alloc o1).alloc o2).heap[w.heap.size + 1]? = some o2 := by
  have := World.alloc_heap_new (w.alloc o1) o2
  rw [World.size_alloc] at this
  exact this
section
set_option maxRecDepth 100000
set_option maxHeartbeats 8000000
theorem shown_any (w : World) : Calls Try.prog 9 #[] w (Ans w (.bool true)) := by
  have h1 := fun W => way_any 508 0 W (by decide) (by decide)
  have h2 := fun W => way_any 65024 127 W (by decide) (by decide)
  have h3 := fun v1 v2 W (a : U32s W v1 exV) (b : U32s W v2 [9]) => lay_any 3556 v1 v2 exV [9] W (by decide) a b exV_small ex9_small (by decide) (by decide)
  have h5 := fun W => count_any 65024 W (by decide)
  have hj := joinP_lay ex_lay exV_small ex9_small
  unfold WayPost at h1 h2
  unfold LayPost at h3
  rw [show wayV 508 0 = [0] by decide, show wayE 508 0 = 0 by decide] at h1
  rw [show wayV 65024 127 = [0, 1, 0] by decide, show wayE 65024 127 = 0 by decide] at h2
  rw [show layE 3556 exV [9] = 0 by decide, show layM 3556 exV [9] = ⟨9, 0, 0, 0, 0, 0⟩ by decide, show layB 3556 exV [9] = [blkB exV] by (unfold layB; rw [if_pos ex_lay]; rfl)] at h3
  rw [show layM 3556 exV [9] = ⟨9, 0, 0, 0, 0, 0⟩ by decide, show layB 3556 exV [9] = [blkB exV] by (unfold layB; rw [if_pos ex_lay]; rfl)] at hj
  rw [show cntN 65024 = 3 by decide] at h5
  have h4 := fun v W (hB : Strs W v [blkB exV]) => join_some 3556 _ v _ _ _ W (by decide) hB hj (by decide)
  unfold M.val at h3 h4
  dsimp only at h3 h4
  have H1 := Lib.hid h1
  have H2 := Lib.hid h2
  have H3 := Lib.hid h3
  have H4 := Lib.hid h4
  have H5 := Lib.hid h5
  have HL1 : Hid (∀ w : World, U32s ((w.alloc (.cells #[.int .u32 1, .int .u32 2, .int .u32 0, .int .u32 4, .int .u32 5, .int .u32 6, .int .u32 7] 22)).alloc (.cells #[.int .u32 9] 22)) (.slice (some ⟨w.heap.size, 0, none⟩) 7 7) exV) := fun w => U32s.lit (X := exV) (lit_fst w _ _) rfl (by decide)
  have HL2 : Hid (∀ w : World, U32s ((w.alloc (.cells #[.int .u32 1, .int .u32 2, .int .u32 0, .int .u32 4, .int .u32 5, .int .u32 6, .int .u32 7] 22)).alloc (.cells #[.int .u32 9] 22)) (.slice (some ⟨w.heap.size + 1, 0, none⟩) 1 1) [9]) := fun w => U32s.lit (X := [9]) (lit_snd w _ _) rfl (by decide)
  have HL3 : Hid (∀ w : World, U32s (w.alloc (.cells #[.int .u32 1, .int .u32 2, .int .u32 0, .int .u32 4, .int .u32 5, .int .u32 6, .int .u32 7] 22)) (.slice (some ⟨w.heap.size, 0, none⟩) 7 7) exV) := fun w => U32s.lit (X := exV) (World.alloc_heap_new w _) rfl (by decide)
  clear h1 h2 h3 h4 h5 hj
  go_enter Try.func9, Try.ntmps9
  go_wp2_with (first
    | (go_at_call 10; (with_reducible refine Calls.mono (H1.out _) ?_); rintro e w1 ⟨v1, rfl, hv1, hB1⟩; have HV1 := Lib.hid hv1; clear hv1)
    | (go_at_call 10; (with_reducible refine Calls.mono (H2.out _) ?_); rintro e w2 ⟨v2, rfl, hv2, hB2⟩; have HV2 := Lib.hid hv2; have HV1b := Lib.hid (HV1.out.below hB2); have HBA := Lib.hid (below_th hB1 hB2); clear hv2 hB1 hB2)
    | (go_at_call 15; (with_reducible refine Calls.mono (H3.out _ _ _ (HL1.out _) (HL2.out _)) ?_); rintro e w3 ⟨v3, rfl, hv3, hB3⟩; obtain ⟨a3, c3, e3, _, _⟩ := hv3.parts; obtain rfl : v3 = .slice a3 1 c3 := e3; have HV3 := Lib.hid hv3; have HV1c := Lib.hid (((HV1b.out.below (below_new _ _)).below (below_new _ _)).below hB3); have HV2c := Lib.hid (((HV2.out.below (below_new _ _)).below (below_new _ _)).below hB3); have HBB := Lib.hid (below_th (below_al (below_al HBA.out _) _) hB3); clear hv3 hB3)
    | (go_at_call 18; (with_reducible refine Calls.mono (H4.out _ _ (HV3.out.below (below_new _ _))) ?_); rintro e w4 ⟨v4, rfl, hv4, hB4⟩; have HV4 := Lib.hid hv4; have HM4 := Lib.hid ((AtM.new w3 ⟨9, 0, 0, 0, 0, 0⟩).th hB4); have HV1d := Lib.hid ((HV1c.out.below (below_new _ _)).below hB4); have HV2d := Lib.hid ((HV2c.out.below (below_new _ _)).below hB4); have HBC := Lib.hid (below_th (below_al HBB.out _) hB4); clear hv4 hB4)
    | (go_at_call 14; (with_reducible refine Calls.mono (R.sameInts_any _ _ [0] [0] _ (HV1d.out.below (below_new _ _)) (Ints.one (World.alloc_heap_new w4 _))) ?_); rintro e w5 ⟨rfl, hB5⟩; rw [show decide (([0] : List Int) = [0]) = true by decide]; have HV2e := Lib.hid ((HV2d.out.below (below_new _ _)).below hB5); have HV4e := Lib.hid ((HV4.out.below (below_new _ _)).below hB5); have HM5 := Lib.hid ((HM4.out.th (below_new _ _)).th hB5); have HBD := Lib.hid (below_th (below_al HBC.out _) hB5); clear hB5)
    | (go_at_call 14; (with_reducible refine Calls.mono (R.sameInts_any _ _ [0, 1, 0] [0, 1, 0] _ (HV2e.out.below (below_new _ _)) (Ints.three (World.alloc_heap_new w5 _))) ?_); rintro e w6 ⟨rfl, hB6⟩; rw [show decide (([0, 1, 0] : List Int) = [0, 1, 0]) = true by decide]; have HV4f := Lib.hid ((HV4e.out.below (below_new _ _)).below hB6); have hm6 := ((HM5.out.th (below_new _ _)).th hB6).cell (i := 0) (by decide); have hm6 : w6.cell? ⟨w3.heap.size, 0, none⟩ = some (.int .u32 9) := hm6; have HBE := Lib.hid (below_th (below_al HBD.out _) hB6); clear hB6)
    | (go_at_call 19; (with_reducible refine Calls.mono (R.same_any _ _ exV exV _ (HV4f.out.below (below_new _ _)) (HL3.out _)) ?_); rintro e w7 ⟨rfl, hB7⟩; rw [show decide (exV = exV) = true by decide]; have HBF := Lib.hid (below_th (below_al HBE.out _) hB7); clear hB7)
    | (go_at_call 12; (with_reducible refine Calls.mono (H5.out _) ?_); rintro e w8 ⟨rfl, hB8⟩))
  go_ret
  exact ⟨rfl, below_th HBF.out hB8⟩
end
end Go.Proofs.Ytdakfdecfpebcaa.Bmp
