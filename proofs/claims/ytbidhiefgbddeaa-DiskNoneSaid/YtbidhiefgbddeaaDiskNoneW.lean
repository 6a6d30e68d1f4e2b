/- The walk of DiskNone: it answers true. -/
import Derived.Test.YtbidhiefgbddeaaDiskArgs
namespace Go.Proofs.Ytbidhiefgbddeaa.Disk
open Go.RowKit Go.Shelf
set_option linter.unusedVariables false

set_option maxRecDepth 100000 in
set_option maxHeartbeats 2000000 in
theorem DiskNone_walk (a0 : Int) (a1 : ByteArray) (a2 t2 : Int) (w : World) (w0 : (Lit.int .i64 a0).wf = true) (z1 : a1.size ≤ 140737488351232) (w2 : 0 ≤ a2 ∧ a2 ≤ 18446744073709551615) (wt2 : I64 t2) :
    Calls Try.prog 6 #[.int .i64 a0, .string a1, .agg #[.int .u64 a2, .int .i64 t2]] w fun e w' => e = .returned (.bool true) ∧ Below w.heap.size w w' := by
  have hB0 : Below w.heap.size w (w.alloc (.cells #[.int .u64 a2, .int .i64 t2] 35)) := (Below.refl _ w).alloc (Nat.le_refl _) _
  have g0 : (w.alloc (.cells #[.int .u64 a2, .int .i64 t2] 35)).heap[w.heap.size]? = some (.cells #[.int .u64 a2, .int .i64 t2] 35 (0, 0)) := heap_alloc_new w _
  obtain ⟨W0, hW0⟩ : ∃ W0, w.alloc (.cells #[.int .u64 a2, .int .i64 t2] 35) = W0 := ⟨_, rfl⟩
  have hs0 : w.heap.size < W0.heap.size := by rw [← hW0]; simp
  have g1 : W0.heap[w.heap.size]? = some (.cells #[.int .u64 a2, .int .i64 t2] 35 (0, 0)) := by rw [← hW0]; exact g0
  have hf : ∀ W, Below W0.heap.size W0 W → W.cell? ⟨w.heap.size, 0, none⟩ = some (.int .u64 a2) ∧ W.cell? ⟨w.heap.size, 1, none⟩ = some (.int .i64 t2) := fun W hB => by
    have := (hB.block w.heap.size hs0).trans g1
    constructor <;> (simp only [World.cell?, this]; rfl)
  have HF := Lib.hid hf
  rw [hW0] at hB0
  clear hf w0 g0 g1
  go_enter Try.func6, Try.ntmps6
  go_wp2_with (first
    | (go_at_call 9; refine (shown_any _).mono ?_; rintro e w1 ⟨rfl, hB1'⟩)
    | (go_at_call 25; refine (read_nil _ _).mono ?_; rintro e w2 ⟨rfl, rfl⟩)
    | (go_at_call 22; refine (cutAt_nil _ _).mono ?_; rintro e w3 ⟨rfl, rfl⟩)
    | (go_at_call 26; refine (write_nil _ _ _).mono ?_; rintro e w4 ⟨rfl, rfl⟩)
    | (go_at_call 24; refine (flush_nil _).mono ?_; rintro e w5 ⟨rfl, hB5⟩; have hB15 := below_th hB1' hB5; obtain ⟨c0, c1⟩ := HF.out _ hB15)
    | (go_at_call 18; refine (blocks_nil _).mono ?_; rintro e w6 ⟨rfl, rfl⟩)
    | (go_at_call 13; refine (ops_nil _).mono ?_; rintro e w7 ⟨rfl, rfl⟩)
    | (go_at_call 14; refine (loose_nil _).mono ?_; rintro e w8 ⟨rfl, rfl⟩)
    | (go_at_call 23; refine (crash_nil_any _ _ _).mono ?_; rintro e w9 ⟨rfl, hB9⟩)
    | (go_at_call 16; refine (image_nil _).mono ?_; rintro e w10 ⟨rfl, rfl⟩))
  go_ret
  exact ⟨rfl, hB0.trans ((below_th hB15 hB9).mono (by omega))⟩
end Go.Proofs.Ytbidhiefgbddeaa.Disk
