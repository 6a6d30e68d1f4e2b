/- Is a map right for a size: the program's. -/
import Derived.Test.YtdakfdecfpebcaaInoRight
import Derived.Test.YtdakfdecfpebcaaBmpPost
namespace Go.Proofs.Ytdakfdecfpebcaa.Bmp
open Go.RowKit Ino
attribute [local go_sem] Oper.semAt_some
set_option linter.unusedVariables false
set_option linter.unusedSimpArgs false
/-- a file of a size, and of a map -/
def fileI (s : Nat) (m : M) : I := ⟨1, 0, 0, s, 0, dpN s, m⟩
theorem fileI_ok {s : Nat} {m : M} (h : s < 4294967296) (hm : MOk m) : IOk (fileI s m) := ⟨by unfold fileI; dsimp only; omega, by unfold fileI; dsimp only; omega, by unfold fileI; dsimp only; omega, h, by unfold fileI; dsimp only; omega, by have := dp_le s; unfold fileI; dsimp only; omega, hm⟩
theorem fileI_right (s : Nat) (m : M) : rightB (fileI s m) = decide (s ≤ 8193532 ∧ mapP m s) := by
  unfold rightB
  refine decide_eq_decide.2 ⟨fun h => ?_, fun h => .inr ⟨⟨by unfold fileI; dsimp only; omega, by unfold fileI; dsimp only; omega⟩, by unfold fileI; dsimp only; omega, h.1, by unfold fileI; dsimp only; omega, rfl, h.2⟩⟩
  rcases h with h | h
  · have := congrArg I.kind h
    unfold fileI I.zero at this
    dsimp only at this
    omega
  · exact ⟨h.2.2.1, h.2.2.2.2.2⟩
section
set_option maxRecDepth 100000
set_option maxHeartbeats 4000000
theorem isM_any (s : Nat) (m : M) (w : World) (h : s < 4294967296) (hm : MOk m) : Calls Try.prog 31 #[m.val, .int .u32 s] w (Ans w (.bool (decide (s ≤ 8193532 ∧ mapP m s)))) := by
  have hR := fun W => right_any (fileI s m) (fileI_ok h hm) W
  rw [fileI_right s m] at hR
  unfold fileI I.val at hR
  dsimp only at hR
  have hd := fun W => Ino.depth_any s W h
  obtain ⟨q, hq⟩ : ∃ q, decide (s ≤ 8193532 ∧ mapP m s) = q := ⟨_, rfl⟩
  rw [hq] at hR ⊢
  obtain ⟨d, hdd⟩ : ∃ d, dpN s = d := ⟨_, rfl⟩
  rw [hdd] at hR hd
  have hA := AtM.new w m
  have hB := below_new w (boxM m)
  obtain ⟨a, b, c, dd, e, f⟩ := m
  unfold boxM at hA hB
  unfold M.val
  dsimp only at hR hA hB ⊢
  obtain ⟨W0, hW0⟩ : ∃ W0, w.alloc (.cells #[.int .u32 a, .int .u32 b, .int .u32 c, .int .u32 dd, .int .u32 e, .int .u32 f] 32) = W0 := ⟨_, rfl⟩
  rw [hW0] at hA hB
  have HR := Lib.hid hR
  have HDD := Lib.hid hd
  have HB := Lib.hid hB
  have HW := Lib.hid hW0
  obtain ⟨c0, c1, c2, c3, c4, c5⟩ := hA.c
  dsimp only at c0 c1 c2 c3 c4 c5
  have HC : Hid (∀ W, Below W0.heap.size W0 W → W.cell? ⟨w.heap.size, 0, none⟩ = some (Value.int .u32 a) ∧ W.cell? ⟨w.heap.size, 1, none⟩ = some (Value.int .u32 b) ∧ W.cell? ⟨w.heap.size, 2, none⟩ = some (Value.int .u32 c) ∧ W.cell? ⟨w.heap.size, 3, none⟩ = some (Value.int .u32 dd) ∧ W.cell? ⟨w.heap.size, 4, none⟩ = some (Value.int .u32 e) ∧ W.cell? ⟨w.heap.size, 5, none⟩ = some (Value.int .u32 f)) := fun W hW => (hA.th hW).c
  have hD1 : Below W0.heap.size W0 W0.drew := (Below.refl _ _).drew
  clear hR hd hA hB hW0 hq hdd h hm
  go_enter Try.func31, Try.ntmps31
  go_wp2
  rw [HW.out]
  go_region_held3 (fun w' => w'.cell? ⟨w.heap.size, 0, none⟩ = some (Value.int .u32 a) ∧ w'.cell? ⟨w.heap.size, 1, none⟩ = some (Value.int .u32 b) ∧ w'.cell? ⟨w.heap.size, 2, none⟩ = some (Value.int .u32 c) ∧ w'.cell? ⟨w.heap.size, 3, none⟩ = some (Value.int .u32 dd) ∧ w'.cell? ⟨w.heap.size, 4, none⟩ = some (Value.int .u32 e) ∧ w'.cell? ⟨w.heap.size, 5, none⟩ = some (Value.int .u32 f)) (first | exact HC.out _ hD1 | exact HC.out _ (by assumption)) (first
    | (go_at_call 23; (with_reducible refine Calls.mono (HDD.out _) ?_); rintro e w1 ⟨rfl, rfl⟩; have := hD1)
    | (go_at_call 42; (with_reducible refine Calls.mono (HR.out _) ?_); rintro e w2 ⟨rfl, hBn⟩; have := below_th hD1 hBn))
  go_wp2
  go_ret
  exact ⟨rfl, below_th HB.out (by assumption)⟩
end
end Go.Proofs.Ytdakfdecfpebcaa.Bmp
