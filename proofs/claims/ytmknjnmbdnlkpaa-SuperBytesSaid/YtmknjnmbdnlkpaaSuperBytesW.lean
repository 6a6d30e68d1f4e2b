/- SuperBytes, walked. -/
import Derived.Test.YtmknjnmbdnlkpaaSupArgs
namespace Go.Proofs.Ytmknjnmbdnlkpaa.Super
open Go.RowKit Go.Shelf
attribute [local go_sem] Oper.semAt_some
set_option linter.unusedVariables false

section
set_option maxRecDepth 100000
set_option maxHeartbeats 4000000
theorem SuperBytes_walk (s : S) (b : ByteArray) (w : World) (k0 : SOk s) (z1 : b.size ≤ 140737488351232) : Calls Try.prog 3 #[s.val, .string b] w fun e w' => e = .returned (.bool true) ∧ Below w.heap.size w w' := by
  have hs : b.size ≤ 281474976710656 := by omega
  have hE := fun W => encode_any s W
  have hE2 := fun W => R.encode_any s W
  have hD := fun W => decode_any b W hs
  have hD2 := fun W => R.decode_any b W hs
  have hR := fun W => right_any s W
  have hR2 := fun W => R.right_any s W
  obtain ⟨X, hX⟩ : ∃ X, encS s = X := ⟨_, rfl⟩
  obtain ⟨E, hEe⟩ : ∃ E, encE s = E := ⟨_, rfl⟩
  obtain ⟨r, hr⟩ : ∃ r, rightB s = r := ⟨_, rfl⟩
  obtain ⟨V, hV⟩ : ∃ V, decV b = V := ⟨_, rfl⟩
  obtain ⟨F, hF⟩ : ∃ F, decE b = F := ⟨_, rfl⟩
  simp only [hX, hEe] at hE hE2
  simp only [hV, hF] at hD hD2
  simp only [hr] at hR hR2
  clear hX hEe hr hV hF k0 z1
  have a0 := At.new w s
  have b0 := (Below.refl w.heap.size w).alloc (Nat.le_refl _) (boxO s)
  obtain ⟨b1, q1, a1, p1⟩ := V
  obtain ⟨n, q, a, c⟩ := s
  unfold S.val at hE hE2 hD hD2 hR hR2 ⊢
  unfold boxO at a0 b0
  dsimp only at hE hE2 hD hD2 hR hR2 a0 b0 ⊢
  have HE := Lib.hid hE
  have HE2 := Lib.hid hE2
  have HD := Lib.hid hD
  have HD2 := Lib.hid hD2
  have HR := Lib.hid hR
  have HR2 := Lib.hid hR2
  clear hE hE2 hD hD2 hR hR2
  obtain ⟨W0, hW0⟩ : ∃ W0, w.alloc (.cells #[.int .i64 n, .int .u64 q, .int .i64 a, .int .u64 c] 24) = W0 := ⟨_, rfl⟩
  rw [hW0] at a0 b0
  have HB0 := Lib.hid b0
  have HA0 := Lib.hid a0
  clear a0 b0
  go_enter Try.func3, Try.ntmps3
  go_wp2_with (first
    | (go_at_call 8; refine (shown_any _).mono ?_; rintro e w1 ⟨rfl, hB1⟩; have A1 := HA0.out.th hB1; obtain ⟨x0, x1, x2, x3⟩ := A1.c; dsimp only at x0 x1 x2 x3)
    | (go_at_call 9; with_reducible refine Calls.mono (HE.out _) ?_; rintro e w2 ⟨rfl, hB2⟩; have A2 := A1.th hB2; obtain ⟨x0, x1, x2, x3⟩ := A2.c; dsimp only at x0 x1 x2 x3)
    | (go_at_call 10; with_reducible refine Calls.mono (HE2.out _) ?_; rintro e w3 ⟨rfl, hB3⟩)
    | (go_at_call 11; with_reducible refine Calls.mono (HD.out _) ?_; rintro e w4 ⟨rfl, hB4⟩)
    | (go_at_call 12; with_reducible refine Calls.mono (HD2.out _) ?_; rintro e w5 ⟨rfl, hB5⟩))
  have A3 := A2.th hB3
  have A4 := A3.th hB4
  have g4 := (Below.refl _ w4).alloc (Nat.le_refl _) (boxO ⟨b1, q1, a1, p1⟩)
  have g5 := (Below.refl _ w5).alloc (Nat.le_refl _) (boxO ⟨b1, q1, a1, p1⟩)
  have A5 := ((A4.th g4).th hB5).th g5
  have V5 := ((At.new w4 ⟨b1, q1, a1, p1⟩).th hB5).th g5
  have U5 := At.new w5 ⟨b1, q1, a1, p1⟩
  have hBa := below_th (below_th (below_th (below_th HB0.out hB1) hB2) hB3) hB4
  have hBb := below_th (below_th (below_th hBa g4) hB5) g5
  unfold boxO at A5 V5 U5 hBb
  dsimp only at A5 V5 U5 hBb
  clear A1 A2 A3 A4 g4 g5 hBa HE HE2 HD HD2 x0 x1 x2 x3
  obtain ⟨W6, hW6⟩ : ∃ W6, w5.alloc (.cells #[.int .i64 b1, .int .u64 q1, .int .i64 a1, .int .u64 p1] 24) = W6 := ⟨_, rfl⟩
  rw [hW6] at A5 V5 U5 hBb ⊢
  have HC : Hid (∀ w', Below W6.heap.size W6 w' → w'.cell? ⟨w.heap.size, 0, none⟩ = some (.int .i64 n) ∧ w'.cell? ⟨w.heap.size, 1, none⟩ = some (.int .u64 q) ∧ w'.cell? ⟨w.heap.size, 2, none⟩ = some (.int .i64 a) ∧ w'.cell? ⟨w.heap.size, 3, none⟩ = some (.int .u64 c) ∧ w'.cell? ⟨w4.heap.size, 0, none⟩ = some (.int .i64 b1) ∧ w'.cell? ⟨w4.heap.size, 1, none⟩ = some (.int .u64 q1) ∧ w'.cell? ⟨w4.heap.size, 2, none⟩ = some (.int .i64 a1) ∧ w'.cell? ⟨w4.heap.size, 3, none⟩ = some (.int .u64 p1) ∧ w'.cell? ⟨w5.heap.size, 0, none⟩ = some (.int .i64 b1) ∧ w'.cell? ⟨w5.heap.size, 1, none⟩ = some (.int .u64 q1) ∧ w'.cell? ⟨w5.heap.size, 2, none⟩ = some (.int .i64 a1) ∧ w'.cell? ⟨w5.heap.size, 3, none⟩ = some (.int .u64 p1)) := fun w' hB => by
    obtain ⟨r1, r2, r3, r4⟩ := (A5.th hB).c
    obtain ⟨t1, t2, t3, t4⟩ := (V5.th hB).c
    obtain ⟨u1, u2, u3, u4⟩ := (U5.th hB).c
    exact ⟨r1, r2, r3, r4, t1, t2, t3, t4, u1, u2, u3, u4⟩
  clear A5 V5 U5
  have z0 : Below W6.heap.size W6 W6.drew := (Below.refl _ _).drew
  have z9 : Below W6.heap.size W6 W6 := Below.refl _ _
  go_region_held3 (fun w' => w'.cell? ⟨w.heap.size, 0, none⟩ = some (.int .i64 n) ∧ w'.cell? ⟨w.heap.size, 1, none⟩ = some (.int .u64 q) ∧ w'.cell? ⟨w.heap.size, 2, none⟩ = some (.int .i64 a) ∧ w'.cell? ⟨w.heap.size, 3, none⟩ = some (.int .u64 c) ∧ w'.cell? ⟨w4.heap.size, 0, none⟩ = some (.int .i64 b1) ∧ w'.cell? ⟨w4.heap.size, 1, none⟩ = some (.int .u64 q1) ∧ w'.cell? ⟨w4.heap.size, 2, none⟩ = some (.int .i64 a1) ∧ w'.cell? ⟨w4.heap.size, 3, none⟩ = some (.int .u64 p1) ∧ w'.cell? ⟨w5.heap.size, 0, none⟩ = some (.int .i64 b1) ∧ w'.cell? ⟨w5.heap.size, 1, none⟩ = some (.int .u64 q1) ∧ w'.cell? ⟨w5.heap.size, 2, none⟩ = some (.int .i64 a1) ∧ w'.cell? ⟨w5.heap.size, 3, none⟩ = some (.int .u64 p1)) (exact HC.out _ (by assumption)) (first
    | (go_at_call 13; with_reducible refine Calls.mono (HR.out _) ?_; rintro e w7 ⟨rfl, hB7⟩; have z7 := below_th z0 hB7)
    | (go_at_call 14; with_reducible refine Calls.mono (HR2.out _) ?_; rintro e w8 ⟨rfl, hB8⟩; have z8 := below_th z7 hB8))
  go_wp2
  go_ret
  exact ⟨rfl, below_th hBb z8⟩
end
end Go.Proofs.Ytmknjnmbdnlkpaa.Super
