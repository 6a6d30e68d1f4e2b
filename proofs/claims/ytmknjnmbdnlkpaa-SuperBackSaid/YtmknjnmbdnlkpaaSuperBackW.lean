/- SuperBack, walked. -/
import Derived.Test.YtmknjnmbdnlkpaaSupArgs
namespace Go.Proofs.Ytmknjnmbdnlkpaa.Super
open Go.RowKit Go.Shelf
attribute [local go_sem] Oper.semAt_some
set_option linter.unusedVariables false

theorem app_extract (b : ByteArray) (i j k : Nat) (h1 : i ≤ j) (h2 : j ≤ k) : b.extract i j ++ b.extract j k = b.extract i k := by
  apply ByteArray.ext
  apply Array.toList_inj.1
  rw [app_list, Lib.extract_data, Lib.extract_data, Lib.extract_data, show k - i = (j - i) + (k - j) by omega, List.take_add, List.drop_drop, show i + (j - i) = j by omega]
/-- what stands behind the first sector is not read -/
theorem back_block {s : S} (h : RightP s) (M : ByteArray) (hM : M.size ≤ 256) (C : ByteArray) (hC : C = (encS s).extract 0 256 ++ M ++ (encS s).extract (256 + M.size) (encS s).size) :
    C.size = 512 ∧ decOk C ∧ decS C = s := by
  have hz := enc_size h
  have e1 : ((encS s).extract 0 256).size = 256 := by rw [ByteArray.size_extract]; omega
  have hs : C.size = 512 := by rw [hC, ByteArray.size_append, ByteArray.size_append, ByteArray.size_extract, ByteArray.size_extract]; omega
  refine ⟨hs, dec_of h hs ?_⟩
  rw [hC, ← app_assoc]
  have := extract_left ((encS s).extract 0 256) (M ++ (encS s).extract (256 + M.size) (encS s).size)
  rw [e1] at this
  rw [this, enc_head h]

section
set_option maxRecDepth 100000
set_option maxHeartbeats 4000000
theorem back_no (s : S) (m : ByteArray) (w : World) (h : ¬ RightP s) : Calls Try.prog 5 #[s.val, .string m] w fun e w' => e = .returned (.bool true) ∧ Below w.heap.size w w' := by
  have hE := fun W => encode_any s W
  have hR := fun W => right_any s W
  rw [encS_no h, encE_no h] at hE
  rw [rightB_no h] at hR
  have a0 := At.new w s
  have b0 := (Below.refl w.heap.size w).alloc (Nat.le_refl _) (boxO s)
  obtain ⟨n, q, a, c⟩ := s
  unfold S.val at hE hR ⊢
  unfold boxO at a0 b0
  dsimp only at hE hR a0 b0 ⊢
  have HE := Lib.hid hE
  have HR := Lib.hid hR
  clear hE hR h
  obtain ⟨W0, hW0⟩ : ∃ W0, w.alloc (.cells #[.int .i64 n, .int .u64 q, .int .i64 a, .int .u64 c] 24) = W0 := ⟨_, rfl⟩
  rw [hW0] at a0 b0
  have HB0 := Lib.hid b0
  have HA0 := Lib.hid a0
  clear a0 b0
  go_enter Try.func5, Try.ntmps5
  go_wp2_with (first
    | (go_at_call 8; refine (shown_any _).mono ?_; rintro e w1 ⟨rfl, hB1⟩; have A1 := HA0.out.th hB1; obtain ⟨x0, x1, x2, x3⟩ := A1.c; dsimp only at x0 x1 x2 x3)
    | (go_at_call 9; with_reducible refine Calls.mono (HE.out _) ?_; rintro e w2 ⟨rfl, hB2⟩; have A2 := A1.th hB2; obtain ⟨x0, x1, x2, x3⟩ := A2.c; dsimp only at x0 x1 x2 x3)
    | (go_at_call 13; with_reducible refine Calls.mono (HR.out _) ?_; rintro e w3 ⟨rfl, hB3⟩))
  go_ret
  exact ⟨rfl, below_th (below_th (below_th HB0.out hB1) hB2) hB3⟩

theorem back_yes (s : S) (m : ByteArray) (w : World) (h : RightP s) (hm : m.size ≤ 140737488351232) (K : Nat) (hK : (m.size ≤ 256 ∧ K = m.size) ∨ (256 < m.size ∧ K = 256)) : Calls Try.prog 5 #[s.val, .string m] w fun e w' => e = .returned (.bool true) ∧ Below w.heap.size w w' := by
  have hK2 : K ≤ 256 ∧ K ≤ m.size := by omega
  obtain ⟨l1, l2⟩ := hK2
  have hE := fun W => encode_any s W
  rw [encE_yes h] at hE
  have hMs : (m.extract 0 K).size = K := by rw [ByteArray.size_extract]; omega
  obtain ⟨M, hMe⟩ : ∃ M, m.extract 0 K = M := ⟨_, rfl⟩
  rw [hMe] at hMs
  obtain ⟨C, hC⟩ : ∃ C, (encS s).extract 0 256 ++ M ++ (encS s).extract (256 + K) (encS s).size = C := ⟨_, rfl⟩
  obtain ⟨c1, c2, c3⟩ := back_block h M (by omega) C (by rw [hMs]; exact hC.symm)
  have hD := fun W => decode_any C W (by omega)
  rw [decV_yes c2, decE_yes c2, c3] at hD
  have hz := enc_size h
  have hN := fun W => newest_any C (encS s) s.blocks W (by omega) (by omega)
  rw [new_one ⟨c2, by rw [c3]⟩ (.inr (by rw [c3, (dec_enc h).2]; exact Nat.le_refl _)), c3] at hN
  unfold NewPost at hN
  dsimp only at hN
  have e1 : ((encS s).extract 0 256).size = 256 := by rw [ByteArray.size_extract]; omega
  have e2 : ((encS s).extract (256 + K) (encS s).size).size = 256 - K := by rw [ByteArray.size_extract]; omega
  obtain ⟨B, hB⟩ : ∃ B, encS s = B := ⟨_, rfl⟩
  simp only [hB] at hE hN hC hz e1 e2
  clear hB c1 c2 c3 h
  have a0 := At.new w s
  have b0 := (Below.refl w.heap.size w).alloc (Nat.le_refl _) (boxO s)
  obtain ⟨n, q, a, c⟩ := s
  unfold S.val at hE hD hN ⊢
  unfold boxO at a0 b0
  dsimp only at hE hD hN a0 b0 ⊢
  have HE := Lib.hid hE
  have HD := Lib.hid hD
  have HN := Lib.hid hN
  clear hE hD hN
  obtain ⟨W0, hW0⟩ : ∃ W0, w.alloc (.cells #[.int .i64 n, .int .u64 q, .int .i64 a, .int .u64 c] 24) = W0 := ⟨_, rfl⟩
  rw [hW0] at a0 b0
  have HB0 := Lib.hid b0
  have HA0 := Lib.hid a0
  clear a0 b0
  have hzi : (B.size : Int) = 512 := by omega
  have i1 : (K : Int) ≤ (m.size : Int) := by omega
  have i2 : (256 : Int) ≤ (B.size : Int) := by omega
  have i3 : (256 : Int) + K ≤ (B.size : Int) := by omega
  have i4 : 256 ≤ B.size := by omega
  have i5 : 256 + K ≤ B.size := by omega
  have hwr : IntKind.i64.wrap ((256 : Int) + (K : Int)) = 256 + K := by rw [IntKind.wrap_i64]; omega
  rw [hz] at hC
  have hCs := Lib.hid hC
  have hmin : min (m.size : Int) 256 = (K : Int) := by omega
  have HMIN := Lib.hid hmin
  have HMe := Lib.hid hMe
  have hMi : (M.size : Int) = (K : Int) := by omega
  clear hmin hMe hK hC
  go_enter Try.func5, Try.ntmps5
  go_wp2_with (first
    | (go_at_call 8; refine (shown_any _).mono ?_; rintro e w1 ⟨rfl, hB1⟩; have A1 := HA0.out.th hB1; obtain ⟨x0, x1, x2, x3⟩ := A1.c; dsimp only at x0 x1 x2 x3)
    | (go_at_call 9; with_reducible refine Calls.mono (HE.out _) ?_; rintro e w2 ⟨rfl, hB2⟩; have A2 := A1.th hB2; obtain ⟨x0, x1, x2, x3⟩ := A2.c; dsimp only at x0 x1 x2 x3))
  simp only [HMIN.out, Int.toNat_natCast, HMe.out]
  go_region
  simp only [hCs.out]
  have g1 : ∀ (W : World), Below W.heap.size W (W.alloc (.cells #[.int .i64 n, .int .u64 q, .int .i64 a, .int .u64 c] 24)) := fun W => (Below.refl _ _).alloc (Nat.le_refl _) _
  have G1 := Lib.hid g1
  have n1 : ∀ (W : World), At (W.alloc (.cells #[.int .i64 n, .int .u64 q, .int .i64 a, .int .u64 c] 24)) W.heap.size ⟨n, q, a, c⟩ := fun W => At.new W ⟨n, q, a, c⟩
  have N1 := Lib.hid n1
  clear g1 n1
  go_wp2_with (first
    | (go_at_call 11; with_reducible refine Calls.mono (HD.out _) ?_; rintro e w3 ⟨rfl, hB3⟩; have A3 := (A2.drew.th hB3).th (G1.out _); have D3 := N1.out w3; obtain ⟨x0, x1, x2, x3⟩ := A3.c; dsimp only at x0 x1 x2 x3)
    | (go_at_call 15; with_reducible refine Calls.mono (HN.out _) ?_; rintro e w4 ⟨rfl, hB4⟩; have A4 := (A3.th hB4).th (G1.out _); have D4 := (D3.th hB4).th (G1.out _); have F4 := N1.out w4; obtain ⟨x0, x1, x2, x3⟩ := A4.c; obtain ⟨y0, y1, y2, y3⟩ := D4.c; obtain ⟨u0, u1, u2, u3⟩ := F4.c; dsimp only at x0 x1 x2 x3 y0 y1 y2 y3 u0 u1 u2 u3))
  go_ret
  have h2 := (below_th (below_th HB0.out hB1) hB2).drew
  exact ⟨rfl, below_al2 (below_th (below_al2 (below_th h2 hB3) _) hB4) _⟩

theorem SuperBack_walk (s : S) (m : ByteArray) (w : World) (k0 : SOk s) (z1 : m.size ≤ 140737488351232) : Calls Try.prog 5 #[s.val, .string m] w fun e w' => e = .returned (.bool true) ∧ Below w.heap.size w w' := by
  by_cases h : RightP s
  · exact back_yes s m w h z1 (min m.size 256) (by omega)
  · exact back_no s m w h
end
end Go.Proofs.Ytmknjnmbdnlkpaa.Super
