/- RecordBack, walked. -/
import Derived.Test.YtblejaimafdhpaaRecArgs
namespace Go.Proofs.Ytblejaimafdhpaa.Record
open Go.RowKit Go.Shelf
attribute [local go_sem] Oper.semAt_some
set_option linter.unusedVariables false

/-- what stands behind the first sector is not read -/
theorem back_block {r : R} (h : RightP r) (ho : AllOk r.l) (M : ByteArray) (hM : M.size ≤ 256) (C : ByteArray) (hC : C = (encB r).extract 0 256 ++ M ++ (encB r).extract (256 + M.size) (encB r).size) :
    C.size = 512 ∧ decOk C ∧ decR C = r := by
  have hz := encB_size h
  have e1 : ((encB r).extract 0 256).size = 256 := by rw [ByteArray.size_extract]; omega
  have hs : C.size = 512 := by rw [hC, ByteArray.size_append, ByteArray.size_append, ByteArray.size_extract, ByteArray.size_extract]; omega
  refine ⟨hs, dec_of h ho hs ?_⟩
  rw [hC, ← app_assoc]
  have := extract_left ((encB r).extract 0 256) (M ++ (encB r).extract (256 + M.size) (encB r).size)
  rw [e1] at this
  rw [this]

section
set_option maxRecDepth 100000
set_option maxHeartbeats 4000000
theorem back_no (r : R) (v : Value) (m : ByteArray) (w : World) (hL : Ents w v r.l) (ho : AllOk r.l) (h : ¬ RightP r) : Calls Try.prog 5 #[r.val v, .string m] w fun e w' => e = .returned (.bool true) ∧ Below w.heap.size w w' := by
  have hE : ∀ W, Below w.heap.size w W → Calls Try.prog 10 #[r.val v] W fun e w' => e = .returned (.tuple #[.string (encS r), .int .i64 (encE r)]) ∧ Below W.heap.size W w' := fun W hB => encode_any r v W (hL.below hB) ho
  have hR : ∀ W, Below w.heap.size w W → Calls Try.prog 14 #[r.val v] W fun e w' => e = .returned (.bool (rightB r)) ∧ Below W.heap.size W w' := fun W hB => right_any r v W (hL.below hB)
  rw [encS_no h, encE_no h] at hE
  rw [rightB_no h] at hR
  obtain ⟨ap, cp, rfl, _, _⟩ := hL.parts
  have a0 := RAt.new w r (.slice ap r.l.length cp)
  have b0 := below_new w (boxR r (.slice ap r.l.length cp))
  clear hL
  obtain ⟨s, c, en, sy, nx, L⟩ := r
  unfold R.val at hE hR ⊢
  unfold boxR at a0 b0
  dsimp only at hE hR a0 b0 ⊢
  have HE := Lib.hid hE
  have HR := Lib.hid hR
  have HSH := Lib.hid (fun W => shown_any W)
  unfold Ans at HSH
  clear hE hR h
  obtain ⟨W0, hW0⟩ : ∃ W0, w.alloc (.cells #[.int .u64 s, .int .u64 c, .bool en, .bool sy, .int .i64 nx, .slice ap L.length cp] 25) = W0 := ⟨_, rfl⟩
  rw [hW0] at a0 b0
  have HA0 := Lib.hid a0
  clear a0
  go_enter Try.func5, Try.ntmps5
  go_wp2_with (first
    | (go_at_call 9; (refine (HSH.out _).mono ?_); rintro e w1 ⟨rfl, hB1⟩; have b1 := below_th b0 hB1; have A1 := HA0.out.th hB1; obtain ⟨x0, x1, x2, x3, x4, x5⟩ := A1.c; dsimp only at x0 x1 x2 x3 x4 x5)
    | (go_at_call 10; (with_reducible refine Calls.mono (HE.out _ b1) ?_); rintro e w2 ⟨rfl, hB2⟩; have b2 := below_th b1 hB2; have A2 := A1.th hB2; obtain ⟨x0, x1, x2, x3, x4, x5⟩ := A2.c; dsimp only at x0 x1 x2 x3 x4 x5)
    | (go_at_call 14; (with_reducible refine Calls.mono (HR.out _ b2) ?_); rintro e w3 ⟨rfl, hB3⟩; have b3 := below_th b2 hB3))
  go_ret
  exact ⟨rfl, b3⟩

theorem back_yes (r : R) (v : Value) (m : ByteArray) (w : World) (hL : Ents w v r.l) (ho : AllOk r.l) (h : RightP r) (hm : m.size ≤ 140737488351232) (K : Nat) (hK : (m.size ≤ 256 ∧ K = m.size) ∨ (256 < m.size ∧ K = 256)) : Calls Try.prog 5 #[r.val v, .string m] w fun e w' => e = .returned (.bool true) ∧ Below w.heap.size w w' := by
  have hK2 : K ≤ 256 ∧ K ≤ m.size := by omega
  obtain ⟨l1, l2⟩ := hK2
  have hE : ∀ W, Below w.heap.size w W → Calls Try.prog 10 #[r.val v] W fun e w' => e = .returned (.tuple #[.string (encS r), .int .i64 (encE r)]) ∧ Below W.heap.size W w' := fun W hB => encode_any r v W (hL.below hB) ho
  rw [encE_yes h, encS_yes h] at hE
  have hMs : (m.extract 0 K).size = K := by rw [ByteArray.size_extract]; omega
  obtain ⟨M, hMe⟩ : ∃ M, m.extract 0 K = M := ⟨_, rfl⟩
  rw [hMe] at hMs
  obtain ⟨C, hC⟩ : ∃ C, (encB r).extract 0 256 ++ M ++ (encB r).extract (256 + K) (encB r).size = C := ⟨_, rfl⟩
  obtain ⟨c1, c2, c3⟩ := back_block h ho M (by omega) C (by rw [hMs]; exact hC.symm)
  have hD := fun W => decode_any C W (by omega)
  unfold DecPost at hD
  rw [decV_yes c2, decE_yes c2, c3] at hD
  have hz := encB_size h
  have e1 : ((encB r).extract 0 256).size = 256 := by rw [ByteArray.size_extract]; omega
  have e2 : ((encB r).extract (256 + K) (encB r).size).size = 256 - K := by rw [ByteArray.size_extract]; omega
  obtain ⟨B, hB⟩ : ∃ B, encB r = B := ⟨_, rfl⟩
  simp only [hB] at hE hC hz e1 e2
  clear hB c1 c2 c3 h
  have hS : ∀ W u1, Ents W u1 r.l → Below w.heap.size w W → Calls Try.prog 16 #[r.val u1, r.val v] W fun e w' => e = .returned (.bool true) ∧ Below W.heap.size W w' := fun W u1 h1 h2 => by
    have := same_any r r u1 v W h1 (hL.below h2)
    rw [decide_eq_true rfl] at this
    exact this
  obtain ⟨ap, cp, rfl, _, _⟩ := hL.parts
  have a0 := RAt.new w r (.slice ap r.l.length cp)
  have b0 := below_new w (boxR r (.slice ap r.l.length cp))
  clear hL ho
  obtain ⟨s, c, en, sy, nx, L⟩ := r
  unfold R.val at hE hD hS ⊢
  unfold boxR at a0 b0
  dsimp only at hE hD hS a0 b0 ⊢
  have HE := Lib.hid hE
  have HD := Lib.hid hD
  have HS := Lib.hid hS
  have HSH := Lib.hid (fun W => shown_any W)
  unfold Ans at HSH
  clear hE hD hS
  obtain ⟨W0, hW0⟩ : ∃ W0, w.alloc (.cells #[.int .u64 s, .int .u64 c, .bool en, .bool sy, .int .i64 nx, .slice ap L.length cp] 25) = W0 := ⟨_, rfl⟩
  rw [hW0] at a0 b0
  have HA0 := Lib.hid a0
  clear a0
  have hzi : (B.size : Int) = 512 := by omega
  have i1 : (K : Int) ≤ (m.size : Int) := by omega
  have i2 : (256 : Int) ≤ (B.size : Int) := by omega
  have i3 : (256 : Int) + K ≤ (B.size : Int) := by omega
  have i4 : 256 ≤ B.size := by omega
  have i5 : 256 + K ≤ B.size := by omega
  have hwr : IntKind.i64.wrap ((256 : Int) + (K : Int)) = 256 + K := by rw [IntKind.wrap_i64]; omega
  rw [hz] at hC
  have hCs := Lib.hid hC
  have hmin : min (m.size : Int) 256 = (K : Int) := by omega
  have HMIN := Lib.hid hmin
  have HMe := Lib.hid hMe
  have hMi : (M.size : Int) = (K : Int) := by omega
  clear hmin hMe hK hC
  go_enter Try.func5, Try.ntmps5
  go_wp2_with (first
    | (go_at_call 9; (refine (HSH.out _).mono ?_); rintro e w1 ⟨rfl, hB1⟩; have b1 := below_th b0 hB1; have A1 := HA0.out.th hB1; obtain ⟨x0, x1, x2, x3, x4, x5⟩ := A1.c; dsimp only at x0 x1 x2 x3 x4 x5)
    | (go_at_call 10; (with_reducible refine Calls.mono (HE.out _ b1) ?_); rintro e w2 ⟨rfl, hB2⟩; have b2 := below_th b1 hB2; have A2 := A1.th hB2; obtain ⟨x0, x1, x2, x3, x4, x5⟩ := A2.c; dsimp only at x0 x1 x2 x3 x4 x5))
  simp only [HMIN.out, Int.toNat_natCast, HMe.out]
  go_region
  simp only [hCs.out]
  have b2d := b2.drew
  have A2d := A2.drew
  go_wp2_with (first
    | (go_at_call 12; (with_reducible refine Calls.mono (HD.out _) ?_); rintro e w3 ⟨v3, rfl, hL3, hB3⟩; obtain ⟨a3, c3, rfl, _, _⟩ := hL3.parts; have b3 := below_al (below_th b2d hB3) (boxR ⟨s, c, en, sy, nx, L⟩ (.slice a3 L.length c3)); have A3 := (A2d.th hB3).th (below_new w3 (boxR ⟨s, c, en, sy, nx, L⟩ (.slice a3 L.length c3))); have D3 := RAt.new w3 ⟨s, c, en, sy, nx, L⟩ (.slice a3 L.length c3); have L3 := hL3.below (below_new w3 (boxR ⟨s, c, en, sy, nx, L⟩ (.slice a3 L.length c3))); obtain ⟨x0, x1, x2, x3, x4, x5⟩ := A3.c; obtain ⟨y0, y1, y2, y3, y4, y5⟩ := D3.c; unfold boxR at b3 A3 D3 L3 x0 x1 x2 x3 x4 x5 y0 y1 y2 y3 y4 y5; dsimp only at b3 A3 D3 L3 x0 x1 x2 x3 x4 x5 y0 y1 y2 y3 y4 y5)
    | (go_at_call 16; (with_reducible refine Calls.mono (HS.out _ _ L3 b3) ?_); rintro e w4 ⟨rfl, hB4⟩; have b4 := below_th b3 hB4))
  go_ret
  exact ⟨rfl, b4⟩

theorem RecordBack_walk (r : R) (v : Value) (m : ByteArray) (w : World) (hL : Ents w v r.l) (k0 : ROk r) (z1 : m.size ≤ 140737488351232) : Calls Try.prog 5 #[r.val v, .string m] w fun e w' => e = .returned (.bool true) ∧ Below w.heap.size w w' := by
  by_cases h : RightP r
  · exact back_yes r v m w hL k0.l h z1 (min m.size 256) (by omega)
  · exact back_no r v m w hL k0.l h
end
end Go.Proofs.Ytblejaimafdhpaa.Record
