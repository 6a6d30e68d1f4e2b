/- RecordApart, walked. -/
import Derived.Test.YtblejaimafdhpaaRecArgs
namespace Go.Proofs.Ytblejaimafdhpaa.Record
open Go.RowKit Go.Shelf
attribute [local go_sem] Oper.semAt_some
set_option linter.unusedVariables false

theorem wrap_front {c : ByteArray} (h : c.size ≤ 508) : (unwS (wrapB c)).size = 508 ∧ (unwS (wrapB c)).extract 0 c.size = c := by
  refine ⟨unwS_size (unw_wrap h), ?_⟩
  rw [unwS_wrap h]
  exact extract_left c _
/-- what Encode answers is no block behind a record -/
theorem enc_unw (r : R) : ∃ y h, encS r = y ∧ encE r = h ∧ unwE y = 70 ∧ y.size ≤ 512 ∧ (h = 0 ∨ h = 70) := by
  by_cases h : RightP r
  · exact ⟨_, _, encS_yes h, encE_yes h, unwE_no (unw_enc r), by rw [encB_size h]; exact Nat.le_refl _, .inl rfl⟩
  · exact ⟨_, _, encS_no h, encE_no h, unwE_no unw_none, by decide, .inr rfl⟩
/-- no block is both -/
theorem dec_unw (b : ByteArray) : ∃ k l, decE b = k ∧ unwE b = l ∧ ((k = 0 ∧ l = 70) ∨ k = 70) := by
  by_cases h : decOk b
  · exact ⟨_, _, decE_yes h, unwE_no (not_both h), .inl ⟨rfl, rfl⟩⟩
  · exact ⟨_, _, decE_no h, rfl, .inr rfl⟩
section
set_option maxRecDepth 100000
set_option maxHeartbeats 8000000 in
theorem apart_no (c : ByteArray) (r : R) (v : Value) (b : ByteArray) (w : World) (hL : Ents w v r.l) (ho : AllOk r.l) (hc : ¬ c.size ≤ 508) (hcs : c.size ≤ 140737488351232) (hbs : b.size ≤ 140737488351232) : Calls Try.prog 6 #[.string c, r.val v, .string b] w fun e w' => e = .returned (.bool true) ∧ Below w.heap.size w w' := by
  have hE : ∀ W, Below w.heap.size w W → Calls Try.prog 10 #[r.val v] W fun e w' => e = .returned (.tuple #[.string (encS r), .int .i64 (encE r)]) ∧ Below W.heap.size W w' := fun W hB => encode_any r v W (hL.below hB) ho
  have hW := fun W => wrap_any c W (by omega)
  rw [wrapS_no hc, wrapE_no hc] at hW
  obtain ⟨y, hh, ey, eh, hyu, hyz, hh2⟩ := enc_unw r
  obtain ⟨k, l, ek, el, hkl⟩ := dec_unw b
  rw [ey, eh] at hE
  have hU2 := fun W => unwrap_any y W (by omega)
  rw [hyu] at hU2
  have hU3 := fun W => unwrap_any b W (by omega)
  rw [el] at hU3
  have hD2 := fun W => decode_any b W (by omega)
  unfold DecPost at hD2
  rw [ek] at hD2
  obtain ⟨d, hd⟩ : ∃ d, decV b = d := ⟨_, rfl⟩
  rw [hd] at hD2
  obtain ⟨Y2, hY2⟩ : ∃ Y2, unwS y = Y2 := ⟨_, rfl⟩
  obtain ⟨Y3, hY3⟩ : ∃ Y3, unwS b = Y3 := ⟨_, rfl⟩
  simp only [hY2] at hU2
  simp only [hY3] at hU3
  obtain ⟨ap, cp, rfl, _, _⟩ := hL.parts
  have a0 := RAt.new w r (.slice ap r.l.length cp)
  have b0 := below_new w (boxR r (.slice ap r.l.length cp))
  clear hL ho ey eh hyu hyz ek el hd hY2 hY3 hc
  obtain ⟨s, cc, en, sy, nx, L⟩ := r
  obtain ⟨s2, cc2, en2, sy2, nx2, L2⟩ := d
  unfold R.val at hE hD2 ⊢
  unfold boxR at a0 b0
  dsimp only at hE hD2 a0 b0 ⊢
  have HE := Lib.hid hE
  have HW := Lib.hid hW
  have HU2 := Lib.hid hU2
  have HU3 := Lib.hid hU3
  have HD2 := Lib.hid hD2
  have HSH := Lib.hid (fun W => shown_any W)
  unfold Ans at HSH
  clear hE hW hU2 hU3 hD2
  obtain ⟨W0, hW0⟩ : ∃ W0, w.alloc (.cells #[.int .u64 s, .int .u64 cc, .bool en, .bool sy, .int .i64 nx, .slice ap L.length cp] 25) = W0 := ⟨_, rfl⟩
  rw [hW0] at a0 b0
  have HA0 := Lib.hid (fun W (h : Below W0.heap.size W0 W) => (a0.th h).c)
  obtain ⟨x0, x1, x2, x3, x4, x5⟩ := a0.c
  have hz0 : Below W0.heap.size W0 W0 := Below.refl _ _
  clear a0
  dsimp only at HA0 x0 x1 x2 x3 x4 x5
  rcases hh2 with rfl | rfl
  all_goals
    rcases hkl with ⟨rfl, rfl⟩ | rfl
    all_goals
      go_enter Try.func6, Try.ntmps6
      go_wp2_with (first
        | (go_at_call 9; (refine (HSH.out _).mono ?_); rintro e w1 ⟨rfl, hB1⟩; have hb := below_th hz0 hB1)
        | (go_at_call 17; (with_reducible refine Calls.mono (HW.out _) ?_); rintro e w2 ⟨rfl, hB2⟩; have hb := below_th hb hB2; obtain ⟨z0, z1, z2, z3, z4, z5⟩ := HA0.out _ hb)
        | (go_at_call 10; (with_reducible refine Calls.mono (HE.out _ (below_th b0 hb)) ?_); rintro e w5 ⟨rfl, hB5⟩; have hb := below_th hb hB5)
        | (go_at_call 19; (with_reducible refine Calls.mono (HU2.out _) ?_); rintro e w6 ⟨rfl, hB6⟩; have hb := below_th hb hB6)
        | (go_at_call 12; (with_reducible refine Calls.mono (HD2.out _) ?_); rintro e w7 ⟨v7, rfl, hL7, hB7⟩; obtain ⟨a7, c7, rfl, _, _⟩ := hL7.parts; have hb := below_al (below_th hb hB7) (boxR ⟨s2, cc2, en2, sy2, nx2, L2⟩ (.slice a7 L2.length c7)); unfold boxR at hb; dsimp only at hb)
        | (go_at_call 19; (with_reducible refine Calls.mono (HU3.out _) ?_); rintro e w8 ⟨rfl, hB8⟩; have hb := below_th hb hB8))
      go_ret
      exact ⟨rfl, below_th b0 hb⟩

set_option maxHeartbeats 8000000 in
theorem apart_yes (c : ByteArray) (r : R) (v : Value) (b : ByteArray) (w : World) (hL : Ents w v r.l) (ho : AllOk r.l) (hc : c.size ≤ 508) (hcs : c.size ≤ 140737488351232) (hbs : b.size ≤ 140737488351232) : Calls Try.prog 6 #[.string c, r.val v, .string b] w fun e w' => e = .returned (.bool true) ∧ Below w.heap.size w w' := by
  have hE : ∀ W, Below w.heap.size w W → Calls Try.prog 10 #[r.val v] W fun e w' => e = .returned (.tuple #[.string (encS r), .int .i64 (encE r)]) ∧ Below W.heap.size W w' := fun W hB => encode_any r v W (hL.below hB) ho
  have hW := fun W => wrap_any c W (by omega)
  rw [wrapS_yes hc, wrapE_yes hc] at hW
  have hwz := wrapB_size hc
  have hU1 := fun W => unwrap_any (wrapB c) W (by omega)
  rw [unwE_yes (unw_wrap hc)] at hU1
  have hno : ¬ decOk (wrapB c) := fun h => not_both h (unw_wrap hc)
  have hD1 : ∀ W, Calls Try.prog 12 #[.string (wrapB c)] W fun e w' => ∃ v, e = .returned (.tuple #[.agg #[.int .u64 0, .int .u64 0, .bool false, .bool false, .int .i64 0, v], .int .i64 70]) ∧ Ents w' v R.none.l ∧ Below W.heap.size W w' := fun W => by
    have := decode_any (wrapB c) W (by omega)
    unfold DecPost at this
    rw [decV_no hno, decE_no hno] at this
    exact this
  obtain ⟨f1, f2⟩ := wrap_front hc
  obtain ⟨X, hX⟩ : ∃ X, wrapB c = X := ⟨_, rfl⟩
  simp only [hX] at hW hU1 hD1 f1 f2
  obtain ⟨S, hS⟩ : ∃ S, unwS X = S := ⟨_, rfl⟩
  simp only [hS] at hU1 f1 f2
  have hcmp := beq_yes f2
  have r1 : (c.size : Int) ≤ (S.size : Int) := by omega
  have r3 : c.size ≤ S.size := by omega
  have r5 : ((S.size : Int) != 508) = false := by simp; omega
  have HU1 := Lib.hid hU1
  have HD1 := Lib.hid hD1
  clear hX hS hwz hno hU1 hD1 f1 f2
  obtain ⟨y, hh, ey, eh, hyu, hyz, hh2⟩ := enc_unw r
  obtain ⟨k, l, ek, el, hkl⟩ := dec_unw b
  rw [ey, eh] at hE
  have hU2 := fun W => unwrap_any y W (by omega)
  rw [hyu] at hU2
  have hU3 := fun W => unwrap_any b W (by omega)
  rw [el] at hU3
  have hD2 := fun W => decode_any b W (by omega)
  unfold DecPost at hD2
  rw [ek] at hD2
  obtain ⟨d, hd⟩ : ∃ d, decV b = d := ⟨_, rfl⟩
  rw [hd] at hD2
  obtain ⟨Y2, hY2⟩ : ∃ Y2, unwS y = Y2 := ⟨_, rfl⟩
  obtain ⟨Y3, hY3⟩ : ∃ Y3, unwS b = Y3 := ⟨_, rfl⟩
  simp only [hY2] at hU2
  simp only [hY3] at hU3
  obtain ⟨ap, cp, rfl, _, _⟩ := hL.parts
  have a0 := RAt.new w r (.slice ap r.l.length cp)
  have b0 := below_new w (boxR r (.slice ap r.l.length cp))
  clear hL ho ey eh hyu hyz ek el hd hY2 hY3 hc
  obtain ⟨s, cc, en, sy, nx, L⟩ := r
  obtain ⟨s2, cc2, en2, sy2, nx2, L2⟩ := d
  unfold R.val at hE hD2 ⊢
  unfold boxR at a0 b0
  dsimp only at hE hD2 a0 b0 ⊢
  have HE := Lib.hid hE
  have HW := Lib.hid hW
  have HU2 := Lib.hid hU2
  have HU3 := Lib.hid hU3
  have HD2 := Lib.hid hD2
  have HSH := Lib.hid (fun W => shown_any W)
  unfold Ans at HSH
  clear hE hW hU2 hU3 hD2
  obtain ⟨W0, hW0⟩ : ∃ W0, w.alloc (.cells #[.int .u64 s, .int .u64 cc, .bool en, .bool sy, .int .i64 nx, .slice ap L.length cp] 25) = W0 := ⟨_, rfl⟩
  rw [hW0] at a0 b0
  have HA0 := Lib.hid (fun W (h : Below W0.heap.size W0 W) => (a0.th h).c)
  obtain ⟨x0, x1, x2, x3, x4, x5⟩ := a0.c
  have hz0 : Below W0.heap.size W0 W0 := Below.refl _ _
  clear a0
  dsimp only at HA0 x0 x1 x2 x3 x4 x5
  rcases hh2 with rfl | rfl
  all_goals
    rcases hkl with ⟨rfl, rfl⟩ | rfl
    all_goals
      go_enter Try.func6, Try.ntmps6
      go_wp2_with (first
        | (go_at_call 9; (refine (HSH.out _).mono ?_); rintro e w1 ⟨rfl, hB1⟩; have hb := below_th hz0 hB1)
        | (go_at_call 17; (with_reducible refine Calls.mono (HW.out _) ?_); rintro e w2 ⟨rfl, hB2⟩; have hb := below_th hb hB2)
        | (go_at_call 19; (with_reducible refine Calls.mono (HU1.out _) ?_); rintro e w3 ⟨rfl, hB3⟩; have hb := below_th hb hB3)
        | (go_at_call 12; (with_reducible refine Calls.mono (HD1.out _) ?_); rintro e w4 ⟨v4, rfl, hL4, hB4⟩; obtain ⟨a4, c4, rfl, _, _⟩ := ents_zero hL4; have hb := below_al (below_th hb hB4) (.cells #[.int .u64 0, .int .u64 0, .bool false, .bool false, .int .i64 0, .slice a4 0 c4] 25); obtain ⟨z0, z1, z2, z3, z4, z5⟩ := HA0.out _ hb)
        | (go_at_call 10; (with_reducible refine Calls.mono (HE.out _ (below_th b0 hb)) ?_); rintro e w5 ⟨rfl, hB5⟩; have hb := below_th hb hB5)
        | (go_at_call 19; (with_reducible refine Calls.mono (HU2.out _) ?_); rintro e w6 ⟨rfl, hB6⟩; have hb := below_th hb hB6)
        | (go_at_call 12; (with_reducible refine Calls.mono (HD2.out _) ?_); rintro e w7 ⟨v7, rfl, hL7, hB7⟩; obtain ⟨a7, c7, rfl, _, _⟩ := hL7.parts; have hb := below_al (below_th hb hB7) (boxR ⟨s2, cc2, en2, sy2, nx2, L2⟩ (.slice a7 L2.length c7)); unfold boxR at hb; dsimp only at hb)
        | (go_at_call 19; (with_reducible refine Calls.mono (HU3.out _) ?_); rintro e w8 ⟨rfl, hB8⟩; have hb := below_th hb hB8))
      go_ret
      exact ⟨rfl, below_th b0 hb⟩

theorem RecordApart_walk (c : ByteArray) (r : R) (v : Value) (b : ByteArray) (w : World) (z0 : c.size ≤ 140737488351232) (hL : Ents w v r.l) (k0 : ROk r) (z2 : b.size ≤ 140737488351232) : Calls Try.prog 6 #[.string c, r.val v, .string b] w fun e w' => e = .returned (.bool true) ∧ Below w.heap.size w w' := by
  by_cases h : c.size ≤ 508
  · exact apart_yes c r v b w hL k0.l h z0 z2
  · exact apart_no c r v b w hL k0.l h z0 z2
end
end Go.Proofs.Ytblejaimafdhpaa.Record
