/- RecordUnlike, walked. -/
import Derived.Test.YtblejaimafdhpaaRecArgs
namespace Go.Proofs.Ytblejaimafdhpaa.Record
open Go.RowKit Go.Shelf
attribute [local go_sem] Oper.semAt_some
set_option linter.unusedVariables false

/-- two records: one is none, or their bytes are alike just where they are -/
theorem two_enc (a b : R) (oa : AllOk a.l) (ob : AllOk b.l) : ∃ x e y f m, encS a = x ∧ encE a = e ∧ encS b = y ∧ encE b = f ∧ decide (a = b) = m ∧ (e = 70 ∨ (e = 0 ∧ f = 70) ∨ (e = 0 ∧ f = 0 ∧ (x.toList == y.toList) = m)) := by
  by_cases ha : RightP a
  · by_cases hb : RightP b
    · by_cases he : a = b
      · subst he
        exact ⟨_, _, _, _, _, rfl, encE_yes ha, rfl, encE_yes ha, decide_eq_true rfl, .inr (.inr ⟨rfl, rfl, by simp⟩)⟩
      · exact ⟨_, _, _, _, _, encS_yes ha, encE_yes ha, encS_yes hb, encE_yes hb, decide_eq_false he, .inr (.inr ⟨rfl, rfl, beq_no fun h => he (enc_inj ha hb oa ob h)⟩)⟩
    · exact ⟨_, _, _, _, _, rfl, encE_yes ha, rfl, encE_no hb, rfl, .inr (.inl ⟨rfl, rfl⟩)⟩
  · exact ⟨_, _, _, _, _, rfl, encE_no ha, rfl, rfl, rfl, .inl rfl⟩
/-- two contents likewise -/
theorem two_wrap (s t : ByteArray) : ∃ x e y f, wrapS s = x ∧ wrapE s = e ∧ wrapS t = y ∧ wrapE t = f ∧ (e = 70 ∨ (e = 0 ∧ f = 70) ∨ (e = 0 ∧ f = 0 ∧ ((s.size : Int) != (t.size : Int)) = true) ∨ (e = 0 ∧ f = 0 ∧ ((s.size : Int) != (t.size : Int)) = false ∧ ∃ m, (x.toList == y.toList) = m ∧ (s.toList == t.toList) = m)) := by
  by_cases hs : s.size ≤ 508
  · by_cases ht : t.size ≤ 508
    · refine ⟨_, _, _, _, wrapS_yes hs, wrapE_yes hs, wrapS_yes ht, wrapE_yes ht, .inr (.inr ?_)⟩
      by_cases hz : s.size = t.size
      · refine .inr ⟨rfl, rfl, by simp [hz], ?_⟩
        by_cases he : s = t
        · subst he
          exact ⟨true, by simp, by simp⟩
        · exact ⟨false, beq_no fun h => he (wrap_inj hz h), beq_no he⟩
      · exact .inl ⟨rfl, rfl, by simp; omega⟩
    · exact ⟨_, _, _, _, rfl, wrapE_yes hs, rfl, wrapE_no ht, .inr (.inl ⟨rfl, rfl⟩)⟩
  · exact ⟨_, _, _, _, rfl, wrapE_no hs, rfl, rfl, .inl rfl⟩
section
set_option maxRecDepth 100000
set_option maxHeartbeats 16000000 in
theorem RecordUnlike_walk (a : R) (va : Value) (b : R) (vb : Value) (s : ByteArray) (t : ByteArray) (w : World) (hLa : Ents w va a.l) (ka : ROk a) (hLb : Ents w vb b.l) (kb : ROk b) (z2 : s.size ≤ 140737488351232) (z3 : t.size ≤ 140737488351232) : Calls Try.prog 7 #[a.val va, b.val vb, .string s, .string t] w fun e w' => e = .returned (.bool true) ∧ Below w.heap.size w w' := by
  have hEa : ∀ W, Below w.heap.size w W → Calls Try.prog 10 #[a.val va] W fun e w' => e = .returned (.tuple #[.string (encS a), .int .i64 (encE a)]) ∧ Below W.heap.size W w' := fun W hB => encode_any a va W (hLa.below hB) ka.l
  have hEb : ∀ W, Below w.heap.size w W → Calls Try.prog 10 #[b.val vb] W fun e w' => e = .returned (.tuple #[.string (encS b), .int .i64 (encE b)]) ∧ Below W.heap.size W w' := fun W hB => encode_any b vb W (hLb.below hB) kb.l
  have hSm : ∀ W, Below w.heap.size w W → Calls Try.prog 16 #[a.val va, b.val vb] W fun e w' => e = .returned (.bool (decide (a = b))) ∧ Below W.heap.size W w' := fun W hB => same_any a b va vb W (hLa.below hB) (hLb.below hB)
  have hW1 := fun W => wrap_any s W (by omega)
  have hW2 := fun W => wrap_any t W (by omega)
  obtain ⟨x, e1, y, f1, m, ex, ee, ey, ef, em, hEE⟩ := two_enc a b ka.l kb.l
  obtain ⟨p, g1, q, h1, ep, eg, eq, eh, hWW⟩ := two_wrap s t
  rw [ex, ee] at hEa
  rw [ey, ef] at hEb
  rw [em] at hSm
  rw [ep, eg] at hW1
  rw [eq, eh] at hW2
  obtain ⟨aa, ca, rfl, _, _⟩ := hLa.parts
  obtain ⟨ab, cb, rfl, _, _⟩ := hLb.parts
  obtain ⟨hA1, hA2⟩ := boxes w a b (.slice aa a.l.length ca) (.slice ab b.l.length cb)
  have b0 := below_al (below_new w (boxR a (.slice aa a.l.length ca))) (boxR b (.slice ab b.l.length cb))
  clear hLa hLb ka kb ex ee ey ef em ep eg eq eh
  obtain ⟨sa, ac, aen, asy, anx, A⟩ := a
  obtain ⟨bs, bc, ben, bsy, bnx, B⟩ := b
  unfold R.val at hEa hEb hSm ⊢
  unfold boxR at hA1 hA2 b0
  dsimp only at hEa hEb hSm hA1 hA2 b0 ⊢
  obtain ⟨W0, hW0⟩ : ∃ W0, (w.alloc (.cells #[.int .u64 sa, .int .u64 ac, .bool aen, .bool asy, .int .i64 anx, .slice aa A.length ca] 25)).alloc (.cells #[.int .u64 bs, .int .u64 bc, .bool ben, .bool bsy, .int .i64 bnx, .slice ab B.length cb] 25) = W0 := ⟨_, rfl⟩
  rw [hW0] at hA1 hA2 b0
  have HA := Lib.hid (fun W (h : Below W0.heap.size W0 W) => And.intro (hA1.th h).c (hA2.th h).c)
  have hz0 : Below W0.heap.size W0 W0 := Below.refl _ _
  dsimp only at HA
  have HEa := Lib.hid hEa
  have HEb := Lib.hid hEb
  have HSm := Lib.hid hSm
  have HW1 := Lib.hid hW1
  have HW2 := Lib.hid hW2
  have HSH := Lib.hid (fun W => shown_any W)
  unfold Ans at HSH
  clear hA1 hA2 hEa hEb hSm hW1 hW2
  have hEE2 : e1 = 70 ∨ (e1 = 0 ∧ f1 = 70) ∨ (e1 = 0 ∧ f1 = 0 ∧ m = true ∧ (x.toList == y.toList) = true) ∨ (e1 = 0 ∧ f1 = 0 ∧ m = false ∧ (x.toList == y.toList) = false) := by
    rcases hEE with h | h | ⟨h1, h2, h3⟩
    · exact .inl h
    · exact .inr (.inl h)
    · cases m with
      | true => exact .inr (.inr (.inl ⟨h1, h2, rfl, h3⟩))
      | false => exact .inr (.inr (.inr ⟨h1, h2, rfl, h3⟩))
  have hWW2 : g1 = 70 ∨ (g1 = 0 ∧ h1 = 70) ∨ (g1 = 0 ∧ h1 = 0 ∧ ((s.size : Int) != (t.size : Int)) = true) ∨ (g1 = 0 ∧ h1 = 0 ∧ ((s.size : Int) != (t.size : Int)) = false ∧ (p.toList == q.toList) = true ∧ (s.toList == t.toList) = true) ∨ (g1 = 0 ∧ h1 = 0 ∧ ((s.size : Int) != (t.size : Int)) = false ∧ (p.toList == q.toList) = false ∧ (s.toList == t.toList) = false) := by
    rcases hWW with h | h | h | ⟨h1, h2, h3, m2, h4, h5⟩
    · exact .inl h
    · exact .inr (.inl h)
    · exact .inr (.inr (.inl h))
    · cases m2 with
      | true => exact .inr (.inr (.inr (.inl ⟨h1, h2, h3, h4, h5⟩)))
      | false => exact .inr (.inr (.inr (.inr ⟨h1, h2, h3, h4, h5⟩)))
  clear hEE hWW
  rcases hEE2 with rfl | ⟨rfl, rfl⟩ | ⟨rfl, rfl, rfl, hxy⟩ | ⟨rfl, rfl, rfl, hxy⟩
  all_goals
    rcases hWW2 with rfl | ⟨rfl, rfl⟩ | ⟨rfl, rfl, hne⟩ | ⟨rfl, rfl, hne, hpq, hst⟩ | ⟨rfl, rfl, hne, hpq, hst⟩
    all_goals
      obtain ⟨⟨x0, x1, x2, x3, x4, x5⟩, y0, y1, y2, y3, y4, y5⟩ := HA.out _ hz0
      go_enter Try.func7, Try.ntmps7
      go_wp2_with (first
        | (go_at_call 9; (refine (HSH.out _).mono ?_); rintro e w1 ⟨rfl, hB1⟩; have hb := below_th hz0 hB1; obtain ⟨⟨x0, x1, x2, x3, x4, x5⟩, y0, y1, y2, y3, y4, y5⟩ := HA.out _ hb)
        | (go_at_call 10; (with_reducible refine Calls.mono (HEa.out _ (below_th b0 hb)) ?_); rintro e w2 ⟨rfl, hB2⟩; have hb := below_th hb hB2; obtain ⟨⟨x0, x1, x2, x3, x4, x5⟩, y0, y1, y2, y3, y4, y5⟩ := HA.out _ hb)
        | (go_at_call 10; (with_reducible refine Calls.mono (HEb.out _ (below_th b0 hb)) ?_); rintro e w3 ⟨rfl, hB3⟩; have hb := below_th hb hB3)
        | (go_at_call 17; (with_reducible refine Calls.mono (HW1.out _) ?_); rintro e w4 ⟨rfl, hB4⟩; have hb := below_th hb hB4)
        | (go_at_call 17; (with_reducible refine Calls.mono (HW2.out _) ?_); rintro e w5 ⟨rfl, hB5⟩; have hb := below_th hb hB5; obtain ⟨⟨x0, x1, x2, x3, x4, x5⟩, y0, y1, y2, y3, y4, y5⟩ := HA.out _ hb)
        | (go_at_call 16; (with_reducible refine Calls.mono (HSm.out _ (below_th b0 hb)) ?_); rintro e w6 ⟨rfl, hB6⟩; have hb := below_th hb hB6))
      go_ret
      exact ⟨rfl, below_th b0 hb⟩
end
end Go.Proofs.Ytblejaimafdhpaa.Record
