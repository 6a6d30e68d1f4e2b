/- SuperApart, walked. -/
import Derived.Test.YtmknjnmbdnlkpaaSupArgs
namespace Go.Proofs.Ytmknjnmbdnlkpaa.Super
open Go.RowKit Go.Shelf
attribute [local go_sem] Oper.semAt_some
set_option linter.unusedVariables false

section
set_option maxRecDepth 100000
set_option maxHeartbeats 4000000
theorem apart_no (a b : S) (w : World) (h : ¬ RightP a ∨ (RightP a ∧ ¬ RightP b)) : Calls Try.prog 6 #[a.val, b.val] w fun e w' => e = .returned (.bool true) ∧ Below w.heap.size w w' := by
  have hE := fun W => encode_any a W
  have hF := fun W => encode_any b W
  obtain ⟨X, hX⟩ : ∃ X, encS a = X := ⟨_, rfl⟩
  obtain ⟨Y, hY⟩ : ∃ Y, encS b = Y := ⟨_, rfl⟩
  have a0 := (At.new w a).th ((Below.refl _ _).alloc (Nat.le_refl _) (boxO b))
  have c0 := At.new (w.alloc (boxO a)) b
  rw [World.size_alloc] at c0
  have b0 := below_al2 (below_al2 (Below.refl w.heap.size w) (boxO a)) (boxO b)
  have hw : (encE a = 50) ∨ (encE a = 0 ∧ encE b = 50) := by
    rcases h with h | ⟨h, k⟩
    · exact .inl (encE_no h)
    · exact .inr ⟨encE_yes h, encE_no k⟩
  obtain ⟨E, hEe⟩ : ∃ E, encE a = E := ⟨_, rfl⟩
  obtain ⟨F, hFe⟩ : ∃ F, encE b = F := ⟨_, rfl⟩
  simp only [hX, hEe] at hE
  simp only [hY, hFe] at hF
  rw [hEe, hFe] at hw
  clear hX hY hEe hFe h
  obtain ⟨n1, q1, a1, p1⟩ := a
  obtain ⟨n2, q2, a2, p2⟩ := b
  unfold S.val at hE hF ⊢
  dsimp only at hE hF
  have HE := Lib.hid hE
  have HF := Lib.hid hF
  clear hE hF
  unfold boxO at a0 c0 b0
  dsimp only at a0 c0 b0 ⊢
  obtain ⟨W0, hW0⟩ : ∃ W0, (w.alloc (.cells #[.int .i64 n1, .int .u64 q1, .int .i64 a1, .int .u64 p1] 24)).alloc (.cells #[.int .i64 n2, .int .u64 q2, .int .i64 a2, .int .u64 p2] 24) = W0 := ⟨_, rfl⟩
  rw [hW0] at a0 c0 b0
  have HB0 := Lib.hid b0
  have HA0 := Lib.hid a0
  have HC0 := Lib.hid c0
  clear a0 b0 c0
  rcases hw with rfl | ⟨rfl, rfl⟩
  all_goals
    go_enter Try.func6, Try.ntmps6
    go_wp2_with (first
      | (go_at_call 8; refine (shown_any _).mono ?_; rintro e w1 ⟨rfl, hB1⟩; have A1 := HA0.out.th hB1; have C1 := HC0.out.th hB1; obtain ⟨x0, x1, x2, x3⟩ := A1.c; obtain ⟨y0, y1, y2, y3⟩ := C1.c; dsimp only at x0 x1 x2 x3 y0 y1 y2 y3)
      | (go_at_call 9; with_reducible refine Calls.mono (HE.out _) ?_; rintro e w2 ⟨rfl, hB2⟩; have A2 := A1.th hB2; have C2 := C1.th hB2; obtain ⟨x0, x1, x2, x3⟩ := A2.c; obtain ⟨y0, y1, y2, y3⟩ := C2.c; dsimp only at x0 x1 x2 x3 y0 y1 y2 y3)
      | (go_at_call 9; with_reducible refine Calls.mono (HF.out _) ?_; rintro e w3 ⟨rfl, hB3⟩; have A3 := A2.th hB3; have C3 := C2.th hB3; obtain ⟨x0, x1, x2, x3⟩ := A3.c; obtain ⟨y0, y1, y2, y3⟩ := C3.c; dsimp only at x0 x1 x2 x3 y0 y1 y2 y3))
    go_ret
    exact ⟨rfl, below_th (below_th (below_th HB0.out hB1) hB2) hB3⟩

theorem apart_newer (a b : S) (w : World) (ha : RightP a) (hb : RightP b) (hs : b.blocks = a.blocks ∧ a.seq < b.seq) : Calls Try.prog 6 #[a.val, b.val] w fun e w' => e = .returned (.bool true) ∧ Below w.heap.size w w' := by
  have hE := fun W => encode_any a W
  have hF := fun W => encode_any b W
  have hN := fun W => newest_any (encS a) (encS a) a.blocks W (by rw [enc_size ha]; omega) (by rw [enc_size ha]; omega)
  have hM := fun W => newest_any (encS a) (encS b) a.blocks W (by rw [enc_size ha]; omega) (by rw [enc_size hb]; omega)
  have da := dec_enc ha
  have db := dec_enc hb
  rw [new_one ⟨da.1, by rw [da.2]⟩ (.inr (Nat.le_refl _)), da.2] at hN
  rw [new_two (.inr (by rw [da.2, db.2]; exact hs.2)) ⟨db.1, by rw [db.2]; exact hs.1⟩, db.2] at hM
  have hxy : ((encS a).toList == (encS b).toList) = false := beq_no (fun h => by have := enc_inj ha hb h; subst this; omega)
  have a0 := (At.new w a).th ((Below.refl _ _).alloc (Nat.le_refl _) (boxO b))
  have c0 := At.new (w.alloc (boxO a)) b
  rw [World.size_alloc] at c0
  have b0 := below_al2 (below_al2 (Below.refl w.heap.size w) (boxO a)) (boxO b)
  obtain ⟨X, hX⟩ : ∃ X, encS a = X := ⟨_, rfl⟩
  obtain ⟨Y, hY⟩ : ∃ Y, encS b = Y := ⟨_, rfl⟩
  rw [encE_yes ha] at hE
  rw [encE_yes hb] at hF
  simp only [hX, hY] at hE hF hN hM hxy
  clear da db ha hb hX hY
  unfold NewPost at hN hM
  obtain ⟨n1, q1, a1, p1⟩ := a
  obtain ⟨n2, q2, a2, p2⟩ := b
  unfold S.val at hE hF hN hM ⊢
  dsimp only at hE hF hN hM hs
  have HE := Lib.hid hE
  have HF := Lib.hid hF
  have HN := Lib.hid hN
  have HM := Lib.hid hM
  clear hE hF hN hM
  unfold boxO at a0 c0 b0
  dsimp only at a0 c0 b0 ⊢
  obtain ⟨W0, hW0⟩ : ∃ W0, (w.alloc (.cells #[.int .i64 n1, .int .u64 q1, .int .i64 a1, .int .u64 p1] 24)).alloc (.cells #[.int .i64 n2, .int .u64 q2, .int .i64 a2, .int .u64 p2] 24) = W0 := ⟨_, rfl⟩
  rw [hW0] at a0 c0 b0
  have HB0 := Lib.hid b0
  have HA0 := Lib.hid a0
  have HC0 := Lib.hid c0
  clear a0 b0 c0
  have g1 : ∀ (W : World), Below W.heap.size W (W.alloc (boxO ⟨n1, q1, a1, p1⟩)) := fun W => (Below.refl _ _).alloc (Nat.le_refl _) _
  have g2 : ∀ (W : World), Below W.heap.size W (W.alloc (boxO ⟨n2, q2, a2, p2⟩)) := fun W => (Below.refl _ _).alloc (Nat.le_refl _) _
  unfold boxO at g1 g2
  dsimp only at g1 g2
  have G2 := Lib.hid g2
  have G1 := Lib.hid g1
  have n1' : ∀ (W : World), At (W.alloc (.cells #[.int .i64 n1, .int .u64 q1, .int .i64 a1, .int .u64 p1] 24)) W.heap.size ⟨n1, q1, a1, p1⟩ := fun W => At.new W ⟨n1, q1, a1, p1⟩
  have N1 := Lib.hid n1'
  have n2' : ∀ (W : World), At (W.alloc (boxO ⟨n2, q2, a2, p2⟩)) W.heap.size ⟨n2, q2, a2, p2⟩ := fun W => At.new W ⟨n2, q2, a2, p2⟩
  unfold boxO at n2'
  dsimp only at n2'
  have N2 := Lib.hid n2'
  clear g1 g2 n1' n2'
  obtain ⟨rfl, hs2⟩ := hs
  have hs3 : (q2 : Int) > (q1 : Int) := by omega
  have hs4 : ((q1 : Int) == (q2 : Int)) = false := by simp; omega

  go_enter Try.func6, Try.ntmps6
  go_wp2_with (first
    | (go_at_call 8; refine (shown_any _).mono ?_; rintro e w1 ⟨rfl, hB1⟩; have A1 := HA0.out.th hB1; have C1 := HC0.out.th hB1; obtain ⟨x0, x1, x2, x3⟩ := A1.c; obtain ⟨y0, y1, y2, y3⟩ := C1.c; dsimp only at x0 x1 x2 x3 y0 y1 y2 y3)
    | (go_at_call 9; with_reducible refine Calls.mono (HE.out _) ?_; rintro e w2 ⟨rfl, hB2⟩; have A2 := A1.th hB2; have C2 := C1.th hB2; obtain ⟨x0, x1, x2, x3⟩ := A2.c; obtain ⟨y0, y1, y2, y3⟩ := C2.c; dsimp only at x0 x1 x2 x3 y0 y1 y2 y3)
    | (go_at_call 9; with_reducible refine Calls.mono (HF.out _) ?_; rintro e w3 ⟨rfl, hB3⟩; have A3 := A2.th hB3; have C3 := C2.th hB3; obtain ⟨x0, x1, x2, x3⟩ := A3.c; obtain ⟨y0, y1, y2, y3⟩ := C3.c; dsimp only at x0 x1 x2 x3 y0 y1 y2 y3)
    | (go_at_call 15; with_reducible refine Calls.mono (HN.out _) ?_; rintro e w4 ⟨rfl, hB4⟩; have A4 := (A3.th hB4).th (G1.out _); have C4 := (C3.th hB4).th (G1.out _); have D4 := N1.out w4; obtain ⟨x0, x1, x2, x3⟩ := A4.c; obtain ⟨y0, y1, y2, y3⟩ := C4.c; obtain ⟨u0, u1, u2, u3⟩ := D4.c; dsimp only at x0 x1 x2 x3 y0 y1 y2 y3 u0 u1 u2 u3)
    | (go_at_call 15; with_reducible refine Calls.mono (HM.out _) ?_; rintro e w5 ⟨rfl, hB5⟩; have A5 := (A4.th hB5).th (G2.out _); have C5 := (C4.th hB5).th (G2.out _); have D5 := (D4.th hB5).th (G2.out _); have F5 := N2.out w5; obtain ⟨x0, x1, x2, x3⟩ := A5.c; obtain ⟨y0, y1, y2, y3⟩ := C5.c; obtain ⟨u0, u1, u2, u3⟩ := D5.c; obtain ⟨v0, v1, v2, v3⟩ := F5.c; dsimp only at x0 x1 x2 x3 y0 y1 y2 y3 u0 u1 u2 u3 v0 v1 v2 v3))
  go_ret
  have h5 := below_th (below_al2 (below_th (below_th (below_th (below_th HB0.out hB1) hB2) hB3) hB4) _) hB5
  exact ⟨rfl, below_al2 h5 _⟩

theorem apart_same (a b : S) (w : World) (ha : RightP a) (hb : RightP b) (he : a = b) : Calls Try.prog 6 #[a.val, b.val] w fun e w' => e = .returned (.bool true) ∧ Below w.heap.size w w' := by
  have hE := fun W => encode_any a W
  have hF := fun W => encode_any b W
  have hN := fun W => newest_any (encS a) (encS a) a.blocks W (by rw [enc_size ha]; omega) (by rw [enc_size ha]; omega)
  have hM := fun W => newest_any (encS a) (encS b) a.blocks W (by rw [enc_size ha]; omega) (by rw [enc_size hb]; omega)
  have da := dec_enc ha
  have db := dec_enc hb
  rw [new_one ⟨da.1, by rw [da.2]⟩ (.inr (Nat.le_refl _)), da.2] at hN
  rw [new_one ⟨da.1, by rw [da.2]⟩ (.inr (by rw [da.2, db.2]; rw [he]; exact Nat.le_refl _)), da.2] at hM
  have hxy : ((encS a).toList == (encS b).toList) = true := beq_yes (by rw [he])
  have a0 := (At.new w a).th ((Below.refl _ _).alloc (Nat.le_refl _) (boxO b))
  have c0 := At.new (w.alloc (boxO a)) b
  rw [World.size_alloc] at c0
  have b0 := below_al2 (below_al2 (Below.refl w.heap.size w) (boxO a)) (boxO b)
  obtain ⟨X, hX⟩ : ∃ X, encS a = X := ⟨_, rfl⟩
  obtain ⟨Y, hY⟩ : ∃ Y, encS b = Y := ⟨_, rfl⟩
  rw [encE_yes ha] at hE
  rw [encE_yes hb] at hF
  simp only [hX, hY] at hE hF hN hM hxy
  clear da db ha hb hX hY
  unfold NewPost at hN hM
  obtain ⟨n1, q1, a1, p1⟩ := a
  obtain ⟨n2, q2, a2, p2⟩ := b
  unfold S.val at hE hF hN hM ⊢
  dsimp only at hE hF hN hM he
  have HE := Lib.hid hE
  have HF := Lib.hid hF
  have HN := Lib.hid hN
  have HM := Lib.hid hM
  clear hE hF hN hM
  unfold boxO at a0 c0 b0
  dsimp only at a0 c0 b0 ⊢
  obtain ⟨W0, hW0⟩ : ∃ W0, (w.alloc (.cells #[.int .i64 n1, .int .u64 q1, .int .i64 a1, .int .u64 p1] 24)).alloc (.cells #[.int .i64 n2, .int .u64 q2, .int .i64 a2, .int .u64 p2] 24) = W0 := ⟨_, rfl⟩
  rw [hW0] at a0 c0 b0
  have HB0 := Lib.hid b0
  have HA0 := Lib.hid a0
  have HC0 := Lib.hid c0
  clear a0 b0 c0
  have g1 : ∀ (W : World), Below W.heap.size W (W.alloc (boxO ⟨n1, q1, a1, p1⟩)) := fun W => (Below.refl _ _).alloc (Nat.le_refl _) _
  have g2 : ∀ (W : World), Below W.heap.size W (W.alloc (boxO ⟨n1, q1, a1, p1⟩)) := fun W => (Below.refl _ _).alloc (Nat.le_refl _) _
  unfold boxO at g1 g2
  dsimp only at g1 g2
  have G2 := Lib.hid g2
  have G1 := Lib.hid g1
  have n1' : ∀ (W : World), At (W.alloc (.cells #[.int .i64 n1, .int .u64 q1, .int .i64 a1, .int .u64 p1] 24)) W.heap.size ⟨n1, q1, a1, p1⟩ := fun W => At.new W ⟨n1, q1, a1, p1⟩
  have N1 := Lib.hid n1'
  have n2' : ∀ (W : World), At (W.alloc (boxO ⟨n1, q1, a1, p1⟩)) W.heap.size ⟨n1, q1, a1, p1⟩ := fun W => At.new W ⟨n1, q1, a1, p1⟩
  unfold boxO at n2'
  dsimp only at n2'
  have N2 := Lib.hid n2'
  clear g1 g2 n1' n2'
  obtain ⟨rfl, rfl, rfl, rfl⟩ := S.mk.inj he
  have hs3 : ¬ (q1 : Int) > (q1 : Int) := by omega

  go_enter Try.func6, Try.ntmps6
  go_wp2_with (first
    | (go_at_call 8; refine (shown_any _).mono ?_; rintro e w1 ⟨rfl, hB1⟩; have A1 := HA0.out.th hB1; have C1 := HC0.out.th hB1; obtain ⟨x0, x1, x2, x3⟩ := A1.c; obtain ⟨y0, y1, y2, y3⟩ := C1.c; dsimp only at x0 x1 x2 x3 y0 y1 y2 y3)
    | (go_at_call 9; with_reducible refine Calls.mono (HE.out _) ?_; rintro e w2 ⟨rfl, hB2⟩; have A2 := A1.th hB2; have C2 := C1.th hB2; obtain ⟨x0, x1, x2, x3⟩ := A2.c; obtain ⟨y0, y1, y2, y3⟩ := C2.c; dsimp only at x0 x1 x2 x3 y0 y1 y2 y3)
    | (go_at_call 9; with_reducible refine Calls.mono (HF.out _) ?_; rintro e w3 ⟨rfl, hB3⟩; have A3 := A2.th hB3; have C3 := C2.th hB3; obtain ⟨x0, x1, x2, x3⟩ := A3.c; obtain ⟨y0, y1, y2, y3⟩ := C3.c; dsimp only at x0 x1 x2 x3 y0 y1 y2 y3)
    | (go_at_call 15; with_reducible refine Calls.mono (HN.out _) ?_; rintro e w4 ⟨rfl, hB4⟩; have A4 := (A3.th hB4).th (G1.out _); have C4 := (C3.th hB4).th (G1.out _); have D4 := N1.out w4; obtain ⟨x0, x1, x2, x3⟩ := A4.c; obtain ⟨y0, y1, y2, y3⟩ := C4.c; obtain ⟨u0, u1, u2, u3⟩ := D4.c; dsimp only at x0 x1 x2 x3 y0 y1 y2 y3 u0 u1 u2 u3)
    | (go_at_call 15; with_reducible refine Calls.mono (HM.out _) ?_; rintro e w5 ⟨rfl, hB5⟩; have A5 := (A4.th hB5).th (G2.out _); have C5 := (C4.th hB5).th (G2.out _); have D5 := (D4.th hB5).th (G2.out _); have F5 := N2.out w5; obtain ⟨x0, x1, x2, x3⟩ := A5.c; obtain ⟨y0, y1, y2, y3⟩ := C5.c; obtain ⟨u0, u1, u2, u3⟩ := D5.c; obtain ⟨v0, v1, v2, v3⟩ := F5.c; dsimp only at x0 x1 x2 x3 y0 y1 y2 y3 u0 u1 u2 u3 v0 v1 v2 v3))
  go_ret
  have h5 := below_th (below_al2 (below_th (below_th (below_th (below_th HB0.out hB1) hB2) hB3) hB4) _) hB5
  exact ⟨rfl, below_al2 h5 _⟩

theorem apart_other (a b : S) (w : World) (ha : RightP a) (hb : RightP b) (hs : ¬ b.blocks = a.blocks) : Calls Try.prog 6 #[a.val, b.val] w fun e w' => e = .returned (.bool true) ∧ Below w.heap.size w w' := by
  have hE := fun W => encode_any a W
  have hF := fun W => encode_any b W
  have hN := fun W => newest_any (encS a) (encS a) a.blocks W (by rw [enc_size ha]; omega) (by rw [enc_size ha]; omega)
  have hM := fun W => newest_any (encS a) (encS b) a.blocks W (by rw [enc_size ha]; omega) (by rw [enc_size hb]; omega)
  have da := dec_enc ha
  have db := dec_enc hb
  rw [new_one ⟨da.1, by rw [da.2]⟩ (.inr (Nat.le_refl _)), da.2] at hN
  rw [new_one ⟨da.1, by rw [da.2]⟩ (.inl (fun h => hs (by rw [← h.2, db.2]))), da.2] at hM
  have hxy : ((encS a).toList == (encS b).toList) = false := beq_no (fun h => by have := enc_inj ha hb h; subst this; exact hs rfl)
  have a0 := (At.new w a).th ((Below.refl _ _).alloc (Nat.le_refl _) (boxO b))
  have c0 := At.new (w.alloc (boxO a)) b
  rw [World.size_alloc] at c0
  have b0 := below_al2 (below_al2 (Below.refl w.heap.size w) (boxO a)) (boxO b)
  obtain ⟨X, hX⟩ : ∃ X, encS a = X := ⟨_, rfl⟩
  obtain ⟨Y, hY⟩ : ∃ Y, encS b = Y := ⟨_, rfl⟩
  rw [encE_yes ha] at hE
  rw [encE_yes hb] at hF
  simp only [hX, hY] at hE hF hN hM hxy
  clear da db ha hb hX hY
  unfold NewPost at hN hM
  obtain ⟨n1, q1, a1, p1⟩ := a
  obtain ⟨n2, q2, a2, p2⟩ := b
  unfold S.val at hE hF hN hM ⊢
  dsimp only at hE hF hN hM hs
  have HE := Lib.hid hE
  have HF := Lib.hid hF
  have HN := Lib.hid hN
  have HM := Lib.hid hM
  clear hE hF hN hM
  unfold boxO at a0 c0 b0
  dsimp only at a0 c0 b0 ⊢
  obtain ⟨W0, hW0⟩ : ∃ W0, (w.alloc (.cells #[.int .i64 n1, .int .u64 q1, .int .i64 a1, .int .u64 p1] 24)).alloc (.cells #[.int .i64 n2, .int .u64 q2, .int .i64 a2, .int .u64 p2] 24) = W0 := ⟨_, rfl⟩
  rw [hW0] at a0 c0 b0
  have HB0 := Lib.hid b0
  have HA0 := Lib.hid a0
  have HC0 := Lib.hid c0
  clear a0 b0 c0
  have g1 : ∀ (W : World), Below W.heap.size W (W.alloc (boxO ⟨n1, q1, a1, p1⟩)) := fun W => (Below.refl _ _).alloc (Nat.le_refl _) _
  have g2 : ∀ (W : World), Below W.heap.size W (W.alloc (boxO ⟨n1, q1, a1, p1⟩)) := fun W => (Below.refl _ _).alloc (Nat.le_refl _) _
  unfold boxO at g1 g2
  dsimp only at g1 g2
  have G2 := Lib.hid g2
  have G1 := Lib.hid g1
  have n1' : ∀ (W : World), At (W.alloc (.cells #[.int .i64 n1, .int .u64 q1, .int .i64 a1, .int .u64 p1] 24)) W.heap.size ⟨n1, q1, a1, p1⟩ := fun W => At.new W ⟨n1, q1, a1, p1⟩
  have N1 := Lib.hid n1'
  have n2' : ∀ (W : World), At (W.alloc (boxO ⟨n1, q1, a1, p1⟩)) W.heap.size ⟨n1, q1, a1, p1⟩ := fun W => At.new W ⟨n1, q1, a1, p1⟩
  unfold boxO at n2'
  dsimp only at n2'
  have N2 := Lib.hid n2'
  clear g1 g2 n1' n2'
  have hs3 : (n2 == n1) = false := by simp [hs]
  have hs4 : (n1 == n2) = false := by simp; exact fun h => hs h.symm

  go_enter Try.func6, Try.ntmps6
  go_wp2_with (first
    | (go_at_call 8; refine (shown_any _).mono ?_; rintro e w1 ⟨rfl, hB1⟩; have A1 := HA0.out.th hB1; have C1 := HC0.out.th hB1; obtain ⟨x0, x1, x2, x3⟩ := A1.c; obtain ⟨y0, y1, y2, y3⟩ := C1.c; dsimp only at x0 x1 x2 x3 y0 y1 y2 y3)
    | (go_at_call 9; with_reducible refine Calls.mono (HE.out _) ?_; rintro e w2 ⟨rfl, hB2⟩; have A2 := A1.th hB2; have C2 := C1.th hB2; obtain ⟨x0, x1, x2, x3⟩ := A2.c; obtain ⟨y0, y1, y2, y3⟩ := C2.c; dsimp only at x0 x1 x2 x3 y0 y1 y2 y3)
    | (go_at_call 9; with_reducible refine Calls.mono (HF.out _) ?_; rintro e w3 ⟨rfl, hB3⟩; have A3 := A2.th hB3; have C3 := C2.th hB3; obtain ⟨x0, x1, x2, x3⟩ := A3.c; obtain ⟨y0, y1, y2, y3⟩ := C3.c; dsimp only at x0 x1 x2 x3 y0 y1 y2 y3)
    | (go_at_call 15; with_reducible refine Calls.mono (HN.out _) ?_; rintro e w4 ⟨rfl, hB4⟩; have A4 := (A3.th hB4).th (G1.out _); have C4 := (C3.th hB4).th (G1.out _); have D4 := N1.out w4; obtain ⟨x0, x1, x2, x3⟩ := A4.c; obtain ⟨y0, y1, y2, y3⟩ := C4.c; obtain ⟨u0, u1, u2, u3⟩ := D4.c; dsimp only at x0 x1 x2 x3 y0 y1 y2 y3 u0 u1 u2 u3)
    | (go_at_call 15; with_reducible refine Calls.mono (HM.out _) ?_; rintro e w5 ⟨rfl, hB5⟩; have A5 := (A4.th hB5).th (G2.out _); have C5 := (C4.th hB5).th (G2.out _); have D5 := (D4.th hB5).th (G2.out _); have F5 := N2.out w5; obtain ⟨x0, x1, x2, x3⟩ := A5.c; obtain ⟨y0, y1, y2, y3⟩ := C5.c; obtain ⟨u0, u1, u2, u3⟩ := D5.c; obtain ⟨v0, v1, v2, v3⟩ := F5.c; dsimp only at x0 x1 x2 x3 y0 y1 y2 y3 u0 u1 u2 u3 v0 v1 v2 v3))
  go_ret
  have h5 := below_th (below_al2 (below_th (below_th (below_th (below_th HB0.out hB1) hB2) hB3) hB4) _) hB5
  exact ⟨rfl, below_al2 h5 _⟩

theorem apart_olderq (a b : S) (w : World) (ha : RightP a) (hb : RightP b) (hs : b.blocks = a.blocks ∧ b.seq < a.seq) : Calls Try.prog 6 #[a.val, b.val] w fun e w' => e = .returned (.bool true) ∧ Below w.heap.size w w' := by
  have hE := fun W => encode_any a W
  have hF := fun W => encode_any b W
  have hN := fun W => newest_any (encS a) (encS a) a.blocks W (by rw [enc_size ha]; omega) (by rw [enc_size ha]; omega)
  have hM := fun W => newest_any (encS a) (encS b) a.blocks W (by rw [enc_size ha]; omega) (by rw [enc_size hb]; omega)
  have da := dec_enc ha
  have db := dec_enc hb
  rw [new_one ⟨da.1, by rw [da.2]⟩ (.inr (Nat.le_refl _)), da.2] at hN
  rw [new_one ⟨da.1, by rw [da.2]⟩ (.inr (by rw [da.2, db.2]; omega)), da.2] at hM
  have hxy : ((encS a).toList == (encS b).toList) = false := beq_no (fun h => by have := enc_inj ha hb h; subst this; omega)
  have a0 := (At.new w a).th ((Below.refl _ _).alloc (Nat.le_refl _) (boxO b))
  have c0 := At.new (w.alloc (boxO a)) b
  rw [World.size_alloc] at c0
  have b0 := below_al2 (below_al2 (Below.refl w.heap.size w) (boxO a)) (boxO b)
  obtain ⟨X, hX⟩ : ∃ X, encS a = X := ⟨_, rfl⟩
  obtain ⟨Y, hY⟩ : ∃ Y, encS b = Y := ⟨_, rfl⟩
  rw [encE_yes ha] at hE
  rw [encE_yes hb] at hF
  simp only [hX, hY] at hE hF hN hM hxy
  clear da db ha hb hX hY
  unfold NewPost at hN hM
  obtain ⟨n1, q1, a1, p1⟩ := a
  obtain ⟨n2, q2, a2, p2⟩ := b
  unfold S.val at hE hF hN hM ⊢
  dsimp only at hE hF hN hM hs
  have HE := Lib.hid hE
  have HF := Lib.hid hF
  have HN := Lib.hid hN
  have HM := Lib.hid hM
  clear hE hF hN hM
  unfold boxO at a0 c0 b0
  dsimp only at a0 c0 b0 ⊢
  obtain ⟨W0, hW0⟩ : ∃ W0, (w.alloc (.cells #[.int .i64 n1, .int .u64 q1, .int .i64 a1, .int .u64 p1] 24)).alloc (.cells #[.int .i64 n2, .int .u64 q2, .int .i64 a2, .int .u64 p2] 24) = W0 := ⟨_, rfl⟩
  rw [hW0] at a0 c0 b0
  have HB0 := Lib.hid b0
  have HA0 := Lib.hid a0
  have HC0 := Lib.hid c0
  clear a0 b0 c0
  have g1 : ∀ (W : World), Below W.heap.size W (W.alloc (boxO ⟨n1, q1, a1, p1⟩)) := fun W => (Below.refl _ _).alloc (Nat.le_refl _) _
  have g2 : ∀ (W : World), Below W.heap.size W (W.alloc (boxO ⟨n1, q1, a1, p1⟩)) := fun W => (Below.refl _ _).alloc (Nat.le_refl _) _
  unfold boxO at g1 g2
  dsimp only at g1 g2
  have G2 := Lib.hid g2
  have G1 := Lib.hid g1
  have n1' : ∀ (W : World), At (W.alloc (.cells #[.int .i64 n1, .int .u64 q1, .int .i64 a1, .int .u64 p1] 24)) W.heap.size ⟨n1, q1, a1, p1⟩ := fun W => At.new W ⟨n1, q1, a1, p1⟩
  have N1 := Lib.hid n1'
  have n2' : ∀ (W : World), At (W.alloc (boxO ⟨n1, q1, a1, p1⟩)) W.heap.size ⟨n1, q1, a1, p1⟩ := fun W => At.new W ⟨n1, q1, a1, p1⟩
  unfold boxO at n2'
  dsimp only at n2'
  have N2 := Lib.hid n2'
  clear g1 g2 n1' n2'
  obtain ⟨rfl, hs2⟩ := hs
  have hs3 : ¬ (q2 : Int) > (q1 : Int) := by omega
  have hs4 : ((q1 : Int) == (q2 : Int)) = false := by simp; omega

  go_enter Try.func6, Try.ntmps6
  go_wp2_with (first
    | (go_at_call 8; refine (shown_any _).mono ?_; rintro e w1 ⟨rfl, hB1⟩; have A1 := HA0.out.th hB1; have C1 := HC0.out.th hB1; obtain ⟨x0, x1, x2, x3⟩ := A1.c; obtain ⟨y0, y1, y2, y3⟩ := C1.c; dsimp only at x0 x1 x2 x3 y0 y1 y2 y3)
    | (go_at_call 9; with_reducible refine Calls.mono (HE.out _) ?_; rintro e w2 ⟨rfl, hB2⟩; have A2 := A1.th hB2; have C2 := C1.th hB2; obtain ⟨x0, x1, x2, x3⟩ := A2.c; obtain ⟨y0, y1, y2, y3⟩ := C2.c; dsimp only at x0 x1 x2 x3 y0 y1 y2 y3)
    | (go_at_call 9; with_reducible refine Calls.mono (HF.out _) ?_; rintro e w3 ⟨rfl, hB3⟩; have A3 := A2.th hB3; have C3 := C2.th hB3; obtain ⟨x0, x1, x2, x3⟩ := A3.c; obtain ⟨y0, y1, y2, y3⟩ := C3.c; dsimp only at x0 x1 x2 x3 y0 y1 y2 y3)
    | (go_at_call 15; with_reducible refine Calls.mono (HN.out _) ?_; rintro e w4 ⟨rfl, hB4⟩; have A4 := (A3.th hB4).th (G1.out _); have C4 := (C3.th hB4).th (G1.out _); have D4 := N1.out w4; obtain ⟨x0, x1, x2, x3⟩ := A4.c; obtain ⟨y0, y1, y2, y3⟩ := C4.c; obtain ⟨u0, u1, u2, u3⟩ := D4.c; dsimp only at x0 x1 x2 x3 y0 y1 y2 y3 u0 u1 u2 u3)
    | (go_at_call 15; with_reducible refine Calls.mono (HM.out _) ?_; rintro e w5 ⟨rfl, hB5⟩; have A5 := (A4.th hB5).th (G2.out _); have C5 := (C4.th hB5).th (G2.out _); have D5 := (D4.th hB5).th (G2.out _); have F5 := N2.out w5; obtain ⟨x0, x1, x2, x3⟩ := A5.c; obtain ⟨y0, y1, y2, y3⟩ := C5.c; obtain ⟨u0, u1, u2, u3⟩ := D5.c; obtain ⟨v0, v1, v2, v3⟩ := F5.c; dsimp only at x0 x1 x2 x3 y0 y1 y2 y3 u0 u1 u2 u3 v0 v1 v2 v3))
  go_ret
  have h5 := below_th (below_al2 (below_th (below_th (below_th (below_th HB0.out hB1) hB2) hB3) hB4) _) hB5
  exact ⟨rfl, below_al2 h5 _⟩

theorem apart_oldera (a b : S) (w : World) (ha : RightP a) (hb : RightP b) (hs : b.blocks = a.blocks ∧ b.seq = a.seq ∧ ¬ a.at_ = b.at_) : Calls Try.prog 6 #[a.val, b.val] w fun e w' => e = .returned (.bool true) ∧ Below w.heap.size w w' := by
  have hE := fun W => encode_any a W
  have hF := fun W => encode_any b W
  have hN := fun W => newest_any (encS a) (encS a) a.blocks W (by rw [enc_size ha]; omega) (by rw [enc_size ha]; omega)
  have hM := fun W => newest_any (encS a) (encS b) a.blocks W (by rw [enc_size ha]; omega) (by rw [enc_size hb]; omega)
  have da := dec_enc ha
  have db := dec_enc hb
  rw [new_one ⟨da.1, by rw [da.2]⟩ (.inr (Nat.le_refl _)), da.2] at hN
  rw [new_one ⟨da.1, by rw [da.2]⟩ (.inr (by rw [da.2, db.2]; omega)), da.2] at hM
  have hxy : ((encS a).toList == (encS b).toList) = false := beq_no (fun h => by have := enc_inj ha hb h; subst this; exact hs.2.2 rfl)
  have a0 := (At.new w a).th ((Below.refl _ _).alloc (Nat.le_refl _) (boxO b))
  have c0 := At.new (w.alloc (boxO a)) b
  rw [World.size_alloc] at c0
  have b0 := below_al2 (below_al2 (Below.refl w.heap.size w) (boxO a)) (boxO b)
  obtain ⟨X, hX⟩ : ∃ X, encS a = X := ⟨_, rfl⟩
  obtain ⟨Y, hY⟩ : ∃ Y, encS b = Y := ⟨_, rfl⟩
  rw [encE_yes ha] at hE
  rw [encE_yes hb] at hF
  simp only [hX, hY] at hE hF hN hM hxy
  clear da db ha hb hX hY
  unfold NewPost at hN hM
  obtain ⟨n1, q1, a1, p1⟩ := a
  obtain ⟨n2, q2, a2, p2⟩ := b
  unfold S.val at hE hF hN hM ⊢
  dsimp only at hE hF hN hM hs
  have HE := Lib.hid hE
  have HF := Lib.hid hF
  have HN := Lib.hid hN
  have HM := Lib.hid hM
  clear hE hF hN hM
  unfold boxO at a0 c0 b0
  dsimp only at a0 c0 b0 ⊢
  obtain ⟨W0, hW0⟩ : ∃ W0, (w.alloc (.cells #[.int .i64 n1, .int .u64 q1, .int .i64 a1, .int .u64 p1] 24)).alloc (.cells #[.int .i64 n2, .int .u64 q2, .int .i64 a2, .int .u64 p2] 24) = W0 := ⟨_, rfl⟩
  rw [hW0] at a0 c0 b0
  have HB0 := Lib.hid b0
  have HA0 := Lib.hid a0
  have HC0 := Lib.hid c0
  clear a0 b0 c0
  have g1 : ∀ (W : World), Below W.heap.size W (W.alloc (boxO ⟨n1, q1, a1, p1⟩)) := fun W => (Below.refl _ _).alloc (Nat.le_refl _) _
  have g2 : ∀ (W : World), Below W.heap.size W (W.alloc (boxO ⟨n1, q1, a1, p1⟩)) := fun W => (Below.refl _ _).alloc (Nat.le_refl _) _
  unfold boxO at g1 g2
  dsimp only at g1 g2
  have G2 := Lib.hid g2
  have G1 := Lib.hid g1
  have n1' : ∀ (W : World), At (W.alloc (.cells #[.int .i64 n1, .int .u64 q1, .int .i64 a1, .int .u64 p1] 24)) W.heap.size ⟨n1, q1, a1, p1⟩ := fun W => At.new W ⟨n1, q1, a1, p1⟩
  have N1 := Lib.hid n1'
  have n2' : ∀ (W : World), At (W.alloc (boxO ⟨n1, q1, a1, p1⟩)) W.heap.size ⟨n1, q1, a1, p1⟩ := fun W => At.new W ⟨n1, q1, a1, p1⟩
  unfold boxO at n2'
  dsimp only at n2'
  have N2 := Lib.hid n2'
  clear g1 g2 n1' n2'
  obtain ⟨rfl, rfl, hs2⟩ := hs
  have hs3 : ¬ (q2 : Int) > (q2 : Int) := by omega
  have hs4 : (a1 == a2) = false := by simp [hs2]

  go_enter Try.func6, Try.ntmps6
  go_wp2_with (first
    | (go_at_call 8; refine (shown_any _).mono ?_; rintro e w1 ⟨rfl, hB1⟩; have A1 := HA0.out.th hB1; have C1 := HC0.out.th hB1; obtain ⟨x0, x1, x2, x3⟩ := A1.c; obtain ⟨y0, y1, y2, y3⟩ := C1.c; dsimp only at x0 x1 x2 x3 y0 y1 y2 y3)
    | (go_at_call 9; with_reducible refine Calls.mono (HE.out _) ?_; rintro e w2 ⟨rfl, hB2⟩; have A2 := A1.th hB2; have C2 := C1.th hB2; obtain ⟨x0, x1, x2, x3⟩ := A2.c; obtain ⟨y0, y1, y2, y3⟩ := C2.c; dsimp only at x0 x1 x2 x3 y0 y1 y2 y3)
    | (go_at_call 9; with_reducible refine Calls.mono (HF.out _) ?_; rintro e w3 ⟨rfl, hB3⟩; have A3 := A2.th hB3; have C3 := C2.th hB3; obtain ⟨x0, x1, x2, x3⟩ := A3.c; obtain ⟨y0, y1, y2, y3⟩ := C3.c; dsimp only at x0 x1 x2 x3 y0 y1 y2 y3)
    | (go_at_call 15; with_reducible refine Calls.mono (HN.out _) ?_; rintro e w4 ⟨rfl, hB4⟩; have A4 := (A3.th hB4).th (G1.out _); have C4 := (C3.th hB4).th (G1.out _); have D4 := N1.out w4; obtain ⟨x0, x1, x2, x3⟩ := A4.c; obtain ⟨y0, y1, y2, y3⟩ := C4.c; obtain ⟨u0, u1, u2, u3⟩ := D4.c; dsimp only at x0 x1 x2 x3 y0 y1 y2 y3 u0 u1 u2 u3)
    | (go_at_call 15; with_reducible refine Calls.mono (HM.out _) ?_; rintro e w5 ⟨rfl, hB5⟩; have A5 := (A4.th hB5).th (G2.out _); have C5 := (C4.th hB5).th (G2.out _); have D5 := (D4.th hB5).th (G2.out _); have F5 := N2.out w5; obtain ⟨x0, x1, x2, x3⟩ := A5.c; obtain ⟨y0, y1, y2, y3⟩ := C5.c; obtain ⟨u0, u1, u2, u3⟩ := D5.c; obtain ⟨v0, v1, v2, v3⟩ := F5.c; dsimp only at x0 x1 x2 x3 y0 y1 y2 y3 u0 u1 u2 u3 v0 v1 v2 v3))
  go_ret
  have h5 := below_th (below_al2 (below_th (below_th (below_th (below_th HB0.out hB1) hB2) hB3) hB4) _) hB5
  exact ⟨rfl, below_al2 h5 _⟩

theorem apart_olderp (a b : S) (w : World) (ha : RightP a) (hb : RightP b) (hs : b.blocks = a.blocks ∧ b.seq = a.seq ∧ ¬ a.cp = b.cp) : Calls Try.prog 6 #[a.val, b.val] w fun e w' => e = .returned (.bool true) ∧ Below w.heap.size w w' := by
  have hE := fun W => encode_any a W
  have hF := fun W => encode_any b W
  have hN := fun W => newest_any (encS a) (encS a) a.blocks W (by rw [enc_size ha]; omega) (by rw [enc_size ha]; omega)
  have hM := fun W => newest_any (encS a) (encS b) a.blocks W (by rw [enc_size ha]; omega) (by rw [enc_size hb]; omega)
  have da := dec_enc ha
  have db := dec_enc hb
  rw [new_one ⟨da.1, by rw [da.2]⟩ (.inr (Nat.le_refl _)), da.2] at hN
  rw [new_one ⟨da.1, by rw [da.2]⟩ (.inr (by rw [da.2, db.2]; omega)), da.2] at hM
  have hxy : ((encS a).toList == (encS b).toList) = false := beq_no (fun h => by have := enc_inj ha hb h; subst this; exact hs.2.2 rfl)
  have a0 := (At.new w a).th ((Below.refl _ _).alloc (Nat.le_refl _) (boxO b))
  have c0 := At.new (w.alloc (boxO a)) b
  rw [World.size_alloc] at c0
  have b0 := below_al2 (below_al2 (Below.refl w.heap.size w) (boxO a)) (boxO b)
  obtain ⟨X, hX⟩ : ∃ X, encS a = X := ⟨_, rfl⟩
  obtain ⟨Y, hY⟩ : ∃ Y, encS b = Y := ⟨_, rfl⟩
  rw [encE_yes ha] at hE
  rw [encE_yes hb] at hF
  simp only [hX, hY] at hE hF hN hM hxy
  clear da db ha hb hX hY
  unfold NewPost at hN hM
  obtain ⟨n1, q1, a1, p1⟩ := a
  obtain ⟨n2, q2, a2, p2⟩ := b
  unfold S.val at hE hF hN hM ⊢
  dsimp only at hE hF hN hM hs
  have HE := Lib.hid hE
  have HF := Lib.hid hF
  have HN := Lib.hid hN
  have HM := Lib.hid hM
  clear hE hF hN hM
  unfold boxO at a0 c0 b0
  dsimp only at a0 c0 b0 ⊢
  obtain ⟨W0, hW0⟩ : ∃ W0, (w.alloc (.cells #[.int .i64 n1, .int .u64 q1, .int .i64 a1, .int .u64 p1] 24)).alloc (.cells #[.int .i64 n2, .int .u64 q2, .int .i64 a2, .int .u64 p2] 24) = W0 := ⟨_, rfl⟩
  rw [hW0] at a0 c0 b0
  have HB0 := Lib.hid b0
  have HA0 := Lib.hid a0
  have HC0 := Lib.hid c0
  clear a0 b0 c0
  have g1 : ∀ (W : World), Below W.heap.size W (W.alloc (boxO ⟨n1, q1, a1, p1⟩)) := fun W => (Below.refl _ _).alloc (Nat.le_refl _) _
  have g2 : ∀ (W : World), Below W.heap.size W (W.alloc (boxO ⟨n1, q1, a1, p1⟩)) := fun W => (Below.refl _ _).alloc (Nat.le_refl _) _
  unfold boxO at g1 g2
  dsimp only at g1 g2
  have G2 := Lib.hid g2
  have G1 := Lib.hid g1
  have n1' : ∀ (W : World), At (W.alloc (.cells #[.int .i64 n1, .int .u64 q1, .int .i64 a1, .int .u64 p1] 24)) W.heap.size ⟨n1, q1, a1, p1⟩ := fun W => At.new W ⟨n1, q1, a1, p1⟩
  have N1 := Lib.hid n1'
  have n2' : ∀ (W : World), At (W.alloc (boxO ⟨n1, q1, a1, p1⟩)) W.heap.size ⟨n1, q1, a1, p1⟩ := fun W => At.new W ⟨n1, q1, a1, p1⟩
  unfold boxO at n2'
  dsimp only at n2'
  have N2 := Lib.hid n2'
  clear g1 g2 n1' n2'
  obtain ⟨rfl, rfl, hs2⟩ := hs
  have hs3 : ¬ (q2 : Int) > (q2 : Int) := by omega
  have hs4 : ((p1 : Int) == (p2 : Int)) = false := by simp; omega

  go_enter Try.func6, Try.ntmps6
  go_wp2_with (first
    | (go_at_call 8; refine (shown_any _).mono ?_; rintro e w1 ⟨rfl, hB1⟩; have A1 := HA0.out.th hB1; have C1 := HC0.out.th hB1; obtain ⟨x0, x1, x2, x3⟩ := A1.c; obtain ⟨y0, y1, y2, y3⟩ := C1.c; dsimp only at x0 x1 x2 x3 y0 y1 y2 y3)
    | (go_at_call 9; with_reducible refine Calls.mono (HE.out _) ?_; rintro e w2 ⟨rfl, hB2⟩; have A2 := A1.th hB2; have C2 := C1.th hB2; obtain ⟨x0, x1, x2, x3⟩ := A2.c; obtain ⟨y0, y1, y2, y3⟩ := C2.c; dsimp only at x0 x1 x2 x3 y0 y1 y2 y3)
    | (go_at_call 9; with_reducible refine Calls.mono (HF.out _) ?_; rintro e w3 ⟨rfl, hB3⟩; have A3 := A2.th hB3; have C3 := C2.th hB3; obtain ⟨x0, x1, x2, x3⟩ := A3.c; obtain ⟨y0, y1, y2, y3⟩ := C3.c; dsimp only at x0 x1 x2 x3 y0 y1 y2 y3)
    | (go_at_call 15; with_reducible refine Calls.mono (HN.out _) ?_; rintro e w4 ⟨rfl, hB4⟩; have A4 := (A3.th hB4).th (G1.out _); have C4 := (C3.th hB4).th (G1.out _); have D4 := N1.out w4; obtain ⟨x0, x1, x2, x3⟩ := A4.c; obtain ⟨y0, y1, y2, y3⟩ := C4.c; obtain ⟨u0, u1, u2, u3⟩ := D4.c; dsimp only at x0 x1 x2 x3 y0 y1 y2 y3 u0 u1 u2 u3)
    | (go_at_call 15; with_reducible refine Calls.mono (HM.out _) ?_; rintro e w5 ⟨rfl, hB5⟩; have A5 := (A4.th hB5).th (G2.out _); have C5 := (C4.th hB5).th (G2.out _); have D5 := (D4.th hB5).th (G2.out _); have F5 := N2.out w5; obtain ⟨x0, x1, x2, x3⟩ := A5.c; obtain ⟨y0, y1, y2, y3⟩ := C5.c; obtain ⟨u0, u1, u2, u3⟩ := D5.c; obtain ⟨v0, v1, v2, v3⟩ := F5.c; dsimp only at x0 x1 x2 x3 y0 y1 y2 y3 u0 u1 u2 u3 v0 v1 v2 v3))
  go_ret
  have h5 := below_th (below_al2 (below_th (below_th (below_th (below_th HB0.out hB1) hB2) hB3) hB4) _) hB5
  exact ⟨rfl, below_al2 h5 _⟩

theorem SuperApart_walk (a b : S) (w : World) (k0 : SOk a) (k1 : SOk b) : Calls Try.prog 6 #[a.val, b.val] w fun e w' => e = .returned (.bool true) ∧ Below w.heap.size w w' := by
  by_cases ha : RightP a
  · by_cases hb : RightP b
    · by_cases h1 : b.blocks = a.blocks
      · by_cases h2 : a.seq < b.seq
        · exact apart_newer a b w ha hb ⟨h1, h2⟩
        · by_cases h3 : b.seq = a.seq
          · by_cases h4 : a.at_ = b.at_
            · by_cases h5 : a.cp = b.cp
              · exact apart_same a b w ha hb (S.ext' h1.symm h3.symm h4 h5)
              · exact apart_olderp a b w ha hb ⟨h1, h3, h5⟩
            · exact apart_oldera a b w ha hb ⟨h1, h3, h4⟩
          · exact apart_olderq a b w ha hb ⟨h1, by omega⟩
      · exact apart_other a b w ha hb h1
    · exact apart_no a b w (.inr ⟨ha, hb⟩)
  · exact apart_no a b w (.inl ha)
end
end Go.Proofs.Ytmknjnmbdnlkpaa.Super
