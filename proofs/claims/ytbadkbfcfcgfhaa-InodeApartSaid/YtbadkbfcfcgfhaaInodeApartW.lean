/- InodeApart, walked. -/
import Derived.Test.YtbadkbfcfcgfhaaInoArgs
namespace Go.Proofs.Ytbadkbfcfcgfhaa.Ino
open Go.RowKit Go.Shelf
attribute [local go_sem] Oper.semAt_some
set_option linter.unusedVariables false
set_option linter.unusedSimpArgs false
section
set_option maxRecDepth 100000
set_option maxHeartbeats 8000000
/-- the walk: what both answer is named by letters -/
theorem apart_core (A B : I) (w : World) (kA : IOk A) (kB : IOk B) (x y : ByteArray) (e f : Int) (hx : encS A = x) (hy : encS B = y) (he : encE A = e) (hf : encE B = f)
    (hc : (e != 0) = true ∨ ((e != 0) = false ∧ (f != 0) = true) ∨ ((e != 0) = false ∧ (f != 0) = false ∧ ∃ c : Bool, (x.toList == y.toList) = c ∧ decide (A = B) = c ∧ ((x.size : Int) == 42) = true)) :
    Calls Try.prog 7 #[A.val, B.val] w fun e w' => e = .returned (.bool true) ∧ Below w.heap.size w w' := by
  have hE := fun W => encode_any A kA W
  have hF := fun W => encode_any B kB W
  rw [hx, he] at hE
  rw [hy, hf] at hF
  have hQ := fun W => eqlI A B W
  have a0 := At.new w A
  have b0 := At.new (w.alloc (boxO A)) B
  rw [World.size_alloc] at b0
  replace a0 := a0.below (below_new (w.alloc (boxO A)) (boxO B)) (by simp)
  have hB := below_al (below_new w (boxO A)) (boxO B)
  unfold boxO at a0 b0 hB
  obtain ⟨W0, hW0⟩ : ∃ W0, (w.alloc (.cells #[.int .i64 A.kind, .int .u16 A.mode, .int .u16 A.links, .int .u32 A.size, .int .u64 A.time, .int .i64 A.depth, .int .u32 A.m.a, .int .u32 A.m.b, .int .u32 A.m.c, .int .u32 A.m.d, .int .u32 A.m.e, .int .u32 A.m.f] 27)).alloc (.cells #[.int .i64 B.kind, .int .u16 B.mode, .int .u16 B.links, .int .u32 B.size, .int .u64 B.time, .int .i64 B.depth, .int .u32 B.m.a, .int .u32 B.m.b, .int .u32 B.m.c, .int .u32 B.m.d, .int .u32 B.m.e, .int .u32 B.m.f] 27) = W0 := ⟨_, rfl⟩
  rw [hW0] at a0 b0 hB
  have HA := Lib.hid a0
  have HBB := Lib.hid b0
  have HB := Lib.hid hB
  obtain ⟨p0, p1, p2, p3, p4, p5, p6, p7, p8, p9, p10, p11⟩ := a0.c
  obtain ⟨r0, r1, r2, r3, r4, r5, r6, r7, r8, r9, r10, r11⟩ := b0.c
  clear a0 b0 hB hx hy he hf
  unfold I.val at hE hF hQ ⊢
  have HE := Lib.hid hE
  have HF := Lib.hid hF
  clear hE hF kA kB
  rcases hc with h1 | ⟨h1, h2⟩ | ⟨h1, h2, c, h3, h4, h5⟩
  all_goals
    (try rw [h4] at hQ)
    go_enter Try.func7, Try.ntmps7
    go_wp2_with (first
      | (go_at_call 9; (with_reducible refine Calls.mono (HF.out _) ?_); rintro e w3 ⟨rfl, hB3⟩; obtain ⟨u0, u1, u2, u3, u4, u5, u6, u7, u8, u9, u10, u11⟩ := (hA2.th hB3).c; obtain ⟨v0, v1, v2, v3, v4, v5, v6, v7, v8, v9, v10, v11⟩ := (hBx2.th hB3).c)
      | (go_at_call 9; (with_reducible refine Calls.mono (HE.out _) ?_); rintro e w2 ⟨rfl, hB2⟩; have hA2 := hA1.th hB2; have hBx2 := hBx1.th hB2; obtain ⟨s0, s1, s2, s3, s4, s5, s6, s7, s8, s9, s10, s11⟩ := hBx2.c)
      | (go_at_call 8; refine (shown_any _).mono ?_; rintro e w1 ⟨rfl, hB1⟩; have hA1 := HA.out.th hB1; have hBx1 := HBB.out.th hB1; obtain ⟨t0, t1, t2, t3, t4, t5, t6, t7, t8, t9, t10, t11⟩ := hA1.c))
    go_ret
    exact ⟨rfl, below_th (below_th (below_th HB.out hB1) hB2) hB3⟩
theorem InodeApart_walk (A B : I) (w : World) (kA : IOk A) (kB : IOk B) : Calls Try.prog 7 #[A.val, B.val] w fun e w' => e = .returned (.bool true) ∧ Below w.heap.size w w' := by
  refine apart_core A B w kA kB _ _ _ _ rfl rfl rfl rfl ?_
  by_cases hA : RightP A
  · by_cases hB : RightP B
    · right; right
      rw [encE_yes hA, encE_yes hB]
      refine ⟨rfl, rfl, decide (A = B), ?_, rfl, by simp [enc_size hA]⟩
      by_cases h : A = B
      · subst h
        rw [decide_eq_true rfl]
        exact beq_yes rfl
      · rw [decide_eq_false h]
        exact beq_no fun he => h (enc_inj hA hB kA kB he)
    · right; left
      rw [encE_yes hA, encE_no hB]
      exact ⟨rfl, rfl⟩
  · left
    rw [encE_no hA]
    rfl
end
end Go.Proofs.Ytbadkbfcfcgfhaa.Ino
