/- Several texts in one, each under its own heading. -/
import Derived.Test.YteopcjfakhmifaaPk05
import Derived.Test.YteopcjfakhmifaaPk23
import Derived.Test.YteopcjfakhmifaaPk21
/- What the document reads out of bytes. -/
namespace Go.Proofs.Yteopcjfakhmifaa.Ino.R
open Go.RowKit Go.Shelf
attribute [local go_sem] Oper.semAt_some
set_option linter.unusedVariables false
set_option linter.unusedSimpArgs false
/-- an inode in a block that is new -/
structure IBox (wr W : World) (b : Nat) (n : I) : Prop where
  le : wr.heap.size ≤ b
  at_ : At W b n
  below : Below wr.heap.size wr W
theorem IBox.new {wr w : World} (h : Below wr.heap.size wr w) (n : I) : IBox wr (w.alloc (boxO n)) w.heap.size n := ⟨h.size, At.new w n, below_al h _⟩
theorem IBox.drew {wr W : World} {b : Nat} {n : I} (h : IBox wr W b n) : IBox wr W.drew b n := ⟨h.le, h.at_, h.below.drew⟩
section
set_option maxRecDepth 100000
set_option maxHeartbeats 8000000
theorem take_any (s : ByteArray) (a k : Nat) (w : World) (hs : s.size = 42) (h1 : 1 ≤ k) (h2 : k ≤ 8) (hk : a + k ≤ 42) : Calls Try.prog 77 #[.string s, .int .i64 a, .int .i64 k] w fun e w' => e = .returned (.int .u64 (tk s a k)) ∧ w = w' := by
  have h := take_ref_yes s a k w (by omega) h1 h2 (by omega)
  rw [tk_yes (by omega)]
  generalize takeN s a k = x at h ⊢
  clear hs h1 h2 hk
  go_enter Try.func77, Try.ntmps77
  go_wp2_with (go_at_call 82; (with_reducible refine Calls.mono h ?_); rintro e w1 ⟨rfl, rfl⟩)
  go_ret
  exact ⟨rfl, rfl⟩
theorem decode_size (s : ByteArray) (w : World) (hs : s.size ≤ 281474976710656) (h : ¬ s.size = 42) : Calls Try.prog 69 #[.string s] w (Ans w (.tuple #[(decV s).val, .int .i64 (decE s)])) := by
  have hno : ¬ decOk s := fun hh => h hh.size
  have HV : Hid (decV s = I.zero ∧ decE s = 100) := ⟨decV_no hno, decE_no hno⟩
  have hq : ((s.size : Int) != 42) = true := by simp; omega
  have HB := Lib.hid (below_new w (boxO I.zero))
  have hz := At.new w I.zero
  have HZ := Lib.hid hz
  clear hno h hs hz
  go_enter Try.func69, Try.ntmps69
  go_wp2
  refine bodyPost_ret (results_inode rfl _ _ rfl HZ.out) rfl ?_
  exact ⟨by rw [HV.out.1, HV.out.2]; rfl, HB.out⟩
theorem decode_42 (s : ByteArray) (w : World) (hs : s.size = 42) : Calls Try.prog 69 #[.string s] w (Ans w (.tuple #[(decV s).val, .int .i64 (decE s)])) := by
  have hN := decN_ok s
  have T1 := Lib.hid (fun W => take_any s 1 2 W hs (by omega) (by omega) (by omega))
  have T2 := Lib.hid (fun W => take_any s 3 2 W hs (by omega) (by omega) (by omega))
  have T3 := Lib.hid (fun W => take_any s 5 4 W hs (by omega) (by omega) (by omega))
  have T4 := Lib.hid (fun W => take_any s 9 6 W hs (by omega) (by omega) (by omega))
  have TK := Lib.hid (fun k (hk : k < 6) W => take_any s (16 + k * 4) 4 W hs (by omega) (by omega) (by omega))
  have hDA := Lib.hid (fun i (h : i < 6) => decM_at s i h)
  have hL := Lib.hid (fun a => tk_lt s a 4)
  have e0 : ∀ h : 0 < s.size, (((s[0]'h).toNat : Nat) : Int) = ((tk s 0 1 : Nat) : Int) := fun h => by
    have h1 : s.data.toList[0]? = some (s[0]'h) := Go.Proofs.byte_at s 0 h
    rw [tk_yes (by omega)]
    simp [takeN, sb, h1]
  have e15 : ∀ h : 15 < s.size, (((s[15]'h).toNat : Nat) : Int) = ((tk s 15 1 : Nat) : Int) := fun h => by
    have h1 : s.data.toList[15]? = some (s[15]'h) := Go.Proofs.byte_at s 15 h
    rw [tk_yes (by omega)]
    simp [takeN, sb, h1]
  have hE := fun W => encode_any (decN s) hN W
  obtain ⟨D, hD⟩ : ∃ D, decM s = D := ⟨_, rfl⟩
  obtain ⟨x0, hx0⟩ : ∃ x, tk s 0 1 = x := ⟨_, rfl⟩
  have l0 := tk_lt s 0 1
  obtain ⟨x1, hx1⟩ : ∃ x, tk s 1 2 = x := ⟨_, rfl⟩
  have l1 := tk_lt s 1 2
  obtain ⟨x2, hx2⟩ : ∃ x, tk s 3 2 = x := ⟨_, rfl⟩
  have l2 := tk_lt s 3 2
  obtain ⟨x3, hx3⟩ : ∃ x, tk s 5 4 = x := ⟨_, rfl⟩
  have l3 := tk_lt s 5 4
  obtain ⟨x4, hx4⟩ : ∃ x, tk s 9 6 = x := ⟨_, rfl⟩
  have l4 := tk_lt s 9 6
  obtain ⟨x5, hx5⟩ : ∃ x, tk s 15 1 = x := ⟨_, rfl⟩
  have l5 := tk_lt s 15 1
  have hNN : decN s = ⟨x0, x1, x2, x3, x4, x5, D⟩ := by unfold decN; rw [hx0, hx1, hx2, hx3, hx4, hx5, hD]
  rw [hNN] at hE
  rw [hD] at hDA
  simp only [hx0, hx1, hx2, hx3, hx4, hx5] at T1 T2 T3 T4 e0 e15 l0 l1 l2 l3 l4 l5
  rw [show (256 : Nat) ^ 1 = 256 by decide] at l0 l5
  rw [show (256 : Nat) ^ 2 = 65536 by decide] at l1 l2
  rw [show (256 : Nat) ^ 4 = 4294967296 by decide] at l3
  have v0 : IntKind.i64.wrap (x0 : Int) = x0 := by rw [IntKind.wrap_i64]; omega
  have v1 : IntKind.u16.wrap (x1 : Int) = x1 := by rw [IntKind.wrap_u16]; omega
  have v2 : IntKind.u16.wrap (x2 : Int) = x2 := by rw [IntKind.wrap_u16]; omega
  have v3 : IntKind.u32.wrap (x3 : Int) = x3 := by rw [IntKind.wrap_u32]; omega
  have v5 : IntKind.i64.wrap (x5 : Int) = x5 := by rw [IntKind.wrap_i64]; omega
  have hq : ((s.size : Int) != 42) = false := by simp; omega
  have r0 : 0 < s.size := by omega
  have r15 : 15 < s.size := by omega
  have ri0 : (0 : Int) < (s.size : Int) := by omega
  have ri15 : (15 : Int) < (s.size : Int) := by omega
  unfold I.val at hE
  dsimp only at hE
  have HE0 := Lib.hid hE
  have hz := At.new w I.zero
  have hb0 := below_new w (boxO I.zero)
  obtain ⟨W1, hW1⟩ : ∃ W1, w.alloc (.cells #[.int .i64 0, .int .u16 0, .int .u16 0, .int .u32 0, .int .u64 0, .int .i64 0, .int .u32 0, .int .u32 0, .int .u32 0, .int .u32 0, .int .u32 0, .int .u32 0] 41) = W1 := ⟨_, rfl⟩
  replace hz : At W1 w.heap.size I.zero := by rw [← hW1]; exact hz
  replace hb0 : Below w.heap.size w W1 := by rw [← hW1]; exact hb0
  have HZ1 := Lib.hid hz
  have HB1 := Lib.hid hb0
  have HNN := Lib.hid hNN
  have hself : Below W1.heap.size W1 W1 := Below.refl _ _
  clear hE hx0 hx1 hx2 hx3 hx4 hx5 hD hNN hN hs l0 l1 l2 l3 l4 l5 hz hb0
  go_enter Try.func69, Try.ntmps69
  go_wp2
  refine Code.wp_mono (Q := fun e a' w' => e = .normal ∧ ∃ Bx, IBox W1 w' Bx ⟨x0, x1, x2, x3, x4, x5, M.zero⟩ ∧ a' = { tmps := #[.string s, undef, .pointer (some ⟨w.heap.size, 0, none⟩), .int .i64 0, .pointer (some ⟨Bx, 0, none⟩), undef, undef, undef, .string s, .int .i64 (s.size : Int), .bool false, undef, .string s, .int .u8 x0, .int .i64 x0, .string s, .int .u64 x1, .int .u16 x1, .string s, .int .u64 x2, .int .u16 x2, .string s, .int .u64 x3, .int .u32 x3, .string s, .int .u64 x4, .string s, .int .u8 x5, .int .i64 x5, .agg #[.int .i64 x0, .int .u16 x1, .int .u16 x2, .int .u32 x3, .int .u64 x4, .int .i64 x5, .int .u32 0, .int .u32 0, .int .u32 0, .int .u32 0, .int .u32 0, .int .u32 0], undef, undef, undef, undef, undef, undef, undef, undef, undef, undef, undef, undef, undef, undef, undef, undef, undef, undef, undef, undef, undef, undef, undef, undef, undef, undef, undef], defers := [] }) ?imp ?_
  case imp =>
    rintro e a' w1 ⟨rfl, Bx, hBX, rfl⟩
    have hA := hBX.at_
    have hle := hBX.le
    have hZ := HZ1.out.th hBX.below
    have hB := below_th HB1.out hBX.below
    have hne : ¬ w.heap.size = Bx := by have := HZ1.out.lt; omega
    have hwB : w.heap.size ≤ Bx := by have := HZ1.out.lt; omega
    rw [← cutM_zero D] at hA
    have HNE := Lib.hid (And.intro hne hwB)
    clear hBX hself e0 e15 r0 r15 ri0 ri15 hne hwB hle
    dsimp only
    go_wp2
    go_loopw [5] (fun i wr => ∃ k : Nat, k ≤ 6 ∧ i = .int .i64 (k : Int) ∧ At wr Bx ⟨x0, x1, x2, x3, x4, x5, cutM D k⟩ ∧ At wr w.heap.size I.zero ∧ Hid (Below w.heap.size w wr)) (fun i _ => 6 - (intOf i).toNat)
    case atStart => exact ⟨0, by omega, rfl, hA, hZ, hB⟩
    case round =>
      obtain ⟨k, hk, rfl, hAk, hZk, HBk⟩ := hrel
      by_cases hlt : k < 6
      · have hlt2 : (k : Int) < 6 := by omega
        have hTk := TK.out k hlt
        have hDk := hDA.out k hlt
        have hLk := hL.out (16 + k * 4)
        rw [show (256 : Nat) ^ 4 = 4294967296 by decide] at hLk
        have hcut := cutM_succ D k hlt
        obtain ⟨x, hx⟩ : ∃ x, tk s (16 + k * 4) 4 = x := ⟨_, rfl⟩
        obtain ⟨p, hp⟩ : ∃ p, 16 + k * 4 = p := ⟨_, rfl⟩
        rw [hx] at hTk hDk hLk
        rw [hDk] at hcut
        rw [hp] at hTk
        have hpp : (16 : Int) + 4 * (k : Int) = (p : Int) := by omega
        have hw1 : IntKind.i64.wrap (4 * (k : Int)) = 4 * (k : Int) := by rw [IntKind.wrap_i64]; omega
        have hw2 : IntKind.i64.wrap (p : Int) = p := by rw [IntKind.wrap_i64]; omega
        have hw3 : IntKind.u32.wrap (x : Int) = x := by rw [IntKind.wrap_u32]; omega
        have HTk := Lib.hid hTk
        have q1 : wr.cell? ⟨Bx, 6 + k, none⟩ = some (.int .u32 ((cutM D k).at' k)) := hAk.cellM hlt
        have q2 : wr.frozen? ⟨Bx, 6 + k, none⟩ = false := hAk.f (6 + k)
        have HN : Hid (At (wr.setCell ⟨Bx, 6 + k, none⟩ (.int .u32 x)) Bx ⟨x0, x1, x2, x3, x4, x5, cutM D (k + 1)⟩ ∧ At (wr.setCell ⟨Bx, 6 + k, none⟩ (.int .u32 x)) w.heap.size I.zero ∧ Below w.heap.size w (wr.setCell ⟨Bx, 6 + k, none⟩ (.int .u32 x))) := by
          obtain ⟨h3, h4⟩ := hAk.putM hlt x
          dsimp only at h3
          rw [hcut] at h3
          exact ⟨h3, hZk.of_heap (Below.heap_setCell _ _ _ _ HNE.out.1), HBk.out.trans (h4.mono HNE.out.2)⟩
        clear hTk hDk hcut hx hp hAk hZk hA hZ hB
        go_wp2_with (go_at_call 77; (with_reducible refine Calls.mono (HTk.out _) ?_); rintro e w2 ⟨rfl, rfl⟩)
        go_roundw
        case rel => exact ⟨k + 1, by omega, by go_num, HN.out.1, HN.out.2.1, HN.out.2.2⟩
        case measure => simp [intOf]; omega
      · obtain rfl : k = 6 := by omega
        have hcD : cutM D 6 = D := by
          apply M.ext'
          intro i hi
          rw [cutM_at D 6 i hi, if_pos hi]
        rw [hcD] at hAk
        clear hA hZ hB hcD
        obtain ⟨d0, d1, d2, d3, d4, d5, d6, d7, d8, d9, d10, d11⟩ := hAk.c
        dsimp only at d0 d1 d2 d3 d4 d5 d6 d7 d8 d9 d10 d11
        have HAk := Lib.hid hAk
        have HZk := Lib.hid hZk
        clear hAk hZk
        by_cases h : RightP (decN s)
        · by_cases hb : bytes (decN s) = s
          · have HV : Hid (decV s = ⟨x0, x1, x2, x3, x4, x5, D⟩ ∧ decE s = 0) := by
              have hok : decOk s := ⟨h, hb⟩
              exact ⟨by rw [decV_yes hok, HNN.out], decE_yes hok⟩
            have hE := HE0.out
            rw [← HNN.out, encS_yes h, encE_yes h, hb] at hE
            have hcmp := beq_yes (rfl : s = s)
            have HE := Lib.hid hE
            clear hE h hb
            go_wp2_with (go_at_call 66; (with_reducible refine Calls.mono (HE.out _) ?_); rintro e w7 ⟨rfl, hB7⟩; have HZ := Lib.hid (HZk.out.th hB7); have HD := Lib.hid (HAk.out.th hB7); have HB := Lib.hid (below_th HBk.out hB7); obtain ⟨z0, z1, z2, z3, z4, z5, z6, z7, z8, z9, z10, z11⟩ := HZ.out.zc; obtain ⟨d0, d1, d2, d3, d4, d5, d6, d7, d8, d9, d10, d11⟩ := HD.out.c; dsimp only at d0 d1 d2 d3 d4 d5 d6 d7 d8 d9 d10 d11; have g0 := HZ.out.f 0; have g1 := HZ.out.f 1; have g2 := HZ.out.f 2; have g3 := HZ.out.f 3; have g4 := HZ.out.f 4; have g5 := HZ.out.f 5; have g6 := HZ.out.f 6; have g7 := HZ.out.f 7; have g8 := HZ.out.f 8; have g9 := HZ.out.f 9; have g10 := HZ.out.f 10; have g11 := HZ.out.f 11)
            obtain ⟨hAp, hBp⟩ := HZ.out.put12 ⟨x0, x1, x2, x3, x4, x5, D⟩
            have HAp := Lib.hid hAp
            have HBp := Lib.hid hBp
            clear hAp hBp
            go_wp2
            refine bodyPost_ret (results_inode rfl _ _ rfl HAp.out) rfl ?_
            exact ⟨by rw [HV.out.1, HV.out.2]; rfl, HB.out.trans HBp.out⟩
          · have HV : Hid (decV s = I.zero ∧ decE s = 100) := by
              have hno : ¬ decOk s := fun hh => hb hh.2
              exact ⟨decV_no hno, decE_no hno⟩
            have hE := HE0.out
            rw [← HNN.out, encS_yes h, encE_yes h] at hE
            have hcmp := beq_no hb
            obtain ⟨E, hEe⟩ : ∃ E, bytes (decN s) = E := ⟨_, rfl⟩
            rw [hEe] at hE hcmp
            have HE := Lib.hid hE
            clear hE h hb hEe
            go_wp2_with (go_at_call 66; (with_reducible refine Calls.mono (HE.out _) ?_); rintro e w7 ⟨rfl, hB7⟩; have HZ := Lib.hid (HZk.out.th hB7); have HD := Lib.hid (HAk.out.th hB7); have HB := Lib.hid (below_th HBk.out hB7); obtain ⟨z0, z1, z2, z3, z4, z5, z6, z7, z8, z9, z10, z11⟩ := HZ.out.zc; obtain ⟨d0, d1, d2, d3, d4, d5, d6, d7, d8, d9, d10, d11⟩ := HD.out.c; dsimp only at d0 d1 d2 d3 d4 d5 d6 d7 d8 d9 d10 d11; have g0 := HZ.out.f 0; have g1 := HZ.out.f 1; have g2 := HZ.out.f 2; have g3 := HZ.out.f 3; have g4 := HZ.out.f 4; have g5 := HZ.out.f 5; have g6 := HZ.out.f 6; have g7 := HZ.out.f 7; have g8 := HZ.out.f 8; have g9 := HZ.out.f 9; have g10 := HZ.out.f 10; have g11 := HZ.out.f 11)
            obtain ⟨hAp, hBp⟩ := HZ.out.putZ
            have HAp := Lib.hid hAp
            have HBp := Lib.hid hBp
            clear hAp hBp
            go_wp2
            refine bodyPost_ret (results_inode rfl _ _ rfl HAp.out) rfl ?_
            exact ⟨by rw [HV.out.1, HV.out.2]; rfl, HB.out.trans HBp.out⟩
        · have HV : Hid (decV s = I.zero ∧ decE s = 100) := by
            have hno : ¬ decOk s := fun hh => h hh.1
            exact ⟨decV_no hno, decE_no hno⟩
          have hE := HE0.out
          rw [← HNN.out, encS_no h, encE_no h] at hE
          have HE := Lib.hid hE
          clear hE h
          go_wp2_with (go_at_call 66; (with_reducible refine Calls.mono (HE.out _) ?_); rintro e w7 ⟨rfl, hB7⟩; have HZ := Lib.hid (HZk.out.th hB7); have HD := Lib.hid (HAk.out.th hB7); have HB := Lib.hid (below_th HBk.out hB7); obtain ⟨z0, z1, z2, z3, z4, z5, z6, z7, z8, z9, z10, z11⟩ := HZ.out.zc; obtain ⟨d0, d1, d2, d3, d4, d5, d6, d7, d8, d9, d10, d11⟩ := HD.out.c; dsimp only at d0 d1 d2 d3 d4 d5 d6 d7 d8 d9 d10 d11; have g0 := HZ.out.f 0; have g1 := HZ.out.f 1; have g2 := HZ.out.f 2; have g3 := HZ.out.f 3; have g4 := HZ.out.f 4; have g5 := HZ.out.f 5; have g6 := HZ.out.f 6; have g7 := HZ.out.f 7; have g8 := HZ.out.f 8; have g9 := HZ.out.f 9; have g10 := HZ.out.f 10; have g11 := HZ.out.f 11)
          obtain ⟨hAp, hBp⟩ := HZ.out.putZ
          have HAp := Lib.hid hAp
          have HBp := Lib.hid hBp
          clear hAp hBp
          go_wp2
          refine bodyPost_ret (results_inode rfl _ _ rfl HAp.out) rfl ?_
          exact ⟨by rw [HV.out.1, HV.out.2]; rfl, HB.out.trans HBp.out⟩
  refine wp_region_any (by kernel_rfl) ?_
  refine wpAny_take (i := 0) (v := .string s) rfl (by kernel_rfl) (by kernel_rfl) (by kernel_rfl) (fun _ _ _ h => by cases h.1) (Or.inl ⟨by rfl, by intro w; go_simp⟩) ?_
  refine wpAny_take (i := 1) (v := .int .u8 x0) rfl (by kernel_rfl) (by kernel_rfl) (by kernel_rfl) (fun _ _ _ h => by cases h.1) (Or.inl ⟨by rfl, by intro w; go_simp⟩) ?_
  refine wpAny_take (i := 2) (v := .int .i64 x0) rfl (by kernel_rfl) (by kernel_rfl) (by kernel_rfl) (fun _ _ _ h => by cases h.1) (Or.inl ⟨by rfl, by intro w; go_simp⟩) ?_
  refine wpAny_take (i := 3) (v := .string s) rfl (by kernel_rfl) (by kernel_rfl) (by kernel_rfl) (fun _ _ _ h => by cases h.1) (Or.inl ⟨by rfl, by intro w; go_simp⟩) ?_
  refine wpAny_take (i := 6) (v := .string s) rfl (by kernel_rfl) (by kernel_rfl) (by kernel_rfl) (fun _ _ _ h => by cases h.1) (Or.inl ⟨by rfl, by intro w; go_simp⟩) ?_
  refine wpAny_take (i := 9) (v := .string s) rfl (by kernel_rfl) (by kernel_rfl) (by kernel_rfl) (fun _ _ _ h => by cases h.1) (Or.inl ⟨by rfl, by intro w; go_simp⟩) ?_
  refine wpAny_take (i := 12) (v := .string s) rfl (by kernel_rfl) (by kernel_rfl) (by kernel_rfl) (fun _ _ _ h => by cases h.1) (Or.inl ⟨by rfl, by intro w; go_simp⟩) ?_
  refine wpAny_take (i := 14) (v := .string s) rfl (by kernel_rfl) (by kernel_rfl) (by kernel_rfl) (fun _ _ _ h => by cases h.1) (Or.inl ⟨by rfl, by intro w; go_simp⟩) ?_
  refine wpAny_take (i := 15) (v := .int .u8 x5) rfl (by kernel_rfl) (by kernel_rfl) (by kernel_rfl) (fun _ _ _ h => by cases h.1) (Or.inl ⟨by rfl, by intro w; go_simp⟩) ?_
  refine wpAny_take (i := 16) (v := .int .i64 x5) rfl (by kernel_rfl) (by kernel_rfl) (by kernel_rfl) (fun _ _ _ h => by cases h.1) (Or.inl ⟨by rfl, by intro w; go_simp⟩) ?_
  refine wpAny_ready (rs := [4, 18]) (by kernel_rfl) (by simp) ?_
  refine AllReady.cons rfl (fun K hK => ?_) (AllReady.cons rfl (fun K hK => ?_) AllReady.nil)
  · go_simp
    go_at_call 77
    (with_reducible refine Calls.mono (T1.out _) ?_)
    rintro e w2 ⟨rfl, rfl⟩
    try go_simp
    refine hK _ _ ?_
    clear hK K
    refine wpAny_take (i := 5) (v := .int .u16 x1) rfl (by kernel_rfl) (by kernel_rfl) (by kernel_rfl) (fun _ _ _ h => by cases h.1) (Or.inl ⟨by rfl, by intro w; go_simp⟩) ?_
    refine wpAny_ready (rs := [7, 18]) (by kernel_rfl) (by simp) ?_
    refine AllReady.cons rfl (fun K hK => ?_) (AllReady.cons rfl (fun K hK => ?_) AllReady.nil)
    · go_simp
      go_at_call 77
      (with_reducible refine Calls.mono (T2.out _) ?_)
      rintro e w2 ⟨rfl, rfl⟩
      try go_simp
      refine hK _ _ ?_
      clear hK K
      refine wpAny_take (i := 8) (v := .int .u16 x2) rfl (by kernel_rfl) (by kernel_rfl) (by kernel_rfl) (fun _ _ _ h => by cases h.1) (Or.inl ⟨by rfl, by intro w; go_simp⟩) ?_
      refine wpAny_ready (rs := [10, 18]) (by kernel_rfl) (by simp) ?_
      refine AllReady.cons rfl (fun K hK => ?_) (AllReady.cons rfl (fun K hK => ?_) AllReady.nil)
      · go_simp
        go_at_call 77
        (with_reducible refine Calls.mono (T3.out _) ?_)
        rintro e w2 ⟨rfl, rfl⟩
        try go_simp
        refine hK _ _ ?_
        clear hK K
        refine wpAny_take (i := 11) (v := .int .u32 x3) rfl (by kernel_rfl) (by kernel_rfl) (by kernel_rfl) (fun _ _ _ h => by cases h.1) (Or.inl ⟨by rfl, by intro w; go_simp⟩) ?_
        refine wpAny_ready (rs := [13, 18]) (by kernel_rfl) (by simp) ?_
        refine AllReady.cons rfl (fun K hK => ?_) (AllReady.cons rfl (fun K hK => ?_) AllReady.nil)
        · go_simp
          go_at_call 77
          (with_reducible refine Calls.mono (T4.out _) ?_)
          rintro e w2 ⟨rfl, rfl⟩
          try go_simp
          refine hK _ _ ?_
          clear hK K
          refine wpAny_take (i := 17) (v := .agg #[.int .i64 x0, .int .u16 x1, .int .u16 x2, .int .u32 x3, .int .u64 x4, .int .i64 x5, .int .u32 0, .int .u32 0, .int .u32 0, .int .u32 0, .int .u32 0, .int .u32 0]) rfl (by kernel_rfl) (by kernel_rfl) (by kernel_rfl) (fun _ _ _ h => by cases h.1) (Or.inl ⟨by rfl, by intro w; go_simp⟩) ?_
          refine wpAny_ready (rs := [18]) (by kernel_rfl) (by simp) ?_
          refine AllReady.cons rfl (fun K hK => ?_) AllReady.nil
          go_simp
          refine hK _ _ ?_
          clear hK K
          refine wpAny_ready (rs := [19]) (by kernel_rfl) (by simp) ?_
          refine AllReady.cons rfl (fun K hK => ?_) AllReady.nil
          go_simp
          refine hK _ _ ?_
          clear hK K
          refine wpAny_done (by kernel_rfl) ?_ _
          exact ⟨rfl, _, IBox.new hself.drew ⟨x0, x1, x2, x3, x4, x5, M.zero⟩, rfl⟩
        · go_simp
          refine hK _ _ ?_
          clear hK K
          refine wpAny_ready (rs := [13]) (by kernel_rfl) (by simp) ?_
          refine AllReady.cons rfl (fun K hK => ?_) AllReady.nil
          go_simp
          go_at_call 77
          (with_reducible refine Calls.mono (T4.out _) ?_)
          rintro e w2 ⟨rfl, rfl⟩
          try go_simp
          refine hK _ _ ?_
          clear hK K
          refine wpAny_take (i := 17) (v := .agg #[.int .i64 x0, .int .u16 x1, .int .u16 x2, .int .u32 x3, .int .u64 x4, .int .i64 x5, .int .u32 0, .int .u32 0, .int .u32 0, .int .u32 0, .int .u32 0, .int .u32 0]) rfl (by kernel_rfl) (by kernel_rfl) (by kernel_rfl) (fun _ _ _ h => by cases h.1) (Or.inl ⟨by rfl, by intro w; go_simp⟩) ?_
          refine wpAny_ready (rs := [19]) (by kernel_rfl) (by simp) ?_
          refine AllReady.cons rfl (fun K hK => ?_) AllReady.nil
          go_simp
          refine hK _ _ ?_
          clear hK K
          refine wpAny_done (by kernel_rfl) ?_ _
          exact ⟨rfl, _, IBox.new hself.drew ⟨x0, x1, x2, x3, x4, x5, M.zero⟩, rfl⟩
      · go_simp
        refine hK _ _ ?_
        clear hK K
        refine wpAny_ready (rs := [10]) (by kernel_rfl) (by simp) ?_
        refine AllReady.cons rfl (fun K hK => ?_) AllReady.nil
        go_simp
        go_at_call 77
        (with_reducible refine Calls.mono (T3.out _) ?_)
        rintro e w2 ⟨rfl, rfl⟩
        try go_simp
        refine hK _ _ ?_
        clear hK K
        refine wpAny_take (i := 11) (v := .int .u32 x3) rfl (by kernel_rfl) (by kernel_rfl) (by kernel_rfl) (fun _ _ _ h => by cases h.1) (Or.inl ⟨by rfl, by intro w; go_simp⟩) ?_
        refine wpAny_ready (rs := [13]) (by kernel_rfl) (by simp) ?_
        refine AllReady.cons rfl (fun K hK => ?_) AllReady.nil
        go_simp
        go_at_call 77
        (with_reducible refine Calls.mono (T4.out _) ?_)
        rintro e w2 ⟨rfl, rfl⟩
        try go_simp
        refine hK _ _ ?_
        clear hK K
        refine wpAny_take (i := 17) (v := .agg #[.int .i64 x0, .int .u16 x1, .int .u16 x2, .int .u32 x3, .int .u64 x4, .int .i64 x5, .int .u32 0, .int .u32 0, .int .u32 0, .int .u32 0, .int .u32 0, .int .u32 0]) rfl (by kernel_rfl) (by kernel_rfl) (by kernel_rfl) (fun _ _ _ h => by cases h.1) (Or.inl ⟨by rfl, by intro w; go_simp⟩) ?_
        refine wpAny_ready (rs := [19]) (by kernel_rfl) (by simp) ?_
        refine AllReady.cons rfl (fun K hK => ?_) AllReady.nil
        go_simp
        refine hK _ _ ?_
        clear hK K
        refine wpAny_done (by kernel_rfl) ?_ _
        exact ⟨rfl, _, IBox.new hself.drew ⟨x0, x1, x2, x3, x4, x5, M.zero⟩, rfl⟩
    · go_simp
      refine hK _ _ ?_
      clear hK K
      refine wpAny_ready (rs := [7]) (by kernel_rfl) (by simp) ?_
      refine AllReady.cons rfl (fun K hK => ?_) AllReady.nil
      go_simp
      go_at_call 77
      (with_reducible refine Calls.mono (T2.out _) ?_)
      rintro e w2 ⟨rfl, rfl⟩
      try go_simp
      refine hK _ _ ?_
      clear hK K
      refine wpAny_take (i := 8) (v := .int .u16 x2) rfl (by kernel_rfl) (by kernel_rfl) (by kernel_rfl) (fun _ _ _ h => by cases h.1) (Or.inl ⟨by rfl, by intro w; go_simp⟩) ?_
      refine wpAny_ready (rs := [10]) (by kernel_rfl) (by simp) ?_
      refine AllReady.cons rfl (fun K hK => ?_) AllReady.nil
      go_simp
      go_at_call 77
      (with_reducible refine Calls.mono (T3.out _) ?_)
      rintro e w2 ⟨rfl, rfl⟩
      try go_simp
      refine hK _ _ ?_
      clear hK K
      refine wpAny_take (i := 11) (v := .int .u32 x3) rfl (by kernel_rfl) (by kernel_rfl) (by kernel_rfl) (fun _ _ _ h => by cases h.1) (Or.inl ⟨by rfl, by intro w; go_simp⟩) ?_
      refine wpAny_ready (rs := [13]) (by kernel_rfl) (by simp) ?_
      refine AllReady.cons rfl (fun K hK => ?_) AllReady.nil
      go_simp
      go_at_call 77
      (with_reducible refine Calls.mono (T4.out _) ?_)
      rintro e w2 ⟨rfl, rfl⟩
      try go_simp
      refine hK _ _ ?_
      clear hK K
      refine wpAny_take (i := 17) (v := .agg #[.int .i64 x0, .int .u16 x1, .int .u16 x2, .int .u32 x3, .int .u64 x4, .int .i64 x5, .int .u32 0, .int .u32 0, .int .u32 0, .int .u32 0, .int .u32 0, .int .u32 0]) rfl (by kernel_rfl) (by kernel_rfl) (by kernel_rfl) (fun _ _ _ h => by cases h.1) (Or.inl ⟨by rfl, by intro w; go_simp⟩) ?_
      refine wpAny_ready (rs := [19]) (by kernel_rfl) (by simp) ?_
      refine AllReady.cons rfl (fun K hK => ?_) AllReady.nil
      go_simp
      refine hK _ _ ?_
      clear hK K
      refine wpAny_done (by kernel_rfl) ?_ _
      exact ⟨rfl, _, IBox.new hself.drew ⟨x0, x1, x2, x3, x4, x5, M.zero⟩, rfl⟩
  · go_simp
    refine hK _ _ ?_
    clear hK K
    refine wpAny_ready (rs := [4]) (by kernel_rfl) (by simp) ?_
    refine AllReady.cons rfl (fun K hK => ?_) AllReady.nil
    go_simp
    go_at_call 77
    (with_reducible refine Calls.mono (T1.out _) ?_)
    rintro e w2 ⟨rfl, rfl⟩
    try go_simp
    refine hK _ _ ?_
    clear hK K
    refine wpAny_take (i := 5) (v := .int .u16 x1) rfl (by kernel_rfl) (by kernel_rfl) (by kernel_rfl) (fun _ _ _ h => by cases h.1) (Or.inl ⟨by rfl, by intro w; go_simp⟩) ?_
    refine wpAny_ready (rs := [7]) (by kernel_rfl) (by simp) ?_
    refine AllReady.cons rfl (fun K hK => ?_) AllReady.nil
    go_simp
    go_at_call 77
    (with_reducible refine Calls.mono (T2.out _) ?_)
    rintro e w2 ⟨rfl, rfl⟩
    try go_simp
    refine hK _ _ ?_
    clear hK K
    refine wpAny_take (i := 8) (v := .int .u16 x2) rfl (by kernel_rfl) (by kernel_rfl) (by kernel_rfl) (fun _ _ _ h => by cases h.1) (Or.inl ⟨by rfl, by intro w; go_simp⟩) ?_
    refine wpAny_ready (rs := [10]) (by kernel_rfl) (by simp) ?_
    refine AllReady.cons rfl (fun K hK => ?_) AllReady.nil
    go_simp
    go_at_call 77
    (with_reducible refine Calls.mono (T3.out _) ?_)
    rintro e w2 ⟨rfl, rfl⟩
    try go_simp
    refine hK _ _ ?_
    clear hK K
    refine wpAny_take (i := 11) (v := .int .u32 x3) rfl (by kernel_rfl) (by kernel_rfl) (by kernel_rfl) (fun _ _ _ h => by cases h.1) (Or.inl ⟨by rfl, by intro w; go_simp⟩) ?_
    refine wpAny_ready (rs := [13]) (by kernel_rfl) (by simp) ?_
    refine AllReady.cons rfl (fun K hK => ?_) AllReady.nil
    go_simp
    go_at_call 77
    (with_reducible refine Calls.mono (T4.out _) ?_)
    rintro e w2 ⟨rfl, rfl⟩
    try go_simp
    refine hK _ _ ?_
    clear hK K
    refine wpAny_take (i := 17) (v := .agg #[.int .i64 x0, .int .u16 x1, .int .u16 x2, .int .u32 x3, .int .u64 x4, .int .i64 x5, .int .u32 0, .int .u32 0, .int .u32 0, .int .u32 0, .int .u32 0, .int .u32 0]) rfl (by kernel_rfl) (by kernel_rfl) (by kernel_rfl) (fun _ _ _ h => by cases h.1) (Or.inl ⟨by rfl, by intro w; go_simp⟩) ?_
    refine wpAny_ready (rs := [19]) (by kernel_rfl) (by simp) ?_
    refine AllReady.cons rfl (fun K hK => ?_) AllReady.nil
    go_simp
    refine hK _ _ ?_
    clear hK K
    refine wpAny_done (by kernel_rfl) ?_ _
    exact ⟨rfl, _, IBox.new hself.drew ⟨x0, x1, x2, x3, x4, x5, M.zero⟩, rfl⟩
theorem decode_any (s : ByteArray) (w : World) (hs : s.size ≤ 281474976710656) : Calls Try.prog 69 #[.string s] w (Ans w (.tuple #[(decV s).val, .int .i64 (decE s)])) := by
  by_cases h : s.size = 42
  · exact decode_42 s w h
  · exact decode_size s w hs h
end
end Go.Proofs.Yteopcjfakhmifaa.Ino.R
/- Inodes of a block: what is got. -/
namespace Go.Proofs.Yteopcjfakhmifaa.Ino
open Go.RowKit Go.Shelf
attribute [local go_sem] Oper.semAt_some
set_option linter.unusedVariables false
set_option linter.unusedSimpArgs false
section
set_option maxRecDepth 100000
set_option maxHeartbeats 8000000
theorem has_any (c : ByteArray) (k : Int) (w : World) (hc : c.size ≤ 281474976710656) : Calls Try.prog 73 #[.string c, .int .i64 k] w fun e w' => e = .returned (.bool (decide (hasP c k))) ∧ w = w' := by
  by_cases h1 : c.size = 508
  · have q1 : ((c.size : Int) == 508) = true := by simp; omega
    by_cases h2 : 0 ≤ k
    · by_cases h3 : k < 12
      · have HD := Lib.hid (decide_eq_true (show hasP c k from ⟨h1, h2, h3⟩))
        clear h1 hc
        go_enter Try.func73, Try.ntmps73
        go_wp2
        go_ret
        exact ⟨by rw [HD.out]; rfl, rfl⟩
      · have HD := Lib.hid (decide_eq_false (show ¬ hasP c k from fun h => h3 h.2.2))
        clear h1 hc
        go_enter Try.func73, Try.ntmps73
        go_wp2
        go_ret
        exact ⟨by rw [HD.out]; rfl, rfl⟩
    · have HD := Lib.hid (decide_eq_false (show ¬ hasP c k from fun h => h2 h.2.1))
      clear h1 hc
      go_enter Try.func73, Try.ntmps73
      go_wp2
      go_ret
      exact ⟨by rw [HD.out]; rfl, rfl⟩
  · have q1 : ((c.size : Int) == 508) = false := beq_eq_false_iff_ne.2 (by omega)
    have HD := Lib.hid (decide_eq_false (show ¬ hasP c k from fun h => h1 h.1))
    clear h1 hc
    go_enter Try.func73, Try.ntmps73
    go_wp2
    go_ret
    exact ⟨by rw [HD.out]; rfl, rfl⟩
theorem get_no (c : ByteArray) (k : Int) (w : World) (hc : c.size ≤ 281474976710656) (h : ¬ hasP c k) : Calls Try.prog 68 #[.string c, .int .i64 k] w (Ans w (.tuple #[(getV c k).val, .int .i64 (getE c k)])) := by
  have HV : Hid (getV c k = I.zero ∧ getE c k = 2) := ⟨getV_no h, getE_no h⟩
  have HB := Lib.hid (below_new w (boxO I.zero))
  have hz := At.new w I.zero
  obtain ⟨hAp, hBp⟩ := hz.putZ
  have HZ := Lib.hid hz
  have hH := fun W => has_any c k W hc
  rw [decide_eq_false h] at hH
  clear h hc hz hAp hBp
  go_enter Try.func68, Try.ntmps68
  go_wp2_with (go_at_call 73; refine (hH _).mono ?_; rintro e w1 ⟨rfl, rfl⟩)
  refine bodyPost_ret (results_inode rfl _ _ rfl HZ.out) rfl ?_
  exact ⟨by rw [HV.out.1, HV.out.2]; rfl, HB.out⟩
theorem get_yes (c : ByteArray) (k : Nat) (w : World) (h : hasP c k) : Calls Try.prog 68 #[.string c, .int .i64 k] w (Ans w (.tuple #[(getV c k).val, .int .i64 (getE c k)])) := by
  have hc : c.size ≤ 281474976710656 := by have := h.1; omega
  have HV : Hid (getV c k = decV (piece c k) ∧ getE c k = decE (piece c k)) := ⟨getV_yes h, getE_yes h⟩
  have hH := fun W => has_any c k W hc
  rw [decide_eq_true h] at hH
  have hD := fun W => decode_any (piece c k) W (by rw [piece_size h]; omega)
  have hpc : piece c k = c.extract (k * 42) (k * 42 + 42) := by unfold piece; rw [Int.toNat_natCast]
  obtain ⟨h1, _, h3⟩ := h
  have hk : k < 12 := by omega
  have w1 : IntKind.i64.wrap ((k : Int) * 42) = (k : Int) * 42 := by rw [IntKind.wrap_i64]; omega
  obtain ⟨p, hp⟩ : ∃ p, k * 42 = p := ⟨_, rfl⟩
  have hpp : (k : Int) * 42 = (p : Int) := by omega
  have w2 : IntKind.i64.wrap ((p : Int) + 42) = (p : Int) + 42 := by rw [IntKind.wrap_i64]; omega
  have r1 : (p : Int) + 42 ≤ (c.size : Int) := by omega
  have r2 : p + 42 ≤ c.size := by omega
  rw [hp] at hpc
  obtain ⟨X, hX⟩ : ∃ X, decV (piece c k) = X := ⟨_, rfl⟩
  obtain ⟨e0, he⟩ : ∃ e0, decE (piece c k) = e0 := ⟨_, rfl⟩
  rw [hX, he, hpc] at hD
  rw [hX, he] at HV
  have HD := Lib.hid hD
  have HZ : Hid (∀ W, Below (w.alloc (.cells #[.int .i64 0, .int .u16 0, .int .u16 0, .int .u32 0, .int .u64 0, .int .i64 0, .int .u32 0, .int .u32 0, .int .u32 0, .int .u32 0, .int .u32 0, .int .u32 0] 41)).heap.size (w.alloc (.cells #[.int .i64 0, .int .u16 0, .int .u16 0, .int .u32 0, .int .u64 0, .int .i64 0, .int .u32 0, .int .u32 0, .int .u32 0, .int .u32 0, .int .u32 0, .int .u32 0] 41)) W → At W w.heap.size I.zero ∧ Below w.heap.size w W) := fun W hW => ⟨(At.new w I.zero).th hW, below_th (below_new w (boxO I.zero)) hW⟩
  have q1 : ((c.size : Int) != 508) = false := by simp; omega
  have q2 : ¬ (k : Int) < 0 := by omega
  have q3 : ¬ (12 : Int) ≤ (k : Int) := by omega
  clear hD hpc hp hX he h1 h3 hk hc
  unfold I.val at HD
  go_enter Try.func68, Try.ntmps68
  go_wp2_with (first
    | (go_at_call 73; refine (hH _).mono ?_; rintro e w1 ⟨rfl, rfl⟩)
    | (go_at_call 76; (with_reducible refine Calls.mono (HD.out _) ?_); rintro e w2 ⟨rfl, hB2⟩; obtain ⟨hz, hbz⟩ := HZ.out _ hB2; obtain ⟨z0, z1, z2, z3, z4, z5, z6, z7, z8, z9, z10, z11⟩ := hz.zc; have g0 := hz.f 0; have g1 := hz.f 1; have g2 := hz.f 2; have g3 := hz.f 3; have g4 := hz.f 4; have g5 := hz.f 5; have g6 := hz.f 6; have g7 := hz.f 7; have g8 := hz.f 8; have g9 := hz.f 9; have g10 := hz.f 10; have g11 := hz.f 11; obtain ⟨hAp, hBp⟩ := hz.put12 X; have HAp := Lib.hid hAp; have HBp := Lib.hid hBp; have HBZ := Lib.hid hbz; clear hz hAp hBp hbz))
  refine bodyPost_ret (results_inode rfl _ _ rfl HAp.out) rfl ?_
  exact ⟨by rw [HV.out.1, HV.out.2]; rfl, HBZ.out.trans HBp.out⟩
theorem get_any (c : ByteArray) (k : Int) (w : World) (hc : c.size ≤ 281474976710656) : Calls Try.prog 68 #[.string c, .int .i64 k] w (Ans w (.tuple #[(getV c k).val, .int .i64 (getE c k)])) := by
  by_cases h : hasP c k
  · obtain ⟨j, rfl⟩ := Int.eq_ofNat_of_zero_le h.2.1
    exact get_yes c j w h
  · exact get_no c k w hc h
theorem R.get_no (c : ByteArray) (k : Int) (w : World) (hc : c.size ≤ 281474976710656) (h : ¬ hasP c k) : Calls Try.prog 54 #[.string c, .int .i64 k] w (Ans w (.tuple #[(getV c k).val, .int .i64 (getE c k)])) := by
  have HV : Hid (getV c k = I.zero ∧ getE c k = 2) := ⟨getV_no h, getE_no h⟩
  have HB := Lib.hid (below_new w (boxO I.zero))
  have hz := At.new w I.zero
  obtain ⟨hAp, hBp⟩ := hz.putZ
  have HZ := Lib.hid hz
  have hcs : 0 ≤ c.size := Nat.zero_le _
  by_cases h1 : c.size = 508
  · have q1 : ((c.size : Int) != 508) = false := by simp; omega
    by_cases h2 : k < 0
    · clear h hc hz hAp hBp h1 hcs
      go_enter Try.func54, Try.ntmps54
      go_wp2
      refine bodyPost_ret (results_inode rfl _ _ rfl HZ.out) rfl ?_
      exact ⟨by rw [HV.out.1, HV.out.2]; rfl, HB.out⟩
    · have h3 : 12 ≤ k := Int.not_lt.1 (fun hh => h ⟨h1, by omega, hh⟩)
      clear h hc hz hAp hBp h1 hcs
      go_enter Try.func54, Try.ntmps54
      go_wp2
      refine bodyPost_ret (results_inode rfl _ _ rfl HZ.out) rfl ?_
      exact ⟨by rw [HV.out.1, HV.out.2]; rfl, HB.out⟩
  · have q1 : ((c.size : Int) != 508) = true := by simp; omega
    clear h hc hz hAp hBp h1 hcs
    go_enter Try.func54, Try.ntmps54
    go_wp2
    refine bodyPost_ret (results_inode rfl _ _ rfl HZ.out) rfl ?_
    exact ⟨by rw [HV.out.1, HV.out.2]; rfl, HB.out⟩
theorem R.get_yes (c : ByteArray) (k : Nat) (w : World) (h : hasP c k) : Calls Try.prog 54 #[.string c, .int .i64 k] w (Ans w (.tuple #[(getV c k).val, .int .i64 (getE c k)])) := by
  have hc : c.size ≤ 281474976710656 := by have := h.1; omega
  have HV : Hid (getV c k = decV (piece c k) ∧ getE c k = decE (piece c k)) := ⟨getV_yes h, getE_yes h⟩
  have hD := fun W => R.decode_any (piece c k) W (by rw [piece_size h]; omega)
  have hpc : piece c k = c.extract (k * 42) (k * 42 + 42) := by unfold piece; rw [Int.toNat_natCast]
  obtain ⟨h1, _, h3⟩ := h
  have hk : k < 12 := by omega
  have w1 : IntKind.i64.wrap ((k : Int) * 42) = (k : Int) * 42 := by rw [IntKind.wrap_i64]; omega
  obtain ⟨p, hp⟩ : ∃ p, k * 42 = p := ⟨_, rfl⟩
  have hpp : (k : Int) * 42 = (p : Int) := by omega
  have w2 : IntKind.i64.wrap ((p : Int) + 42) = (p : Int) + 42 := by rw [IntKind.wrap_i64]; omega
  have r1 : (p : Int) + 42 ≤ (c.size : Int) := by omega
  have r2 : p + 42 ≤ c.size := by omega
  rw [hp] at hpc
  obtain ⟨X, hX⟩ : ∃ X, decV (piece c k) = X := ⟨_, rfl⟩
  obtain ⟨e0, he⟩ : ∃ e0, decE (piece c k) = e0 := ⟨_, rfl⟩
  rw [hX, he, hpc] at hD
  rw [hX, he] at HV
  have HD := Lib.hid hD
  have HZ : Hid (∀ W, Below (w.alloc (.cells #[.int .i64 0, .int .u16 0, .int .u16 0, .int .u32 0, .int .u64 0, .int .i64 0, .int .u32 0, .int .u32 0, .int .u32 0, .int .u32 0, .int .u32 0, .int .u32 0] 41)).heap.size (w.alloc (.cells #[.int .i64 0, .int .u16 0, .int .u16 0, .int .u32 0, .int .u64 0, .int .i64 0, .int .u32 0, .int .u32 0, .int .u32 0, .int .u32 0, .int .u32 0, .int .u32 0] 41)) W → At W w.heap.size I.zero ∧ Below w.heap.size w W) := fun W hW => ⟨(At.new w I.zero).th hW, below_th (below_new w (boxO I.zero)) hW⟩
  have q1 : ((c.size : Int) != 508) = false := by simp; omega
  have q2 : ¬ (k : Int) < 0 := by omega
  have q3 : ¬ (12 : Int) ≤ (k : Int) := by omega
  clear hD hpc hp hX he h1 h3 hk hc
  unfold I.val at HD
  go_enter Try.func54, Try.ntmps54
  go_wp2_with (first
    | fail
    | (go_at_call 69; (with_reducible refine Calls.mono (HD.out _) ?_); rintro e w2 ⟨rfl, hB2⟩; obtain ⟨hz, hbz⟩ := HZ.out _ hB2; obtain ⟨z0, z1, z2, z3, z4, z5, z6, z7, z8, z9, z10, z11⟩ := hz.zc; have g0 := hz.f 0; have g1 := hz.f 1; have g2 := hz.f 2; have g3 := hz.f 3; have g4 := hz.f 4; have g5 := hz.f 5; have g6 := hz.f 6; have g7 := hz.f 7; have g8 := hz.f 8; have g9 := hz.f 9; have g10 := hz.f 10; have g11 := hz.f 11; obtain ⟨hAp, hBp⟩ := hz.put12 X; have HAp := Lib.hid hAp; have HBp := Lib.hid hBp; have HBZ := Lib.hid hbz; clear hz hAp hBp hbz))
  refine bodyPost_ret (results_inode rfl _ _ rfl HAp.out) rfl ?_
  exact ⟨by rw [HV.out.1, HV.out.2]; rfl, HBZ.out.trans HBp.out⟩
theorem R.get_any (c : ByteArray) (k : Int) (w : World) (hc : c.size ≤ 281474976710656) : Calls Try.prog 54 #[.string c, .int .i64 k] w (Ans w (.tuple #[(getV c k).val, .int .i64 (getE c k)])) := by
  by_cases h : hasP c k
  · obtain ⟨j, rfl⟩ := Int.eq_ofNat_of_zero_le h.2.1
    exact R.get_yes c j w h
  · exact R.get_no c k w hc h
end
end Go.Proofs.Yteopcjfakhmifaa.Ino
