/- Inodes of a block: what is got. -/
import Derived.Test.YtbadkbfcfcgfhaaInoRefD
namespace Go.Proofs.Ytbadkbfcfcgfhaa.Ino
open Go.RowKit Go.Shelf
attribute [local go_sem] Oper.semAt_some
set_option linter.unusedVariables false
set_option linter.unusedSimpArgs false
section
set_option maxRecDepth 100000
set_option maxHeartbeats 8000000
theorem has_any (c : ByteArray) (k : Int) (w : World) (hc : c.size ≤ 281474976710656) : Calls Try.prog 33 #[.string c, .int .i64 k] w fun e w' => e = .returned (.bool (decide (hasP c k))) ∧ w = w' := by
  by_cases h1 : c.size = 508
  · have q1 : ((c.size : Int) == 508) = true := by simp; omega
    by_cases h2 : 0 ≤ k
    · by_cases h3 : k < 12
      · have HD := Lib.hid (decide_eq_true (show hasP c k from ⟨h1, h2, h3⟩))
        clear h1 hc
        go_enter Try.func33, Try.ntmps33
        go_wp2
        go_ret
        exact ⟨by rw [HD.out]; rfl, rfl⟩
      · have HD := Lib.hid (decide_eq_false (show ¬ hasP c k from fun h => h3 h.2.2))
        clear h1 hc
        go_enter Try.func33, Try.ntmps33
        go_wp2
        go_ret
        exact ⟨by rw [HD.out]; rfl, rfl⟩
    · have HD := Lib.hid (decide_eq_false (show ¬ hasP c k from fun h => h2 h.2.1))
      clear h1 hc
      go_enter Try.func33, Try.ntmps33
      go_wp2
      go_ret
      exact ⟨by rw [HD.out]; rfl, rfl⟩
  · have q1 : ((c.size : Int) == 508) = false := beq_eq_false_iff_ne.2 (by omega)
    have HD := Lib.hid (decide_eq_false (show ¬ hasP c k from fun h => h1 h.1))
    clear h1 hc
    go_enter Try.func33, Try.ntmps33
    go_wp2
    go_ret
    exact ⟨by rw [HD.out]; rfl, rfl⟩
theorem get_no (c : ByteArray) (k : Int) (w : World) (hc : c.size ≤ 281474976710656) (h : ¬ hasP c k) : Calls Try.prog 19 #[.string c, .int .i64 k] w (Ans w (.tuple #[(getV c k).val, .int .i64 (getE c k)])) := by
  have HV : Hid (getV c k = I.zero ∧ getE c k = 2) := ⟨getV_no h, getE_no h⟩
  have HB := Lib.hid (below_new w (boxO I.zero))
  have hz := At.new w I.zero
  obtain ⟨hAp, hBp⟩ := hz.putZ
  have HZ := Lib.hid hz
  have hH := fun W => has_any c k W hc
  rw [decide_eq_false h] at hH
  clear h hc hz hAp hBp
  go_enter Try.func19, Try.ntmps19
  go_wp2_with (go_at_call 33; refine (hH _).mono ?_; rintro e w1 ⟨rfl, rfl⟩)
  refine bodyPost_ret (results_inode rfl _ _ rfl HZ.out) rfl ?_
  exact ⟨by rw [HV.out.1, HV.out.2]; rfl, HB.out⟩
theorem get_yes (c : ByteArray) (k : Nat) (w : World) (h : hasP c k) : Calls Try.prog 19 #[.string c, .int .i64 k] w (Ans w (.tuple #[(getV c k).val, .int .i64 (getE c k)])) := by
  have hc : c.size ≤ 281474976710656 := by have := h.1; omega
  have HV : Hid (getV c k = decV (piece c k) ∧ getE c k = decE (piece c k)) := ⟨getV_yes h, getE_yes h⟩
  have hH := fun W => has_any c k W hc
  rw [decide_eq_true h] at hH
  have hD := fun W => decode_any (piece c k) W (by rw [piece_size h]; omega)
  have hpc : piece c k = c.extract (k * 42) (k * 42 + 42) := by unfold piece; rw [Int.toNat_natCast]
  obtain ⟨h1, _, h3⟩ := h
  have hk : k < 12 := by omega
  have w1 : IntKind.i64.wrap ((k : Int) * 42) = (k : Int) * 42 := by rw [IntKind.wrap_i64]; omega
  obtain ⟨p, hp⟩ : ∃ p, k * 42 = p := ⟨_, rfl⟩
  have hpp : (k : Int) * 42 = (p : Int) := by omega
  have w2 : IntKind.i64.wrap ((p : Int) + 42) = (p : Int) + 42 := by rw [IntKind.wrap_i64]; omega
  have r1 : (p : Int) + 42 ≤ (c.size : Int) := by omega
  have r2 : p + 42 ≤ c.size := by omega
  rw [hp] at hpc
  obtain ⟨X, hX⟩ : ∃ X, decV (piece c k) = X := ⟨_, rfl⟩
  obtain ⟨e0, he⟩ : ∃ e0, decE (piece c k) = e0 := ⟨_, rfl⟩
  rw [hX, he, hpc] at hD
  rw [hX, he] at HV
  have HD := Lib.hid hD
  have HZ : Hid (∀ W, Below (w.alloc (.cells #[.int .i64 0, .int .u16 0, .int .u16 0, .int .u32 0, .int .u64 0, .int .i64 0, .int .u32 0, .int .u32 0, .int .u32 0, .int .u32 0, .int .u32 0, .int .u32 0] 27)).heap.size (w.alloc (.cells #[.int .i64 0, .int .u16 0, .int .u16 0, .int .u32 0, .int .u64 0, .int .i64 0, .int .u32 0, .int .u32 0, .int .u32 0, .int .u32 0, .int .u32 0, .int .u32 0] 27)) W → At W w.heap.size I.zero ∧ Below w.heap.size w W) := fun W hW => ⟨(At.new w I.zero).th hW, below_th (below_new w (boxO I.zero)) hW⟩
  have q1 : ((c.size : Int) != 508) = false := by simp; omega
  have q2 : ¬ (k : Int) < 0 := by omega
  have q3 : ¬ (12 : Int) ≤ (k : Int) := by omega
  clear hD hpc hp hX he h1 h3 hk hc
  unfold I.val at HD
  go_enter Try.func19, Try.ntmps19
  go_wp2_with (first
    | (go_at_call 33; refine (hH _).mono ?_; rintro e w1 ⟨rfl, rfl⟩)
    | (go_at_call 11; (with_reducible refine Calls.mono (HD.out _) ?_); rintro e w2 ⟨rfl, hB2⟩; obtain ⟨hz, hbz⟩ := HZ.out _ hB2; obtain ⟨z0, z1, z2, z3, z4, z5, z6, z7, z8, z9, z10, z11⟩ := hz.zc; have g0 := hz.f 0; have g1 := hz.f 1; have g2 := hz.f 2; have g3 := hz.f 3; have g4 := hz.f 4; have g5 := hz.f 5; have g6 := hz.f 6; have g7 := hz.f 7; have g8 := hz.f 8; have g9 := hz.f 9; have g10 := hz.f 10; have g11 := hz.f 11; obtain ⟨hAp, hBp⟩ := hz.put12 X; have HAp := Lib.hid hAp; have HBp := Lib.hid hBp; have HBZ := Lib.hid hbz; clear hz hAp hBp hbz))
  refine bodyPost_ret (results_inode rfl _ _ rfl HAp.out) rfl ?_
  exact ⟨by rw [HV.out.1, HV.out.2]; rfl, HBZ.out.trans HBp.out⟩
theorem get_any (c : ByteArray) (k : Int) (w : World) (hc : c.size ≤ 281474976710656) : Calls Try.prog 19 #[.string c, .int .i64 k] w (Ans w (.tuple #[(getV c k).val, .int .i64 (getE c k)])) := by
  by_cases h : hasP c k
  · obtain ⟨j, rfl⟩ := Int.eq_ofNat_of_zero_le h.2.1
    exact get_yes c j w h
  · exact get_no c k w hc h
theorem R.get_no (c : ByteArray) (k : Int) (w : World) (hc : c.size ≤ 281474976710656) (h : ¬ hasP c k) : Calls Try.prog 20 #[.string c, .int .i64 k] w (Ans w (.tuple #[(getV c k).val, .int .i64 (getE c k)])) := by
  have HV : Hid (getV c k = I.zero ∧ getE c k = 2) := ⟨getV_no h, getE_no h⟩
  have HB := Lib.hid (below_new w (boxO I.zero))
  have hz := At.new w I.zero
  obtain ⟨hAp, hBp⟩ := hz.putZ
  have HZ := Lib.hid hz
  have hcs : 0 ≤ c.size := Nat.zero_le _
  by_cases h1 : c.size = 508
  · have q1 : ((c.size : Int) != 508) = false := by simp; omega
    by_cases h2 : k < 0
    · clear h hc hz hAp hBp h1 hcs
      go_enter Try.func20, Try.ntmps20
      go_wp2
      refine bodyPost_ret (results_inode rfl _ _ rfl HZ.out) rfl ?_
      exact ⟨by rw [HV.out.1, HV.out.2]; rfl, HB.out⟩
    · have h3 : 12 ≤ k := Int.not_lt.1 (fun hh => h ⟨h1, by omega, hh⟩)
      clear h hc hz hAp hBp h1 hcs
      go_enter Try.func20, Try.ntmps20
      go_wp2
      refine bodyPost_ret (results_inode rfl _ _ rfl HZ.out) rfl ?_
      exact ⟨by rw [HV.out.1, HV.out.2]; rfl, HB.out⟩
  · have q1 : ((c.size : Int) != 508) = true := by simp; omega
    clear h hc hz hAp hBp h1 hcs
    go_enter Try.func20, Try.ntmps20
    go_wp2
    refine bodyPost_ret (results_inode rfl _ _ rfl HZ.out) rfl ?_
    exact ⟨by rw [HV.out.1, HV.out.2]; rfl, HB.out⟩
theorem R.get_yes (c : ByteArray) (k : Nat) (w : World) (h : hasP c k) : Calls Try.prog 20 #[.string c, .int .i64 k] w (Ans w (.tuple #[(getV c k).val, .int .i64 (getE c k)])) := by
  have hc : c.size ≤ 281474976710656 := by have := h.1; omega
  have HV : Hid (getV c k = decV (piece c k) ∧ getE c k = decE (piece c k)) := ⟨getV_yes h, getE_yes h⟩
  have hD := fun W => R.decode_any (piece c k) W (by rw [piece_size h]; omega)
  have hpc : piece c k = c.extract (k * 42) (k * 42 + 42) := by unfold piece; rw [Int.toNat_natCast]
  obtain ⟨h1, _, h3⟩ := h
  have hk : k < 12 := by omega
  have w1 : IntKind.i64.wrap ((k : Int) * 42) = (k : Int) * 42 := by rw [IntKind.wrap_i64]; omega
  obtain ⟨p, hp⟩ : ∃ p, k * 42 = p := ⟨_, rfl⟩
  have hpp : (k : Int) * 42 = (p : Int) := by omega
  have w2 : IntKind.i64.wrap ((p : Int) + 42) = (p : Int) + 42 := by rw [IntKind.wrap_i64]; omega
  have r1 : (p : Int) + 42 ≤ (c.size : Int) := by omega
  have r2 : p + 42 ≤ c.size := by omega
  rw [hp] at hpc
  obtain ⟨X, hX⟩ : ∃ X, decV (piece c k) = X := ⟨_, rfl⟩
  obtain ⟨e0, he⟩ : ∃ e0, decE (piece c k) = e0 := ⟨_, rfl⟩
  rw [hX, he, hpc] at hD
  rw [hX, he] at HV
  have HD := Lib.hid hD
  have HZ : Hid (∀ W, Below (w.alloc (.cells #[.int .i64 0, .int .u16 0, .int .u16 0, .int .u32 0, .int .u64 0, .int .i64 0, .int .u32 0, .int .u32 0, .int .u32 0, .int .u32 0, .int .u32 0, .int .u32 0] 27)).heap.size (w.alloc (.cells #[.int .i64 0, .int .u16 0, .int .u16 0, .int .u32 0, .int .u64 0, .int .i64 0, .int .u32 0, .int .u32 0, .int .u32 0, .int .u32 0, .int .u32 0, .int .u32 0] 27)) W → At W w.heap.size I.zero ∧ Below w.heap.size w W) := fun W hW => ⟨(At.new w I.zero).th hW, below_th (below_new w (boxO I.zero)) hW⟩
  have q1 : ((c.size : Int) != 508) = false := by simp; omega
  have q2 : ¬ (k : Int) < 0 := by omega
  have q3 : ¬ (12 : Int) ≤ (k : Int) := by omega
  clear hD hpc hp hX he h1 h3 hk hc
  unfold I.val at HD
  go_enter Try.func20, Try.ntmps20
  go_wp2_with (first
    | fail
    | (go_at_call 12; (with_reducible refine Calls.mono (HD.out _) ?_); rintro e w2 ⟨rfl, hB2⟩; obtain ⟨hz, hbz⟩ := HZ.out _ hB2; obtain ⟨z0, z1, z2, z3, z4, z5, z6, z7, z8, z9, z10, z11⟩ := hz.zc; have g0 := hz.f 0; have g1 := hz.f 1; have g2 := hz.f 2; have g3 := hz.f 3; have g4 := hz.f 4; have g5 := hz.f 5; have g6 := hz.f 6; have g7 := hz.f 7; have g8 := hz.f 8; have g9 := hz.f 9; have g10 := hz.f 10; have g11 := hz.f 11; obtain ⟨hAp, hBp⟩ := hz.put12 X; have HAp := Lib.hid hAp; have HBp := Lib.hid hBp; have HBZ := Lib.hid hbz; clear hz hAp hBp hbz))
  refine bodyPost_ret (results_inode rfl _ _ rfl HAp.out) rfl ?_
  exact ⟨by rw [HV.out.1, HV.out.2]; rfl, HBZ.out.trans HBp.out⟩
theorem R.get_any (c : ByteArray) (k : Int) (w : World) (hc : c.size ≤ 281474976710656) : Calls Try.prog 20 #[.string c, .int .i64 k] w (Ans w (.tuple #[(getV c k).val, .int .i64 (getE c k)])) := by
  by_cases h : hasP c k
  · obtain ⟨j, rfl⟩ := Int.eq_ofNat_of_zero_le h.2.1
    exact R.get_yes c j w h
  · exact R.get_no c k w hc h
end
end Go.Proofs.Ytbadkbfcfcgfhaa.Ino
