/- What the laws on inodes ask first; an inode that comes in. -/
import Derived.Lib.SmallJoins
import Derived.OpenShut
import Derived.Test.YtbadkbfcfcgfhaaFlat
import Derived.Test.YtbadkbfcfcgfhaaInoPut
namespace Go.Proofs.Ytbadkbfcfcgfhaa.Ino
open Go.RowKit Go.Shelf Go.ChangeShapes Go.WideShapes Go.Deep
attribute [local go_sem] Oper.semAt_some
set_option linter.unusedVariables false
set_option linter.unusedSimpArgs false
def n4 : I := ⟨4, 0, 0, 0, 0, 0, M.zero⟩
def n1 : I := ⟨1, 0, 0, 0, 0, 0, M.zero⟩
theorem n4_ok : IOk n4 := ⟨by decide, by decide, by decide, by decide, by decide, by decide, by unfold MOk; decide⟩
theorem n1_ok : IOk n1 := ⟨by decide, by decide, by decide, by decide, by decide, by decide, by unfold MOk; decide⟩
theorem n4_no : ¬ RightP n4 := by decide
theorem n1_yes : RightP n1 := by decide
section
set_option maxRecDepth 100000
set_option maxHeartbeats 4000000
theorem shown_any (w : World) : Calls Try.prog 8 #[] w (Ans w (.bool true)) := by
  have h4 : ∀ W, Calls Try.prog 9 #[.agg #[.int .i64 4, .int .u16 0, .int .u16 0, .int .u32 0, .int .u64 0, .int .i64 0, .int .u32 0, .int .u32 0, .int .u32 0, .int .u32 0, .int .u32 0, .int .u32 0]] W fun e w' => e = .returned (.tuple #[.string ⟨#[]⟩, .int .i64 100]) ∧ Below W.heap.size W w' := fun W => by
    have := encode_any n4 n4_ok W
    rw [encS_no n4_no, encE_no n4_no] at this
    exact this
  obtain ⟨s, hs, h1⟩ : ∃ s : ByteArray, s.size = 42 ∧ ∀ W, Calls Try.prog 9 #[.agg #[.int .i64 1, .int .u16 0, .int .u16 0, .int .u32 0, .int .u64 0, .int .i64 0, .int .u32 0, .int .u32 0, .int .u32 0, .int .u32 0, .int .u32 0, .int .u32 0]] W fun e w' => e = .returned (.tuple #[.string s, .int .i64 0]) ∧ Below W.heap.size W w' := ⟨bytes n1, bytes_size n1, fun W => by
    have := encode_any n1 n1_ok W
    rw [encS_yes n1_yes, encE_yes n1_yes] at this
    exact this⟩
  have b1 : ∀ W, Calls Try.prog 15 #[.int .u32 508] W fun e w' => e = .returned (.int .i64 1) ∧ W = w' := fun W => blocks_any 508 W (by decide)
  have b2 : ∀ W, Calls Try.prog 15 #[.int .u32 3049] W fun e w' => e = .returned (.int .i64 7) ∧ W = w' := fun W => blocks_any 3049 W (by decide)
  have d1 : ∀ W, Calls Try.prog 17 #[.int .u32 3049] W fun e w' => e = .returned (.int .i64 1) ∧ W = w' := fun W => depth_any 3049 W (by decide)
  have d2 : ∀ W, Calls Try.prog 17 #[.int .u32 64517] W fun e w' => e = .returned (.int .i64 2) ∧ W = w' := fun W => depth_any 64517 W (by decide)
  have hq : ((s.size : Int) == 42) = true := by simp; omega
  clear hs
  have H4 := Lib.hid h4
  have H1 := Lib.hid h1
  have HB1 := Lib.hid b1
  have HB2 := Lib.hid b2
  have HD1 := Lib.hid d1
  have HD2 := Lib.hid d2
  clear h4 h1 b1 b2 d1 d2
  go_enter Try.func8, Try.ntmps8
  go_wp2_with (first
    | (go_at_call 9; (with_reducible refine Calls.mono (H4.out _) ?_); rintro e w1 ⟨rfl, hB1⟩)
    | (go_at_call 9; (with_reducible refine Calls.mono (H1.out _) ?_); rintro e w2 ⟨rfl, hB2⟩)
    | (go_at_call 15; (with_reducible refine Calls.mono (HB1.out _) ?_); rintro e w3 ⟨rfl, rfl⟩)
    | (go_at_call 15; (with_reducible refine Calls.mono (HB2.out _) ?_); rintro e w3 ⟨rfl, rfl⟩)
    | (go_at_call 17; (with_reducible refine Calls.mono (HD1.out _) ?_); rintro e w3 ⟨rfl, rfl⟩)
    | (go_at_call 17; (with_reducible refine Calls.mono (HD2.out _) ?_); rintro e w3 ⟨rfl, rfl⟩))
  go_ret
  exact ⟨rfl, below_th hB1 hB2⟩
end

theorem bounds64 {n : Int} (h : (Lit.int .i64 n).wf = true) : -9223372036854775808 ≤ n ∧ n ≤ 9223372036854775807 := by
  have h1 : IntKind.i64.min = -9223372036854775808 := rfl
  have h2 : IntKind.i64.max = 9223372036854775807 := rfl
  simp only [Lit.wf, Bool.and_eq_true, decide_eq_true_eq] at h
  omega
theorem boundsU {n : Int} (h : (Lit.int .u64 n).wf = true) : 0 ≤ n ∧ n ≤ 18446744073709551615 := by
  have h1 : IntKind.u64.min = 0 := rfl
  have h2 : IntKind.u64.max = 18446744073709551615 := rfl
  simp only [Lit.wf, Bool.and_eq_true, decide_eq_true_eq] at h
  omega
theorem bounds32 {n : Int} (h : (Lit.int .u32 n).wf = true) : 0 ≤ n ∧ n ≤ 4294967295 := by
  have h1 : IntKind.u32.min = 0 := rfl
  have h2 : IntKind.u32.max = 4294967295 := rfl
  simp only [Lit.wf, Bool.and_eq_true, decide_eq_true_eq] at h
  omega
theorem bounds16 {n : Int} (h : (Lit.int .u16 n).wf = true) : 0 ≤ n ∧ n ≤ 65535 := by
  have h1 : IntKind.u16.min = 0 := rfl
  have h2 : IntKind.u16.max = 65535 := rfl
  simp only [Lit.wf, Bool.and_eq_true, decide_eq_true_eq] at h
  omega
theorem cells_inode : Try.prog.cellsOf 27 = 12 := by kernel_rfl
theorem cells_map : Try.prog.cellsOf 25 = 6 := by kernel_rfl
theorem cells_int : Try.prog.cellsOf 3 = 1 := by kernel_rfl
theorem cells_u16 : Try.prog.cellsOf 22 = 1 := by kernel_rfl
theorem cells_u64 : Try.prog.cellsOf 24 = 1 := by kernel_rfl
theorem list6 {α : Type} {l : List α} (h : l.length = 6) : ∃ a b c d e f, l = [a, b, c, d, e, f] := by
  match l, h with
  | [a, b, c, d, e, f], _ => exact ⟨a, b, c, d, e, f, rfl⟩
theorem list12 {α : Type} {l : List α} (h : l.length = 12) : ∃ a b c d e f g h i j k m, l = [a, b, c, d, e, f, g, h, i, j, k, m] := by
  match l, h with
  | [a, b, c, d, e, f, g, h, i, j, k, m], _ => exact ⟨a, b, c, d, e, f, g, h, i, j, k, m, rfl⟩
section
variable {H : Type} {enc : TypeId × Value → H} {w : World} {base fuel : Nat}
theorem open_map {n : Nat} {c : List Value} {y : DataW H × List MemPlace} (h : DataW.trod enc Try.prog w base (fun _ => true) true n 25 c = some y) : ∃ m : M, c = m.cells ∧ MOk m := by
  obtain ⟨xs, m, _, _, hl, hxl, hf⟩ := DataW.trod_array Try.underlying25 h
  rw [cells_map] at hl
  rw [cellsU] at hf
  obtain ⟨c0, c1, c2, c3, c4, c5, rfl⟩ := list6 hl
  have hz : ∀ i, i < 6 → ∃ z, xs[i]? = some z := fun i hi => ⟨xs[i]'(by omega), by simp⟩
  have f0 : DataW.trod enc Try.prog w base (fun _ => true) true m 23 [c0] = xs[0]? := hf 0 (by omega)
  obtain ⟨z0, h0⟩ := hz 0 (by omega)
  rw [h0] at f0
  obtain ⟨n0, e0, _, w0⟩ := DataW.trod_int Try.underlying23 f0
  have f1 : DataW.trod enc Try.prog w base (fun _ => true) true m 23 [c1] = xs[1]? := hf 1 (by omega)
  obtain ⟨z1, h1⟩ := hz 1 (by omega)
  rw [h1] at f1
  obtain ⟨n1, e1, _, w1⟩ := DataW.trod_int Try.underlying23 f1
  have f2 : DataW.trod enc Try.prog w base (fun _ => true) true m 23 [c2] = xs[2]? := hf 2 (by omega)
  obtain ⟨z2, h2⟩ := hz 2 (by omega)
  rw [h2] at f2
  obtain ⟨n2, e2, _, w2⟩ := DataW.trod_int Try.underlying23 f2
  have f3 : DataW.trod enc Try.prog w base (fun _ => true) true m 23 [c3] = xs[3]? := hf 3 (by omega)
  obtain ⟨z3, h3⟩ := hz 3 (by omega)
  rw [h3] at f3
  obtain ⟨n3, e3, _, w3⟩ := DataW.trod_int Try.underlying23 f3
  have f4 : DataW.trod enc Try.prog w base (fun _ => true) true m 23 [c4] = xs[4]? := hf 4 (by omega)
  obtain ⟨z4, h4⟩ := hz 4 (by omega)
  rw [h4] at f4
  obtain ⟨n4, e4, _, w4⟩ := DataW.trod_int Try.underlying23 f4
  have f5 : DataW.trod enc Try.prog w base (fun _ => true) true m 23 [c5] = xs[5]? := hf 5 (by omega)
  obtain ⟨z5, h5⟩ := hz 5 (by omega)
  rw [h5] at f5
  obtain ⟨n5, e5, _, w5⟩ := DataW.trod_int Try.underlying23 f5
  simp only [List.cons.injEq, and_true] at e0 e1 e2 e3 e4 e5
  subst e0 e1 e2 e3 e4 e5
  have k0 := bounds32 w0
  obtain ⟨q0, rfl⟩ := Int.eq_ofNat_of_zero_le k0.1
  have k1 := bounds32 w1
  obtain ⟨q1, rfl⟩ := Int.eq_ofNat_of_zero_le k1.1
  have k2 := bounds32 w2
  obtain ⟨q2, rfl⟩ := Int.eq_ofNat_of_zero_le k2.1
  have k3 := bounds32 w3
  obtain ⟨q3, rfl⟩ := Int.eq_ofNat_of_zero_le k3.1
  have k4 := bounds32 w4
  obtain ⟨q4, rfl⟩ := Int.eq_ofNat_of_zero_le k4.1
  have k5 := bounds32 w5
  obtain ⟨q5, rfl⟩ := Int.eq_ofNat_of_zero_le k5.1
  exact ⟨⟨q0, q1, q2, q3, q4, q5⟩, rfl, by show q0 < _; omega, by show q1 < _; omega, by show q2 < _; omega, by show q3 < _; omega, by show q4 < _; omega, by show q5 < _; omega⟩
/-- an inode that came in as a parameter -/
theorem inode_arg {v : Value} {dd : DataW H} {pl : List MemPlace} {r : Reach} {b0 : Nat} (hv : Value.okWide Try.prog w r b0 27 v) (h : DataW.Trod enc Try.prog w base (fun _ => true) true 27 v dd pl) : ∃ s : I, v = s.val ∧ IOk s := by
  obtain ⟨cs, rfl, hsz⟩ := okWide_struct Try.underlying27 hv
  obtain ⟨fuel, hf0⟩ := h
  have hf1 : DataW.trod enc Try.prog w base (fun _ => true) true fuel 27 cs.toList = some (dd, pl) := by simpa [Value.cells] using hf0
  clear hf0 hv
  obtain ⟨l⟩ := cs
  obtain ⟨xs, m, _, _, hl, hxl, hf⟩ := DataW.trod_struct Try.underlying27 hf1
  rw [cells_inode] at hl
  obtain ⟨c0, c1, c2, c3, c4, c5, c6, c7, c8, c9, c10, c11, rfl⟩ := list12 hl
  have hxs : xs.length = 7 := by simpa using hxl
  have hz : ∀ i, i < 7 → ∃ z, xs[i]? = some z := fun i hi => ⟨xs[i]'(by omega), by simp⟩
  have f0 : DataW.trod enc Try.prog w base (fun _ => true) true m 3 [c0] = xs[0]? := by have hh : DataW.trod enc Try.prog w base (fun _ => true) true m 3 (([c0, c1, c2, c3, c4, c5, c6, c7, c8, c9, c10, c11].drop 0).take (Try.prog.cellsOf 3)) = xs[0]? := hf 0 _ rfl; rw [cells_int] at hh; exact hh
  obtain ⟨z0, h0⟩ := hz 0 (by omega)
  rw [h0] at f0
  obtain ⟨n0, e0, _, w0⟩ := DataW.trod_int Try.underlying3 f0
  have f1 : DataW.trod enc Try.prog w base (fun _ => true) true m 22 [c1] = xs[1]? := by have hh : DataW.trod enc Try.prog w base (fun _ => true) true m 22 (([c0, c1, c2, c3, c4, c5, c6, c7, c8, c9, c10, c11].drop 1).take (Try.prog.cellsOf 22)) = xs[1]? := hf 1 _ rfl; rw [cells_u16] at hh; exact hh
  obtain ⟨z1, h1⟩ := hz 1 (by omega)
  rw [h1] at f1
  obtain ⟨n1, e1, _, w1⟩ := DataW.trod_int Try.underlying22 f1
  have f2 : DataW.trod enc Try.prog w base (fun _ => true) true m 22 [c2] = xs[2]? := by have hh : DataW.trod enc Try.prog w base (fun _ => true) true m 22 (([c0, c1, c2, c3, c4, c5, c6, c7, c8, c9, c10, c11].drop 2).take (Try.prog.cellsOf 22)) = xs[2]? := hf 2 _ rfl; rw [cells_u16] at hh; exact hh
  obtain ⟨z2, h2⟩ := hz 2 (by omega)
  rw [h2] at f2
  obtain ⟨n2, e2, _, w2⟩ := DataW.trod_int Try.underlying22 f2
  have f3 : DataW.trod enc Try.prog w base (fun _ => true) true m 23 [c3] = xs[3]? := by have hh : DataW.trod enc Try.prog w base (fun _ => true) true m 23 (([c0, c1, c2, c3, c4, c5, c6, c7, c8, c9, c10, c11].drop 3).take (Try.prog.cellsOf 23)) = xs[3]? := hf 3 _ rfl; rw [cellsU] at hh; exact hh
  obtain ⟨z3, h3⟩ := hz 3 (by omega)
  rw [h3] at f3
  obtain ⟨n3, e3, _, w3⟩ := DataW.trod_int Try.underlying23 f3
  have f4 : DataW.trod enc Try.prog w base (fun _ => true) true m 24 [c4] = xs[4]? := by have hh : DataW.trod enc Try.prog w base (fun _ => true) true m 24 (([c0, c1, c2, c3, c4, c5, c6, c7, c8, c9, c10, c11].drop 4).take (Try.prog.cellsOf 24)) = xs[4]? := hf 4 _ rfl; rw [cells_u64] at hh; exact hh
  obtain ⟨z4, h4⟩ := hz 4 (by omega)
  rw [h4] at f4
  obtain ⟨n4, e4, _, w4⟩ := DataW.trod_int Try.underlying24 f4
  have f5 : DataW.trod enc Try.prog w base (fun _ => true) true m 3 [c5] = xs[5]? := by have hh : DataW.trod enc Try.prog w base (fun _ => true) true m 3 (([c0, c1, c2, c3, c4, c5, c6, c7, c8, c9, c10, c11].drop 5).take (Try.prog.cellsOf 3)) = xs[5]? := hf 5 _ rfl; rw [cells_int] at hh; exact hh
  obtain ⟨z5, h5⟩ := hz 5 (by omega)
  rw [h5] at f5
  obtain ⟨n5, e5, _, w5⟩ := DataW.trod_int Try.underlying3 f5
  have f6 : DataW.trod enc Try.prog w base (fun _ => true) true m 25 [c6, c7, c8, c9, c10, c11] = xs[6]? := by have hh : DataW.trod enc Try.prog w base (fun _ => true) true m 25 (([c0, c1, c2, c3, c4, c5, c6, c7, c8, c9, c10, c11].drop 6).take (Try.prog.cellsOf 25)) = xs[6]? := hf 6 _ rfl; rw [cells_map] at hh; exact hh
  obtain ⟨z6, h6⟩ := hz 6 (by omega)
  rw [h6] at f6
  obtain ⟨mm, e6, hm⟩ := open_map f6
  obtain ⟨ma, mb, mc, md, me, mf⟩ := mm
  unfold M.cells at e6
  simp only [List.cons.injEq, and_true] at e0 e1 e2 e3 e4 e5 e6
  obtain ⟨g0, g1, g2, g3, g4, g5⟩ := e6
  subst e0 e1 e2 e3 e4 e5 g0 g1 g2 g3 g4 g5
  have k0 := bounds64 w0
  have k1 := bounds16 w1
  have k2 := bounds16 w2
  have k3 := bounds32 w3
  have k4 := boundsU w4
  have k5 := bounds64 w5
  obtain ⟨q1, rfl⟩ := Int.eq_ofNat_of_zero_le k1.1
  obtain ⟨q2, rfl⟩ := Int.eq_ofNat_of_zero_le k2.1
  obtain ⟨q3, rfl⟩ := Int.eq_ofNat_of_zero_le k3.1
  obtain ⟨q4, rfl⟩ := Int.eq_ofNat_of_zero_le k4.1
  exact ⟨⟨n0, q1, q2, q3, q4, n5, ma, mb, mc, md, me, mf⟩, rfl, ⟨k0, by show q1 < _; omega, by show q2 < _; omega, by show q3 < _; omega, by show q4 < _; omega, k5, hm⟩⟩
end
end Go.Proofs.Ytbadkbfcfcgfhaa.Ino
