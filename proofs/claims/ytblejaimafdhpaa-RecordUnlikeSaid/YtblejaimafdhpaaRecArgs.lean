/- What comes in to the laws on records: a record by value, its entries in memory. -/
import Derived.Lib.SmallJoins
import Derived.OpenShut
import Derived.Test.YtblejaimafdhpaaRecShown
namespace Go.Proofs.Ytblejaimafdhpaa.Record
open Go.RowKit Go.Shelf Go.ChangeShapes Go.WideShapes Go.Deep
set_option linter.unusedVariables false

structure ROk (r : R) : Prop where
  seq : r.seq < 18446744073709551616
  cp : r.cp < 18446744073709551616
  next : -9223372036854775808 ≤ r.next ∧ r.next ≤ 9223372036854775807
  l : AllOk r.l
theorem bounds64 {n : Int} (h : (Lit.int .i64 n).wf = true) : -9223372036854775808 ≤ n ∧ n ≤ 9223372036854775807 := by
  have h1 : IntKind.i64.min = -9223372036854775808 := rfl
  have h2 : IntKind.i64.max = 9223372036854775807 := rfl
  simp only [Lit.wf, Bool.and_eq_true, decide_eq_true_eq] at h
  omega
theorem boundsU {n : Int} (h : (Lit.int .u64 n).wf = true) : 0 ≤ n ∧ n ≤ 18446744073709551615 := by
  have h1 : IntKind.u64.min = 0 := rfl
  have h2 : IntKind.u64.max = 18446744073709551615 := rfl
  simp only [Lit.wf, Bool.and_eq_true, decide_eq_true_eq] at h
  omega
theorem bounds32 {n : Int} (h : (Lit.int .u32 n).wf = true) : 0 ≤ n ∧ n ≤ 4294967295 := by
  have h1 : IntKind.u32.min = 0 := rfl
  have h2 : IntKind.u32.max = 4294967295 := rfl
  simp only [Lit.wf, Bool.and_eq_true, decide_eq_true_eq] at h
  omega
theorem cells_entry : Try.prog.cellsOf 46 = 4 := by kernel_rfl
theorem cells_record : Try.prog.cellsOf 25 = 6 := by kernel_rfl
theorem cells_int : Try.prog.cellsOf 3 = 1 := by kernel_rfl
theorem cells_u32 : Try.prog.cellsOf 44 = 1 := by kernel_rfl
theorem cells_u64 : Try.prog.cellsOf 22 = 1 := by kernel_rfl
theorem cells_bool : Try.prog.cellsOf 4 = 1 := by kernel_rfl
theorem cells_list : Try.prog.cellsOf 23 = 1 := by kernel_rfl
theorem list4 {α : Type} {l : List α} (h : l.length = 4) : ∃ a b c d, l = [a, b, c, d] := by
  match l, h with
  | [a, b, c, d], _ => exact ⟨a, b, c, d, rfl⟩
theorem list6 {α : Type} {l : List α} (h : l.length = 6) : ∃ a b c d e f, l = [a, b, c, d, e, f] := by
  match l, h with
  | [a, b, c, d, e, f], _ => exact ⟨a, b, c, d, e, f, rfl⟩
section
variable {H : Type} {enc : TypeId × Value → H} {w : World} {base fuel : Nat} {cs : List Value} {x : DataW H × List MemPlace}
theorem open_entry {n : Nat} {c : List Value} {y : DataW H × List MemPlace} (h : DataW.trod enc Try.prog w base (fun _ => true) true n 46 c = some y) : ∃ s : E, c = s.cells ∧ EOk s := by
  obtain ⟨xs, m, _, _, hl, hxl, hf⟩ := DataW.trod_struct Try.underlying46 h
  rw [cells_entry] at hl
  obtain ⟨c0, c1, c2, c3, rfl⟩ := list4 hl
  have hxs : xs.length = 4 := by simpa using hxl
  have hz : ∀ i, i < 4 → ∃ z, xs[i]? = some z := fun i hi => ⟨xs[i]'(by omega), by simp⟩
  have f0 : DataW.trod enc Try.prog w base (fun _ => true) true m 3 [c0] = xs[0]? := by have hh : DataW.trod enc Try.prog w base (fun _ => true) true m 3 (([c0, c1, c2, c3].drop 0).take (Try.prog.cellsOf 3)) = xs[0]? := hf 0 _ rfl; rw [cells_int] at hh; exact hh
  have f1 : DataW.trod enc Try.prog w base (fun _ => true) true m 44 [c1] = xs[1]? := by have hh : DataW.trod enc Try.prog w base (fun _ => true) true m 44 (([c0, c1, c2, c3].drop 1).take (Try.prog.cellsOf 44)) = xs[1]? := hf 1 _ rfl; rw [cells_u32] at hh; exact hh
  have f2 : DataW.trod enc Try.prog w base (fun _ => true) true m 44 [c2] = xs[2]? := by have hh : DataW.trod enc Try.prog w base (fun _ => true) true m 44 (([c0, c1, c2, c3].drop 2).take (Try.prog.cellsOf 44)) = xs[2]? := hf 2 _ rfl; rw [cells_u32] at hh; exact hh
  have f3 : DataW.trod enc Try.prog w base (fun _ => true) true m 44 [c3] = xs[3]? := by have hh : DataW.trod enc Try.prog w base (fun _ => true) true m 44 (([c0, c1, c2, c3].drop 3).take (Try.prog.cellsOf 44)) = xs[3]? := hf 3 _ rfl; rw [cells_u32] at hh; exact hh
  obtain ⟨z0, h0⟩ := hz 0 (by omega)
  obtain ⟨z1, h1⟩ := hz 1 (by omega)
  obtain ⟨z2, h2⟩ := hz 2 (by omega)
  obtain ⟨z3, h3⟩ := hz 3 (by omega)
  rw [h0] at f0
  rw [h1] at f1
  rw [h2] at f2
  rw [h3] at f3
  obtain ⟨n0, e0, _, w0⟩ := DataW.trod_int Try.underlying3 f0
  obtain ⟨n1, e1, _, w1⟩ := DataW.trod_int Try.underlying44 f1
  obtain ⟨n2, e2, _, w2⟩ := DataW.trod_int Try.underlying44 f2
  obtain ⟨n3, e3, _, w3⟩ := DataW.trod_int Try.underlying44 f3
  simp only [List.cons.injEq, and_true] at e0 e1 e2 e3
  subst e0 e1 e2 e3
  have k1 := bounds32 w1
  have k2 := bounds32 w2
  have k3 := bounds32 w3
  obtain ⟨q1, rfl⟩ := Int.eq_ofNat_of_zero_le k1.1
  obtain ⟨q2, rfl⟩ := Int.eq_ofNat_of_zero_le k2.1
  obtain ⟨q3, rfl⟩ := Int.eq_ofNat_of_zero_le k3.1
  exact ⟨⟨n0, q1, q2, q3⟩, rfl, ⟨bounds64 w0, by show q1 < _; omega, by show q2 < _; omega, by show q3 < _; omega⟩⟩
/-- a record that came in as a parameter -/
theorem rec_arg {v : Value} {dd : DataW H} {pl : List MemPlace} {r : Reach} {b0 : Nat} (hv : Value.okWide Try.prog w r b0 25 v) (h : DataW.Trod enc Try.prog w base (fun _ => true) true 25 v dd pl) : ∃ (s : R) (u : Value), v = s.val u ∧ Ents w u s.l ∧ ROk s := by
  obtain ⟨cs, rfl, hsz⟩ := okWide_struct Try.underlying25 hv
  obtain ⟨fuel, hf0⟩ := h
  have hf1 : DataW.trod enc Try.prog w base (fun _ => true) true fuel 25 cs.toList = some (dd, pl) := by simpa [Value.cells] using hf0
  clear hf0 hv
  obtain ⟨l⟩ := cs
  obtain ⟨xs, m, _, _, hl, hxl, hf⟩ := DataW.trod_struct Try.underlying25 hf1
  rw [cells_record] at hl
  obtain ⟨c0, c1, c2, c3, c4, c5, rfl⟩ := list6 hl
  have hxs : xs.length = 6 := by simpa using hxl
  have hz : ∀ i, i < 6 → ∃ z, xs[i]? = some z := fun i hi => ⟨xs[i]'(by omega), by simp⟩
  have f0 : DataW.trod enc Try.prog w base (fun _ => true) true m 22 [c0] = xs[0]? := by have hh : DataW.trod enc Try.prog w base (fun _ => true) true m 22 (([c0, c1, c2, c3, c4, c5].drop 0).take (Try.prog.cellsOf 22)) = xs[0]? := hf 0 _ rfl; rw [cells_u64] at hh; exact hh
  have f1 : DataW.trod enc Try.prog w base (fun _ => true) true m 22 [c1] = xs[1]? := by have hh : DataW.trod enc Try.prog w base (fun _ => true) true m 22 (([c0, c1, c2, c3, c4, c5].drop 1).take (Try.prog.cellsOf 22)) = xs[1]? := hf 1 _ rfl; rw [cells_u64] at hh; exact hh
  have f2 : DataW.trod enc Try.prog w base (fun _ => true) true m 4 [c2] = xs[2]? := by have hh : DataW.trod enc Try.prog w base (fun _ => true) true m 4 (([c0, c1, c2, c3, c4, c5].drop 2).take (Try.prog.cellsOf 4)) = xs[2]? := hf 2 _ rfl; rw [cells_bool] at hh; exact hh
  have f3 : DataW.trod enc Try.prog w base (fun _ => true) true m 4 [c3] = xs[3]? := by have hh : DataW.trod enc Try.prog w base (fun _ => true) true m 4 (([c0, c1, c2, c3, c4, c5].drop 3).take (Try.prog.cellsOf 4)) = xs[3]? := hf 3 _ rfl; rw [cells_bool] at hh; exact hh
  have f4 : DataW.trod enc Try.prog w base (fun _ => true) true m 3 [c4] = xs[4]? := by have hh : DataW.trod enc Try.prog w base (fun _ => true) true m 3 (([c0, c1, c2, c3, c4, c5].drop 4).take (Try.prog.cellsOf 3)) = xs[4]? := hf 4 _ rfl; rw [cells_int] at hh; exact hh
  have f5 : DataW.trod enc Try.prog w base (fun _ => true) true m 23 [c5] = xs[5]? := by have hh : DataW.trod enc Try.prog w base (fun _ => true) true m 23 (([c0, c1, c2, c3, c4, c5].drop 5).take (Try.prog.cellsOf 23)) = xs[5]? := hf 5 _ rfl; rw [cells_list] at hh; exact hh
  obtain ⟨z0, h0⟩ := hz 0 (by omega)
  obtain ⟨z1, h1⟩ := hz 1 (by omega)
  obtain ⟨z2, h2⟩ := hz 2 (by omega)
  obtain ⟨z3, h3⟩ := hz 3 (by omega)
  obtain ⟨z4, h4⟩ := hz 4 (by omega)
  obtain ⟨z5, h5⟩ := hz 5 (by omega)
  rw [h0] at f0
  rw [h1] at f1
  rw [h2] at f2
  rw [h3] at f3
  rw [h4] at f4
  rw [h5] at f5
  obtain ⟨n0, e0, _, w0⟩ := DataW.trod_int Try.underlying22 f0
  obtain ⟨n1, e1, _, w1⟩ := DataW.trod_int Try.underlying22 f1
  obtain ⟨n2, e2, _⟩ := DataW.trod_bool Try.underlying4 f2
  obtain ⟨n3, e3, _⟩ := DataW.trod_bool Try.underlying4 f3
  obtain ⟨n4, e4, _, w4⟩ := DataW.trod_int Try.underlying3 f4
  obtain ⟨u, L, e5, hL, hO, _⟩ := lies_flat E.cells EOk 4 Try.underlying23 cells_entry (by decide) (fun n c y hh => open_entry hh) f5
  simp only [List.cons.injEq, and_true] at e0 e1 e2 e3 e4 e5
  subst e0 e1 e2 e3 e4 e5
  have k0 := boundsU w0
  have k1 := boundsU w1
  obtain ⟨q0, rfl⟩ := Int.eq_ofNat_of_zero_le k0.1
  obtain ⟨q1, rfl⟩ := Int.eq_ofNat_of_zero_le k1.1
  exact ⟨⟨q0, q1, n2, n3, n4, L⟩, c5, rfl, hL, ⟨by show q0 < _; omega, by show q1 < _; omega, bounds64 w4, hO⟩⟩
end
end Go.Proofs.Ytblejaimafdhpaa.Record
