/- A script of calls on bags that came in. -/
import Derived.Test.YtkhbfjncamobdaaBagDoesG
namespace Go.Proofs.Ytkhbfjncamobdaa.S
open Go.RowKit Go.Shelf Go.ChangeShapes Go.WideShapes Go.Deep
set_option linter.unusedVariables false

theorem i64_wf {n : Int} (h : (Lit.int .i64 n).wf = true) : -9223372036854775808 ≤ n ∧ n ≤ 9223372036854775807 := by
  have h1 : IntKind.i64.min = -9223372036854775808 := rfl
  have h2 : IntKind.i64.max = 9223372036854775807 := rfl
  simp only [Lit.wf, Bool.and_eq_true, decide_eq_true_eq] at h
  omega
theorem cells_op : Try.prog.cellsOf 30 = 4 := by kernel_rfl
theorem cells_int : Try.prog.cellsOf 3 = 1 := by kernel_rfl
theorem cells_i64 : Try.prog.cellsOf 2 = 1 := by kernel_rfl
theorem cells_str : Try.prog.cellsOf 9 = 1 := by kernel_rfl
theorem list4 {α : Type} {l : List α} (h : l.length = 4) : ∃ a b c d, l = [a, b, c, d] := by
  match l, h with
  | [a, b, c, d], _ => exact ⟨a, b, c, d, rfl⟩
section
variable {H : Type} {enc : TypeId × Value → H} {w : World} {base fuel : Nat} {cs : List Value} {x : DataW H × List MemPlace}
theorem open_op {n : Nat} {c : List Value} {y : DataW H × List MemPlace} (h : DataW.trod enc Try.prog w base (fun _ => true) true n 30 c = some y) : ∃ o, c = opCells o ∧ OpOk o := by
  obtain ⟨xs, m, _, _, hl, hxl, hf⟩ := DataW.trod_struct Try.underlying30 h
  rw [cells_op] at hl
  obtain ⟨c0, c1, c2, c3, rfl⟩ := list4 hl
  have hxs : xs.length = 4 := by simpa using hxl
  have hz : ∀ i, i < 4 → ∃ z, xs[i]? = some z := fun i hi => ⟨xs[i]'(by omega), by simp⟩
  have f0 : DataW.trod enc Try.prog w base (fun _ => true) true m 3 [c0] = xs[0]? := by have hh : DataW.trod enc Try.prog w base (fun _ => true) true m 3 (([c0, c1, c2, c3].drop 0).take (Try.prog.cellsOf 3)) = xs[0]? := hf 0 _ rfl; rw [cells_int] at hh; exact hh
  have f1 : DataW.trod enc Try.prog w base (fun _ => true) true m 2 [c1] = xs[1]? := by have hh : DataW.trod enc Try.prog w base (fun _ => true) true m 2 (([c0, c1, c2, c3].drop 1).take (Try.prog.cellsOf 2)) = xs[1]? := hf 1 _ rfl; rw [cells_i64] at hh; exact hh
  have f2 : DataW.trod enc Try.prog w base (fun _ => true) true m 2 [c2] = xs[2]? := by have hh : DataW.trod enc Try.prog w base (fun _ => true) true m 2 (([c0, c1, c2, c3].drop 2).take (Try.prog.cellsOf 2)) = xs[2]? := hf 2 _ rfl; rw [cells_i64] at hh; exact hh
  have f3 : DataW.trod enc Try.prog w base (fun _ => true) true m 9 [c3] = xs[3]? := by have hh : DataW.trod enc Try.prog w base (fun _ => true) true m 9 (([c0, c1, c2, c3].drop 3).take (Try.prog.cellsOf 9)) = xs[3]? := hf 3 _ rfl; rw [cells_str] at hh; exact hh
  obtain ⟨z0, h0⟩ := hz 0 (by omega)
  obtain ⟨z1, h1⟩ := hz 1 (by omega)
  obtain ⟨z2, h2⟩ := hz 2 (by omega)
  obtain ⟨z3, h3⟩ := hz 3 (by omega)
  rw [h0] at f0
  rw [h1] at f1
  rw [h2] at f2
  rw [h3] at f3
  obtain ⟨n0, e0, _, w0⟩ := DataW.trod_int Try.underlying3 f0
  obtain ⟨n1, e1, _, w1⟩ := DataW.trod_int Try.underlying2 f1
  obtain ⟨n2, e2, _, w2⟩ := DataW.trod_int Try.underlying2 f2
  obtain ⟨n3, e3, _⟩ := DataW.trod_string Try.underlying9 f3
  simp only [List.cons.injEq, and_true] at e0 e1 e2 e3
  subst e0 e1 e2 e3
  exact ⟨⟨n0, n1, n2, n3⟩, rfl, ⟨i64_wf w0⟩⟩
theorem lies_ops (h : DataW.trod enc Try.prog w base (fun _ => true) true fuel 22 cs = some x) :
    ∃ (v : Value) (L : List Op), cs = [v] ∧ Lies w v L.length 4 (L.flatMap opCells) ∧ (∀ o ∈ L, OpOk o) := by
  obtain ⟨v, L, h1, h2, h3, _⟩ := lies_flat opCells OpOk 4 Try.underlying22 cells_op (by decide) (fun n c y hh => open_op hh) h
  exact ⟨v, L, h1, h2, h3⟩
end
end Go.Proofs.Ytkhbfjncamobdaa.S
