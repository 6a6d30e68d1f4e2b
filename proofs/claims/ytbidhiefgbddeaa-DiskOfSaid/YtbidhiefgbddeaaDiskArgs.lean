/- What comes in to the laws on disks: scripts of calls, fates. -/
import Derived.Test.YtbidhiefgbddeaaFlat
import Derived.Test.YtbidhiefgbddeaaDiskLaw
namespace Go.Proofs.Ytbidhiefgbddeaa.Disk
open Go.RowKit Go.Shelf Go.ChangeShapes Go.WideShapes Go.Deep
set_option linter.unusedVariables false

/-- a call of a script -/
structure Op where
  k : Int
  a : Int
  n : Int
  c : Int
  p : Int
  t : Int
def I64 (n : Int) : Prop := -9223372036854775808 ≤ n ∧ n ≤ 9223372036854775807
def opCells (o : Op) : List Value := [.int .i64 o.k, .int .i64 o.a, .int .i64 o.n, .int .u8 o.c, .int .u64 o.p, .int .i64 o.t]
structure OpOk (o : Op) : Prop where
  k : I64 o.k
  a : I64 o.a
  n : I64 o.n
  c : 0 ≤ o.c ∧ o.c ≤ 255
  p : 0 ≤ o.p ∧ o.p ≤ 18446744073709551615
  t : I64 o.t
theorem opCells_length (o : Op) : (opCells o).length = 6 := rfl
theorem i64_wf {n : Int} (h : (Lit.int .i64 n).wf = true) : I64 n := by
  have h1 : IntKind.i64.min = -9223372036854775808 := rfl
  have h2 : IntKind.i64.max = 9223372036854775807 := rfl
  simp only [Lit.wf, Bool.and_eq_true, decide_eq_true_eq] at h
  unfold I64
  omega
theorem u8_wf {n : Int} (h : (Lit.int .u8 n).wf = true) : 0 ≤ n ∧ n ≤ 255 := by
  have h1 : IntKind.u8.min = 0 := rfl
  have h2 : IntKind.u8.max = 255 := rfl
  simp only [Lit.wf, Bool.and_eq_true, decide_eq_true_eq] at h
  omega
theorem u64_wf {n : Int} (h : (Lit.int .u64 n).wf = true) : 0 ≤ n ∧ n ≤ 18446744073709551615 := by
  have h1 : IntKind.u64.min = 0 := rfl
  have h2 : IntKind.u64.max = 18446744073709551615 := rfl
  simp only [Lit.wf, Bool.and_eq_true, decide_eq_true_eq] at h
  omega
theorem cells_op : Try.prog.cellsOf 37 = 6 := by kernel_rfl
theorem cells_fate : Try.prog.cellsOf 35 = 2 := by kernel_rfl
theorem cells_int : Try.prog.cellsOf 3 = 1 := by kernel_rfl
theorem cells_u8 : Try.prog.cellsOf 5 = 1 := by kernel_rfl
theorem cells_u64 : Try.prog.cellsOf 33 = 1 := by kernel_rfl

theorem list6 {α : Type} {l : List α} (h : l.length = 6) : ∃ a b c d e f, l = [a, b, c, d, e, f] := by
  match l, h with
  | [a, b, c, d, e, f], _ => exact ⟨a, b, c, d, e, f, rfl⟩
section
variable {H : Type} {enc : TypeId × Value → H} {w : World} {base fuel : Nat} {cs : List Value} {x : DataW H × List MemPlace}
theorem open_fate {n : Nat} {c0 c1 : Value} {y : DataW H × List MemPlace} (h : DataW.trod enc Try.prog w base (fun _ => true) true n 35 [c0, c1] = some y) : ∃ p t : Int, c0 = .int .u64 p ∧ c1 = .int .i64 t ∧ (0 ≤ p ∧ p ≤ 18446744073709551615) ∧ I64 t := by
  obtain ⟨xs, m, _, _, hl, _, hf⟩ := DataW.trod_struct Try.underlying35 h
  have f0 : DataW.trod enc Try.prog w base (fun _ => true) true m 33 [c0] = xs[0]? := by have hh : DataW.trod enc Try.prog w base (fun _ => true) true m 33 (([c0, c1].drop 0).take (Try.prog.cellsOf 33)) = xs[0]? := hf 0 _ rfl; rw [cells_u64] at hh; exact hh
  have f1 : DataW.trod enc Try.prog w base (fun _ => true) true m 3 [c1] = xs[1]? := by have hh : DataW.trod enc Try.prog w base (fun _ => true) true m 3 (([c0, c1].drop 1).take (Try.prog.cellsOf 3)) = xs[1]? := hf 1 _ rfl; rw [cells_int] at hh; exact hh
  have hx0 : ∃ z, xs[0]? = some z := ⟨xs[0]'(by rename_i hh; have : xs.length = 2 := by simpa using hh
                                                omega), by simp⟩
  have hx1 : ∃ z, xs[1]? = some z := ⟨xs[1]'(by rename_i hh; have : xs.length = 2 := by simpa using hh
                                                omega), by simp⟩
  obtain ⟨z0, hz0⟩ := hx0
  obtain ⟨z1, hz1⟩ := hx1
  rw [hz0] at f0
  rw [hz1] at f1
  obtain ⟨p, e0, _, w0⟩ := DataW.trod_int Try.underlying33 f0
  obtain ⟨t, e1, _, w1⟩ := DataW.trod_int Try.underlying3 f1
  exact ⟨p, t, by simpa using e0, by simpa using e1, u64_wf w0, i64_wf w1⟩
theorem open_op {n : Nat} {c : List Value} {y : DataW H × List MemPlace} (h : DataW.trod enc Try.prog w base (fun _ => true) true n 37 c = some y) : ∃ o, c = opCells o ∧ OpOk o := by
  obtain ⟨xs, m, _, _, hl, hxl, hf⟩ := DataW.trod_struct Try.underlying37 h
  rw [cells_op] at hl
  obtain ⟨c0, c1, c2, c3, c4, c5, rfl⟩ := list6 hl
  have hxs : xs.length = 5 := by simpa using hxl
  have hz : ∀ i, i < 5 → ∃ z, xs[i]? = some z := fun i hi => ⟨xs[i]'(by omega), by simp⟩
  have f0 : DataW.trod enc Try.prog w base (fun _ => true) true m 3 [c0] = xs[0]? := by have hh : DataW.trod enc Try.prog w base (fun _ => true) true m 3 (([c0, c1, c2, c3, c4, c5].drop 0).take (Try.prog.cellsOf 3)) = xs[0]? := hf 0 _ rfl; rw [cells_int] at hh; exact hh
  have f1 : DataW.trod enc Try.prog w base (fun _ => true) true m 3 [c1] = xs[1]? := by have hh : DataW.trod enc Try.prog w base (fun _ => true) true m 3 (([c0, c1, c2, c3, c4, c5].drop 1).take (Try.prog.cellsOf 3)) = xs[1]? := hf 1 _ rfl; rw [cells_int] at hh; exact hh
  have f2 : DataW.trod enc Try.prog w base (fun _ => true) true m 3 [c2] = xs[2]? := by have hh : DataW.trod enc Try.prog w base (fun _ => true) true m 3 (([c0, c1, c2, c3, c4, c5].drop 2).take (Try.prog.cellsOf 3)) = xs[2]? := hf 2 _ rfl; rw [cells_int] at hh; exact hh
  have f3 : DataW.trod enc Try.prog w base (fun _ => true) true m 5 [c3] = xs[3]? := by have hh : DataW.trod enc Try.prog w base (fun _ => true) true m 5 (([c0, c1, c2, c3, c4, c5].drop 3).take (Try.prog.cellsOf 5)) = xs[3]? := hf 3 _ rfl; rw [cells_u8] at hh; exact hh
  have f4 : DataW.trod enc Try.prog w base (fun _ => true) true m 35 [c4, c5] = xs[4]? := by have hh : DataW.trod enc Try.prog w base (fun _ => true) true m 35 (([c0, c1, c2, c3, c4, c5].drop 4).take (Try.prog.cellsOf 35)) = xs[4]? := hf 4 _ rfl; rw [cells_fate] at hh; exact hh
  obtain ⟨z0, h0⟩ := hz 0 (by omega)
  obtain ⟨z1, h1⟩ := hz 1 (by omega)
  obtain ⟨z2, h2⟩ := hz 2 (by omega)
  obtain ⟨z3, h3⟩ := hz 3 (by omega)
  obtain ⟨z4, h4⟩ := hz 4 (by omega)
  rw [h0] at f0
  rw [h1] at f1
  rw [h2] at f2
  rw [h3] at f3
  rw [h4] at f4
  obtain ⟨n0, e0, _, w0⟩ := DataW.trod_int Try.underlying3 f0
  obtain ⟨n1, e1, _, w1⟩ := DataW.trod_int Try.underlying3 f1
  obtain ⟨n2, e2, _, w2⟩ := DataW.trod_int Try.underlying3 f2
  obtain ⟨n3, e3, _, w3⟩ := DataW.trod_int Try.underlying5 f3
  obtain ⟨p, t, rfl, rfl, w4, w5⟩ := open_fate f4
  simp only [List.cons.injEq, and_true] at e0 e1 e2 e3
  subst e0 e1 e2 e3
  exact ⟨⟨n0, n1, n2, n3, p, t⟩, rfl, i64_wf w0, i64_wf w1, i64_wf w2, u8_wf w3, w4, w5⟩
theorem lies_ops (h : DataW.trod enc Try.prog w base (fun _ => true) true fuel 22 cs = some x) :
    ∃ (v : Value) (L : List Op), cs = [v] ∧ Lies w v L.length 6 (L.flatMap opCells) ∧ (∀ o ∈ L, OpOk o) := by
  obtain ⟨v, L, h1, h2, h3, _⟩ := lies_flat opCells OpOk 6 Try.underlying22 cells_op (by decide) (fun n c y hh => open_op hh) h
  exact ⟨v, L, h1, h2, h3⟩
/-- a fate that came in as a parameter -/
theorem fate_arg {v : Value} {dd : DataW H} {pl : List MemPlace} {r : Reach} {b0 : Nat} (hv : Value.okWide Try.prog w r b0 35 v) (h : DataW.Trod enc Try.prog w base (fun _ => true) true 35 v dd pl) : ∃ p t : Int, v = .agg #[.int .u64 p, .int .i64 t] ∧ (0 ≤ p ∧ p ≤ 18446744073709551615) ∧ I64 t := by
  obtain ⟨c0, c1, y0, y1, n, rfl, _, _, t0, t1⟩ := Joins.open_agg2 Try.underlying35 (by kernel_rfl) cells_fate hv h
  obtain ⟨p, e0, _, w0⟩ := DataW.trod_int Try.underlying33 t0
  obtain ⟨t, e1, _, w1⟩ := DataW.trod_int Try.underlying3 t1
  simp only [List.cons.injEq, and_true] at e0 e1
  subst e0 e1
  exact ⟨p, t, rfl, u64_wf w0, i64_wf w1⟩
end
end Go.Proofs.Ytbidhiefgbddeaa.Disk
