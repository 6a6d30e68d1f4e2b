/- What comes in to the laws on checkpoints: one by value, a table, texts. -/
import Derived.Lib.SmallJoins
import Derived.OpenShut
import Derived.Test.YtoedjemelblpaaaCpsShown
namespace Go.Proofs.Ytoedjemelblpaaa.Cps
open Go.RowKit Go.Shelf Go.ChangeShapes Go.WideShapes Go.Deep
set_option linter.unusedVariables false
set_option linter.unusedSimpArgs false

theorem boundsU {n : Int} (h : (Lit.int .u64 n).wf = true) : 0 ≤ n ∧ n ≤ 18446744073709551615 := by
  have h1 : IntKind.u64.min = 0 := rfl
  have h2 : IntKind.u64.max = 18446744073709551615 := rfl
  simp only [Lit.wf, Bool.and_eq_true, decide_eq_true_eq] at h
  omega
theorem cells_ch : Try.prog.cellsOf 25 = 4 := by kernel_rfl
theorem cells_u64 : Try.prog.cellsOf 23 = 1 := by kernel_rfl
theorem cells_bool : Try.prog.cellsOf 4 = 1 := by kernel_rfl
theorem cells_str : Try.prog.cellsOf 9 = 1 := by kernel_rfl
theorem list4 {α : Type} {l : List α} (h : l.length = 4) : ∃ a b c d, l = [a, b, c, d] := by
  match l, h with
  | [a, b, c, d], _ => exact ⟨a, b, c, d, rfl⟩
section
variable {H : Type} {enc : TypeId × Value → H} {w : World} {base fuel : Nat} {cs : List Value} {x : DataW H × List MemPlace}
theorem open_chk {n : Nat} {c : List Value} {y : DataW H × List MemPlace} (h : DataW.trod enc Try.prog w base (fun _ => true) true n 25 c = some y) : ∃ s : C, c = s.cells ∧ COk s := by
  obtain ⟨xs, m, _, _, hl, hxl, hf⟩ := DataW.trod_struct Try.underlying25 h
  rw [cells_ch] at hl
  obtain ⟨c0, c1, c2, c3, rfl⟩ := list4 hl
  have hxs : xs.length = 4 := by simpa using hxl
  have hz : ∀ i, i < 4 → ∃ z, xs[i]? = some z := fun i hi => ⟨xs[i]'(by omega), by simp⟩
  have f0 : DataW.trod enc Try.prog w base (fun _ => true) true m 23 [c0] = xs[0]? := by have hh : DataW.trod enc Try.prog w base (fun _ => true) true m 23 (([c0, c1, c2, c3].drop 0).take (Try.prog.cellsOf 23)) = xs[0]? := hf 0 _ rfl; rw [cells_u64] at hh; exact hh
  have f1 : DataW.trod enc Try.prog w base (fun _ => true) true m 23 [c1] = xs[1]? := by have hh : DataW.trod enc Try.prog w base (fun _ => true) true m 23 (([c0, c1, c2, c3].drop 1).take (Try.prog.cellsOf 23)) = xs[1]? := hf 1 _ rfl; rw [cells_u64] at hh; exact hh
  have f2 : DataW.trod enc Try.prog w base (fun _ => true) true m 4 [c2] = xs[2]? := by have hh : DataW.trod enc Try.prog w base (fun _ => true) true m 4 (([c0, c1, c2, c3].drop 2).take (Try.prog.cellsOf 4)) = xs[2]? := hf 2 _ rfl; rw [cells_bool] at hh; exact hh
  have f3 : DataW.trod enc Try.prog w base (fun _ => true) true m 9 [c3] = xs[3]? := by have hh : DataW.trod enc Try.prog w base (fun _ => true) true m 9 (([c0, c1, c2, c3].drop 3).take (Try.prog.cellsOf 9)) = xs[3]? := hf 3 _ rfl; rw [cells_str] at hh; exact hh
  obtain ⟨z0, h0⟩ := hz 0 (by omega)
  obtain ⟨z1, h1⟩ := hz 1 (by omega)
  obtain ⟨z2, h2⟩ := hz 2 (by omega)
  obtain ⟨z3, h3⟩ := hz 3 (by omega)
  rw [h0] at f0
  rw [h1] at f1
  rw [h2] at f2
  rw [h3] at f3
  obtain ⟨n0, e0, _, w0⟩ := DataW.trod_int Try.underlying23 f0
  obtain ⟨n1, e1, _, w1⟩ := DataW.trod_int Try.underlying23 f1
  obtain ⟨n2, e2, _⟩ := DataW.trod_bool Try.underlying4 f2
  obtain ⟨n3, e3, _, w3⟩ := DataW.trod_string Try.underlying9 f3
  simp only [List.cons.injEq, and_true] at e0 e1 e2 e3
  subst e0 e1 e2 e3
  have k0 := boundsU w0
  have k1 := boundsU w1
  obtain ⟨q0, rfl⟩ := Int.eq_ofNat_of_zero_le k0.1
  obtain ⟨q1, rfl⟩ := Int.eq_ofNat_of_zero_le k1.1
  exact ⟨⟨q0, q1, n2, n3⟩, rfl, ⟨by show q0 < _; omega, by show q1 < _; omega⟩⟩
theorem lies_chs (h : DataW.trod enc Try.prog w base (fun _ => true) true fuel 22 cs = some x) :
    ∃ (v : Value) (L : List C), cs = [v] ∧ Chs w v L ∧ (∀ o ∈ L, COk o) := by
  obtain ⟨v, L, h1, h2, h3, _⟩ := lies_flat C.cells COk 4 Try.underlying22 cells_ch (by decide) (fun n c y hh => open_chk hh) h
  exact ⟨v, L, h1, h2, h3⟩
/-- a checkpoint that came in as a parameter -/
theorem chk_arg {v : Value} {dd : DataW H} {pl : List MemPlace} {r : Reach} {b0 : Nat} (hv : Value.okWide Try.prog w r b0 25 v) (h : DataW.Trod enc Try.prog w base (fun _ => true) true 25 v dd pl) : ∃ s : C, v = s.val ∧ COk s := by
  obtain ⟨cs, rfl, hsz⟩ := okWide_struct Try.underlying25 hv
  obtain ⟨fuel, hf0⟩ := h
  have hf1 : DataW.trod enc Try.prog w base (fun _ => true) true fuel 25 cs.toList = some (dd, pl) := by simpa [Value.cells] using hf0
  clear hf0 hv
  obtain ⟨l⟩ := cs
  obtain ⟨s, e, hs⟩ := open_chk hf1
  simp only at e
  subst e
  exact ⟨s, rfl, hs⟩
end
end Go.Proofs.Ytoedjemelblpaaa.Cps
