/- What comes in to the laws on tables. -/
import Derived.Lib.SmallJoins
import Derived.OpenShut
import Derived.Test.YthfcjbfldokanaaDatShown
namespace Go.Proofs.Ythfcjbfldokanaa.Dat
open Go.RowKit Go.ChangeShapes Go.WideShapes Go.Deep
set_option linter.unusedVariables false

theorem bounds64 {n : Int} (h : (Lit.int .i64 n).wf = true) : -9223372036854775808 ≤ n ∧ n ≤ 9223372036854775807 := by
  have h1 : IntKind.i64.min = -9223372036854775808 := rfl
  have h2 : IntKind.i64.max = 9223372036854775807 := rfl
  simp only [Lit.wf, Bool.and_eq_true, decide_eq_true_eq] at h
  omega
theorem boundsU {n : Int} (h : (Lit.int .u64 n).wf = true) : 0 ≤ n ∧ n ≤ 18446744073709551615 := by
  have h1 : IntKind.u64.min = 0 := rfl
  have h2 : IntKind.u64.max = 18446744073709551615 := rfl
  simp only [Lit.wf, Bool.and_eq_true, decide_eq_true_eq] at h
  omega
theorem bounds32 {n : Int} (h : (Lit.int .u32 n).wf = true) : 0 ≤ n ∧ n ≤ 4294967295 := by
  have h1 : IntKind.u32.min = 0 := rfl
  have h2 : IntKind.u32.max = 4294967295 := rfl
  simp only [Lit.wf, Bool.and_eq_true, decide_eq_true_eq] at h
  omega
theorem cells_tr : Try.prog.cellsOf 40 = 3 := by kernel_rfl
theorem cells_u32 : Try.prog.cellsOf 23 = 1 := by kernel_rfl
theorem cells_u64 : Try.prog.cellsOf 24 = 1 := by kernel_rfl
theorem list3 {α : Type} {l : List α} (h : l.length = 3) : ∃ a b c, l = [a, b, c] := by
  match l, h with
  | [a, b, c], _ => exact ⟨a, b, c, rfl⟩
section
variable {H : Type} {enc : TypeId × Value → H} {w : World} {base fuel : Nat} {cs : List Value} {x : DataW H × List MemPlace}
theorem open_tr {n : Nat} {c : List Value} {y : DataW H × List MemPlace} (h : DataW.trod enc Try.prog w base (fun _ => true) true n 40 c = some y) : ∃ s : T, c = s.cells ∧ TOk s := by
  obtain ⟨xs, m, _, _, hl, hxl, hf⟩ := DataW.trod_struct Try.underlying40 h
  rw [cells_tr] at hl
  obtain ⟨c0, c1, c2, rfl⟩ := list3 hl
  have hxs : xs.length = 3 := by simpa using hxl
  have hz : ∀ i, i < 3 → ∃ z, xs[i]? = some z := fun i hi => ⟨xs[i]'(by omega), by simp⟩
  have f0 : DataW.trod enc Try.prog w base (fun _ => true) true m 23 [c0] = xs[0]? := by have hh : DataW.trod enc Try.prog w base (fun _ => true) true m 23 (([c0, c1, c2].drop 0).take (Try.prog.cellsOf 23)) = xs[0]? := hf 0 _ rfl; rw [cells_u32] at hh; exact hh
  have f1 : DataW.trod enc Try.prog w base (fun _ => true) true m 24 [c1] = xs[1]? := by have hh : DataW.trod enc Try.prog w base (fun _ => true) true m 24 (([c0, c1, c2].drop 1).take (Try.prog.cellsOf 24)) = xs[1]? := hf 1 _ rfl; rw [cells_u64] at hh; exact hh
  have f2 : DataW.trod enc Try.prog w base (fun _ => true) true m 24 [c2] = xs[2]? := by have hh : DataW.trod enc Try.prog w base (fun _ => true) true m 24 (([c0, c1, c2].drop 2).take (Try.prog.cellsOf 24)) = xs[2]? := hf 2 _ rfl; rw [cells_u64] at hh; exact hh
  obtain ⟨z0, h0⟩ := hz 0 (by omega)
  obtain ⟨z1, h1⟩ := hz 1 (by omega)
  obtain ⟨z2, h2⟩ := hz 2 (by omega)
  rw [h0] at f0
  rw [h1] at f1
  rw [h2] at f2
  obtain ⟨n0, e0, _, w0⟩ := DataW.trod_int Try.underlying23 f0
  obtain ⟨n1, e1, _, w1⟩ := DataW.trod_int Try.underlying24 f1
  obtain ⟨n2, e2, _, w2⟩ := DataW.trod_int Try.underlying24 f2
  simp only [List.cons.injEq, and_true] at e0 e1 e2
  subst e0 e1 e2
  have k0 := bounds32 w0
  have k1 := boundsU w1
  have k2 := boundsU w2
  obtain ⟨q0, rfl⟩ := Int.eq_ofNat_of_zero_le k0.1
  obtain ⟨q1, rfl⟩ := Int.eq_ofNat_of_zero_le k1.1
  obtain ⟨q2, rfl⟩ := Int.eq_ofNat_of_zero_le k2.1
  exact ⟨⟨q0, q1, q2⟩, rfl, ⟨by show q0 < _; omega, by show q1 < _; omega, by show q2 < _; omega⟩⟩
theorem lies_trs (h : DataW.trod enc Try.prog w base (fun _ => true) true fuel 22 cs = some x) :
    ∃ (v : Value) (L : List T), cs = [v] ∧ Trs w v L ∧ (∀ o ∈ L, TOk o) := by
  obtain ⟨v, L, h1, h2, h3, _⟩ := lies_flat T.cells TOk 3 Try.underlying22 cells_tr (by decide) (fun n c y hh => open_tr hh) h
  exact ⟨v, L, h1, h2, h3⟩
end
/-- a table's first two thousand places -/
theorem cut_at (v : Value) (L M : List T) (N : Nat) (hM : L.take 2000 = M) (hN : M.length = N) (W : World) (h : Trs W v L) :
    Calls Try.prog 10 #[v] W fun e w' => ∃ a cap, e = .returned (.slice a N cap) ∧ Hid (Trs W (.slice a N cap) M) ∧ N ≤ cap ∧ cap ≤ 9223372036854775807 ∧ W = w' := by
  refine (cut_any v L W h).mono ?_
  rintro e w' ⟨v', rfl, h1, rfl⟩
  rw [hM] at h1
  obtain ⟨a, cap, rfl, h2, h3⟩ := h1.parts
  rw [hN] at h1 h2
  exact ⟨a, cap, by rw [hN], h1, h2, h3, rfl⟩
end Go.Proofs.Ythfcjbfldokanaa.Dat
