/- A script of calls that came in. -/
import Derived.Deep.SlicePairs
import Derived.Test.YtkpkpofeffegfaaRingDo
namespace Go.Proofs.Ytkpkpofeffegfaa
open Go.RowKit Go.Shelf Go.ChangeShapes Go.WideShapes Go.Deep
set_option linter.unusedVariables false

def opsOf (L : List (Int × Int)) : List Value := L.flatMap fun x => [.int .i64 x.1, .int .i64 x.2]
theorem opsOf_length (L : List (Int × Int)) : (opsOf L).length = L.length * 2 := by
  induction L with
  | nil => rfl
  | cons x L ih => simp only [opsOf, List.flatMap_cons, List.length_append, List.length_cons, List.length_nil] at ih ⊢; omega
theorem opsOf_at (L : List (Int × Int)) (k : Nat) (x : Int × Int) (h : L[k]? = some x) : (opsOf L)[k * 2]? = some (.int .i64 x.1) ∧ (opsOf L)[k * 2 + 1]? = some (.int .i64 x.2) := by
  induction L generalizing k with
  | nil => simp at h
  | cons y L ih =>
    cases k with
    | zero => obtain rfl : y = x := by simpa using h
              exact ⟨rfl, rfl⟩
    | succ k =>
      have := ih k (by simpa using h)
      rw [show (k + 1) * 2 = k * 2 + 2 from by omega]
      exact this
theorem opsOf_of (L : List (Int × Int)) (j : Nat) (u : Value) (h : (opsOf L)[j]? = some u) : ∃ k x, L[k]? = some x ∧ ((j = k * 2 ∧ u = .int .i64 x.1) ∨ (j = k * 2 + 1 ∧ u = .int .i64 x.2)) := by
  have hj := (List.getElem?_eq_some_iff.1 h).1
  rw [opsOf_length] at hj
  obtain ⟨x, hx⟩ : ∃ x, L[j / 2]? = some x := ⟨L[j / 2]'(by omega), by simp⟩
  obtain ⟨h1, h2⟩ := opsOf_at L _ x hx
  rcases Nat.mod_two_eq_zero_or_one j with hm | hm
  · refine ⟨j / 2, x, hx, .inl ⟨by omega, ?_⟩⟩
    rw [show j / 2 * 2 = j by omega, h] at h1
    exact Option.some.inj h1
  · refine ⟨j / 2, x, hx, .inr ⟨by omega, ?_⟩⟩
    rw [show j / 2 * 2 + 1 = j by omega, h] at h2
    exact Option.some.inj h2

theorem cells_op : Try.prog.cellsOf 30 = 2 := by kernel_rfl
theorem cells_int : Try.prog.cellsOf 3 = 1 := by kernel_rfl
theorem cells_int64 : Try.prog.cellsOf 2 = 1 := by kernel_rfl

theorem lies_ops {H : Type} {enc : TypeId × Value → H} {w : World} {base fuel : Nat} {cs : List Value} {x : DataW H × List MemPlace} {α β : Prop} (_ : α) (_ : β)
    (h : DataW.trod enc Try.prog w base (fun _ => true) true fuel 22 cs = some x) :
    ∃ (v : Value) (L : List (Int × Int)), cs = [v] ∧ Lies w v L.length 2 (opsOf L) ∧ (∀ o ∈ L, (Lit.int .i64 o.1).wf = true) := by
  rcases open_slice_pairs Try.underlying22 Try.underlying30 cells_op rfl rfl cells_int cells_int64 h with ⟨rfl, rfl⟩ | ⟨a, len, cap, m, k, V0, V1, D0, D1, P0, P1, rfl, _, hl, hm, hmm, hx, hall⟩
  · exact ⟨_, [], rfl, Lies.nil _ _, by simp⟩
  · simp only [if_true] at hmm
    subst hmm
    have hv : ∀ i, i < m → ∃ n0 n1 : Int, V0 i = .int .i64 n0 ∧ V1 i = .int .i64 n1 ∧ (Lit.int .i64 n0).wf = true := fun i hi => by
      obtain ⟨_, _, t0, t1⟩ := hall i hi
      obtain ⟨n0, e0, _, w0⟩ := DataW.trod_int Try.underlying3 t0
      obtain ⟨n1, e1, _, w1⟩ := DataW.trod_int Try.underlying2 t1
      exact ⟨n0, n1, by simpa using e0, by simpa using e1, w0⟩
    let numI : Value → Int := fun v => match v with | .int _ n => n | _ => 0
    refine ⟨_, (List.range len).map fun i => (numI (V0 i), numI (V1 i)), rfl, ⟨some a, m, by simp, by simp; omega, ⟨hm, fun e => by cases e⟩, by rw [opsOf_length], fun hp => ?_⟩, fun o ho => ?_⟩
    · have hp : 0 < len := by simpa using hp
      obtain ⟨b, off, spot⟩ := a
      obtain rfl : spot = none := by simpa [Addr.add] using World.cell?_spot (hall 0 (by omega)).1
      refine ⟨b, off, rfl, fun j u hj => ?_⟩
      obtain ⟨k', y, hy, hju⟩ := opsOf_of _ j u hj
      have hkl := (List.getElem?_eq_some_iff.1 hy).1
      have hkl : k' < len := by simpa using hkl
      obtain ⟨c0, c1, _, _⟩ := hall k' (by omega)
      obtain ⟨n0, n1, e0, e1, _⟩ := hv k' (by omega)
      have hy2 : y = (n0, n1) := by
        rw [List.getElem?_map, List.getElem?_range hkl] at hy
        simp only [Option.map_some, Option.some.injEq] at hy
        rw [← hy, e0, e1]
      rw [add_plain] at c0 c1
      rcases hju with ⟨rfl, rfl⟩ | ⟨rfl, rfl⟩
      · rw [c0, e0, hy2]
      · rw [c1, e1, hy2]
    · obtain ⟨i, hi, rfl⟩ := List.mem_map.1 ho
      obtain ⟨n0, n1, e0, e1, w0⟩ := hv i (by have := List.mem_range.1 hi; omega)
      show (Lit.int .i64 (numI (V0 i))).wf = true
      rw [e0]
      exact w0
end Go.Proofs.Ytkpkpofeffegfaa
