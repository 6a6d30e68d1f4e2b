/- What comes in to the laws on maps: a map's own numbers, numbers in a slice. -/
import Derived.Lib.SmallJoins
import Derived.OpenShut
import Derived.Test.YtdakfdecfpebcaaBmpShown
namespace Go.Proofs.Ytdakfdecfpebcaa.Bmp
open Go.RowKit Go.Shelf Go.ChangeShapes Go.WideShapes Go.Deep Ino
set_option linter.unusedVariables false
set_option linter.unusedSimpArgs false
theorem cells_map : Try.prog.cellsOf 32 = 6 := by kernel_rfl
theorem list6 {α : Type} {l : List α} (h : l.length = 6) : ∃ a b c d e f, l = [a, b, c, d, e, f] := by
  match l, h with
  | [a, b, c, d, e, f], _ => exact ⟨a, b, c, d, e, f, rfl⟩
section
variable {H : Type} {enc : TypeId × Value → H} {w : World} {base fuel : Nat}
theorem open_map {n : Nat} {c : List Value} {y : DataW H × List MemPlace} (h : DataW.trod enc Try.prog w base (fun _ => true) true n 32 c = some y) : ∃ m : M, c = m.cells ∧ MOk m := by
  obtain ⟨xs, m, _, _, hl, hxl, hf⟩ := DataW.trod_array Try.underlying32 h
  rw [cells_map] at hl
  rw [cellsU] at hf
  obtain ⟨c0, c1, c2, c3, c4, c5, rfl⟩ := list6 hl
  have hz : ∀ i, i < 6 → ∃ z, xs[i]? = some z := fun i hi => ⟨xs[i]'(by omega), by simp⟩
  have f0 : DataW.trod enc Try.prog w base (fun _ => true) true m 22 [c0] = xs[0]? := hf 0 (by omega)
  obtain ⟨z0, h0⟩ := hz 0 (by omega)
  rw [h0] at f0
  obtain ⟨n0, e0, _, w0⟩ := DataW.trod_int Try.underlying22 f0
  have f1 : DataW.trod enc Try.prog w base (fun _ => true) true m 22 [c1] = xs[1]? := hf 1 (by omega)
  obtain ⟨z1, h1⟩ := hz 1 (by omega)
  rw [h1] at f1
  obtain ⟨n1, e1, _, w1⟩ := DataW.trod_int Try.underlying22 f1
  have f2 : DataW.trod enc Try.prog w base (fun _ => true) true m 22 [c2] = xs[2]? := hf 2 (by omega)
  obtain ⟨z2, h2⟩ := hz 2 (by omega)
  rw [h2] at f2
  obtain ⟨n2, e2, _, w2⟩ := DataW.trod_int Try.underlying22 f2
  have f3 : DataW.trod enc Try.prog w base (fun _ => true) true m 22 [c3] = xs[3]? := hf 3 (by omega)
  obtain ⟨z3, h3⟩ := hz 3 (by omega)
  rw [h3] at f3
  obtain ⟨n3, e3, _, w3⟩ := DataW.trod_int Try.underlying22 f3
  have f4 : DataW.trod enc Try.prog w base (fun _ => true) true m 22 [c4] = xs[4]? := hf 4 (by omega)
  obtain ⟨z4, h4⟩ := hz 4 (by omega)
  rw [h4] at f4
  obtain ⟨n4, e4, _, w4⟩ := DataW.trod_int Try.underlying22 f4
  have f5 : DataW.trod enc Try.prog w base (fun _ => true) true m 22 [c5] = xs[5]? := hf 5 (by omega)
  obtain ⟨z5, h5⟩ := hz 5 (by omega)
  rw [h5] at f5
  obtain ⟨n5, e5, _, w5⟩ := DataW.trod_int Try.underlying22 f5
  simp only [List.cons.injEq, and_true] at e0 e1 e2 e3 e4 e5
  subst e0 e1 e2 e3 e4 e5
  have k0 := bounds32 w0
  obtain ⟨q0, rfl⟩ := Int.eq_ofNat_of_zero_le k0.1
  have k1 := bounds32 w1
  obtain ⟨q1, rfl⟩ := Int.eq_ofNat_of_zero_le k1.1
  have k2 := bounds32 w2
  obtain ⟨q2, rfl⟩ := Int.eq_ofNat_of_zero_le k2.1
  have k3 := bounds32 w3
  obtain ⟨q3, rfl⟩ := Int.eq_ofNat_of_zero_le k3.1
  have k4 := bounds32 w4
  obtain ⟨q4, rfl⟩ := Int.eq_ofNat_of_zero_le k4.1
  have k5 := bounds32 w5
  obtain ⟨q5, rfl⟩ := Int.eq_ofNat_of_zero_le k5.1
  exact ⟨⟨q0, q1, q2, q3, q4, q5⟩, rfl, by show q0 < _; omega, by show q1 < _; omega, by show q2 < _; omega, by show q3 < _; omega, by show q4 < _; omega, by show q5 < _; omega⟩
/-- a map's own numbers that came in as a parameter -/
theorem map_arg {v : Value} {dd : DataW H} {pl : List MemPlace} {r : Reach} {b0 : Nat} (hv : Value.okWide Try.prog w r b0 32 v) (h : DataW.Trod enc Try.prog w base (fun _ => true) true 32 v dd pl) : ∃ s : M, v = s.val ∧ MOk s := by
  have ht := Try.underlying32
  simp only [Value.okWide, ht] at hv
  obtain ⟨cs, rfl, hsz, _⟩ := hv
  obtain ⟨fuel, hf0⟩ := h
  have hf1 : DataW.trod enc Try.prog w base (fun _ => true) true fuel 32 cs.toList = some (dd, pl) := by simpa [Value.cells] using hf0
  obtain ⟨m, hc, hm⟩ := open_map hf1
  refine ⟨m, ?_, hm⟩
  unfold M.cells at hc
  unfold M.val
  rw [← Array.toList_inj.1 (show cs.toList = (#[.int .u32 m.a, .int .u32 m.b, .int .u32 m.c, .int .u32 m.d, .int .u32 m.e, .int .u32 m.f] : Array Value).toList from hc)]
theorem lies_u32s {cs : List Value} {x : DataW H × List MemPlace} (h : DataW.trod enc Try.prog w base (fun _ => true) true fuel 31 cs = some x) : ∃ (v : Value) (L : List Nat), cs = [v] ∧ U32s w v L ∧ Small L := by
  obtain ⟨v, L, h1, h2, h3⟩ := lies_ints Try.underlying31 Try.underlying22 cellsU h
  have e : L.map (Value.int .u32) = (L.map Int.toNat).map (fun (n : Nat) => Value.int .u32 (n : Int)) := by
    rw [List.map_map]
    refine List.map_congr_left fun n hn => ?_
    have := bounds32 (h3 n hn)
    show Value.int .u32 n = Value.int .u32 ((n.toNat : Nat) : Int)
    rw [Int.toNat_of_nonneg this.1]
  refine ⟨v, L.map Int.toNat, h1, ?_, fun y hy => ?_⟩
  · unfold U32s
    rw [List.length_map, ← e]
    exact h2
  · obtain ⟨n, hn, rfl⟩ := List.mem_map.1 hy
    have := bounds32 (h3 n hn)
    omega
end
end Go.Proofs.Ytdakfdecfpebcaa.Bmp
