/- What comes in to the laws on roots: a root by value, its places in memory. -/
import Derived.Lib.SmallJoins
import Derived.OpenShut
import Derived.Test.YtdniakoedgohkaaPk29
namespace Go.Proofs.Ytdniakoedgohkaa.Root
open Go.RowKit Go.Shelf Go.ChangeShapes Go.WideShapes Go.Deep
set_option linter.unusedVariables false
set_option linter.unusedSimpArgs false
set_option maxRecDepth 100000
theorem boundsU {n : Int} (h : (Lit.int .u64 n).wf = true) : 0 ≤ n ∧ n ≤ 18446744073709551615 := by
  have h1 : IntKind.u64.min = 0 := rfl
  have h2 : IntKind.u64.max = 18446744073709551615 := rfl
  simp only [Lit.wf, Bool.and_eq_true, decide_eq_true_eq] at h
  omega
theorem bounds32 {n : Int} (h : (Lit.int .u32 n).wf = true) : 0 ≤ n ∧ n ≤ 4294967295 := by
  have h1 : IntKind.u32.min = 0 := rfl
  have h2 : IntKind.u32.max = 4294967295 := rfl
  simp only [Lit.wf, Bool.and_eq_true, decide_eq_true_eq] at h
  omega
theorem cells_root : Try.prog.cellsOf 25 = 4 := by kernel_rfl
theorem cells_u32 : Try.prog.cellsOf 35 = 1 := by kernel_rfl
theorem cells_u64 : Try.prog.cellsOf 22 = 1 := by kernel_rfl
theorem cells_list : Try.prog.cellsOf 23 = 1 := by kernel_rfl
theorem list4 {α : Type} {l : List α} (h : l.length = 4) : ∃ a b c d, l = [a, b, c, d] := by
  match l, h with
  | [a, b, c, d], _ => exact ⟨a, b, c, d, rfl⟩
section
variable {H : Type} {enc : TypeId × Value → H} {w : World} {base fuel : Nat} {cs : List Value} {x : DataW H × List MemPlace}
theorem lies_u32s {n : Nat} {c : List Value} {y : DataW H × List MemPlace} (h : DataW.trod enc Try.prog w base (fun _ => true) true n 23 c = some y) : ∃ (v : Value) (L : List Nat), c = [v] ∧ Nums w v L ∧ Small L := by
  obtain ⟨v, L, h1, h2, h3⟩ := lies_ints Try.underlying23 Try.underlying35 cells_u32 h
  have e : L.map (Value.int .u32) = (L.map Int.toNat).map (fun (n : Nat) => Value.int .u32 (n : Int)) := by
    rw [List.map_map]
    refine List.map_congr_left fun n hn => ?_
    have := bounds32 (h3 n hn)
    show Value.int .u32 n = Value.int .u32 ((n.toNat : Nat) : Int)
    rw [Int.toNat_of_nonneg this.1]
  refine ⟨v, L.map Int.toNat, h1, ?_, fun k hk => ?_⟩
  · unfold Nums
    rw [← e, List.length_map]
    exact h2
  · obtain ⟨n, hn, rfl⟩ := List.mem_map.1 hk
    have := bounds32 (h3 n hn)
    omega
/-- a root that came in as a parameter -/
theorem root_arg {v : Value} {dd : DataW H} {pl : List MemPlace} {r : Reach} {b0 : Nat} (hv : Value.okWide Try.prog w r b0 25 v) (h : DataW.Trod enc Try.prog w base (fun _ => true) true 25 v dd pl) : ∃ (s : Q) (d c : Value), v = s.val d c ∧ (Nums w d s.dats ∧ Nums w c s.cps) ∧ QOk s := by
  obtain ⟨cs, rfl, hsz⟩ := okWide_struct Try.underlying25 hv
  obtain ⟨fuel, hf0⟩ := h
  have hf1 : DataW.trod enc Try.prog w base (fun _ => true) true fuel 25 cs.toList = some (dd, pl) := by simpa [Value.cells] using hf0
  clear hf0 hv
  obtain ⟨l⟩ := cs
  obtain ⟨xs, m, _, _, hl, hxl, hf⟩ := DataW.trod_struct Try.underlying25 hf1
  rw [cells_root] at hl
  obtain ⟨c0, c1, c2, c3, rfl⟩ := list4 hl
  have hxs : xs.length = 4 := by simpa using hxl
  have hz : ∀ i, i < 4 → ∃ z, xs[i]? = some z := fun i hi => ⟨xs[i]'(by omega), by simp⟩
  have f0 : DataW.trod enc Try.prog w base (fun _ => true) true m 22 [c0] = xs[0]? := by have hh : DataW.trod enc Try.prog w base (fun _ => true) true m 22 (([c0, c1, c2, c3].drop 0).take (Try.prog.cellsOf 22)) = xs[0]? := hf 0 _ rfl; rw [cells_u64] at hh; exact hh
  have f1 : DataW.trod enc Try.prog w base (fun _ => true) true m 22 [c1] = xs[1]? := by have hh : DataW.trod enc Try.prog w base (fun _ => true) true m 22 (([c0, c1, c2, c3].drop 1).take (Try.prog.cellsOf 22)) = xs[1]? := hf 1 _ rfl; rw [cells_u64] at hh; exact hh
  have f2 : DataW.trod enc Try.prog w base (fun _ => true) true m 23 [c2] = xs[2]? := by have hh : DataW.trod enc Try.prog w base (fun _ => true) true m 23 (([c0, c1, c2, c3].drop 2).take (Try.prog.cellsOf 23)) = xs[2]? := hf 2 _ rfl; rw [cells_list] at hh; exact hh
  have f3 : DataW.trod enc Try.prog w base (fun _ => true) true m 23 [c3] = xs[3]? := by have hh : DataW.trod enc Try.prog w base (fun _ => true) true m 23 (([c0, c1, c2, c3].drop 3).take (Try.prog.cellsOf 23)) = xs[3]? := hf 3 _ rfl; rw [cells_list] at hh; exact hh
  obtain ⟨z0, h0⟩ := hz 0 (by omega)
  obtain ⟨z1, h1⟩ := hz 1 (by omega)
  obtain ⟨z2, h2⟩ := hz 2 (by omega)
  obtain ⟨z3, h3⟩ := hz 3 (by omega)
  rw [h0] at f0
  rw [h1] at f1
  rw [h2] at f2
  rw [h3] at f3
  obtain ⟨n0, e0, _, w0⟩ := DataW.trod_int Try.underlying22 f0
  obtain ⟨n1, e1, _, w1⟩ := DataW.trod_int Try.underlying22 f1
  obtain ⟨u2, L2, e2, hL2, hO2⟩ := lies_u32s f2
  obtain ⟨u3, L3, e3, hL3, hO3⟩ := lies_u32s f3
  simp only [List.cons.injEq, and_true] at e0 e1 e2 e3
  subst e0 e1 e2 e3
  have k0 := boundsU w0
  have k1 := boundsU w1
  obtain ⟨q0, rfl⟩ := Int.eq_ofNat_of_zero_le k0.1
  obtain ⟨q1, rfl⟩ := Int.eq_ofNat_of_zero_le k1.1
  exact ⟨⟨q0, q1, L2, L3⟩, c2, c3, rfl, ⟨hL2, hL3⟩, ⟨by show q0 < _; omega, by show q1 < _; omega, hO2, hO3⟩⟩
end
end Go.Proofs.Ytdniakoedgohkaa.Root
