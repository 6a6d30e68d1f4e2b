/- Several texts in one, each under its own heading. -/
import Derived.Lib.SmallJoins
import Derived.OpenShut
import Derived.Test.YteopcjfakhmifaaPk01
import Derived.Test.YteopcjfakhmifaaPk38
import Derived.Test.YteopcjfakhmifaaPk22
import Derived.Test.YteopcjfakhmifaaPk15
/- What comes in to the laws on volumes' contents: nodes, maps, slices of inodes and of nodes. -/
namespace Go.Proofs.Yteopcjfakhmifaa.Vol
open Go.RowKit Go.ChangeShapes Go.WideShapes Go.Deep
open Ino (I M IOk MOk)
open Pln (Nd nd Nodes)
set_option linter.unusedVariables false
theorem bounds64 {n : Int} (h : (Lit.int .i64 n).wf = true) : -9223372036854775808 ≤ n ∧ n ≤ 9223372036854775807 := by
  have h1 : IntKind.i64.min = -9223372036854775808 := rfl
  have h2 : IntKind.i64.max = 9223372036854775807 := rfl
  simp only [Lit.wf, Bool.and_eq_true, decide_eq_true_eq] at h
  omega
theorem boundsU {n : Int} (h : (Lit.int .u64 n).wf = true) : 0 ≤ n ∧ n ≤ 18446744073709551615 := by
  have h1 : IntKind.u64.min = 0 := rfl
  have h2 : IntKind.u64.max = 18446744073709551615 := rfl
  simp only [Lit.wf, Bool.and_eq_true, decide_eq_true_eq] at h
  omega
theorem bounds16 {n : Int} (h : (Lit.int .u16 n).wf = true) : 0 ≤ n ∧ n ≤ 65535 := by
  have h1 : IntKind.u16.min = 0 := rfl
  have h2 : IntKind.u16.max = 65535 := rfl
  simp only [Lit.wf, Bool.and_eq_true, decide_eq_true_eq] at h
  omega
theorem cells_open_nd : Try.prog.cellsOf 38 = 5 := by kernel_rfl
theorem cells_int : Try.prog.cellsOf 3 = 1 := by kernel_rfl
theorem cells_uint16 : Try.prog.cellsOf 35 = 1 := by kernel_rfl
theorem cells_uint64 : Try.prog.cellsOf 36 = 1 := by kernel_rfl
theorem cells_string : Try.prog.cellsOf 9 = 1 := by kernel_rfl
theorem list5 {α : Type} {l : List α} (h : l.length = 5) : ∃ c0 c1 c2 c3 c4, l = [c0, c1, c2, c3, c4] := by
  match l, h with
  | [a, b, c, d, e], _ => exact ⟨a, b, c, d, e, rfl⟩
section
set_option maxRecDepth 100000
variable {H : Type} {enc : TypeId × Value → H} {w : World} {base fuel : Nat} {cs : List Value} {x : DataW H × List MemPlace}
theorem open_nd {n : Nat} {c : List Value} {y : DataW H × List MemPlace} (h : DataW.trod enc Try.prog w base (fun _ => true) true n 38 c = some y) (hk : ∀ k ∈ y.1.weights Try.prog 38, k ≤ 281474976710656) : ∃ s : Nd, c = s.cells ∧ NdOk s ∧ s.data.size ≤ 281474976710656 := by
  obtain ⟨xs, m, _, hy, hl, hxl, hf⟩ := DataW.trod_struct Try.underlying38 h
  rw [cells_open_nd] at hl
  obtain ⟨c0, c1, c2, c3, c4, rfl⟩ := list5 hl
  have hxs : xs.length = 5 := by simpa using hxl
  have hz : ∀ i, i < 5 → ∃ z, xs[i]? = some z := fun i hi => ⟨xs[i]'(by omega), by simp⟩
  have f0 : DataW.trod enc Try.prog w base (fun _ => true) true m 3 [c0] = xs[0]? := by have hh : DataW.trod enc Try.prog w base (fun _ => true) true m 3 (([c0, c1, c2, c3, c4].drop 0).take (Try.prog.cellsOf 3)) = xs[0]? := hf 0 _ rfl; rw [cells_int] at hh; exact hh
  have f1 : DataW.trod enc Try.prog w base (fun _ => true) true m 35 [c1] = xs[1]? := by have hh : DataW.trod enc Try.prog w base (fun _ => true) true m 35 (([c0, c1, c2, c3, c4].drop 1).take (Try.prog.cellsOf 35)) = xs[1]? := hf 1 _ rfl; rw [cells_uint16] at hh; exact hh
  have f2 : DataW.trod enc Try.prog w base (fun _ => true) true m 35 [c2] = xs[2]? := by have hh : DataW.trod enc Try.prog w base (fun _ => true) true m 35 (([c0, c1, c2, c3, c4].drop 2).take (Try.prog.cellsOf 35)) = xs[2]? := hf 2 _ rfl; rw [cells_uint16] at hh; exact hh
  have f3 : DataW.trod enc Try.prog w base (fun _ => true) true m 36 [c3] = xs[3]? := by have hh : DataW.trod enc Try.prog w base (fun _ => true) true m 36 (([c0, c1, c2, c3, c4].drop 3).take (Try.prog.cellsOf 36)) = xs[3]? := hf 3 _ rfl; rw [cells_uint64] at hh; exact hh
  have f4 : DataW.trod enc Try.prog w base (fun _ => true) true m 9 [c4] = xs[4]? := by have hh : DataW.trod enc Try.prog w base (fun _ => true) true m 9 (([c0, c1, c2, c3, c4].drop 4).take (Try.prog.cellsOf 9)) = xs[4]? := hf 4 _ rfl; rw [cells_string] at hh; exact hh
  obtain ⟨z0, h0⟩ := hz 0 (by omega)
  obtain ⟨z1, h1⟩ := hz 1 (by omega)
  obtain ⟨z2, h2⟩ := hz 2 (by omega)
  obtain ⟨z3, h3⟩ := hz 3 (by omega)
  obtain ⟨z4, h4⟩ := hz 4 (by omega)
  rw [h0] at f0
  rw [h1] at f1
  rw [h2] at f2
  rw [h3] at f3
  rw [h4] at f4
  obtain ⟨n0, e0, _, w0⟩ := DataW.trod_int Try.underlying3 f0
  obtain ⟨n1, e1, _, w1⟩ := DataW.trod_int Try.underlying35 f1
  obtain ⟨n2, e2, _, w2⟩ := DataW.trod_int Try.underlying35 f2
  obtain ⟨n3, e3, _, w3⟩ := DataW.trod_int Try.underlying36 f3
  obtain ⟨n4, e4, y4, w4⟩ := DataW.trod_string Try.underlying9 f4
  have hw4 : n4.size ≤ 281474976710656 := by
    have hd : (xs.map (·.1))[4]? = some z4.1 := by rw [List.getElem?_map, h4]; rfl
    have := hk n4.data.toList.length (by
      rw [hy]
      simp only [DataW.weights, Try.underlying38]
      exact DataW.weights_mem_each (j := 4) (t := 9) rfl hd _ (by rw [y4]; simp [DataW.weights]))
    rwa [Array.length_toList] at this
  simp only [List.cons.injEq, and_true] at e0 e1 e2 e3 e4
  subst e0 e1 e2 e3 e4
  have k0 := bounds64 w0
  have k1 := bounds16 w1
  obtain ⟨q1, rfl⟩ := Int.eq_ofNat_of_zero_le k1.1
  have k2 := bounds16 w2
  obtain ⟨q2, rfl⟩ := Int.eq_ofNat_of_zero_le k2.1
  have k3 := boundsU w3
  obtain ⟨q3, rfl⟩ := Int.eq_ofNat_of_zero_le k3.1
  exact ⟨⟨n0, q1, q2, q3, n4⟩, rfl, ⟨⟨by show _ ≤ n0; omega, by show n0 ≤ _; omega⟩, by show q1 < _; omega, by show q2 < _; omega, by show q3 < _; omega⟩, hw4⟩
theorem lies_nodes (h : DataW.trod enc Try.prog w base (fun _ => true) true fuel 42 cs = some x) (hk : ∀ k ∈ x.1.weights Try.prog 42, k ≤ 281474976710656) :
    ∃ (v : Value) (L : List Nd), cs = [v] ∧ Nodes w v L ∧ (∀ o ∈ L, NdOk o ∧ o.data.size ≤ 281474976710656) := by
  obtain ⟨v, L, h1, h2, h3, _⟩ := lies_flatW Nd.cells (fun o => NdOk o ∧ o.data.size ≤ 281474976710656) 5 Try.underlying42 cells_open_nd (by decide) 281474976710656 hk (fun n c y hh hk => open_nd hh hk) h
  exact ⟨v, L, h1, h2, h3⟩
/-- a node that came in as a parameter -/
theorem node_arg {v : Value} {dd : DataW H} {pl : List MemPlace} {r : Reach} {b0 : Nat} (hv : Value.okWide Try.prog w r b0 38 v) (h : DataW.Trod enc Try.prog w base (fun _ => true) true 38 v dd pl) (hk : ∀ k ∈ dd.weights Try.prog 38, k ≤ 281474976710656) : ∃ s : Nd, v = s.val ∧ NdOk s ∧ s.data.size ≤ 281474976710656 := by
  obtain ⟨cs, rfl, hsz⟩ := okWide_struct Try.underlying38 hv
  obtain ⟨fuel, hf0⟩ := h
  have hf1 : DataW.trod enc Try.prog w base (fun _ => true) true fuel 38 cs.toList = some (dd, pl) := by simpa [Value.cells] using hf0
  obtain ⟨s, e, h1, h2⟩ := open_nd hf1 hk
  refine ⟨s, ?_, h1, h2⟩
  obtain ⟨l⟩ := cs
  have e2 : l = s.cells := e
  rw [e2]
  rfl
/-- a map that came in as a parameter -/
theorem map_arg {v : Value} {dd : DataW H} {pl : List MemPlace} {r : Reach} {b0 : Nat} (hv : Value.okWide Try.prog w r b0 39 v) (h : DataW.Trod enc Try.prog w base (fun _ => true) true 39 v dd pl) : ∃ m : M, v = m.val ∧ MOk m := by
  have ht := Try.underlying39
  simp only [Value.okWide, ht] at hv
  obtain ⟨cs, rfl, hsz, _⟩ := hv
  obtain ⟨fuel, hf0⟩ := h
  have hf1 : DataW.trod enc Try.prog w base (fun _ => true) true fuel 39 cs.toList = some (dd, pl) := by simpa [Value.cells] using hf0
  obtain ⟨m, hc, hm⟩ := Ino.open_map hf1
  refine ⟨m, ?_, hm⟩
  unfold Ino.M.cells at hc
  unfold Ino.M.val
  rw [← Array.toList_inj.1 (show cs.toList = (#[.int .u32 m.a, .int .u32 m.b, .int .u32 m.c, .int .u32 m.d, .int .u32 m.e, .int .u32 m.f] : Array Value).toList from hc)]
theorem open_ino {n : Nat} {c : List Value} {y : DataW H × List MemPlace} (h : DataW.trod enc Try.prog w base (fun _ => true) true n 41 c = some y) : ∃ s : I, c = cellsI s ∧ IOk s := by
  obtain ⟨xs, m, _, _, hl, hxl, hf⟩ := DataW.trod_struct Try.underlying41 h
  rw [Ino.cells_inode] at hl
  obtain ⟨c0, c1, c2, c3, c4, c5, c6, c7, c8, c9, c10, c11, rfl⟩ := Ino.list12 hl
  have hxs : xs.length = 7 := by simpa using hxl
  have hz : ∀ i, i < 7 → ∃ z, xs[i]? = some z := fun i hi => ⟨xs[i]'(by omega), by simp⟩
  have f0 : DataW.trod enc Try.prog w base (fun _ => true) true m 3 [c0] = xs[0]? := by have hh : DataW.trod enc Try.prog w base (fun _ => true) true m 3 (([c0, c1, c2, c3, c4, c5, c6, c7, c8, c9, c10, c11].drop 0).take (Try.prog.cellsOf 3)) = xs[0]? := hf 0 _ rfl; rw [Ino.cells_int] at hh; exact hh
  obtain ⟨z0, h0⟩ := hz 0 (by omega)
  rw [h0] at f0
  obtain ⟨n0, e0, _, w0⟩ := DataW.trod_int Try.underlying3 f0
  have f1 : DataW.trod enc Try.prog w base (fun _ => true) true m 35 [c1] = xs[1]? := by have hh : DataW.trod enc Try.prog w base (fun _ => true) true m 35 (([c0, c1, c2, c3, c4, c5, c6, c7, c8, c9, c10, c11].drop 1).take (Try.prog.cellsOf 35)) = xs[1]? := hf 1 _ rfl; rw [Ino.cells_u16] at hh; exact hh
  obtain ⟨z1, h1⟩ := hz 1 (by omega)
  rw [h1] at f1
  obtain ⟨n1, e1, _, w1⟩ := DataW.trod_int Try.underlying35 f1
  have f2 : DataW.trod enc Try.prog w base (fun _ => true) true m 35 [c2] = xs[2]? := by have hh : DataW.trod enc Try.prog w base (fun _ => true) true m 35 (([c0, c1, c2, c3, c4, c5, c6, c7, c8, c9, c10, c11].drop 2).take (Try.prog.cellsOf 35)) = xs[2]? := hf 2 _ rfl; rw [Ino.cells_u16] at hh; exact hh
  obtain ⟨z2, h2⟩ := hz 2 (by omega)
  rw [h2] at f2
  obtain ⟨n2, e2, _, w2⟩ := DataW.trod_int Try.underlying35 f2
  have f3 : DataW.trod enc Try.prog w base (fun _ => true) true m 23 [c3] = xs[3]? := by have hh : DataW.trod enc Try.prog w base (fun _ => true) true m 23 (([c0, c1, c2, c3, c4, c5, c6, c7, c8, c9, c10, c11].drop 3).take (Try.prog.cellsOf 23)) = xs[3]? := hf 3 _ rfl; rw [Ino.cellsU] at hh; exact hh
  obtain ⟨z3, h3⟩ := hz 3 (by omega)
  rw [h3] at f3
  obtain ⟨n3, e3, _, w3⟩ := DataW.trod_int Try.underlying23 f3
  have f4 : DataW.trod enc Try.prog w base (fun _ => true) true m 36 [c4] = xs[4]? := by have hh : DataW.trod enc Try.prog w base (fun _ => true) true m 36 (([c0, c1, c2, c3, c4, c5, c6, c7, c8, c9, c10, c11].drop 4).take (Try.prog.cellsOf 36)) = xs[4]? := hf 4 _ rfl; rw [Ino.cells_u64] at hh; exact hh
  obtain ⟨z4, h4⟩ := hz 4 (by omega)
  rw [h4] at f4
  obtain ⟨n4, e4, _, w4⟩ := DataW.trod_int Try.underlying36 f4
  have f5 : DataW.trod enc Try.prog w base (fun _ => true) true m 3 [c5] = xs[5]? := by have hh : DataW.trod enc Try.prog w base (fun _ => true) true m 3 (([c0, c1, c2, c3, c4, c5, c6, c7, c8, c9, c10, c11].drop 5).take (Try.prog.cellsOf 3)) = xs[5]? := hf 5 _ rfl; rw [Ino.cells_int] at hh; exact hh
  obtain ⟨z5, h5⟩ := hz 5 (by omega)
  rw [h5] at f5
  obtain ⟨n5, e5, _, w5⟩ := DataW.trod_int Try.underlying3 f5
  have f6 : DataW.trod enc Try.prog w base (fun _ => true) true m 39 [c6, c7, c8, c9, c10, c11] = xs[6]? := by have hh : DataW.trod enc Try.prog w base (fun _ => true) true m 39 (([c0, c1, c2, c3, c4, c5, c6, c7, c8, c9, c10, c11].drop 6).take (Try.prog.cellsOf 39)) = xs[6]? := hf 6 _ rfl; rw [Ino.cells_map] at hh; exact hh
  obtain ⟨z6, h6⟩ := hz 6 (by omega)
  rw [h6] at f6
  obtain ⟨mm, e6, hm⟩ := Ino.open_map f6
  obtain ⟨ma, mb, mc, md, me, mf⟩ := mm
  unfold Ino.M.cells at e6
  simp only [List.cons.injEq, and_true] at e0 e1 e2 e3 e4 e5 e6
  obtain ⟨g0, g1, g2, g3, g4, g5⟩ := e6
  subst e0 e1 e2 e3 e4 e5 g0 g1 g2 g3 g4 g5
  have k0 := Ino.bounds64 w0
  have k1 := Ino.bounds16 w1
  have k2 := Ino.bounds16 w2
  have k3 := Ino.bounds32 w3
  have k4 := Ino.boundsU w4
  have k5 := Ino.bounds64 w5
  obtain ⟨q1, rfl⟩ := Int.eq_ofNat_of_zero_le k1.1
  obtain ⟨q2, rfl⟩ := Int.eq_ofNat_of_zero_le k2.1
  obtain ⟨q3, rfl⟩ := Int.eq_ofNat_of_zero_le k3.1
  obtain ⟨q4, rfl⟩ := Int.eq_ofNat_of_zero_le k4.1
  exact ⟨⟨n0, q1, q2, q3, q4, n5, ma, mb, mc, md, me, mf⟩, rfl, ⟨k0, by show q1 < _; omega, by show q2 < _; omega, by show q3 < _; omega, by show q4 < _; omega, k5, hm⟩⟩
theorem lies_inos (h : DataW.trod enc Try.prog w base (fun _ => true) true fuel 50 cs = some x) : ∃ (v : Value) (L : List I), cs = [v] ∧ Inos w v L ∧ (∀ o ∈ L, IOk o) := by
  obtain ⟨v, L, h1, h2, h3, _⟩ := lies_flat cellsI IOk 12 Try.underlying50 Ino.cells_inode (by decide) (fun n c y hh => open_ino hh) h
  exact ⟨v, L, h1, h2, h3⟩
end
end Go.Proofs.Yteopcjfakhmifaa.Vol
/- When two lists of files are the same, by the document; which ones the laws take (few). -/
namespace Go.Proofs.Yteopcjfakhmifaa.Pln
open Go.RowKit
attribute [local go_sem] Oper.semAt_some
set_option linter.unusedVariables false
set_option linter.unusedSimpArgs false
theorem nd_ext {A B : List Nd} (hl : A.length = B.length) (h : ∀ j, j < A.length → nd A j = nd B j) : A = B := by
  apply List.ext_getElem? 
  intro i
  by_cases hi : i < A.length
  · rw [nd_get hi, nd_get (hl ▸ hi), h i hi]
  · rw [List.getElem?_eq_none (by omega), List.getElem?_eq_none (by omega)]
/-- what the laws take: sixty numbers, directories of two thousand bytes -/
def fewP (l : List Nd) : Prop := (∀ i, i < l.length → ¬ ((nd l i).kind = 2 ∧ 2000 < (nd l i).data.size)) ∧ l.length ≤ 60
instance (l : List Nd) : Decidable (fewP l) := by unfold fewP; exact @instDecidableAnd _ _ (Nat.decidableBallLT _ _) _
section
set_option maxRecDepth 100000
set_option maxHeartbeats 2000000
theorem same_any (v1 v2 : Value) (A B : List Nd) (w : World) (h1 : Nodes w v1 A) (h2 : Nodes w v2 B) : Calls Try.prog 24 #[v1, v2] w (Ans w (.bool (decide (A = B)))) := by
  obtain ⟨a1, cap1, rfl, hn1, hm1⟩ := h1.parts
  obtain ⟨a2, cap2, rfl, hn2, hm2⟩ := h2.parts
  by_cases hl : A.length = B.length
  · have hq : ((A.length : Int) != (B.length : Int)) = false := by simp [hl]
    obtain ⟨N, hN⟩ : ∃ N, A.length = N := ⟨_, rfl⟩
    have H1 := Lib.hid h1
    have H2 := Lib.hid h2
    have HEQ : Hid ((∀ j, j < N → nd A j = nd B j) → A = B) := fun h => nd_ext hl (fun j hj => h j (by omega))
    have HNE : Hid (∀ j, nd A j ≠ nd B j → ¬ A = B) := fun j h e => h (by rw [e])
    rw [← hl] at H2 hn2 hq ⊢
    have hBN : B.length = N := by omega
    rw [hN] at H1 H2 hn1 hn2 hq ⊢
    have HN1 := Lib.hid hN
    have HN2 := Lib.hid hBN
    clear h1 h2 hN hBN hl
    obtain ⟨W0, rfl⟩ : ∃ W0 : World, W0 = w := ⟨_, rfl⟩
    go_enter Try.func24, Try.ntmps24
    go_wp2
    go_loopw [5] (fun i wr => ∃ k : Nat, k ≤ N ∧ i = .int .i64 (k : Int) ∧ Hid (∀ j, j < k → nd A j = nd B j) ∧ Below W0.heap.size W0 wr) (fun i _ => N - (intOf i).toNat)
    case atStart => exact ⟨0, by omega, rfl, fun j hj => by omega, Below.refl _ _⟩
    case round =>
      obtain ⟨k, hk, rfl, HU, hB⟩ := hrel
      by_cases hlt : k < N
      · obtain ⟨b1, off1, cap3, e1, c0, c1, c2, c3, c4⟩ := (H1.out.below hB).at (k := k) (by rw [HN1.out]; exact hlt)
        obtain ⟨b2, off2, cap4, e2, d0, d1, d2, d3, d4⟩ := (H2.out.below hB).at (k := k) (by rw [HN2.out]; exact hlt)
        rw [HN1.out] at e1
        rw [HN2.out] at e2
        cases e1
        cases e2
        have HBq := Lib.hid hB
        have hq := fun W => neqN (nd A k) (nd B k) W
        unfold Nd.val at hq
        by_cases hx : nd A k = nd B k
        · rw [decide_eq_true hx] at hq
          have hq1 : ∀ W, (binOp .neq 38 (.agg #[.int .i64 (nd A k).kind, .int .u16 (nd A k).mode, .int .u16 (nd A k).links, .int .u64 (nd A k).time, .string (nd A k).data]) (.agg #[.int .i64 (nd B k).kind, .int .u16 (nd B k).mode, .int .u16 (nd B k).links, .int .u64 (nd B k).time, .string (nd B k).data])).run Try.prog W = .ok (.bool false) W := hq
          have HX := Lib.hid hx
          clear hx hq
          go_wp2
          go_quiet (fail)
          go_wp2
          go_roundw
          case rel => exact ⟨k + 1, by omega, by go_num, fun j hj => (by rcases Nat.lt_succ_iff_lt_or_eq.1 hj with h | h; exact HU.out j h; rw [h]; exact HX.out), below_drewN HBq.out _⟩
          case measure => simp [intOf]; omega
        · rw [decide_eq_false hx] at hq
          have hq1 : ∀ W, (binOp .neq 38 (.agg #[.int .i64 (nd A k).kind, .int .u16 (nd A k).mode, .int .u16 (nd A k).links, .int .u64 (nd A k).time, .string (nd A k).data]) (.agg #[.int .i64 (nd B k).kind, .int .u16 (nd B k).mode, .int .u16 (nd B k).links, .int .u64 (nd B k).time, .string (nd B k).data])).run Try.prog W = .ok (.bool true) W := hq
          have HX := Lib.hid (HNE.out k hx)
          clear hx hq
          go_wp2
          go_quiet (fail)
          go_wp2
          go_ret
          exact ⟨by rw [decide_eq_false HX.out]; rfl, below_drewN HBq.out _⟩
      · obtain rfl : k = N := by omega
        have HA := Lib.hid (HEQ.out HU.out)
        go_wp2
        go_ret
        exact ⟨by rw [decide_eq_true HA.out]; rfl, hB⟩
  · have hq : ((A.length : Int) != (B.length : Int)) = true := by simp; omega
    have HA : Hid (¬ A = B) := fun e => hl (by rw [e])
    clear h1 h2
    go_enter Try.func24, Try.ntmps24
    go_wp2
    go_ret
    exact ⟨by rw [decide_eq_false HA.out]; rfl, Below.refl _ _⟩
end
end Go.Proofs.Yteopcjfakhmifaa.Pln
