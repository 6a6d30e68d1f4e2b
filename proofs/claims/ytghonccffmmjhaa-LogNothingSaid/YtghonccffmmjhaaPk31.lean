/- Several texts in one, each under its own heading. -/
import Derived.Test.YtghonccffmmjhaaPk09
import Derived.OpenShut
import Derived.Test.YtghonccffmmjhaaPk30
import Derived.Test.YtghonccffmmjhaaPk22
/- What comes in to the laws on disks: scripts of calls, fates. -/
namespace Go.Proofs.Ytghonccffmmjhaa.Disk
open Go.RowKit Go.Shelf Go.ChangeShapes Go.WideShapes Go.Deep
set_option linter.unusedVariables false

/-- a call of a script -/
structure Op where
  k : Int
  a : Int
  n : Int
  c : Int
  p : Int
  t : Int
def I64 (n : Int) : Prop := -9223372036854775808 ≤ n ∧ n ≤ 9223372036854775807
def opCells (o : Op) : List Value := [.int .i64 o.k, .int .i64 o.a, .int .i64 o.n, .int .u8 o.c, .int .u64 o.p, .int .i64 o.t]
structure OpOk (o : Op) : Prop where
  k : I64 o.k
  a : I64 o.a
  n : I64 o.n
  c : 0 ≤ o.c ∧ o.c ≤ 255
  p : 0 ≤ o.p ∧ o.p ≤ 18446744073709551615
  t : I64 o.t
theorem opCells_length (o : Op) : (opCells o).length = 6 := rfl
theorem i64_wf {n : Int} (h : (Lit.int .i64 n).wf = true) : I64 n := by
  have h1 : IntKind.i64.min = -9223372036854775808 := rfl
  have h2 : IntKind.i64.max = 9223372036854775807 := rfl
  simp only [Lit.wf, Bool.and_eq_true, decide_eq_true_eq] at h
  unfold I64
  omega
theorem u8_wf {n : Int} (h : (Lit.int .u8 n).wf = true) : 0 ≤ n ∧ n ≤ 255 := by
  have h1 : IntKind.u8.min = 0 := rfl
  have h2 : IntKind.u8.max = 255 := rfl
  simp only [Lit.wf, Bool.and_eq_true, decide_eq_true_eq] at h
  omega
theorem u64_wf {n : Int} (h : (Lit.int .u64 n).wf = true) : 0 ≤ n ∧ n ≤ 18446744073709551615 := by
  have h1 : IntKind.u64.min = 0 := rfl
  have h2 : IntKind.u64.max = 18446744073709551615 := rfl
  simp only [Lit.wf, Bool.and_eq_true, decide_eq_true_eq] at h
  omega
theorem cells_fate : Try.prog.cellsOf 25 = 2 := by kernel_rfl
theorem cells_int : Try.prog.cellsOf 3 = 1 := by kernel_rfl
theorem cells_u8 : Try.prog.cellsOf 5 = 1 := by kernel_rfl
theorem cells_u64 : Try.prog.cellsOf 23 = 1 := by kernel_rfl

theorem list6 {α : Type} {l : List α} (h : l.length = 6) : ∃ a b c d e f, l = [a, b, c, d, e, f] := by
  match l, h with
  | [a, b, c, d, e, f], _ => exact ⟨a, b, c, d, e, f, rfl⟩
section
variable {H : Type} {enc : TypeId × Value → H} {w : World} {base fuel : Nat} {cs : List Value} {x : DataW H × List MemPlace}
theorem open_fate {n : Nat} {c0 c1 : Value} {y : DataW H × List MemPlace} (h : DataW.trod enc Try.prog w base (fun _ => true) true n 25 [c0, c1] = some y) : ∃ p t : Int, c0 = .int .u64 p ∧ c1 = .int .i64 t ∧ (0 ≤ p ∧ p ≤ 18446744073709551615) ∧ I64 t := by
  obtain ⟨xs, m, _, _, hl, _, hf⟩ := DataW.trod_struct Try.underlying25 h
  have f0 : DataW.trod enc Try.prog w base (fun _ => true) true m 23 [c0] = xs[0]? := by have hh : DataW.trod enc Try.prog w base (fun _ => true) true m 23 (([c0, c1].drop 0).take (Try.prog.cellsOf 23)) = xs[0]? := hf 0 _ rfl; rw [cells_u64] at hh; exact hh
  have f1 : DataW.trod enc Try.prog w base (fun _ => true) true m 3 [c1] = xs[1]? := by have hh : DataW.trod enc Try.prog w base (fun _ => true) true m 3 (([c0, c1].drop 1).take (Try.prog.cellsOf 3)) = xs[1]? := hf 1 _ rfl; rw [cells_int] at hh; exact hh
  have hx0 : ∃ z, xs[0]? = some z := ⟨xs[0]'(by rename_i hh; have : xs.length = 2 := by simpa using hh
                                                omega), by simp⟩
  have hx1 : ∃ z, xs[1]? = some z := ⟨xs[1]'(by rename_i hh; have : xs.length = 2 := by simpa using hh
                                                omega), by simp⟩
  obtain ⟨z0, hz0⟩ := hx0
  obtain ⟨z1, hz1⟩ := hx1
  rw [hz0] at f0
  rw [hz1] at f1
  obtain ⟨p, e0, _, w0⟩ := DataW.trod_int Try.underlying23 f0
  obtain ⟨t, e1, _, w1⟩ := DataW.trod_int Try.underlying3 f1
  exact ⟨p, t, by simpa using e0, by simpa using e1, u64_wf w0, i64_wf w1⟩
set_option maxRecDepth 100000 in
/-- a fate that came in as a parameter -/
theorem fate_arg {v : Value} {dd : DataW H} {pl : List MemPlace} {r : Reach} {b0 : Nat} (hv : Value.okWide Try.prog w r b0 25 v) (h : DataW.Trod enc Try.prog w base (fun _ => true) true 25 v dd pl) : ∃ p t : Int, v = .agg #[.int .u64 p, .int .i64 t] ∧ (0 ≤ p ∧ p ≤ 18446744073709551615) ∧ I64 t := by
  obtain ⟨c0, c1, y0, y1, n, rfl, _, _, t0, t1⟩ := Joins.open_agg2 Try.underlying25 (by kernel_rfl) cells_fate hv h
  obtain ⟨p, e0, _, w0⟩ := DataW.trod_int Try.underlying23 t0
  obtain ⟨t, e1, _, w1⟩ := DataW.trod_int Try.underlying3 t1
  simp only [List.cons.injEq, and_true] at e0 e1
  subst e0 e1
  exact ⟨p, t, rfl, u64_wf w0, i64_wf w1⟩
end
end Go.Proofs.Ytghonccffmmjhaa.Disk
/- What comes in to the laws on logs: items, and lists of items, with what they weigh; fates. -/
namespace Go.Proofs.Ytghonccffmmjhaa.Log
open Go.RowKit Go.Shelf Go.ChangeShapes Go.WideShapes Go.Deep
open Record (E EOk)
set_option linter.unusedVariables false

theorem bounds64 {n : Int} (h : (Lit.int .i64 n).wf = true) : -9223372036854775808 ≤ n ∧ n ≤ 9223372036854775807 := by
  have h1 : IntKind.i64.min = -9223372036854775808 := rfl
  have h2 : IntKind.i64.max = 9223372036854775807 := rfl
  simp only [Lit.wf, Bool.and_eq_true, decide_eq_true_eq] at h
  omega
theorem boundsU {n : Int} (h : (Lit.int .u64 n).wf = true) : 0 ≤ n ∧ n ≤ 18446744073709551615 := by
  have h1 : IntKind.u64.min = 0 := rfl
  have h2 : IntKind.u64.max = 18446744073709551615 := rfl
  simp only [Lit.wf, Bool.and_eq_true, decide_eq_true_eq] at h
  omega
theorem bounds32 {n : Int} (h : (Lit.int .u32 n).wf = true) : 0 ≤ n ∧ n ≤ 4294967295 := by
  have h1 : IntKind.u32.min = 0 := rfl
  have h2 : IntKind.u32.max = 4294967295 := rfl
  simp only [Lit.wf, Bool.and_eq_true, decide_eq_true_eq] at h
  omega
theorem cells_entry : Try.prog.cellsOf 64 = 4 := by kernel_rfl
theorem cells_item : Try.prog.cellsOf 66 = 5 := by kernel_rfl
theorem cells_int : Try.prog.cellsOf 3 = 1 := by kernel_rfl
theorem cells_u32 : Try.prog.cellsOf 62 = 1 := by kernel_rfl
theorem cells_string : Try.prog.cellsOf 9 = 1 := by kernel_rfl
theorem cells_items : Try.prog.cellsOf 39 = 1 := by kernel_rfl
theorem list4 {α : Type} {l : List α} (h : l.length = 4) : ∃ a b c d, l = [a, b, c, d] := by
  match l, h with
  | [a, b, c, d], _ => exact ⟨a, b, c, d, rfl⟩
theorem list5 {α : Type} {l : List α} (h : l.length = 5) : ∃ a b c d e, l = [a, b, c, d, e] := by
  match l, h with
  | [a, b, c, d, e], _ => exact ⟨a, b, c, d, e, rfl⟩
def ItOk (x : It) : Prop := EOk x.e ∧ x.c.size ≤ 281474976710656
section
variable {H : Type} {enc : TypeId × Value → H} {w : World} {base fuel : Nat} {cs : List Value} {x : DataW H × List MemPlace}
theorem open_entry {n : Nat} {c : List Value} {y : DataW H × List MemPlace} (h : DataW.trod enc Try.prog w base (fun _ => true) true n 64 c = some y) : ∃ s : E, c = s.cells ∧ EOk s := by
  obtain ⟨xs, m, _, _, hl, hxl, hf⟩ := DataW.trod_struct Try.underlying64 h
  rw [cells_entry] at hl
  obtain ⟨c0, c1, c2, c3, rfl⟩ := list4 hl
  have hxs : xs.length = 4 := by simpa using hxl
  have hz : ∀ i, i < 4 → ∃ z, xs[i]? = some z := fun i hi => ⟨xs[i]'(by omega), by simp⟩
  have f0 : DataW.trod enc Try.prog w base (fun _ => true) true m 3 [c0] = xs[0]? := by have hh : DataW.trod enc Try.prog w base (fun _ => true) true m 3 (([c0, c1, c2, c3].drop 0).take (Try.prog.cellsOf 3)) = xs[0]? := hf 0 _ rfl; rw [cells_int] at hh; exact hh
  have f1 : DataW.trod enc Try.prog w base (fun _ => true) true m 62 [c1] = xs[1]? := by have hh : DataW.trod enc Try.prog w base (fun _ => true) true m 62 (([c0, c1, c2, c3].drop 1).take (Try.prog.cellsOf 62)) = xs[1]? := hf 1 _ rfl; rw [cells_u32] at hh; exact hh
  have f2 : DataW.trod enc Try.prog w base (fun _ => true) true m 62 [c2] = xs[2]? := by have hh : DataW.trod enc Try.prog w base (fun _ => true) true m 62 (([c0, c1, c2, c3].drop 2).take (Try.prog.cellsOf 62)) = xs[2]? := hf 2 _ rfl; rw [cells_u32] at hh; exact hh
  have f3 : DataW.trod enc Try.prog w base (fun _ => true) true m 62 [c3] = xs[3]? := by have hh : DataW.trod enc Try.prog w base (fun _ => true) true m 62 (([c0, c1, c2, c3].drop 3).take (Try.prog.cellsOf 62)) = xs[3]? := hf 3 _ rfl; rw [cells_u32] at hh; exact hh
  obtain ⟨z0, h0⟩ := hz 0 (by omega)
  obtain ⟨z1, h1⟩ := hz 1 (by omega)
  obtain ⟨z2, h2⟩ := hz 2 (by omega)
  obtain ⟨z3, h3⟩ := hz 3 (by omega)
  rw [h0] at f0
  rw [h1] at f1
  rw [h2] at f2
  rw [h3] at f3
  obtain ⟨n0, e0, _, w0⟩ := DataW.trod_int Try.underlying3 f0
  obtain ⟨n1, e1, _, w1⟩ := DataW.trod_int Try.underlying62 f1
  obtain ⟨n2, e2, _, w2⟩ := DataW.trod_int Try.underlying62 f2
  obtain ⟨n3, e3, _, w3⟩ := DataW.trod_int Try.underlying62 f3
  simp only [List.cons.injEq, and_true] at e0 e1 e2 e3
  subst e0 e1 e2 e3
  have k1 := bounds32 w1
  have k2 := bounds32 w2
  have k3 := bounds32 w3
  obtain ⟨q1, rfl⟩ := Int.eq_ofNat_of_zero_le k1.1
  obtain ⟨q2, rfl⟩ := Int.eq_ofNat_of_zero_le k2.1
  obtain ⟨q3, rfl⟩ := Int.eq_ofNat_of_zero_le k3.1
  exact ⟨⟨n0, q1, q2, q3⟩, rfl, ⟨bounds64 w0, by show q1 < _; omega, by show q2 < _; omega, by show q3 < _; omega⟩⟩
theorem open_item {n : Nat} {c : List Value} {y : DataW H × List MemPlace} (h : DataW.trod enc Try.prog w base (fun _ => true) true n 66 c = some y) (hk : ∀ k ∈ y.1.weights Try.prog 66, k ≤ 281474976710656) : ∃ s : It, c = s.cells ∧ ItOk s := by
  obtain ⟨xs, m, _, hy, hl, hxl, hf⟩ := DataW.trod_struct Try.underlying66 h
  rw [cells_item] at hl
  obtain ⟨c0, c1, c2, c3, c4, rfl⟩ := list5 hl
  have hxs : xs.length = 2 := by simpa using hxl
  have hz : ∀ i, i < 2 → ∃ z, xs[i]? = some z := fun i hi => ⟨xs[i]'(by omega), by simp⟩
  have f0 : DataW.trod enc Try.prog w base (fun _ => true) true m 64 [c0, c1, c2, c3] = xs[0]? := by have hh : DataW.trod enc Try.prog w base (fun _ => true) true m 64 (([c0, c1, c2, c3, c4].drop 0).take (Try.prog.cellsOf 64)) = xs[0]? := hf 0 _ rfl; rw [cells_entry] at hh; exact hh
  have f1 : DataW.trod enc Try.prog w base (fun _ => true) true m 9 [c4] = xs[1]? := by have hh : DataW.trod enc Try.prog w base (fun _ => true) true m 9 (([c0, c1, c2, c3, c4].drop 4).take (Try.prog.cellsOf 9)) = xs[1]? := hf 1 _ rfl; rw [cells_string] at hh; exact hh
  obtain ⟨z0, h0⟩ := hz 0 (by omega)
  obtain ⟨z1, h1⟩ := hz 1 (by omega)
  rw [h0] at f0
  rw [h1] at f1
  obtain ⟨e, he, heo⟩ := open_entry f0
  obtain ⟨n1, e1, y1, w1⟩ := DataW.trod_string Try.underlying9 f1
  have hw1 : n1.size ≤ 281474976710656 := by
    have hd : (xs.map (·.1))[1]? = some z1.1 := by rw [List.getElem?_map, h1]; rfl
    have := hk n1.data.toList.length (by
      rw [hy]
      simp only [DataW.weights, Try.underlying66]
      exact DataW.weights_mem_each (j := 1) (t := 9) rfl hd _ (by rw [y1]; simp [DataW.weights]))
    rwa [Array.length_toList] at this
  simp only [List.cons.injEq, and_true] at e1
  subst e1
  unfold E.cells at he
  simp only [List.cons.injEq, and_true] at he
  obtain ⟨rfl, rfl, rfl, rfl⟩ := he
  exact ⟨⟨e, n1⟩, rfl, heo, hw1⟩
theorem lies_items (h : DataW.trod enc Try.prog w base (fun _ => true) true fuel 39 cs = some x) (hk : ∀ k ∈ x.1.weights Try.prog 39, k ≤ 281474976710656) :
    ∃ (v : Value) (L : List It), cs = [v] ∧ Its w v L ∧ (∀ o ∈ L, ItOk o) := by
  obtain ⟨v, L, h1, h2, h3, _⟩ := lies_flatW It.cells ItOk 5 Try.underlying39 cells_item (by decide) 281474976710656 hk (fun n c y hh hk => open_item hh hk) h
  exact ⟨v, L, h1, h2, h3⟩
/-- lists of items: each with the slice that it is in memory -/
def Recs (w : World) (v : Value) (LL : List (Value × List It)) : Prop := Lies w v LL.length 1 (LL.map (·.1)) ∧ ∀ o ∈ LL, Its w o.1 o.2
def RecsOk (LL : List (Value × List It)) : Prop := ∀ o ∈ LL, ∀ x ∈ o.2, ItOk x
theorem lies_recs (h : DataW.trod enc Try.prog w base (fun _ => true) true fuel 22 cs = some x) (hk : ∀ k ∈ x.1.weights Try.prog 22, k ≤ 281474976710656) :
    ∃ (v : Value) (LL : List (Value × List It)), cs = [v] ∧ Recs w v LL ∧ RecsOk LL := by
  obtain ⟨v, L, h1, h2, h3, _⟩ := lies_flatW (fun o : Value × List It => [o.1]) (fun o => Its w o.1 o.2 ∧ ∀ x ∈ o.2, ItOk x) 1 Try.underlying22 cells_items (by decide) 281474976710656 hk (fun n c y hh hk => by
    obtain ⟨v, L, e, hI, hO⟩ := lies_items hh hk
    exact ⟨(v, L), e, hI, hO⟩) h
  have e : ∀ L : List (Value × List It), L.flatMap (fun o => [o.1]) = L.map (·.1) := fun L => by
    induction L with
    | nil => rfl
    | cons a L ih => rw [List.flatMap_cons, ih]; rfl
  rw [e] at h2
  exact ⟨v, L, h1, ⟨h2, fun o ho => (h3 o ho).1⟩, fun o ho => (h3 o ho).2⟩
end
theorem Recs.below {w w' : World} {v : Value} {LL : List (Value × List It)} (h : Recs w v LL) (hB : Below w.heap.size w w') : Recs w' v LL := ⟨h.1.below hB, fun o ho => (h.2 o ho).below hB⟩
theorem Recs.parts {w : World} {v : Value} {LL : List (Value × List It)} (h : Recs w v LL) : ∃ a cap, v = .slice a LL.length cap ∧ LL.length ≤ cap ∧ cap ≤ 9223372036854775807 := by
  obtain ⟨a, cap, e, _, h1, h2⟩ := h.1.parts
  exact ⟨a, cap, e, h1, h2⟩
/-- the k-th list -/
theorem Recs.get {w : World} {a : Option Addr} {n cap : Nat} {LL : List (Value × List It)} (hn : LL.length = n) (h : Recs w (.slice a n cap) LL) {k : Nat} (hk : k < n) : ∃ b off o, a = some ⟨b, off, none⟩ ∧ LL[k]? = some o ∧ w.cell? ⟨b, off + k, none⟩ = some o.1 ∧ Its w o.1 o.2 ∧ o ∈ LL := by
  subst hn
  obtain ⟨o, ho⟩ : ∃ o, LL[k]? = some o := ⟨_, List.getElem?_eq_getElem hk⟩
  obtain ⟨b, off, e, hc⟩ := h.1.read (j := k) (u := o.1) (by rw [List.getElem?_map, ho]; rfl)
  have hm := List.mem_of_getElem? ho
  exact ⟨b, off, o, e, ho, hc, h.2 o hm, hm⟩
end Go.Proofs.Ytghonccffmmjhaa.Log
