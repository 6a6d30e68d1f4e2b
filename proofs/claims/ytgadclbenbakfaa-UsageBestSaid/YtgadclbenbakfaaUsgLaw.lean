/- What stands ahead of every law on segments; what comes in to these laws. -/
import Derived.Lib.SmallJoins
import Derived.OpenShut
import Derived.Test.YtgadclbenbakfaaUsgRefD
namespace Go.Proofs.Ytgadclbenbakfaa.Usage
open Go.RowKit Go.ChangeShapes Go.WideShapes Go.Deep
attribute [local go_sem] Oper.semAt_some
set_option linter.unusedVariables false

def FEW : List S := [⟨0, 0, 1⟩, ⟨4, 5, 1⟩, ⟨2, 9, 1⟩, ⟨16, 1, 1⟩, ⟨0, 0, 0⟩, ⟨0, 0, 2⟩, ⟨0, 0, 0⟩, ⟨0, 0, 0⟩]
theorem segs_new (w : World) (L : List S) (arr : Array Value) (h : arr.toList = L.flatMap S.cells) (hl : L.length ≤ maxLen) : Segs (w.alloc (.cells arr 35)) (.slice (some ⟨w.heap.size, 0, none⟩) L.length L.length) L := by
  refine ⟨_, L.length, rfl, Nat.le_refl _, ⟨hl, fun e => by cases e⟩, flat_length S.cells 3 L (fun _ _ => rfl), fun _ => ⟨w.heap.size, 0, rfl, fun j u hj => ?_⟩⟩
  rw [← h] at hj
  have hn : (w.alloc (.cells arr 35)).heap[w.heap.size]? = some (.cells arr 35) := World.alloc_heap_new w _
  simp only [World.cell?, hn, Nat.zero_add]
  rw [← hj, Array.getElem?_toList]
  rfl
section
set_option maxRecDepth 100000
theorem few_any (w : World) : Calls Try.prog 21 #[] w fun e w' => ∃ b, e = .returned (.slice (some ⟨b, 0, none⟩) 8 8) ∧ Segs w' (.slice (some ⟨b, 0, none⟩) 8 8) FEW ∧ Below w.heap.size w w' := by
  go_enter Try.func21, Try.ntmps21
  go_wp2
  go_ret
  exact ⟨_, rfl, segs_new w FEW _ rfl (by decide), below_new _ _⟩
theorem chA_few0 : chA FEW 0 10 = .tuple #[.int .i64 1, .bool true, .int .i64 0] := by rw [chA_yes (by decide) (by decide)]; rfl
theorem chA_few1 : chA FEW 1 10 = .tuple #[.int .i64 2, .bool true, .int .i64 0] := by rw [chA_yes (by decide) (by decide)]; rfl
theorem chA_few2 : chA FEW 2 10 = .tuple #[.int .i64 1, .bool true, .int .i64 0] := by rw [chA_yes (by decide) (by decide)]; rfl
theorem nxA_few : nxA FEW 4 = .tuple #[.int .i64 6, .bool true] := by unfold nxA; rfl
theorem clean_few : cleanN FEW = 3 := by decide

set_option maxHeartbeats 2000000 in
theorem shown_any (w : World) : Calls Try.prog 9 #[] w (Ans w (.bool true)) := by
  have h0 := fun v W (h : Segs W v FEW) => choose_any v FEW 0 10 W h (by decide)
  have h1 := fun v W (h : Segs W v FEW) => choose_any v FEW 1 10 W h (by decide)
  have h2 := fun v W (h : Segs W v FEW) => choose_any v FEW 2 10 W h (by decide)
  have h3 := fun v W (h : Segs W v FEW) => next_any v FEW 4 W h (by decide)
  have h4 := fun v W (h : Segs W v FEW) => cleanOnes_any v FEW W h (by decide)
  rw [chA_few0] at h0
  rw [chA_few1] at h1
  rw [chA_few2] at h2
  rw [nxA_few] at h3
  rw [clean_few] at h4
  unfold Ans at h0 h1 h2 h4
  have H0 := Lib.hid h0
  have H1 := Lib.hid h1
  have H2 := Lib.hid h2
  have H3 := Lib.hid h3
  have H4 := Lib.hid h4
  clear h0 h1 h2 h3 h4
  obtain ⟨W0, rfl⟩ : ∃ W0 : World, W0 = w := ⟨_, rfl⟩
  have hb := Below.refl W0.heap.size W0
  go_enter Try.func9, Try.ntmps9
  go_wp2_with (first
    | (go_at_call 21; refine (few_any _).mono ?_; rintro e w1 ⟨b1, rfl, hS, hB1⟩; have hb := below_th hb hB1)
    | (go_at_call 16; with_reducible refine Calls.mono (H0.out _ _ hS) ?_; rintro e w2 ⟨rfl, hB2⟩; have hb := below_th hb hB2)
    | (go_at_call 16; with_reducible refine Calls.mono (H1.out _ _ hS) ?_; rintro e w2 ⟨rfl, hB2⟩; have hb := below_th hb hB2)
    | (go_at_call 16; with_reducible refine Calls.mono (H2.out _ _ hS) ?_; rintro e w2 ⟨rfl, hB2⟩; have hb := below_th hb hB2)
    | (go_at_call 10; with_reducible refine Calls.mono (H3.out _ _ hS) ?_; rintro e w2 ⟨rfl, rfl⟩)
    | (go_at_call 14; with_reducible refine Calls.mono (H4.out _ _ hS) ?_; rintro e w2 ⟨rfl, hB2⟩; have hb := below_th hb hB2))
  go_ret
  exact ⟨rfl, hb⟩
end

/-! ### what comes in -/
structure SOk (s : S) : Prop where
  live : -9223372036854775808 ≤ s.live ∧ s.live ≤ 9223372036854775807
  begun : s.begun < 18446744073709551616
  state : -9223372036854775808 ≤ s.state ∧ s.state ≤ 9223372036854775807
theorem bounds64 {n : Int} (h : (Lit.int .i64 n).wf = true) : -9223372036854775808 ≤ n ∧ n ≤ 9223372036854775807 := by
  have h1 : IntKind.i64.min = -9223372036854775808 := rfl
  have h2 : IntKind.i64.max = 9223372036854775807 := rfl
  simp only [Lit.wf, Bool.and_eq_true, decide_eq_true_eq] at h
  omega
theorem boundsU {n : Int} (h : (Lit.int .u64 n).wf = true) : 0 ≤ n ∧ n ≤ 18446744073709551615 := by
  have h1 : IntKind.u64.min = 0 := rfl
  have h2 : IntKind.u64.max = 18446744073709551615 := rfl
  simp only [Lit.wf, Bool.and_eq_true, decide_eq_true_eq] at h
  omega
theorem cells_seg : Try.prog.cellsOf 35 = 3 := by kernel_rfl
theorem cells_int : Try.prog.cellsOf 3 = 1 := by kernel_rfl
theorem cells_u64 : Try.prog.cellsOf 29 = 1 := by kernel_rfl
theorem list3 {α : Type} {l : List α} (h : l.length = 3) : ∃ a b c, l = [a, b, c] := by
  match l, h with
  | [a, b, c], _ => exact ⟨a, b, c, rfl⟩
section
variable {H : Type} {enc : TypeId × Value → H} {w : World} {base fuel : Nat} {cs : List Value} {x : DataW H × List MemPlace}
theorem open_seg {n : Nat} {c : List Value} {y : DataW H × List MemPlace} (h : DataW.trod enc Try.prog w base (fun _ => true) true n 35 c = some y) : ∃ s : S, c = s.cells ∧ SOk s := by
  obtain ⟨xs, m, _, _, hl, hxl, hf⟩ := DataW.trod_struct Try.underlying35 h
  rw [cells_seg] at hl
  obtain ⟨c0, c1, c2, rfl⟩ := list3 hl
  have hxs : xs.length = 3 := by simpa using hxl
  have hz : ∀ i, i < 3 → ∃ z, xs[i]? = some z := fun i hi => ⟨xs[i]'(by omega), by simp⟩
  have f0 : DataW.trod enc Try.prog w base (fun _ => true) true m 3 [c0] = xs[0]? := by have hh : DataW.trod enc Try.prog w base (fun _ => true) true m 3 (([c0, c1, c2].drop 0).take (Try.prog.cellsOf 3)) = xs[0]? := hf 0 _ rfl; rw [cells_int] at hh; exact hh
  have f1 : DataW.trod enc Try.prog w base (fun _ => true) true m 29 [c1] = xs[1]? := by have hh : DataW.trod enc Try.prog w base (fun _ => true) true m 29 (([c0, c1, c2].drop 1).take (Try.prog.cellsOf 29)) = xs[1]? := hf 1 _ rfl; rw [cells_u64] at hh; exact hh
  have f2 : DataW.trod enc Try.prog w base (fun _ => true) true m 3 [c2] = xs[2]? := by have hh : DataW.trod enc Try.prog w base (fun _ => true) true m 3 (([c0, c1, c2].drop 2).take (Try.prog.cellsOf 3)) = xs[2]? := hf 2 _ rfl; rw [cells_int] at hh; exact hh
  obtain ⟨z0, h0⟩ := hz 0 (by omega)
  obtain ⟨z1, h1⟩ := hz 1 (by omega)
  obtain ⟨z2, h2⟩ := hz 2 (by omega)
  rw [h0] at f0
  rw [h1] at f1
  rw [h2] at f2
  obtain ⟨n0, e0, _, w0⟩ := DataW.trod_int Try.underlying3 f0
  obtain ⟨n1, e1, _, w1⟩ := DataW.trod_int Try.underlying29 f1
  obtain ⟨n2, e2, _, w2⟩ := DataW.trod_int Try.underlying3 f2
  simp only [List.cons.injEq, and_true] at e0 e1 e2
  subst e0 e1 e2
  have k1 := boundsU w1
  obtain ⟨q, rfl⟩ := Int.eq_ofNat_of_zero_le k1.1
  exact ⟨⟨n0, q, n2⟩, rfl, ⟨bounds64 w0, by show q < _; omega, bounds64 w2⟩⟩
theorem lies_segs (h : DataW.trod enc Try.prog w base (fun _ => true) true fuel 22 cs = some x) :
    ∃ (v : Value) (L : List S), cs = [v] ∧ Segs w v L ∧ (∀ o ∈ L, SOk o) := by
  obtain ⟨v, L, h1, h2, h3, _⟩ := lies_flat S.cells SOk 3 Try.underlying22 cells_seg (by decide) (fun n c y hh => open_seg hh) h
  exact ⟨v, L, h1, h2, h3⟩
/-- a segment that came in as a parameter -/
theorem seg_arg {v : Value} {dd : DataW H} {pl : List MemPlace} {r : Reach} {b0 : Nat} (hv : Value.okWide Try.prog w r b0 35 v) (h : DataW.Trod enc Try.prog w base (fun _ => true) true 35 v dd pl) : ∃ s : S, v = s.val ∧ SOk s := by
  obtain ⟨c0, c1, c2, y0, y1, y2, n, rfl, _, _, t0, t1, t2⟩ := Joins.open_agg3 Try.underlying35 (by kernel_rfl) cells_seg hv h
  obtain ⟨b, e0, _, w0⟩ := DataW.trod_int Try.underlying3 t0
  obtain ⟨q, e1, _, w1⟩ := DataW.trod_int Try.underlying29 t1
  obtain ⟨a, e2, _, w2⟩ := DataW.trod_int Try.underlying3 t2
  simp only [List.cons.injEq, and_true] at e0 e1 e2
  subst e0 e1 e2
  have k1 := boundsU w1
  obtain ⟨q, rfl⟩ := Int.eq_ofNat_of_zero_le k1.1
  exact ⟨⟨b, q, a⟩, rfl, ⟨bounds64 w0, by show q < _; omega, bounds64 w2⟩⟩
end
/-- the first ones -/
theorem Segs.take {w : World} {a : Option Addr} {cap K : Nat} {L : List S} (hL : Segs w (.slice a L.length cap) L) (hK : K ≤ L.length) : Segs w (.slice a K cap) (L.take K) := by
  obtain ⟨a', cap', e, hn, hm, hlen, hcells⟩ := hL
  cases e
  have hl : (L.take K).length = K := by rw [List.length_take]; omega
  refine ⟨a, cap, by rw [hl], by omega, hm, flat_length S.cells 3 _ (fun _ _ => rfl), fun hp => ?_⟩
  obtain ⟨b, off, e, hc⟩ := hcells (by omega)
  refine ⟨b, off, e, fun j u hj => hc j u ?_⟩
  have : L.flatMap S.cells = (L.take K).flatMap S.cells ++ (L.drop K).flatMap S.cells := by rw [← List.flatMap_append, List.take_append_drop]
  rw [this, List.getElem?_append_left (List.getElem?_eq_some_iff.1 hj).1]
  exact hj
end Go.Proofs.Ytgadclbenbakfaa.Usage
