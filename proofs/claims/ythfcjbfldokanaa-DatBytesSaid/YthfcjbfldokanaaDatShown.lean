/- What stands ahead of every law on tables. -/
import Derived.Test.YthfcjbfldokanaaDatMov
import Derived.Test.YthfcjbfldokanaaDatLives
namespace Go.Proofs.Ythfcjbfldokanaa.Dat
open Go.RowKit
attribute [local go_sem] Oper.semAt_some
set_option linter.unusedVariables false

theorem trs_new (w : World) (L : List T) (arr : Array Value) (h : arr.toList = L.flatMap T.cells) (hl : L.length ≤ maxLen) : Trs (w.alloc (.cells arr 40)) (.slice (some ⟨w.heap.size, 0, none⟩) L.length L.length) L := by
  refine ⟨_, L.length, rfl, Nat.le_refl _, ⟨hl, fun e => by cases e⟩, flat_length T.cells 3 L (fun _ _ => rfl), fun _ => ⟨w.heap.size, 0, rfl, fun j u hj => ?_⟩⟩
  rw [← h] at hj
  have hn : (w.alloc (.cells arr 40)).heap[w.heap.size]? = some (.cells arr 40) := World.alloc_heap_new w _
  simp only [World.cell?, hn, Nat.zero_add]
  rw [← hj, Array.getElem?_toList]
  rfl
theorem cps_new (w : World) (C : List Int) (arr : Array Value) (h : arr.toList = C.map (.int .u64)) (hl : C.length ≤ maxLen) : Cps (w.alloc (.cells arr 24)) (.slice (some ⟨w.heap.size, 0, none⟩) C.length C.length) C := by
  refine ⟨_, C.length, rfl, Nat.le_refl _, ⟨hl, fun e => by cases e⟩, by simp, fun _ => ⟨w.heap.size, 0, rfl, fun j u hj => ?_⟩⟩
  rw [← h] at hj
  have hn : (w.alloc (.cells arr 24)).heap[w.heap.size]? = some (.cells arr 24) := World.alloc_heap_new w _
  simp only [World.cell?, hn, Nat.zero_add]
  rw [← hj, Array.getElem?_toList]
  rfl
def TL : List T := [T.zero, ⟨16, 1, 0⟩]
def TM : List T := [T.zero, ⟨16, 1, 3⟩]
def TN : List T := [T.zero, T.zero]
section
set_option maxRecDepth 100000
set_option maxHeartbeats 2000000
theorem beg0 (v : Value) (W : World) (h : Trs W v [T.zero]) : Calls Try.prog 11 #[v, .int .u32 16, .int .u64 1] W fun e w' => ∃ b off c, e = .returned (.tuple #[.slice (some ⟨b, off, none⟩) 2 c, .int .u32 1, .int .i64 0]) ∧ Trs w' (.slice (some ⟨b, off, none⟩) 2 c) TL ∧ Below W.heap.size W w' := by
  have := begin_any v [T.zero] 16 1 W h
  unfold BegPost at this
  rw [show begI [T.zero] 16 1 = 1 from by decide, show begE [T.zero] 16 1 = 0 from by decide, show begV [T.zero] 16 1 = TL from by decide] at this
  refine this.mono ?_
  rintro e w' ⟨v, rfl, h1, h2⟩
  obtain ⟨b, off, c, rfl, _⟩ := h1.at (k := 0) (by decide)
  exact ⟨b, off, c, rfl, h1, h2⟩
theorem end3 (v : Value) (W : World) (h : Trs W v TL) : Calls Try.prog 18 #[v, .int .u32 1, .int .u64 3] W fun e w' => ∃ b off c, e = .returned (.tuple #[.slice (some ⟨b, off, none⟩) 2 c, .int .i64 0]) ∧ Trs w' (.slice (some ⟨b, off, none⟩) 2 c) TM ∧ Below W.heap.size W w' := by
  have := end_any v TL 1 3 W h (by decide)
  unfold TabPost at this
  rw [show endE TL 1 3 = 0 from by decide, show endV TL 1 3 = TM from by decide] at this
  refine this.mono ?_
  rintro e w' ⟨v, rfl, h1, h2⟩
  obtain ⟨b, off, c, rfl, _⟩ := h1.at (k := 0) (by decide)
  exact ⟨b, off, c, rfl, h1, h2⟩
theorem end1 (v : Value) (W : World) (h : Trs W v TL) : Calls Try.prog 18 #[v, .int .u32 1, .int .u64 1] W fun e w' => ∃ b off c, e = .returned (.tuple #[.slice (some ⟨b, off, none⟩) 2 c, .int .i64 0]) ∧ Trs w' (.slice (some ⟨b, off, none⟩) 2 c) TN ∧ Below W.heap.size W w' := by
  have := end_any v TL 1 1 W h (by decide)
  unfold TabPost at this
  rw [show endE TL 1 1 = 0 from by decide, show endV TL 1 1 = TN from by decide] at this
  refine this.mono ?_
  rintro e w' ⟨v, rfl, h1, h2⟩
  obtain ⟨b, off, c, rfl, _⟩ := h1.at (k := 0) (by decide)
  exact ⟨b, off, c, rfl, h1, h2⟩
theorem lv0 (W : World) : Calls Try.prog 22 #[.agg #[.int .u32 16, .int .u64 1, .int .u64 0], .slice none 0 0] W (Ans W (.bool true)) := by
  have := lives_any ⟨16, 1, 0⟩ (.slice none 0 0) [] W (Cps.nil W)
  rw [show livesB ⟨16, 1, 0⟩ [] = true from by decide] at this
  exact this
theorem lv2 (v : Value) (W : World) (h : Cps W v [2]) : Calls Try.prog 22 #[.agg #[.int .u32 16, .int .u64 1, .int .u64 3], v] W (Ans W (.bool true)) := by
  have := lives_any ⟨16, 1, 3⟩ v [2] W h
  rw [show livesB ⟨16, 1, 3⟩ [2] = true from by decide] at this
  exact this
theorem lv3 (v : Value) (W : World) (h : Cps W v [3]) : Calls Try.prog 22 #[.agg #[.int .u32 16, .int .u64 1, .int .u64 3], v] W (Ans W (.bool false)) := by
  have := lives_any ⟨16, 1, 3⟩ v [3] W h
  rw [show livesB ⟨16, 1, 3⟩ [3] = false from by decide] at this
  exact this
theorem shown_any (w : World) : Calls Try.prog 9 #[] w (Ans w (.bool true)) := by
  have HN : Hid (Trs (w.alloc (.cells #[.int .u32 0, .int .u64 0, .int .u64 0] 40)) (.slice (some ⟨w.heap.size, 0, none⟩) 1 1) [T.zero]) := trs_new w [T.zero] #[.int .u32 0, .int .u64 0, .int .u64 0] rfl (by decide)
  have HB := Lib.hid (below_new w (.cells #[.int .u32 0, .int .u64 0, .int .u64 0] 40))
  have HZ := Lib.hid (fun (W : World) => eqlT T.zero T.zero W)
  have hz : ∀ W : World, (binOp .eql 40 (.agg #[.int .u32 0, .int .u64 0, .int .u64 0]) (.agg #[.int .u32 0, .int .u64 0, .int .u64 0])).run Try.prog W = .ok (.bool true) W := fun W => eqlT T.zero T.zero W
  have HC2 : Hid (∀ W : World, Cps (W.alloc (.cells #[.int .u64 2] 24)) (.slice (some ⟨W.heap.size, 0, none⟩) 1 1) [2]) := fun W => cps_new W [2] #[.int .u64 2] rfl (by decide)
  have HC3 : Hid (∀ W : World, Cps (W.alloc (.cells #[.int .u64 3] 24)) (.slice (some ⟨W.heap.size, 0, none⟩) 1 1) [3]) := fun W => cps_new W [3] #[.int .u64 3] rfl (by decide)
  have HAt : Hid (∀ (W : World) (L : List T) (b off c : Nat), L.length = 2 → Trs W (.slice (some ⟨b, off, none⟩) 2 c) L → 2 ≤ c ∧ W.cell? ⟨b, off + 3, none⟩ = some (.int .u32 (tr L 1).phys) ∧ W.cell? ⟨b, off + 3 + 1, none⟩ = some (.int .u64 (tr L 1).start) ∧ W.cell? ⟨b, off + 3 + 2, none⟩ = some (.int .u64 (tr L 1).fin)) := fun W L b off c hl h => by
    obtain ⟨a1, c1, e, g1, g2⟩ := h.parts
    rw [hl] at e g1
    cases e
    have := h.get hl (k := 1) (by decide)
    simp only [Nat.one_mul] at this
    exact ⟨by omega, this⟩
  go_enter Try.func9, Try.ntmps9
  go_wp2_with (first
    | (go_at_call 11; (with_reducible refine Calls.mono (beg0 _ _ HN.out) ?_); rintro e w1 ⟨b1, o1, c1, rfl, hL1, hB1⟩; have HB1 := Lib.hid (below_th HB.out hB1))
    | (go_at_call 18; (with_reducible refine Calls.mono (end3 _ _ hL1) ?_); rintro e w2 ⟨b2, o2, c2, rfl, hL2, hB2⟩; have hL1 := hL1.below hB2; have HB2 := Lib.hid (below_th HB1.out hB2))
    | (go_at_call 18; (with_reducible refine Calls.mono (end1 _ _ hL1) ?_); rintro e w3 ⟨b3, o3, c3, rfl, hL3, hB3⟩; have HL1 := Lib.hid (hL1.below hB3); have HL2 := Lib.hid (hL2.below hB3); have HL3 := Lib.hid hL3; have HB3 := Lib.hid (below_th HB2.out hB3); clear hL1 hL2 hL3; obtain ⟨q1, x1, x2, x3⟩ := HAt.out w3 TL b1 o1 c1 rfl HL1.out; replace x1 : w3.cell? ⟨b1, o1 + 3, none⟩ = some (.int .u32 16) := x1; replace x2 : w3.cell? ⟨b1, o1 + 3 + 1, none⟩ = some (.int .u64 1) := x2; replace x3 : w3.cell? ⟨b1, o1 + 3 + 2, none⟩ = some (.int .u64 0) := x3)
    | (go_at_call 22; (with_reducible refine Calls.mono (lv0 _) ?_); rintro e w4 ⟨rfl, hB4⟩; clear x1 x2 x3; obtain ⟨q2, y1, y2, y3⟩ := HAt.out w4 TM b2 o2 c2 rfl (HL2.out.below hB4); replace y1 : w4.cell? ⟨b2, o2 + 3, none⟩ = some (.int .u32 16) := y1; replace y2 : w4.cell? ⟨b2, o2 + 3 + 1, none⟩ = some (.int .u64 1) := y2; replace y3 : w4.cell? ⟨b2, o2 + 3 + 2, none⟩ = some (.int .u64 3) := y3; have HL2 := Lib.hid (HL2.out.below hB4); have HL3 := Lib.hid (HL3.out.below hB4); have HB4 := Lib.hid (below_th HB3.out hB4); have hC2 := HC2.out w4; have HB4n := Lib.hid (below_new w4 (.cells #[.int .u64 2] 24)))
    | (go_at_call 22; (with_reducible refine Calls.mono (lv2 _ _ hC2) ?_); rintro e w5 ⟨rfl, hB5⟩; clear hC2 y1 y2 y3; have HB5 := Lib.hid (below_th HB4.out (below_th HB4n.out hB5)); have HL3 := Lib.hid (HL3.out.below (below_th HB4n.out hB5)); obtain ⟨q3, y1, y2, y3⟩ := HAt.out w5 TM b2 o2 c2 rfl (HL2.out.below (below_th HB4n.out hB5)); replace y1 : w5.cell? ⟨b2, o2 + 3, none⟩ = some (.int .u32 16) := y1; replace y2 : w5.cell? ⟨b2, o2 + 3 + 1, none⟩ = some (.int .u64 1) := y2; replace y3 : w5.cell? ⟨b2, o2 + 3 + 2, none⟩ = some (.int .u64 3) := y3; have hC3 := HC3.out w5; have HB5n := Lib.hid (below_new w5 (.cells #[.int .u64 3] 24)))
    | (go_at_call 22; (with_reducible refine Calls.mono (lv3 _ _ hC3) ?_); rintro e w6 ⟨rfl, hB6⟩; clear hC3 y1 y2 y3; have HB6 := Lib.hid (below_th HB5.out (below_th HB5n.out hB6)); obtain ⟨q4, z1, z2, z3⟩ := HAt.out w6 TN b3 o3 c3 rfl (HL3.out.below (below_th HB5n.out hB6)); replace z1 : w6.cell? ⟨b3, o3 + 3, none⟩ = some (.int .u32 0) := z1; replace z2 : w6.cell? ⟨b3, o3 + 3 + 1, none⟩ = some (.int .u64 0) := z2; replace z3 : w6.cell? ⟨b3, o3 + 3 + 2, none⟩ = some (.int .u64 0) := z3))
  go_ret
  exact ⟨rfl, HB6.out⟩
theorem cut_any (v : Value) (L : List T) (w : World) (hL : Trs w v L) : Calls Try.prog 10 #[v] w fun e w' => ∃ v', e = .returned v' ∧ Trs w v' (L.take 2000) ∧ w = w' := by
  obtain ⟨a, cap, rfl, hn, hm⟩ := hL.parts
  obtain ⟨K, hK⟩ : ∃ K, min L.length 2000 = K := ⟨_, rfl⟩
  have hl : (L.take 2000).length = K := by rw [List.length_take, Nat.min_comm]; exact hK
  have hT : Trs w (.slice a K cap) (L.take 2000) := by
    have := hL.cut K (by omega)
    have e : L.take K = L.take 2000 := by
      rcases Nat.lt_or_ge 2000 L.length with h | h
      · rw [show K = 2000 by omega]
      · rw [show K = L.length by omega, List.take_length, List.take_of_length_le h]
    rw [e] at this
    exact this
  have HT := Lib.hid hT
  obtain ⟨N, hN⟩ : ∃ N, L.length = N := ⟨_, rfl⟩
  rw [hN] at hn ⊢
  have hK2 : K ≤ N ∧ K ≤ 2000 := by omega
  rcases Nat.lt_or_ge 2000 N with h | h
  · obtain rfl : K = 2000 := by omega
    have h2 : (2000 : Int) < (N : Int) := by omega
    clear hL hl hT hK hN hK2 h
    go_enter Try.func10, Try.ntmps10
    go_wp2
    go_ret
    exact ⟨_, rfl, HT.out, rfl⟩
  · obtain rfl : K = N := by omega
    have h2 : ¬ (2000 : Int) < (K : Int) := by omega
    clear hL hl hT hK hN hK2 h
    go_enter Try.func10, Try.ntmps10
    go_wp2
    go_ret
    exact ⟨_, rfl, HT.out, rfl⟩
end
end Go.Proofs.Ythfcjbfldokanaa.Dat
