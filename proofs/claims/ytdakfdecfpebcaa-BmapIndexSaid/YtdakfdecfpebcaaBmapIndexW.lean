/- BmapIndex, walked. -/
import Derived.Test.YtdakfdecfpebcaaBmpArgs
namespace Go.Proofs.Ytdakfdecfpebcaa.Bmp
open Go.RowKit Ino
attribute [local go_sem] Oper.semAt_some
set_option linter.unusedVariables false
set_option linter.unusedSimpArgs false
section
set_option maxRecDepth 100000
set_option maxHeartbeats 8000000
theorem index_no (a b : Nat) (i : Int) (w : World) (wa : a < 4294967296) (wb : b < 4294967296) (wi : -9223372036854775808 ≤ i ∧ i ≤ 9223372036854775807) (hk : ¬ wayOk a i) : Calls Try.prog 6 #[.int .u32 a, .int .u32 b, .int .i64 i] w (Ans w (.bool true)) := by
  have e1 : wayE a i = 130 := if_neg hk
  have e2 : wayV a i = [] := if_neg hk
  have h1 := fun W => way_any a i W wa wi
  unfold WayPost at h1
  rw [e1, e2] at h1
  have h3 := fun W => count_any a W wa
  have h4 := fun W => count_any b W wb
  have hm := cnt_mono (a := a) (b := b)
  generalize cntN a = x at h3 hm
  generalize cntN b = y at h4 hm
  have hii : (i != i) = false := by simp
  have H1 := Lib.hid h1
  have H3 := Lib.hid h3
  have H4 := Lib.hid h4
  clear h1 h3 h4 e1 e2 wa wb wi hk
  by_cases d0 : b < a
  · have j1 : (b : Int) < (a : Int) := by omega
    clear hm
    go_enter Try.func6, Try.ntmps6
    go_wp2_with (first
      | (go_at_call 9; (with_reducible refine Calls.mono (shown_any _) ?_); rintro e w1 ⟨rfl, hB1⟩)
      | (go_at_call 10; (with_reducible refine Calls.mono (H1.out _) ?_); rintro e w2 ⟨v2, rfl, hv2, hB2⟩; obtain ⟨av, cv, ev, _, _⟩ := hv2.parts; obtain rfl : v2 = .slice av 0 cv := ev; clear hv2))
    go_ret
    exact ⟨rfl, below_th hB1 hB2⟩
  by_cases d1 : 8193532 < b
  · have j1 : ¬ (b : Int) < (a : Int) := by omega
    have j2 : (8193532 : Int) < (b : Int) := by omega
    clear hm
    go_enter Try.func6, Try.ntmps6
    go_wp2_with (first
      | (go_at_call 9; (with_reducible refine Calls.mono (shown_any _) ?_); rintro e w1 ⟨rfl, hB1⟩)
      | (go_at_call 10; (with_reducible refine Calls.mono (H1.out _) ?_); rintro e w2 ⟨v2, rfl, hv2, hB2⟩; obtain ⟨av, cv, ev, _, _⟩ := hv2.parts; obtain rfl : v2 = .slice av 0 cv := ev; clear hv2))
    go_ret
    exact ⟨rfl, below_th hB1 hB2⟩
  have j1 : ¬ (b : Int) < (a : Int) := by omega
  have j2 : ¬ (8193532 : Int) < (b : Int) := by omega
  have j3 := hm (by omega) (by omega)
  have j4 : (x : Int) ≤ (y : Int) := by omega
  clear hm
  go_enter Try.func6, Try.ntmps6
  go_wp2_with (first
    | (go_at_call 9; (with_reducible refine Calls.mono (shown_any _) ?_); rintro e w1 ⟨rfl, hB1⟩)
    | (go_at_call 10; (with_reducible refine Calls.mono (H1.out _) ?_); rintro e w2 ⟨v2, rfl, hv2, hB2⟩; obtain ⟨av, cv, ev, _, _⟩ := hv2.parts; obtain rfl : v2 = .slice av 0 cv := ev; clear hv2)
    | (go_at_call 12; (with_reducible refine Calls.mono (H3.out _) ?_); rintro e w3 ⟨rfl, hB3⟩)
    | (go_at_call 12; (with_reducible refine Calls.mono (H4.out _) ?_); rintro e w4 ⟨rfl, hB4⟩))
  go_ret
  exact ⟨rfl, below_th (below_th (below_th hB1 hB2) hB3) hB4⟩
theorem index_zero (a b : Nat) (i : Int) (w : World) (wa : a < 4294967296) (wb : b < 4294967296) (wi : -9223372036854775808 ≤ i ∧ i ≤ 9223372036854775807) (hk : wayOk a i) (hd : dpN a = 0) : Calls Try.prog 6 #[.int .u32 a, .int .u32 b, .int .i64 i] w (Ans w (.bool true)) := by
  have e1 : wayE a i = 0 := if_pos hk
  have e2 : wayV a i = [i] := by unfold wayV wayL; rw [if_pos hk, if_pos hd]
  have hsm : i < 127 := by have := hk.2.2; have := dp_none hd; omega
  have hi0 := hk.2.1
  have h1 := fun W => way_any a i W wa wi
  unfold WayPost at h1
  rw [e1, e2] at h1
  have h3 := fun W => count_any a W wa
  have h4 := fun W => count_any b W wb
  have hm := cnt_mono (a := a) (b := b)
  generalize cntN a = x at h3 hm
  generalize cntN b = y at h4 hm
  have hii : (i != i) = false := by simp
  have H1 := Lib.hid h1
  have H3 := Lib.hid h3
  have H4 := Lib.hid h4
  have hg1 : ¬ (127 : Int) ≤ i := by omega
  have hg2 : decide ((127 : Int) ≤ i) = false := decide_eq_false hg1
  clear h1 h3 h4 e1 e2 wa wb wi hk hd
  by_cases d0 : b < a
  · have j1 : (b : Int) < (a : Int) := by omega
    clear hm
    go_enter Try.func6, Try.ntmps6
    go_wp2_with (first
      | (go_at_call 9; (with_reducible refine Calls.mono (shown_any _) ?_); rintro e w1 ⟨rfl, hB1⟩)
      | (go_at_call 10; (with_reducible refine Calls.mono (H1.out _) ?_); rintro e w2 ⟨v2, rfl, hv2, hB2⟩; obtain ⟨av, cv, ev, _, _⟩ := hv2.parts; obtain rfl : v2 = .slice av 1 cv := ev; obtain ⟨bb, off, rfl, m0⟩ := hv2.get (k := 0) (by show 0 < 1; decide); have m0 : w2.cell? ⟨bb, off, none⟩ = some (.int .i64 i) := m0; clear hv2))
    go_ret
    exact ⟨rfl, below_th hB1 hB2⟩
  by_cases d1 : 8193532 < b
  · have j1 : ¬ (b : Int) < (a : Int) := by omega
    have j2 : (8193532 : Int) < (b : Int) := by omega
    clear hm
    go_enter Try.func6, Try.ntmps6
    go_wp2_with (first
      | (go_at_call 9; (with_reducible refine Calls.mono (shown_any _) ?_); rintro e w1 ⟨rfl, hB1⟩)
      | (go_at_call 10; (with_reducible refine Calls.mono (H1.out _) ?_); rintro e w2 ⟨v2, rfl, hv2, hB2⟩; obtain ⟨av, cv, ev, _, _⟩ := hv2.parts; obtain rfl : v2 = .slice av 1 cv := ev; obtain ⟨bb, off, rfl, m0⟩ := hv2.get (k := 0) (by show 0 < 1; decide); have m0 : w2.cell? ⟨bb, off, none⟩ = some (.int .i64 i) := m0; clear hv2))
    go_ret
    exact ⟨rfl, below_th hB1 hB2⟩
  have j1 : ¬ (b : Int) < (a : Int) := by omega
  have j2 : ¬ (8193532 : Int) < (b : Int) := by omega
  have j3 := hm (by omega) (by omega)
  have j4 : (x : Int) ≤ (y : Int) := by omega
  clear hm
  go_enter Try.func6, Try.ntmps6
  go_wp2_with (first
    | (go_at_call 9; (with_reducible refine Calls.mono (shown_any _) ?_); rintro e w1 ⟨rfl, hB1⟩)
    | (go_at_call 10; (with_reducible refine Calls.mono (H1.out _) ?_); rintro e w2 ⟨v2, rfl, hv2, hB2⟩; obtain ⟨av, cv, ev, _, _⟩ := hv2.parts; obtain rfl : v2 = .slice av 1 cv := ev; obtain ⟨bb, off, rfl, m0⟩ := hv2.get (k := 0) (by show 0 < 1; decide); have m0 : w2.cell? ⟨bb, off, none⟩ = some (.int .i64 i) := m0; clear hv2)
    | (go_at_call 12; (with_reducible refine Calls.mono (H3.out _) ?_); rintro e w3 ⟨rfl, hB3⟩)
    | (go_at_call 12; (with_reducible refine Calls.mono (H4.out _) ?_); rintro e w4 ⟨rfl, hB4⟩))
  go_ret
  exact ⟨rfl, below_th (below_th (below_th hB1 hB2) hB3) hB4⟩
theorem index_one (a b : Nat) (i : Int) (w : World) (wa : a < 4294967296) (wb : b < 4294967296) (wi : -9223372036854775808 ≤ i ∧ i ≤ 9223372036854775807) (hk : wayOk a i) (hd : dpN a = 1) : Calls Try.prog 6 #[.int .u32 a, .int .u32 b, .int .i64 i] w (Ans w (.bool true)) := by
  have e1 : wayE a i = 0 := if_pos hk
  have e2 : wayV a i = [0, i] := by unfold wayV wayL; rw [if_pos hk, if_neg (by omega), if_pos hd]
  have hsm : i < 127 := by have := hk.2.2; have := (dp_one hd).2; omega
  have hi0 := hk.2.1
  have h1 := fun W => way_any a i W wa wi
  unfold WayPost at h1
  rw [e1, e2] at h1
  have h3 := fun W => count_any a W wa
  have h4 := fun W => count_any b W wb
  have hm := cnt_mono (a := a) (b := b)
  generalize cntN a = x at h3 hm
  generalize cntN b = y at h4 hm
  have hii : (i != i) = false := by simp
  have H1 := Lib.hid h1
  have H3 := Lib.hid h3
  have H4 := Lib.hid h4
  have hg1 : ¬ (127 : Int) ≤ i := by omega
  have hg2 : decide ((127 : Int) ≤ i) = false := decide_eq_false hg1
  clear h1 h3 h4 e1 e2 wa wb wi hk hd
  by_cases d0 : b < a
  · have j1 : (b : Int) < (a : Int) := by omega
    clear hm
    go_enter Try.func6, Try.ntmps6
    go_wp2_with (first
      | (go_at_call 9; (with_reducible refine Calls.mono (shown_any _) ?_); rintro e w1 ⟨rfl, hB1⟩)
      | (go_at_call 10; (with_reducible refine Calls.mono (H1.out _) ?_); rintro e w2 ⟨v2, rfl, hv2, hB2⟩; obtain ⟨av, cv, ev, _, _⟩ := hv2.parts; obtain rfl : v2 = .slice av 2 cv := ev; obtain ⟨bb, off, rfl, m0⟩ := hv2.get (k := 0) (by show 0 < 2; decide); obtain ⟨bb1, off1, eb1, m1⟩ := hv2.get (k := 1) (by show 1 < 2; decide); cases eb1; have m0 : w2.cell? ⟨bb, off, none⟩ = some (.int .i64 (0 : Int)) := m0; have m1 : w2.cell? ⟨bb, off + 1, none⟩ = some (.int .i64 i) := m1; clear hv2))
    go_ret
    exact ⟨rfl, below_th hB1 hB2⟩
  by_cases d1 : 8193532 < b
  · have j1 : ¬ (b : Int) < (a : Int) := by omega
    have j2 : (8193532 : Int) < (b : Int) := by omega
    clear hm
    go_enter Try.func6, Try.ntmps6
    go_wp2_with (first
      | (go_at_call 9; (with_reducible refine Calls.mono (shown_any _) ?_); rintro e w1 ⟨rfl, hB1⟩)
      | (go_at_call 10; (with_reducible refine Calls.mono (H1.out _) ?_); rintro e w2 ⟨v2, rfl, hv2, hB2⟩; obtain ⟨av, cv, ev, _, _⟩ := hv2.parts; obtain rfl : v2 = .slice av 2 cv := ev; obtain ⟨bb, off, rfl, m0⟩ := hv2.get (k := 0) (by show 0 < 2; decide); obtain ⟨bb1, off1, eb1, m1⟩ := hv2.get (k := 1) (by show 1 < 2; decide); cases eb1; have m0 : w2.cell? ⟨bb, off, none⟩ = some (.int .i64 (0 : Int)) := m0; have m1 : w2.cell? ⟨bb, off + 1, none⟩ = some (.int .i64 i) := m1; clear hv2))
    go_ret
    exact ⟨rfl, below_th hB1 hB2⟩
  have j1 : ¬ (b : Int) < (a : Int) := by omega
  have j2 : ¬ (8193532 : Int) < (b : Int) := by omega
  have j3 := hm (by omega) (by omega)
  have j4 : (x : Int) ≤ (y : Int) := by omega
  clear hm
  go_enter Try.func6, Try.ntmps6
  go_wp2_with (first
    | (go_at_call 9; (with_reducible refine Calls.mono (shown_any _) ?_); rintro e w1 ⟨rfl, hB1⟩)
    | (go_at_call 10; (with_reducible refine Calls.mono (H1.out _) ?_); rintro e w2 ⟨v2, rfl, hv2, hB2⟩; obtain ⟨av, cv, ev, _, _⟩ := hv2.parts; obtain rfl : v2 = .slice av 2 cv := ev; obtain ⟨bb, off, rfl, m0⟩ := hv2.get (k := 0) (by show 0 < 2; decide); obtain ⟨bb1, off1, eb1, m1⟩ := hv2.get (k := 1) (by show 1 < 2; decide); cases eb1; have m0 : w2.cell? ⟨bb, off, none⟩ = some (.int .i64 (0 : Int)) := m0; have m1 : w2.cell? ⟨bb, off + 1, none⟩ = some (.int .i64 i) := m1; clear hv2)
    | (go_at_call 12; (with_reducible refine Calls.mono (H3.out _) ?_); rintro e w3 ⟨rfl, hB3⟩)
    | (go_at_call 12; (with_reducible refine Calls.mono (H4.out _) ?_); rintro e w4 ⟨rfl, hB4⟩))
  go_ret
  exact ⟨rfl, below_th (below_th (below_th hB1 hB2) hB3) hB4⟩
theorem index_two (a b : Nat) (i : Int) (w : World) (wa : a < 4294967296) (wb : b < 4294967296) (wi : -9223372036854775808 ≤ i ∧ i ≤ 9223372036854775807) (hk : wayOk a i) (hd : dpN a = 2) : Calls Try.prog 6 #[.int .u32 a, .int .u32 b, .int .i64 i] w (Ans w (.bool true)) := by
  have e1 : wayE a i = 0 := if_pos hk
  have e2 : wayV a i = [0, i / 127, i % 127] := by unfold wayV wayL; rw [if_pos hk, if_neg (by omega), if_neg (by omega)]
  have hi0 := hk.2.1
  have hi9 : i ≤ 20000 := by have := hk.2.2; have := bl_max hk.1; omega
  obtain ⟨p, hp⟩ : ∃ p, i / 127 = p := ⟨_, rfl⟩
  obtain ⟨q, hq⟩ : ∃ q, i % 127 = q := ⟨_, rfl⟩
  rw [hp, hq] at e2
  have hsm : q < 127 := by omega
  have hq0 : 0 ≤ q := by omega
  have hp0 : 0 ≤ p := by omega
  have hpi : p * 127 + q = i := by omega
  have hw5 : IntKind.i64.wrap (p * 127) = p * 127 := by rw [IntKind.wrap_i64] <;> omega
  have hw6 : IntKind.i64.wrap (p * 127 + q) = i := by rw [IntKind.wrap_i64] <;> omega
  have hw7 : IntKind.i64.wrap i = i := by rw [IntKind.wrap_i64] <;> omega
  clear hp hq
  have h1 := fun W => way_any a i W wa wi
  unfold WayPost at h1
  rw [e1, e2] at h1
  have h3 := fun W => count_any a W wa
  have h4 := fun W => count_any b W wb
  have hm := cnt_mono (a := a) (b := b)
  generalize cntN a = x at h3 hm
  generalize cntN b = y at h4 hm
  have hii : (i != i) = false := by simp
  have H1 := Lib.hid h1
  have H3 := Lib.hid h3
  have H4 := Lib.hid h4
  have hg1 : ¬ (127 : Int) ≤ q := by omega
  have hg2 : decide ((127 : Int) ≤ q) = false := decide_eq_false hg1
  clear h1 h3 h4 e1 e2 wa wb wi hk hd
  by_cases d0 : b < a
  · have j1 : (b : Int) < (a : Int) := by omega
    clear hm
    go_enter Try.func6, Try.ntmps6
    go_wp2_with (first
      | (go_at_call 9; (with_reducible refine Calls.mono (shown_any _) ?_); rintro e w1 ⟨rfl, hB1⟩)
      | (go_at_call 10; (with_reducible refine Calls.mono (H1.out _) ?_); rintro e w2 ⟨v2, rfl, hv2, hB2⟩; obtain ⟨av, cv, ev, _, _⟩ := hv2.parts; obtain rfl : v2 = .slice av 3 cv := ev; obtain ⟨bb, off, rfl, m0⟩ := hv2.get (k := 0) (by show 0 < 3; decide); obtain ⟨bb1, off1, eb1, m1⟩ := hv2.get (k := 1) (by show 1 < 3; decide); cases eb1; obtain ⟨bb2, off2, eb2, m2⟩ := hv2.get (k := 2) (by show 2 < 3; decide); cases eb2; have m0 : w2.cell? ⟨bb, off, none⟩ = some (.int .i64 (0 : Int)) := m0; have m1 : w2.cell? ⟨bb, off + 1, none⟩ = some (.int .i64 p) := m1; have m2 : w2.cell? ⟨bb, off + 2, none⟩ = some (.int .i64 q) := m2; clear hv2))
    go_region
    all_goals
      go_wp2
      go_ret
      exact ⟨rfl, below_th hB1 hB2.drew⟩
  by_cases d1 : 8193532 < b
  · have j1 : ¬ (b : Int) < (a : Int) := by omega
    have j2 : (8193532 : Int) < (b : Int) := by omega
    clear hm
    go_enter Try.func6, Try.ntmps6
    go_wp2_with (first
      | (go_at_call 9; (with_reducible refine Calls.mono (shown_any _) ?_); rintro e w1 ⟨rfl, hB1⟩)
      | (go_at_call 10; (with_reducible refine Calls.mono (H1.out _) ?_); rintro e w2 ⟨v2, rfl, hv2, hB2⟩; obtain ⟨av, cv, ev, _, _⟩ := hv2.parts; obtain rfl : v2 = .slice av 3 cv := ev; obtain ⟨bb, off, rfl, m0⟩ := hv2.get (k := 0) (by show 0 < 3; decide); obtain ⟨bb1, off1, eb1, m1⟩ := hv2.get (k := 1) (by show 1 < 3; decide); cases eb1; obtain ⟨bb2, off2, eb2, m2⟩ := hv2.get (k := 2) (by show 2 < 3; decide); cases eb2; have m0 : w2.cell? ⟨bb, off, none⟩ = some (.int .i64 (0 : Int)) := m0; have m1 : w2.cell? ⟨bb, off + 1, none⟩ = some (.int .i64 p) := m1; have m2 : w2.cell? ⟨bb, off + 2, none⟩ = some (.int .i64 q) := m2; clear hv2))
    go_region
    all_goals
      go_wp2
      go_ret
      exact ⟨rfl, below_th hB1 hB2.drew⟩
  have j1 : ¬ (b : Int) < (a : Int) := by omega
  have j2 : ¬ (8193532 : Int) < (b : Int) := by omega
  have j3 := hm (by omega) (by omega)
  have j4 : (x : Int) ≤ (y : Int) := by omega
  clear hm
  go_enter Try.func6, Try.ntmps6
  go_wp2_with (first
    | (go_at_call 9; (with_reducible refine Calls.mono (shown_any _) ?_); rintro e w1 ⟨rfl, hB1⟩)
    | (go_at_call 10; (with_reducible refine Calls.mono (H1.out _) ?_); rintro e w2 ⟨v2, rfl, hv2, hB2⟩; obtain ⟨av, cv, ev, _, _⟩ := hv2.parts; obtain rfl : v2 = .slice av 3 cv := ev; obtain ⟨bb, off, rfl, m0⟩ := hv2.get (k := 0) (by show 0 < 3; decide); obtain ⟨bb1, off1, eb1, m1⟩ := hv2.get (k := 1) (by show 1 < 3; decide); cases eb1; obtain ⟨bb2, off2, eb2, m2⟩ := hv2.get (k := 2) (by show 2 < 3; decide); cases eb2; have m0 : w2.cell? ⟨bb, off, none⟩ = some (.int .i64 (0 : Int)) := m0; have m1 : w2.cell? ⟨bb, off + 1, none⟩ = some (.int .i64 p) := m1; have m2 : w2.cell? ⟨bb, off + 2, none⟩ = some (.int .i64 q) := m2; clear hv2)
    | (go_at_call 12; (with_reducible refine Calls.mono (H3.out _) ?_); rintro e w3 ⟨rfl, hB3⟩)
    | (go_at_call 12; (with_reducible refine Calls.mono (H4.out _) ?_); rintro e w4 ⟨rfl, hB4⟩))
  go_region
  all_goals
    go_wp2_with (first
      | (go_at_call 12; (with_reducible refine Calls.mono (H3.out _) ?_); rintro e w3 ⟨rfl, hB3⟩)
      | (go_at_call 12; (with_reducible refine Calls.mono (H4.out _) ?_); rintro e w4 ⟨rfl, hB4⟩))
    go_ret
    exact ⟨rfl, below_th (below_th (below_th hB1 hB2.drew) hB3) hB4⟩
theorem BmapIndex_walk (a b i : Int) (w : World) (wa : (Lit.int .u32 a).wf = true) (wb : (Lit.int .u32 b).wf = true) (wi : (Lit.int .i64 i).wf = true) : Calls Try.prog 6 #[.int .u32 a, .int .u32 b, .int .i64 i] w fun e w' => e = .returned (.bool true) ∧ Below w.heap.size w w' := by
  have h1 := bounds32 wa
  have h2 := bounds32 wb
  have h3 := bounds64 wi
  obtain ⟨n, rfl⟩ : ∃ n : Nat, a = (n : Int) := ⟨a.toNat, by omega⟩
  obtain ⟨m, rfl⟩ : ∃ m : Nat, b = (m : Int) := ⟨b.toNat, by omega⟩
  by_cases hk : wayOk n i
  · have hd := dp_le n
    by_cases h0 : dpN n = 0
    · exact index_zero n m i w (by omega) (by omega) h3 hk h0
    · by_cases h4 : dpN n = 1
      · exact index_one n m i w (by omega) (by omega) h3 hk h4
      · exact index_two n m i w (by omega) (by omega) h3 hk (by omega)
  · exact index_no n m i w (by omega) (by omega) h3 hk
end
end Go.Proofs.Ytdakfdecfpebcaa.Bmp
