/- Count, Way of the program. -/
import Derived.Test.YtdakfdecfpebcaaBmpWay
namespace Go.Proofs.Ytdakfdecfpebcaa.Bmp
open Go.RowKit Ino
attribute [local go_sem] Oper.semAt_some
set_option linter.unusedVariables false
set_option linter.unusedSimpArgs false
section
set_option maxRecDepth 100000
set_option maxHeartbeats 2000000
theorem count_eq (s : Nat) (w : World) (h : s < 4294967296) : Calls Try.prog 12 #[.int .u32 s] w fun e w' => e = .returned (.int .i64 (cntN s)) ∧ w = w' := by
  by_cases hb : 8193532 < s
  · have hc : cntN s = 0 := if_pos hb
    rw [hc]
    have g1 : (8193532 : Int) < (s : Int) := by omega
    clear hc hb h
    go_enter Try.func12, Try.ntmps12
    go_wp2
    go_ret
    exact ⟨rfl, rfl⟩
  · have g1 : ¬ (8193532 : Int) < (s : Int) := by omega
    have hD := fun W => Ino.depth_any s W h
    have hBl := fun W => Ino.blocks_any s W h
    have hbm := bl_max (s := s) (by omega)
    have hd2 := dp_le s
    rw [cnt_def (by omega)]
    unfold lowN
    generalize blN s = b at *
    generalize dpN s = d at *
    clear hb h
    by_cases h2 : d = 2
    · subst h2
      rw [if_pos rfl]
      obtain ⟨c, hc⟩ : ∃ c, b + 127 = c := ⟨_, rfl⟩
      obtain ⟨x, hx⟩ : ∃ x, b + 126 = x := ⟨_, rfl⟩
      obtain ⟨q, hq⟩ : ∃ q, x / 127 = q := ⟨_, rfl⟩
      rw [hx, hq]
      have w1 : IntKind.i64.wrap ((b : Int) + 127) = (c : Int) := by rw [IntKind.wrap_i64]; omega
      have w2 : IntKind.i64.wrap ((c : Int) - 1) = (x : Int) := by rw [IntKind.wrap_i64]; omega
      have hq1 : (x : Int) / 127 = (q : Int) := by omega
      have hq2 : (x : Int).tdiv 127 = (q : Int) := by rw [Int.tdiv_eq_ediv_of_nonneg (by omega)]; exact hq1
      have w3 : IntKind.i64.wrap (q : Int) = (q : Int) := by rw [IntKind.wrap_i64]; omega
      have w4 : IntKind.i64.wrap (1 + (q : Int)) = ((1 + q : Nat) : Int) := by rw [IntKind.wrap_i64]; omega
      clear hc hx hq hbm hd2
      go_enter Try.func12, Try.ntmps12
      go_wp2_with (first
        | (go_at_call 23; (with_reducible refine Calls.mono (hD _) ?_); rintro e w1 ⟨rfl, rfl⟩)
        | (go_at_call 22; (with_reducible refine Calls.mono (hBl _) ?_); rintro e w1 ⟨rfl, rfl⟩))
      go_ret
      exact ⟨rfl, rfl⟩
    · rw [if_neg h2]
      by_cases h0 : d = 0
      · subst h0
        clear hbm hd2 h2
        go_enter Try.func12, Try.ntmps12
        go_wp2_with (go_at_call 23; (with_reducible refine Calls.mono (hD _) ?_); rintro e w1 ⟨rfl, rfl⟩)
        go_ret
        exact ⟨rfl, rfl⟩
      · obtain rfl : d = 1 := by omega
        clear hbm hd2 h2 h0
        go_enter Try.func12, Try.ntmps12
        go_wp2_with (go_at_call 23; (with_reducible refine Calls.mono (hD _) ?_); rintro e w1 ⟨rfl, rfl⟩)
        go_ret
        exact ⟨rfl, rfl⟩
theorem way_any (s : Nat) (i : Int) (w : World) (h : s < 4294967296) (hi : -9223372036854775808 ≤ i ∧ i ≤ 9223372036854775807) : Calls Try.prog 10 #[.int .u32 s, .int .i64 i] w (WayPost s i w) := by
  have hD := fun W => Ino.depth_any s W h
  have hBl := fun W => Ino.blocks_any s W h
  by_cases hok : wayOk s i
  · have hok2 := hok
    obtain ⟨o1, o2, o3⟩ := hok2
    have HY := Lib.hid (fun v w' (h1 : Ints w' v (wayL s i)) (h2 : Below w.heap.size w w') => way_yes hok h1 h2)
    have g1 : ¬ (8193532 : Int) < (s : Int) := by omega
    have g2 : ¬ i < 0 := by omega
    have g3 : ¬ (blN s : Int) ≤ i := by omega
    have hd2 := dp_le s
    unfold wayL at HY
    obtain ⟨R, hR⟩ : ∃ R, WayPost s i w = R := ⟨_, rfl⟩
    rw [hR] at HY ⊢
    generalize blN s = b at *
    generalize dpN s = d at *
    clear hok o1 o2 o3 h hR
    obtain ⟨W0, rfl⟩ : ∃ W0 : World, W0 = w := ⟨_, rfl⟩
    by_cases h0 : d = 0
    · subst h0
      rw [if_pos rfl] at HY
      have HF := Lib.hid (HY.out _ _ (Ints.one (World.alloc_heap_new W0 (.cells #[.int .i64 i] 3))) (below_new W0 _))
      clear HY
      go_enter Try.func10, Try.ntmps10
      go_wp2_with (first
        | (go_at_call 22; (with_reducible refine Calls.mono (hBl _) ?_); rintro e w1 ⟨rfl, hw⟩; rw [← hw]; clear hw w1)
        | (go_at_call 23; (with_reducible refine Calls.mono (hD _) ?_); rintro e w1 ⟨rfl, hw⟩; rw [← hw]; clear hw w1))
      first | exact HF.out | (go_returns; exact HF.out)
    · rw [if_neg h0] at HY
      have e0 : ((d : Int) == 0) = false := beq_eq_false_iff_ne.2 (by omega)
      have e00 : (d == 0) = false := beq_eq_false_iff_ne.2 h0
      by_cases h1 : d = 1
      · subst h1
        rw [if_pos rfl] at HY
        have HF := Lib.hid (HY.out _ _ (Ints.two (World.alloc_heap_new W0 (.cells #[.int .i64 0, .int .i64 i] 3))) (below_new W0 _))
        clear HY
        go_enter Try.func10, Try.ntmps10
        go_wp2_with (first
          | (go_at_call 22; (with_reducible refine Calls.mono (hBl _) ?_); rintro e w1 ⟨rfl, hw⟩; rw [← hw]; clear hw w1)
          | (go_at_call 23; (with_reducible refine Calls.mono (hD _) ?_); rintro e w1 ⟨rfl, hw⟩; rw [← hw]; clear hw w1))
        first | exact HF.out | (go_returns; exact HF.out)
      · rw [if_neg h1] at HY
        obtain rfl : d = 2 := by omega
        have t1 : i.tdiv 127 = i / 127 := Int.tdiv_eq_ediv_of_nonneg (by omega)
        have t2 : i.tmod 127 = i % 127 := Int.tmod_eq_emod_of_nonneg (by omega)
        obtain ⟨x, hx⟩ : ∃ x, i / 127 = x := ⟨_, rfl⟩
        obtain ⟨y, hy⟩ : ∃ y, i % 127 = y := ⟨_, rfl⟩
        have w1 : IntKind.i64.wrap x = x := by rw [IntKind.wrap_i64]; omega
        have w2 : IntKind.i64.wrap y = y := by rw [IntKind.wrap_i64]; omega
        rw [hx] at t1 HY
        rw [hy] at t2 HY
        have HF := Lib.hid (HY.out _ _ (Ints.three (World.alloc_heap_new W0 (.cells #[.int .i64 0, .int .i64 x, .int .i64 y] 3))) (below_new W0 _))
        clear HY hx hy h0 h1 hd2
        go_enter Try.func10, Try.ntmps10
        go_wp2_with (first
          | (go_at_call 22; (with_reducible refine Calls.mono (hBl _) ?_); rintro e w1 ⟨rfl, hw⟩; rw [← hw]; clear hw w1)
          | (go_at_call 23; (with_reducible refine Calls.mono (hD _) ?_); rintro e w1 ⟨rfl, hw⟩; rw [← hw]; clear hw w1))
        first | exact HF.out | (go_returns; exact HF.out)
  · have HN := Lib.hid (way_no hok (Below.refl _ w))
    by_cases h1 : 8193532 < s
    · have g1 : (8193532 : Int) < (s : Int) := by omega
      clear hok h1 h hD hBl
      go_enter Try.func10, Try.ntmps10
      go_wp2
      go_returns
      exact HN.out
    · have g1 : ¬ (8193532 : Int) < (s : Int) := by omega
      by_cases h2 : i < 0
      · clear hok h h1
        go_enter Try.func10, Try.ntmps10
        go_wp2
        go_returns
        exact HN.out
      · have h3 : (blN s : Int) ≤ i := by
          apply Classical.byContradiction
          intro h3
          exact hok ⟨by omega, by omega, by omega⟩
        obtain ⟨R, hR⟩ : ∃ R, WayPost s i w = R := ⟨_, rfl⟩
        rw [hR] at HN ⊢
        generalize blN s = b at *
        clear hok h h1 hD hR
        obtain ⟨W0, rfl⟩ : ∃ W0 : World, W0 = w := ⟨_, rfl⟩
        go_enter Try.func10, Try.ntmps10
        go_wp2_with (go_at_call 22; (with_reducible refine Calls.mono (hBl _) ?_); rintro e w1 ⟨rfl, hw⟩; rw [← hw]; clear hw w1)
        first | exact HN.out | (go_returns; exact HN.out)
end
end Go.Proofs.Ytdakfdecfpebcaa.Bmp
