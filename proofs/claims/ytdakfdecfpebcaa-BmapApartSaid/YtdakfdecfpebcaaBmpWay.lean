/- The document's Count, Way. -/
import Derived.Test.YtdakfdecfpebcaaBmpSame
namespace Go.Proofs.Ytdakfdecfpebcaa.Bmp
open Go.RowKit Ino
attribute [local go_sem] Oper.semAt_some
set_option linter.unusedVariables false
set_option linter.unusedSimpArgs false
/-- what Way answers -/
def WayPost (s : Nat) (i : Int) (w : World) (e : Ending) (w' : World) : Prop := ∃ v, e = .returned (.tuple #[v, .int .i64 (wayE s i)]) ∧ Ints w' v (wayV s i) ∧ Below w.heap.size w w'
theorem Ints.one {W : World} {b : Nat} {x : Int} {ty : TypeId} (h : W.heap[b]? = some (.cells #[.int .i64 x] ty (0, 0))) : Ints W (.slice (some ⟨b, 0, none⟩) 1 1) [x] := by
  refine ⟨some ⟨b, 0, none⟩, 1, rfl, Nat.le_refl _, ⟨by unfold maxLen; omega, fun e => by cases e⟩, rfl, fun _ => ⟨b, 0, rfl, fun j u hj => ?_⟩⟩
  have hl := (List.getElem?_eq_some_iff.1 hj).1
  match j, hj with
  | 0, hj => cases hj; simp only [World.cell?, h]; rfl
  | j + 1, hj => exact absurd hl (by show ¬ j + 1 < 1; omega)
theorem Ints.two {W : World} {b : Nat} {x y : Int} {ty : TypeId} (h : W.heap[b]? = some (.cells #[.int .i64 x, .int .i64 y] ty (0, 0))) : Ints W (.slice (some ⟨b, 0, none⟩) 2 2) [x, y] := by
  refine ⟨some ⟨b, 0, none⟩, 2, rfl, Nat.le_refl _, ⟨by unfold maxLen; omega, fun e => by cases e⟩, rfl, fun _ => ⟨b, 0, rfl, fun j u hj => ?_⟩⟩
  have hl := (List.getElem?_eq_some_iff.1 hj).1
  match j, hj with
  | 0, hj => cases hj; simp only [World.cell?, h]; rfl
  | 1, hj => cases hj; simp only [World.cell?, h]; rfl
  | j + 2, hj => exact absurd hl (by show ¬ j + 2 < 2; omega)
theorem Ints.three {W : World} {b : Nat} {x y z : Int} {ty : TypeId} (h : W.heap[b]? = some (.cells #[.int .i64 x, .int .i64 y, .int .i64 z] ty (0, 0))) : Ints W (.slice (some ⟨b, 0, none⟩) 3 3) [x, y, z] := by
  refine ⟨some ⟨b, 0, none⟩, 3, rfl, Nat.le_refl _, ⟨by unfold maxLen; omega, fun e => by cases e⟩, rfl, fun _ => ⟨b, 0, rfl, fun j u hj => ?_⟩⟩
  have hl := (List.getElem?_eq_some_iff.1 hj).1
  match j, hj with
  | 0, hj => cases hj; simp only [World.cell?, h]; rfl
  | 1, hj => cases hj; simp only [World.cell?, h]; rfl
  | 2, hj => cases hj; simp only [World.cell?, h]; rfl
  | j + 3, hj => exact absurd hl (by show ¬ j + 3 < 3; omega)
theorem way_no {s : Nat} {i : Int} {w w' : World} (h : ¬ wayOk s i) (hB : Below w.heap.size w w') : WayPost s i w (.returned (.tuple #[.slice none 0 0, .int .i64 130])) w' := by
  refine ⟨_, by unfold wayE; rw [if_neg h], ?_, hB⟩
  unfold wayV
  rw [if_neg h]
  exact Ints.nil _
theorem way_yes {s : Nat} {i : Int} {w w' : World} {v : Value} (h : wayOk s i) (hv : Ints w' v (wayL s i)) (hB : Below w.heap.size w w') : WayPost s i w (.returned (.tuple #[v, .int .i64 0])) w' := by
  refine ⟨_, by unfold wayE; rw [if_pos h], ?_, hB⟩
  unfold wayV
  rw [if_pos h]
  exact hv
namespace R
section
set_option maxRecDepth 100000
set_option maxHeartbeats 2000000
theorem lower_any (s : Nat) (w : World) (h : s < 4294967296) : Calls Try.prog 26 #[.int .u32 s] w fun e w' => e = .returned (.int .i64 (lowN s)) ∧ w = w' := by
  have hb := fun W => Ino.R.blocks_any s W h
  have hm := bl_le s h
  have hl : lowN s = (blN s + 126) / 127 := rfl
  rw [hl]
  clear hl h
  generalize blN s = b at *
  obtain ⟨c, hc⟩ : ∃ c, b + 127 = c := ⟨_, rfl⟩
  obtain ⟨d, hd⟩ : ∃ d, b + 126 = d := ⟨_, rfl⟩
  obtain ⟨q, hq⟩ : ∃ q, d / 127 = q := ⟨_, rfl⟩
  rw [hd, hq]
  have w1 : IntKind.i64.wrap ((b : Int) + 127) = (c : Int) := by rw [IntKind.wrap_i64]; omega
  have w2 : IntKind.i64.wrap ((c : Int) - 1) = (d : Int) := by rw [IntKind.wrap_i64]; omega
  have hq1 : (d : Int) / 127 = (q : Int) := by omega
  have hq2 : (d : Int).tdiv 127 = (q : Int) := by rw [Int.tdiv_eq_ediv_of_nonneg (by omega)]; exact hq1
  have w3 : IntKind.i64.wrap (q : Int) = (q : Int) := by rw [IntKind.wrap_i64]; omega
  clear hc hd hq hm
  go_enter Try.func26, Try.ntmps26
  go_wp2_with (go_at_call 24; (with_reducible refine Calls.mono (hb _) ?_); rintro e w1 ⟨rfl, rfl⟩)
  go_ret
  exact ⟨rfl, rfl⟩
theorem count_any (s : Nat) (w : World) (h : s < 4294967296) : Calls Try.prog 13 #[.int .u32 s] w fun e w' => e = .returned (.int .i64 (cntN s)) ∧ w = w' := by
  by_cases hb : 8193532 < s
  · have hc : cntN s = 0 := if_pos hb
    rw [hc]
    have g1 : (8193532 : Int) < (s : Int) := by omega
    clear hc hb h
    go_enter Try.func13, Try.ntmps13
    go_wp2
    go_ret
    exact ⟨rfl, rfl⟩
  · have g1 : ¬ (8193532 : Int) < (s : Int) := by omega
    have hD := fun W => Ino.R.depth_any s W h
    have hL := fun W => lower_any s W h
    have hlm := low_max (s := s) (by omega)
    rw [cnt_def (by omega)]
    generalize lowN s = q at *
    generalize dpN s = d at *
    clear hb h
    by_cases h2 : d = 2
    · subst h2
      rw [if_pos rfl]
      have w1 : IntKind.i64.wrap (1 + (q : Int)) = ((1 + q : Nat) : Int) := by rw [IntKind.wrap_i64]; omega
      clear hlm
      go_enter Try.func13, Try.ntmps13
      go_wp2_with (first
        | (go_at_call 25; (with_reducible refine Calls.mono (hD _) ?_); rintro e w1 ⟨rfl, rfl⟩)
        | (go_at_call 26; (with_reducible refine Calls.mono (hL _) ?_); rintro e w1 ⟨rfl, rfl⟩))
      go_ret
      exact ⟨rfl, rfl⟩
    · rw [if_neg h2]
      have q2 : ((d : Int) == 2) = false := beq_eq_false_iff_ne.2 (by omega)
      have q3 : (d == 2) = false := beq_eq_false_iff_ne.2 h2
      clear hlm h2
      go_enter Try.func13, Try.ntmps13
      go_wp2_with (go_at_call 25; (with_reducible refine Calls.mono (hD _) ?_); rintro e w1 ⟨rfl, rfl⟩)
      go_ret
      exact ⟨rfl, rfl⟩
theorem way_any (s : Nat) (i : Int) (w : World) (h : s < 4294967296) (hi : -9223372036854775808 ≤ i ∧ i ≤ 9223372036854775807) : Calls Try.prog 11 #[.int .u32 s, .int .i64 i] w (WayPost s i w) := by
  have hD := fun W => Ino.R.depth_any s W h
  have hBl := fun W => Ino.R.blocks_any s W h
  by_cases hok : wayOk s i
  · have hok2 := hok
    obtain ⟨o1, o2, o3⟩ := hok2
    have HY := Lib.hid (fun v w' (h1 : Ints w' v (wayL s i)) (h2 : Below w.heap.size w w') => way_yes hok h1 h2)
    have g1 : ¬ (8193532 : Int) < (s : Int) := by omega
    have g2 : ¬ i < 0 := by omega
    have g3 : ¬ (blN s : Int) ≤ i := by omega
    have hd2 := dp_le s
    unfold wayL at HY
    obtain ⟨R, hR⟩ : ∃ R, WayPost s i w = R := ⟨_, rfl⟩
    rw [hR] at HY ⊢
    generalize blN s = b at *
    generalize dpN s = d at *
    clear hok o1 o2 o3 h hR
    obtain ⟨W0, rfl⟩ : ∃ W0 : World, W0 = w := ⟨_, rfl⟩
    by_cases h0 : d = 0
    · subst h0
      rw [if_pos rfl] at HY
      have HF := Lib.hid (HY.out _ _ (Ints.one (World.alloc_heap_new W0 (.cells #[.int .i64 i] 3))) (below_new W0 _))
      clear HY
      go_enter Try.func11, Try.ntmps11
      go_wp2_with (first
        | (go_at_call 24; (with_reducible refine Calls.mono (hBl _) ?_); rintro e w1 ⟨rfl, hw⟩; rw [← hw]; clear hw w1)
        | (go_at_call 25; (with_reducible refine Calls.mono (hD _) ?_); rintro e w1 ⟨rfl, hw⟩; rw [← hw]; clear hw w1))
      first | exact HF.out | (go_returns; exact HF.out)
    · rw [if_neg h0] at HY
      have e0 : ((d : Int) == 0) = false := beq_eq_false_iff_ne.2 (by omega)
      have e00 : (d == 0) = false := beq_eq_false_iff_ne.2 h0
      by_cases h1 : d = 1
      · subst h1
        rw [if_pos rfl] at HY
        have HF := Lib.hid (HY.out _ _ (Ints.two (World.alloc_heap_new W0 (.cells #[.int .i64 0, .int .i64 i] 3))) (below_new W0 _))
        clear HY
        go_enter Try.func11, Try.ntmps11
        go_wp2_with (first
          | (go_at_call 24; (with_reducible refine Calls.mono (hBl _) ?_); rintro e w1 ⟨rfl, hw⟩; rw [← hw]; clear hw w1)
          | (go_at_call 25; (with_reducible refine Calls.mono (hD _) ?_); rintro e w1 ⟨rfl, hw⟩; rw [← hw]; clear hw w1))
        first | exact HF.out | (go_returns; exact HF.out)
      · rw [if_neg h1] at HY
        obtain rfl : d = 2 := by omega
        have t1 : i.tdiv 127 = i / 127 := Int.tdiv_eq_ediv_of_nonneg (by omega)
        have t2 : i.tmod 127 = i % 127 := Int.tmod_eq_emod_of_nonneg (by omega)
        obtain ⟨x, hx⟩ : ∃ x, i / 127 = x := ⟨_, rfl⟩
        obtain ⟨y, hy⟩ : ∃ y, i % 127 = y := ⟨_, rfl⟩
        have w1 : IntKind.i64.wrap x = x := by rw [IntKind.wrap_i64]; omega
        have w2 : IntKind.i64.wrap y = y := by rw [IntKind.wrap_i64]; omega
        rw [hx] at t1 HY
        rw [hy] at t2 HY
        have HF := Lib.hid (HY.out _ _ (Ints.three (World.alloc_heap_new W0 (.cells #[.int .i64 0, .int .i64 x, .int .i64 y] 3))) (below_new W0 _))
        clear HY hx hy h0 h1 hd2
        go_enter Try.func11, Try.ntmps11
        go_wp2_with (first
          | (go_at_call 24; (with_reducible refine Calls.mono (hBl _) ?_); rintro e w1 ⟨rfl, hw⟩; rw [← hw]; clear hw w1)
          | (go_at_call 25; (with_reducible refine Calls.mono (hD _) ?_); rintro e w1 ⟨rfl, hw⟩; rw [← hw]; clear hw w1))
        first | exact HF.out | (go_returns; exact HF.out)
  · have HN := Lib.hid (way_no hok (Below.refl _ w))
    by_cases h1 : 8193532 < s
    · have g1 : (8193532 : Int) < (s : Int) := by omega
      clear hok h1 h hD hBl
      go_enter Try.func11, Try.ntmps11
      go_wp2
      go_returns
      exact HN.out
    · have g1 : ¬ (8193532 : Int) < (s : Int) := by omega
      by_cases h2 : i < 0
      · clear hok h h1
        go_enter Try.func11, Try.ntmps11
        go_wp2
        go_returns
        exact HN.out
      · have h3 : (blN s : Int) ≤ i := by
          apply Classical.byContradiction
          intro h3
          exact hok ⟨by omega, by omega, by omega⟩
        obtain ⟨R, hR⟩ : ∃ R, WayPost s i w = R := ⟨_, rfl⟩
        rw [hR] at HN ⊢
        generalize blN s = b at *
        clear hok h h1 hD hR
        obtain ⟨W0, rfl⟩ : ∃ W0 : World, W0 = w := ⟨_, rfl⟩
        go_enter Try.func11, Try.ntmps11
        go_wp2_with (go_at_call 24; (with_reducible refine Calls.mono (hBl _) ?_); rintro e w1 ⟨rfl, hw⟩; rw [← hw]; clear hw w1)
        first | exact HN.out | (go_returns; exact HN.out)
end
end R
end Go.Proofs.Ytdakfdecfpebcaa.Bmp
