/- Choose, of any segments; the document's age, benefit, better. -/
import Derived.Test.YtgadclbenbakfaaUsgChoose
import Derived.Test.YtgadclbenbakfaaUsgRefA
namespace Go.Proofs.Ytgadclbenbakfaa.Usage
open Go.RowKit
attribute [local go_sem] Oper.semAt_some
set_option linter.unusedVariables false

def chA (L : List S) (way : Int) (now : Nat) : Value := .tuple #[.int .i64 (chV L way now), .bool (chB L way now), .int .i64 (chE L way)]
theorem chA_wrong {L : List S} {way : Int} {now : Nat} (h : ¬ RightP L) : chA L way now = .tuple #[.int .i64 0, .bool false, .int .i64 60] := by
  unfold chA chV chB chE
  rw [if_neg (fun hh => h hh.1), if_neg h, decide_eq_false (fun hh => h hh.1)]
theorem chA_way {L : List S} {way : Int} {now : Nat} (h : RightP L) (hw : ¬ isWayP way) : chA L way now = .tuple #[.int .i64 0, .bool false, .int .i64 2] := by
  unfold chA chV chB chE
  rw [if_neg (fun hh => hw hh.2), if_pos h, if_neg hw, decide_eq_false (fun hh => hw hh.2.1)]
theorem chA_yes {L : List S} {way : Int} {now : Nat} (h : RightP L) (hw : isWayP way) : chA L way now = .tuple #[.int .i64 (bst L way now (cand L L.length) : Nat), .bool (decide (0 < bst L way now (cand L L.length))), .int .i64 0] := by
  unfold chA chV chB chE
  rw [if_pos ⟨h, hw⟩, if_pos h, if_pos hw]
  congr 5
  simp [h, hw]
section
set_option maxRecDepth 100000
set_option maxHeartbeats 2000000
theorem choose_any (v : Value) (L : List S) (way : Int) (now : Nat) (w : World) (hL : Segs w v L) (hnow : now < 18446744073709551616) : Calls Try.prog 16 #[v, .int .i64 way, .int .u64 now] w (Ans w (chA L way now)) := by
  have hfn : ∀ f, Fence.wide.fn f := fun _ => trivial
  have HR := right_any _ L w hL
  by_cases hr : RightP L
  · by_cases hw : isWayP way
    · obtain ⟨b, off, cap, rfl, _⟩ := hL.at (k := 0) (by have := hr.1; omega)
      rw [chA_yes hr hw]
      exact callsIn_wide.1 (choose_in b off cap L.length L way now w rfl hL hr hw hnow)
    · obtain ⟨a, cap, rfl, hn, hm⟩ := hL.parts
      rw [chA_way hr hw]
      rw [show rightB L = true from decide_eq_true hr] at HR
      have HWy := isWay_any way
      rw [decide_eq_false hw] at HWy
      clear hr hw hL
      refine (callsIn_wide (n := 9)).1 ?_
      refine callsIn_of_wp_marks Try.func16 rfl trivial ?_ rfl
      simp only [Try.ntmps16, List.size_toArray, List.length_cons, List.length_nil, Nat.reduceAdd, Nat.reduceSub, Array.replicate_succ, Array.replicate_zero, List.push_toArray, List.append_toArray, List.nil_append, List.cons_append]
      gi_wp2_with (first
        | (gi_at_call 12; refine (callsIn_wide.2 HR).mono ?_; rintro e w1 ⟨rfl, hB1⟩)
        | (gi_at_call 26; refine (callsIn_wide.2 (HWy _)).mono ?_; rintro e w2 ⟨rfl, rfl⟩))
      exact ⟨_, results_tmps rfl _ _, rfl, hB1⟩
  · obtain ⟨a, cap, rfl, hn, hm⟩ := hL.parts
    rw [chA_wrong hr]
    rw [show rightB L = false from decide_eq_false hr] at HR
    clear hr hL
    refine (callsIn_wide (n := 9)).1 ?_
    refine callsIn_of_wp_marks Try.func16 rfl trivial ?_ rfl
    simp only [Try.ntmps16, List.size_toArray, List.length_cons, List.length_nil, Nat.reduceAdd, Nat.reduceSub, Array.replicate_succ, Array.replicate_zero, List.push_toArray, List.append_toArray, List.nil_append, List.cons_append]
    gi_wp2_with (gi_at_call 12; refine (callsIn_wide.2 HR).mono ?_; rintro e w1 ⟨rfl, hB1⟩)
    exact ⟨_, results_tmps rfl _ _, rfl, hB1⟩
end

namespace R
section
set_option maxRecDepth 100000
set_option maxHeartbeats 2000000
def ageN (s : S) (now : Nat) : Nat := if now ≤ s.begun then 0 else now - s.begun
theorem age_any (s : S) (now : Nat) (w : World) (hb : s.begun < 281474976710656) (hnow : now < 18446744073709551616) : Calls Try.prog 36 #[s.val, .int .u64 now] w (Ans w (.int .u64 (ageN s now : Nat))) := by
  obtain ⟨lv, bg, st⟩ := s
  have HB := below_new w (boxO ⟨lv, bg, st⟩)
  unfold S.val
  unfold boxO at HB
  dsimp only at hb HB ⊢
  by_cases h : now ≤ bg
  · have h' : (now : Int) ≤ bg := by omega
    have HX : Hid (ageN ⟨lv, bg, st⟩ now = 0) := if_pos h
    clear h
    go_enter Try.func36, Try.ntmps36
    go_wp2
    go_ret
    exact ⟨by rw [HX.out]; rfl, HB⟩
  · have h' : ¬ (now : Int) ≤ bg := by omega
    have HX : Hid (ageN ⟨lv, bg, st⟩ now = now - bg) := if_neg h
    have w3 : IntKind.u64.wrap ((now : Int) - (bg : Int)) = (now : Int) - (bg : Int) := by rw [IntKind.wrap_u64]; omega
    have HN : Hid (((now - bg : Nat) : Int) = (now : Int) - (bg : Int)) := by unfold Hid; omega
    clear h
    go_enter Try.func36, Try.ntmps36
    go_wp2
    go_ret
    exact ⟨by rw [HX.out, HN.out]; rfl, HB⟩

theorem benefit_any (s : S) (now : Nat) (w : World) (ho : oneP s) (hnow : now < 18446744073709551616) : Calls Try.prog 35 #[s.val, .int .u64 now] w (Ans w (.int .u64 (worth 2 now s : Nat))) := by
  have hAge := fun W => age_any s now W ho.2.2.2 hnow
  have HA := At.new w s
  have HB := below_new w (boxO s)
  have HC : Hid (∀ W, Below (w.alloc (boxO s)).heap.size (w.alloc (boxO s)) W → W.cell? ⟨w.heap.size, 0, none⟩ = some (.int .i64 s.live) ∧ W.cell? ⟨w.heap.size, 1, none⟩ = some (.int .u64 s.begun) ∧ W.cell? ⟨w.heap.size, 2, none⟩ = some (.int .i64 s.state)) := fun W hW => (HA.th hW).c
  obtain ⟨hs, hl0, hl1, hb⟩ := ho
  have w1 : IntKind.i64.wrap (16 - s.live) = 16 - s.live := by rw [IntKind.wrap_i64]; omega
  have w2 : IntKind.u64.wrap (16 - s.live) = 16 - s.live := by rw [IntKind.wrap_u64]; omega
  have w4 : IntKind.i64.wrap (s.live + 1) = s.live + 1 := by rw [IntKind.wrap_i64]; omega
  have w5 : IntKind.u64.wrap (s.live + 1) = s.live + 1 := by rw [IntKind.wrap_u64]; omega
  have w6 : ¬ s.live + 1 = 0 := by omega
  have HW2 := Lib.hid (worth_no (now := now) (s := s))
  have HW3 := Lib.hid (worth_yes (now := now) (s := s))
  obtain ⟨lv, bg, st⟩ := s
  unfold S.val Ans at hAge
  unfold S.val
  unfold boxO at HB HC
  dsimp only at *
  have HAge := Lib.hid hAge
  clear HA hs hAge
  have hBz := Below.refl (w.alloc (.cells #[.int .i64 lv, .int .u64 bg, .int .i64 st] 35)).heap.size (w.alloc (.cells #[.int .i64 lv, .int .u64 bg, .int .i64 st] 35))
  have hBd := hBz.drew
  by_cases h : now ≤ bg
  · have hx := HW2.out h
    have HX := Lib.hid hx
    rw [show ageN ⟨lv, bg, st⟩ now = 0 from if_pos h] at HAge
    have w7 : IntKind.u64.wrap ((16 - lv) * 0) = 0 := by rw [Int.mul_zero]; rfl
    clear h hx
    go_enter Try.func35, Try.ntmps35
    go_wp2
    go_region_held3 (fun w' => w'.cell? ⟨w.heap.size, 0, none⟩ = some (.int .i64 lv) ∧ w'.cell? ⟨w.heap.size, 1, none⟩ = some (.int .u64 bg) ∧ w'.cell? ⟨w.heap.size, 2, none⟩ = some (.int .i64 st)) (exact HC.out _ (by assumption)) ((go_at_call 36; with_reducible refine Calls.mono (HAge.out _) ?_; rintro e w5 ⟨rfl, hB5⟩; have hB5' := below_th hBd hB5))
    go_wp2
    go_ret
    exact ⟨by rw [HX.out]; simp; rw [show IntKind.u64.wrap 0 = 0 from rfl, Int.zero_tdiv]; rfl, below_th HB hB5'⟩
  · have HX := Lib.hid (HW3.out h)
    rw [show ageN ⟨lv, bg, st⟩ now = now - bg from if_neg h] at HAge
    obtain ⟨m, hm⟩ : ∃ m, now - bg = m := ⟨_, rfl⟩
    rw [hm] at HAge HX
    clear h HW3 HW2 hm
    by_cases hm : m ≤ 288230376151711744
    · have hm2 : (m : Int) ≤ 288230376151711744 := by omega
      rw [Nat.min_eq_left hm] at HX
      have WF := Lib.hid (ben_fact lv m hl0 hl1 hm)
      go_enter Try.func35, Try.ntmps35
      go_wp2
      go_region_held3 (fun w' => w'.cell? ⟨w.heap.size, 0, none⟩ = some (.int .i64 lv) ∧ w'.cell? ⟨w.heap.size, 1, none⟩ = some (.int .u64 bg) ∧ w'.cell? ⟨w.heap.size, 2, none⟩ = some (.int .i64 st)) (exact HC.out _ (by assumption)) ((go_at_call 36; with_reducible refine Calls.mono (HAge.out _) ?_; rintro e w5 ⟨rfl, hB5⟩; have hB5' := below_th hBd hB5))
      all_goals
        go_wp2
        go_ret
        exact ⟨by rw [HX.out, ← WF.out]; rfl, below_th HB hB5'⟩
    · have hm2 : ¬ (m : Int) ≤ 288230376151711744 := by omega
      rw [Nat.min_eq_right (by omega)] at HX
      have WF := Lib.hid (ben_fact lv 288230376151711744 hl0 hl1 (Nat.le_refl _))
      go_enter Try.func35, Try.ntmps35
      go_wp2
      go_region_held3 (fun w' => w'.cell? ⟨w.heap.size, 0, none⟩ = some (.int .i64 lv) ∧ w'.cell? ⟨w.heap.size, 1, none⟩ = some (.int .u64 bg) ∧ w'.cell? ⟨w.heap.size, 2, none⟩ = some (.int .i64 st)) (exact HC.out _ (by assumption)) ((go_at_call 36; with_reducible refine Calls.mono (HAge.out _) ?_; rintro e w5 ⟨rfl, hB5⟩; have hB5' := below_th hBd hB5))
      all_goals
        go_wp2
        go_ret
        exact ⟨by rw [HX.out, ← WF.out]; rfl, below_th HB hB5'⟩

/-- is the first one worth more? -/
def betterB (a b : S) (way : Int) (now : Nat) : Bool := decide (worth way now b < worth way now a)
theorem better_any (a b : S) (way : Int) (now : Nat) (w : World) (ha : oneP a) (hb : oneP b) (hw : isWayP way) (hnow : now < 18446744073709551616) : Calls Try.prog 29 #[a.val, b.val, .int .i64 way, .int .u64 now] w (Ans w (.bool (betterB a b way now))) := by
  have hA := fun W => benefit_any a now W ha hnow
  have hB := fun W => benefit_any b now W hb hnow
  have HA := At.new w a
  have HB := below_new w (boxO a)
  have HA1 := HA.th (below_new (w.alloc (boxO a)) (boxO b))
  have HA2 := At.new (w.alloc (boxO a)) b
  have HBB := below_al HB (boxO b)
  have HC : Hid (∀ W, Below ((w.alloc (boxO a)).alloc (boxO b)).heap.size ((w.alloc (boxO a)).alloc (boxO b)) W → W.cell? ⟨w.heap.size, 0, none⟩ = some (.int .i64 a.live) ∧ W.cell? ⟨w.heap.size, 1, none⟩ = some (.int .u64 a.begun) ∧ W.cell? ⟨w.heap.size, 2, none⟩ = some (.int .i64 a.state) ∧ W.cell? ⟨w.heap.size + 1, 0, none⟩ = some (.int .i64 b.live) ∧ W.cell? ⟨w.heap.size + 1, 1, none⟩ = some (.int .u64 b.begun) ∧ W.cell? ⟨w.heap.size + 1, 2, none⟩ = some (.int .i64 b.state)) := fun W hW => by
    obtain ⟨x0, x1, x2⟩ := (HA1.th hW).c
    obtain ⟨y0, y1, y2⟩ := (HA2.th hW).c
    rw [World.size_alloc] at y0 y1 y2
    exact ⟨x0, x1, x2, y0, y1, y2⟩
  have HW0 := Lib.hid (worth_old now)
  have HW1 := Lib.hid (worth_few now)
  have hq0 : way = 0 → betterB a b way now = decide ((a.begun : Int) < (b.begun : Int)) := fun e => by
    subst e
    unfold betterB
    rw [worth_old, worth_old, Bool.eq_iff_iff, decide_eq_true_iff, decide_eq_true_iff]
    have := ha.2.2.2
    have := hb.2.2.2
    omega
  have hq1 : way = 1 → betterB a b way now = decide (a.live < b.live) := fun e => by
    subst e
    unfold betterB
    rw [worth_few, worth_few, Bool.eq_iff_iff, decide_eq_true_iff, decide_eq_true_iff]
    have := ha.2.1
    have := ha.2.2.1
    have := hb.2.1
    have := hb.2.2.1
    omega
  have hq2 : way = 2 → betterB a b way now = decide (worth 2 now b < worth 2 now a) := fun e => by
    subst e
    rfl
  have HQ0 := Lib.hid hq0
  have HQ1 := Lib.hid hq1
  have HQ2 := Lib.hid hq2
  obtain ⟨x, hx⟩ : ∃ x, betterB a b way now = x := ⟨_, rfl⟩
  rw [hx] at HQ0 HQ1 HQ2 ⊢
  obtain ⟨m, hm⟩ : ∃ m, worth 2 now a = m := ⟨_, rfl⟩
  obtain ⟨n, hn⟩ : ∃ n, worth 2 now b = n := ⟨_, rfl⟩
  rw [hm] at hA HQ2
  rw [hn] at hB HQ2
  obtain ⟨la, ba, sa⟩ := a
  obtain ⟨lb, bb, sb⟩ := b
  unfold S.val Ans at hA hB
  unfold S.val
  unfold boxO at HBB HC
  dsimp only at *
  have HAA := Lib.hid hA
  have HBA := Lib.hid hB
  clear HA HB HA1 HA2 hA hB hq0 hq1 hq2 HW0 HW1 hx hm hn ha hb
  obtain ⟨w0, w2⟩ := hw
  rcases (show way = 0 ∨ way = 1 ∨ way = 2 by omega) with rfl | rfl | rfl
  · have hx := HQ0.out rfl
    have HX := Lib.hid hx
    clear hx
    go_enter Try.func29, Try.ntmps29
    go_wp2
    go_ret
    exact ⟨by rw [HX.out]; simp, HBB⟩
  · have hx := HQ1.out rfl
    have HX := Lib.hid hx
    clear hx
    go_enter Try.func29, Try.ntmps29
    go_wp2
    go_ret
    exact ⟨by rw [HX.out]; rfl, HBB⟩
  · have hx := HQ2.out rfl
    have HX := Lib.hid hx
    clear hx
    have hBz := Below.refl ((w.alloc (.cells #[.int .i64 la, .int .u64 ba, .int .i64 sa] 35)).alloc (.cells #[.int .i64 lb, .int .u64 bb, .int .i64 sb] 35)).heap.size ((w.alloc (.cells #[.int .i64 la, .int .u64 ba, .int .i64 sa] 35)).alloc (.cells #[.int .i64 lb, .int .u64 bb, .int .i64 sb] 35))
    have hBd := hBz.drew
    go_enter Try.func29, Try.ntmps29
    go_wp2
    go_region_held3 (fun w' => w'.cell? ⟨w.heap.size, 0, none⟩ = some (.int .i64 la) ∧ w'.cell? ⟨w.heap.size, 1, none⟩ = some (.int .u64 ba) ∧ w'.cell? ⟨w.heap.size, 2, none⟩ = some (.int .i64 sa) ∧ w'.cell? ⟨w.heap.size + 1, 0, none⟩ = some (.int .i64 lb) ∧ w'.cell? ⟨w.heap.size + 1, 1, none⟩ = some (.int .u64 bb) ∧ w'.cell? ⟨w.heap.size + 1, 2, none⟩ = some (.int .i64 sb)) (exact HC.out _ (by assumption)) ((first
      | (go_at_call 35; with_reducible refine Calls.mono (HAA.out _) ?_; rintro e w5 ⟨rfl, hB5⟩; have hB5' := below_th hBd hB5)
      | (go_at_call 35; with_reducible refine Calls.mono (HBA.out _) ?_; rintro e w6 ⟨rfl, hB6⟩; have hB6' := below_th hB5' hB6)))
    go_wp2
    go_ret
    exact ⟨by rw [HX.out]; rfl, below_th HBB hB6'⟩
end
end R
end Go.Proofs.Ytgadclbenbakfaa.Usage
