/- How many blocks a size has, and how deep they lie: the program's and the document's. -/
import Derived.Test.YtdakfdecfpebcaaInoMem
namespace Go.Proofs.Ytdakfdecfpebcaa.Ino
open Go.RowKit
attribute [local go_sem] Oper.semAt_some
set_option linter.unusedVariables false
set_option linter.unusedSimpArgs false
section
set_option maxRecDepth 100000
theorem blocks_any (s : Nat) (w : World) (h : s < 4294967296) : Calls Try.prog 22 #[.int .u32 s] w fun e w' => e = .returned (.int .i64 (blN s)) ∧ w = w' := by
  obtain ⟨q, hq⟩ : ∃ q, s / 508 = q := ⟨_, rfl⟩
  obtain ⟨r, hr⟩ : ∃ r, s % 508 = r := ⟨_, rfl⟩
  have hq1 : (s : Int) / 508 = (q : Int) := by omega
  have hr1 : (s : Int) % 508 = (r : Int) := by omega
  have hq2 : (s : Int).tdiv 508 = (q : Int) := by rw [Int.tdiv_eq_ediv_of_nonneg (by omega)]; exact hq1
  have hr2 : (s : Int).tmod 508 = (r : Int) := by rw [Int.tmod_eq_emod_of_nonneg (by omega)]; exact hr1
  have hql : q < 8454661 := by omega
  have hrl : r < 508 := by omega
  have hB : blN s = if r = 0 then q else q + 1 := by unfold blN; rw [hq, hr]
  rw [hB]
  clear hB hq hr h
  have w1 : IntKind.u32.wrap (q : Int) = (q : Int) := by rw [IntKind.wrap_u32]; omega
  have w2 : IntKind.u32.wrap (r : Int) = (r : Int) := by rw [IntKind.wrap_u32]; omega
  have w3 : IntKind.u32.wrap ((q : Int) + 1) = (q : Int) + 1 := by rw [IntKind.wrap_u32]; omega
  have w4 : IntKind.i64.wrap (q : Int) = (q : Int) := by rw [IntKind.wrap_i64]; omega
  have w5 : IntKind.i64.wrap ((q : Int) + 1) = (q : Int) + 1 := by rw [IntKind.wrap_i64]; omega
  clear hql hrl
  by_cases hz : r = 0
  · rw [if_pos hz]
    have hg : decide ((r : Int) > 0) = false := by simp; omega
    have hg2 : ¬ 0 < r := by omega
    clear hz
    go_enter Try.func22, Try.ntmps22
    go_wp2
    go_ret
    exact ⟨rfl, rfl⟩
  · rw [if_neg hz]
    have hg : decide ((r : Int) > 0) = true := by simp; omega
    have hg2 : 0 < r := by omega
    clear hz
    go_enter Try.func22, Try.ntmps22
    go_wp2
    go_ret
    exact ⟨rfl, rfl⟩
theorem depth_any (s : Nat) (w : World) (h : s < 4294967296) : Calls Try.prog 23 #[.int .u32 s] w fun e w' => e = .returned (.int .i64 (dpN s)) ∧ w = w' := by
  have hb := fun W => blocks_any s W h
  have hd : dpN s = if blN s ≤ 6 then 0 else if blN s ≤ 127 then 1 else 2 := rfl
  rw [hd]
  clear hd h
  generalize blN s = b at *
  by_cases h6 : b ≤ 6
  · have hi : (b : Int) ≤ 6 := by omega
    rw [if_pos h6]
    go_enter Try.func23, Try.ntmps23
    go_wp2_with (go_at_call 22; refine (hb _).mono ?_; rintro e w1 ⟨rfl, rfl⟩)
    go_ret
    exact ⟨rfl, rfl⟩
  · have hi : ¬ (b : Int) ≤ 6 := by omega
    rw [if_neg h6]
    by_cases h7 : b ≤ 127
    · have hj : (b : Int) ≤ 127 := by omega
      rw [if_pos h7]
      go_enter Try.func23, Try.ntmps23
      go_wp2_with (go_at_call 22; refine (hb _).mono ?_; rintro e w1 ⟨rfl, rfl⟩)
      go_ret
      exact ⟨rfl, rfl⟩
    · have hj : ¬ (b : Int) ≤ 127 := by omega
      rw [if_neg h7]
      go_enter Try.func23, Try.ntmps23
      go_wp2_with (go_at_call 22; refine (hb _).mono ?_; rintro e w1 ⟨rfl, rfl⟩)
      go_ret
      exact ⟨rfl, rfl⟩
theorem R.blocks_any (s : Nat) (w : World) (h : s < 4294967296) : Calls Try.prog 24 #[.int .u32 s] w fun e w' => e = .returned (.int .i64 (blN s)) ∧ w = w' := by
  have h0 : IntKind.u64.wrap (s : Int) = (s : Int) := by rw [IntKind.wrap_u64]; omega
  obtain ⟨q, hq⟩ : ∃ q, s / 508 = q := ⟨_, rfl⟩
  obtain ⟨r, hr⟩ : ∃ r, s % 508 = r := ⟨_, rfl⟩
  have hq1 : (s : Int) / 508 = (q : Int) := by omega
  have hr1 : (s : Int) % 508 = (r : Int) := by omega
  have hq2 : (s : Int).tdiv 508 = (q : Int) := by rw [Int.tdiv_eq_ediv_of_nonneg (by omega)]; exact hq1
  have hr2 : (s : Int).tmod 508 = (r : Int) := by rw [Int.tmod_eq_emod_of_nonneg (by omega)]; exact hr1
  have hql : q < 8454661 := by omega
  have hrl : r < 508 := by omega
  have hB : blN s = if r = 0 then q else q + 1 := by unfold blN; rw [hq, hr]
  rw [hB]
  clear hB hq hr h
  have w1 : IntKind.u64.wrap (q : Int) = (q : Int) := by rw [IntKind.wrap_u64]; omega
  have w2 : IntKind.u64.wrap (r : Int) = (r : Int) := by rw [IntKind.wrap_u64]; omega
  have w3 : IntKind.u64.wrap ((q : Int) + 1) = (q : Int) + 1 := by rw [IntKind.wrap_u64]; omega
  have w4 : IntKind.i64.wrap (q : Int) = (q : Int) := by rw [IntKind.wrap_i64]; omega
  have w5 : IntKind.i64.wrap ((q : Int) + 1) = (q : Int) + 1 := by rw [IntKind.wrap_i64]; omega
  clear hql hrl
  by_cases hz : r = 0
  · rw [if_pos hz]
    have hg : ((r : Int) != 0) = false := by simp; omega
    clear hz
    go_enter Try.func24, Try.ntmps24
    go_wp2
    go_ret
    exact ⟨rfl, rfl⟩
  · rw [if_neg hz]
    have hg : ((r : Int) != 0) = true := by simp; omega
    clear hz
    go_enter Try.func24, Try.ntmps24
    go_wp2
    go_ret
    exact ⟨rfl, rfl⟩
theorem R.depth_any (s : Nat) (w : World) (h : s < 4294967296) : Calls Try.prog 25 #[.int .u32 s] w fun e w' => e = .returned (.int .i64 (dpN s)) ∧ w = w' := by
  have hb := fun W => R.blocks_any s W h
  have hd : dpN s = if blN s ≤ 6 then 0 else if blN s ≤ 127 then 1 else 2 := rfl
  rw [hd]
  clear hd h
  generalize blN s = b at *
  by_cases h6 : b ≤ 6
  · have hi : (b : Int) ≤ 6 := by omega
    rw [if_pos h6]
    go_enter Try.func25, Try.ntmps25
    go_wp2_with (go_at_call 24; refine (hb _).mono ?_; rintro e w1 ⟨rfl, rfl⟩)
    go_ret
    exact ⟨rfl, rfl⟩
  · have hi : ¬ (b : Int) ≤ 6 := by omega
    rw [if_neg h6]
    by_cases h7 : b ≤ 127
    · have hj : (b : Int) ≤ 127 := by omega
      rw [if_pos h7]
      go_enter Try.func25, Try.ntmps25
      go_wp2_with (go_at_call 24; refine (hb _).mono ?_; rintro e w1 ⟨rfl, rfl⟩)
      go_ret
      exact ⟨rfl, rfl⟩
    · have hj : ¬ (b : Int) ≤ 127 := by omega
      rw [if_neg h7]
      go_enter Try.func25, Try.ntmps25
      go_wp2_with (go_at_call 24; refine (hb _).mono ?_; rintro e w1 ⟨rfl, rfl⟩)
      go_ret
      exact ⟨rfl, rfl⟩
end
end Go.Proofs.Ytdakfdecfpebcaa.Ino
