/- The program's Numbers, Below. -/
import Derived.Test.YtdakfdecfpebcaaBmpLyP
import Derived.Test.YtdakfdecfpebcaaBmpJnd
import Derived.Test.YtdakfdecfpebcaaBmpCnt
namespace Go.Proofs.Ytdakfdecfpebcaa.Bmp
open Go.RowKit Ino
attribute [local go_sem] Oper.semAt_some
set_option linter.unusedVariables false
set_option linter.unusedSimpArgs false
def belowP (s : Nat) (b : ByteArray) : Prop := s ≤ 8193532 ∧ dpN s = 2 ∧ frontP b (lowN s) ∧ ¬ 0 ∈ firsts b (lowN s)
instance (s : Nat) (b : ByteArray) : Decidable (belowP s b) := by unfold belowP; infer_instance
section
set_option maxRecDepth 100000
set_option maxHeartbeats 4000000
theorem numbers_any (b : ByteArray) (w : World) : Calls Try.prog 21 #[.string b] w (U32Post (if frontP b 127 then some (firsts b 127) else none) w) := by
  have hF := fun W => front_any b 127 W (Nat.le_refl _)
  rw [show ((127 : Nat) : Int) = 127 from rfl] at hF
  by_cases hp : frontP b 127
  · rw [if_pos hp] at hF ⊢
    have HE : Hid (∀ v W, U32s W v (firsts b 127) → Below w.heap.size w W → U32Post (some (firsts b 127)) w (.returned (.tuple #[v, .int .i64 0])) W) := fun v W h1 h2 => ⟨v, rfl, h1, h2⟩
    have HF := Lib.hid hF
    obtain ⟨R, hR⟩ : ∃ R, U32Post (some (firsts b 127)) w = R := ⟨_, rfl⟩
    rw [hR] at HE ⊢
    clear hp hF hR
    go_enter Try.func21, Try.ntmps21
    go_wp2_with (go_at_call 34; (with_reducible refine Calls.mono (HF.out _) ?_); rintro e w2 ⟨v9, rfl, hU, hB⟩)
    first | exact HE.out _ _ hU hB | (go_returns; exact HE.out _ _ hU hB)
  · rw [if_neg hp] at hF ⊢
    have HF := Lib.hid hF
    clear hp hF
    go_enter Try.func21, Try.ntmps21
    go_wp2_with (go_at_call 34; (with_reducible refine Calls.mono (HF.out _) ?_); rintro e w2 ⟨rfl, hB⟩)
    go_returns
    exact ⟨rfl, hB⟩
theorem below_any (s : Nat) (b : ByteArray) (w : World) (h : s < 4294967296) : Calls Try.prog 20 #[.int .u32 s, .string b] w (U32Post (if belowP s b then some (firsts b (lowN s)) else none) w) := by
  have hC := fun W => count_eq s W h
  have HNO : Hid (¬ belowP s b → ∀ W, Below w.heap.size w W → U32Post (if belowP s b then some (firsts b (lowN s)) else none) w (.returned (.tuple #[.slice none 0 0, .int .i64 130])) W) := fun hn W h2 => by
    rw [if_neg hn]
    exact ⟨rfl, h2⟩
  have HYES : Hid (belowP s b → ∀ v W, U32s W v (firsts b (lowN s)) → Below w.heap.size w W → U32Post (if belowP s b then some (firsts b (lowN s)) else none) w (.returned (.tuple #[v, .int .i64 0])) W) := fun hp v W h1 h2 => by
    rw [if_pos hp]
    exact ⟨v, rfl, h1, h2⟩
  obtain ⟨R, hR⟩ : ∃ R, U32Post (if belowP s b then some (firsts b (lowN s)) else none) w = R := ⟨_, rfl⟩
  rw [hR] at HNO HYES ⊢
  clear hR
  obtain ⟨W0, rfl⟩ : ∃ W0 : World, W0 = w := ⟨_, rfl⟩
  by_cases hd : s ≤ 8193532 ∧ dpN s = 2
  · have hlm := low_max hd.1
    have hl2 : 2 ≤ lowN s := by have := dp_two hd.2; unfold lowN; omega
    have hcn : cntN s = 1 + lowN s := by rw [cnt_def hd.1, if_pos hd.2]
    have hF := fun W => front_any b (lowN s) W hlm
    have HP : Hid (frontP b (lowN s) → ¬ 0 ∈ firsts b (lowN s) → belowP s b) := fun h1 h2 => ⟨hd.1, hd.2, h1, h2⟩
    have HN1 : Hid (¬ frontP b (lowN s) → ¬ belowP s b) := fun h1 h2 => h1 h2.2.2.1
    have HN2 : Hid (0 ∈ firsts b (lowN s) → ¬ belowP s b) := fun h1 h2 => h2.2.2.2 h1
    rw [hcn] at hC
    obtain ⟨q, hq⟩ : ∃ q, lowN s = q := ⟨_, rfl⟩
    rw [hq] at hC hF HP HN1 HN2 HYES hlm hl2
    obtain ⟨r, hr⟩ : ∃ r, 1 + q = r := ⟨_, rfl⟩
    rw [hr] at hC
    have hw1 : IntKind.i64.wrap ((r : Int) - 1) = (q : Int) := by rw [IntKind.wrap_i64] <;> omega
    have g1 : ¬ ((q : Int) < 1) := by omega
    have HC := Lib.hid hC
    clear hq hr hC hcn hd h
    by_cases hp : frontP b q
    · rw [if_pos hp] at hF
      have HF := Lib.hid hF
      have HH := Lib.hid (fun v W (hU : U32s W v (firsts b q)) => has_any v _ W hU)
      by_cases hz : 0 ∈ firsts b q
      · have HE := Lib.hid (HNO.out (HN2.out hz))
        rw [decide_eq_true hz] at HH
        clear hp hz hF HYES HNO HP HN1 HN2
        go_enter Try.func20, Try.ntmps20
        go_wp2_with (first
          | (go_at_call 12; (with_reducible refine Calls.mono (HC.out _) ?_); rintro e w1 ⟨rfl, hw⟩; rw [← hw]; clear hw w1)
          | (go_at_call 34; (with_reducible refine Calls.mono (HF.out _) ?_); rintro e w2 ⟨v9, rfl, hU, hB⟩)
          | (go_at_call 27; (with_reducible refine Calls.mono (HH.out _ _ hU) ?_); rintro e w1 ⟨rfl, hw⟩; rw [hw]; clear hw w1))
        first | exact HE.out _ hB | (go_returns; exact HE.out _ hB)
      · have HE := Lib.hid (HYES.out (HP.out hp hz))
        rw [decide_eq_false hz] at HH
        clear hp hz hF HYES HNO HP HN1 HN2
        go_enter Try.func20, Try.ntmps20
        go_wp2_with (first
          | (go_at_call 12; (with_reducible refine Calls.mono (HC.out _) ?_); rintro e w1 ⟨rfl, hw⟩; rw [← hw]; clear hw w1)
          | (go_at_call 34; (with_reducible refine Calls.mono (HF.out _) ?_); rintro e w2 ⟨v9, rfl, hU, hB⟩)
          | (go_at_call 27; (with_reducible refine Calls.mono (HH.out _ _ hU) ?_); rintro e w1 ⟨rfl, hw⟩; rw [hw]; clear hw w1))
        first | exact HE.out _ _ hU hB | (go_returns; exact HE.out _ _ hU hB)
    · rw [if_neg hp] at hF
      have HF := Lib.hid hF
      have HE := Lib.hid (HNO.out (HN1.out hp))
      clear hp hF HYES HNO HP HN1 HN2
      go_enter Try.func20, Try.ntmps20
      go_wp2_with (first
        | (go_at_call 12; (with_reducible refine Calls.mono (HC.out _) ?_); rintro e w1 ⟨rfl, hw⟩; rw [← hw]; clear hw w1)
        | (go_at_call 34; (with_reducible refine Calls.mono (HF.out _) ?_); rintro e w2 ⟨rfl, hB⟩))
      first | exact HE.out _ hB | (go_returns; exact HE.out _ hB)
  · have hcn : cntN s ≤ 1 := by
      unfold cntN
      have := dp_le s
      split
      · omega
      · split
        · exact absurd ⟨by omega, by assumption⟩ hd
        · omega
    have HE := Lib.hid (HNO.out (fun hp => hd ⟨hp.1, hp.2.1⟩) _ (Below.refl _ W0))
    obtain ⟨r, hr⟩ : ∃ r, cntN s = r := ⟨_, rfl⟩
    rw [hr] at hC hcn
    have hw1 : IntKind.i64.wrap ((r : Int) - 1) = (r : Int) - 1 := by rw [IntKind.wrap_i64] <;> omega
    have g1 : (r : Int) - 1 < 1 := by omega
    have HC := Lib.hid hC
    clear hr hC hd h HYES HNO
    go_enter Try.func20, Try.ntmps20
    go_wp2_with (go_at_call 12; (with_reducible refine Calls.mono (HC.out _) ?_); rintro e w1 ⟨rfl, hw⟩; rw [← hw]; clear hw w1)
    first | exact HE.out | (go_returns; exact HE.out)
end
end Go.Proofs.Ytdakfdecfpebcaa.Bmp
