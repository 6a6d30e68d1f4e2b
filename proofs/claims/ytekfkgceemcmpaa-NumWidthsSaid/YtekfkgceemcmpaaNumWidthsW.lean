/- The walk of NumWidths: it answers true. -/
import Derived.Test.YtekfkgceemcmpaaNumBackW
namespace Go.Proofs.Ytekfkgceemcmpaa
open Go.RowKit Go.Shelf
set_option linter.unusedVariables false

set_option maxRecDepth 100000 in
set_option maxHeartbeats 1000000 in
theorem NumWidths_walk (a0 : Int) (a1 : Int) (w0 : (Lit.int .u64 a0).wf = true) (w1 : (Lit.int .i64 a1).wf = true) (w : World) :
    Calls Try.prog 7 #[.int .u64 a0, .int .i64 a1] w fun e w' => e = .returned (.bool true) ∧ Below w.heap.size w w' := by
  have b0 := bounds_u64 w0
  obtain ⟨n, rfl⟩ := Int.eq_ofNat_of_zero_le b0.1
  have hn := Lib.hid (u64_bound w0)
  have b1 := bounds_i64 w1
  by_cases hout : a1 < 1 ∨ 8 < a1
  · have hno : ¬ putOk n a1 := fun h => by have := h.1; have := h.2.1; omega
    have P1 : Hid (GivesSE 11 #[.int .u64 n, .int .i64 a1] ⟨#[]⟩ 2) := fun W => by
      have := put_any n a1 W hn.out
      rw [putS_no hno, putE_no hno] at this
      exact this
    have h8 : (a1 == 8) = false := by simp; omega
    have h8n : (a1 != 8) = true := by simp; omega
    clear hno w0 w1 b0
    rcases hout with h | h
    · go_enter Try.func7, Try.ntmps7
      go_wp2_with (first | (go_at_call 10; refine (shown_any _).mono ?_; rintro e u1 ⟨rfl, hB1⟩) | (go_at_call 11; ((with_reducible refine Calls.mono (seAt P1 _) ?_); rintro e u2 ⟨rfl, hB2⟩)) | (go_at_call 11; refine (put_any _ _ _ hn.out).mono ?_; rintro e u3 ⟨rfl, hB3⟩))
      go_ret
      exact ⟨rfl, below_th (below_th hB1 hB2) hB3⟩
    · have h1 : ¬ a1 < 1 := by omega
      have h7 : a1 > 7 := by omega
      go_enter Try.func7, Try.ntmps7
      go_wp2_with (first | (go_at_call 10; refine (shown_any _).mono ?_; rintro e u1 ⟨rfl, hB1⟩) | (go_at_call 11; ((with_reducible refine Calls.mono (seAt P1 _) ?_); rintro e u2 ⟨rfl, hB2⟩)) | (go_at_call 11; refine (put_any _ _ _ hn.out).mono ?_; rintro e u3 ⟨rfl, hB3⟩))
      go_ret
      exact ⟨rfl, below_th (below_th hB1 hB2) hB3⟩
  · obtain ⟨k, rfl⟩ := Int.eq_ofNat_of_zero_le (show 0 ≤ a1 by omega)
    by_cases hk8 : k = 8
    · subst hk8
      have P1 : Hid (GivesSE 11 #[.int .u64 n, .int .i64 8] (numB n 8) 0) := fun W => by
        have hok : putOk n 8 := ⟨by decide, by decide, hn.out⟩
        have := put_any n 8 W hn.out
        rw [putS_yes hok, putE_yes hok] at this
        exact this
      clear hout w0 w1 b0 b1
      go_enter Try.func7, Try.ntmps7
      go_wp2_with (first | (go_at_call 10; refine (shown_any _).mono ?_; rintro e u1 ⟨rfl, hB1⟩) | (go_at_call 11; ((with_reducible refine Calls.mono (seAt P1 _) ?_); rintro e u2 ⟨rfl, hB2⟩)) | (go_at_call 11; refine (put_any _ _ _ hn.out).mono ?_; rintro e u3 ⟨rfl, hB3⟩))
      go_ret
      exact ⟨rfl, below_th (below_th hB1 hB2) hB3⟩
    · have hk1 : 1 ≤ k := by omega
      have hk7 : k ≤ 7 := by omega
      have hf := fits_iff n k
      clear hout w0 w1 b0 b1 hk8
      by_cases hfit : n < 256 ^ k
      · have hz : ((n : Int) / 2 ^ (8 * k) == 0) = true := by rw [hf.2 hfit]; rfl
        have P1 : Hid (GivesSE 11 #[.int .u64 n, .int .i64 k] (numB n k) 0) := fun W => by
          have hok : putOk n k := ⟨by omega, by omega, by rw [Int.toNat_natCast]; exact hfit⟩
          have := put_any n k W hn.out
          rw [putS_yes hok, putE_yes hok, Int.toNat_natCast] at this
          exact this
        have P2 : Hid (GivesSE 11 #[.int .u64 n, .int .i64 ((k : Int) + 1)] (numB n k ++ ⟨#[0]⟩) 0) := fun W => by
          have h2 : n < 256 ^ (k + 1) := Nat.lt_of_lt_of_le hfit (Nat.pow_le_pow_right (by decide) (by omega))
          have e : (k : Int) + 1 = ((k + 1 : Nat) : Int) := by omega
          have hok : putOk n ((k : Int) + 1) := ⟨by omega, by omega, by rw [e, Int.toNat_natCast]; exact h2⟩
          have := put_any n ((k : Int) + 1) W hn.out
          rw [putS_yes hok, putE_yes hok, e, Int.toNat_natCast, numB_wider n k hfit] at this
          exact this
        have hadd := fun W => run_string_add_sum (P := Try.prog) (w := W) (numB n k) ⟨#[0]⟩ (by rw [numB_size]; simp [ByteArray.size]; omega)
        have hmod : (k : Int) % 100 = (k : Int) := by omega
        clear hf hfit
        go_enter Try.func7, Try.ntmps7
        go_wp2_with (first | (go_at_call 10; refine (shown_any _).mono ?_; rintro e u1 ⟨rfl, hB1⟩) | (go_at_call 11; ((with_reducible refine Calls.mono (seAt P1 _) ?_); rintro e u2 ⟨rfl, hB2⟩)) | (go_at_call 11; refine Calls.mono (seAt P2 _) ?_; rintro e u3 ⟨rfl, hB3⟩))
        go_ret
        exact ⟨by simp, below_th (below_th hB1 hB2) hB3⟩
      · have hz : ((n : Int) / 2 ^ (8 * k) == 0) = false := by simpa using fun h => hfit (hf.1 h)
        have P1 : Hid (GivesSE 11 #[.int .u64 n, .int .i64 k] ⟨#[]⟩ 2) := fun W => by
          have hno : ¬ putOk n k := fun h => hfit (by have := h.2.2; rwa [Int.toNat_natCast] at this)
          have := put_any n k W hn.out
          rw [putS_no hno, putE_no hno] at this
          exact this
        have hmod : (k : Int) % 100 = (k : Int) := by omega
        clear hf hfit
        go_enter Try.func7, Try.ntmps7
        go_wp2_with (first | (go_at_call 10; refine (shown_any _).mono ?_; rintro e u1 ⟨rfl, hB1⟩) | (go_at_call 11; ((with_reducible refine Calls.mono (seAt P1 _) ?_); rintro e u2 ⟨rfl, hB2⟩)) | (go_at_call 11; refine (put_any _ _ _ hn.out).mono ?_; rintro e u3 ⟨rfl, hB3⟩))
        go_ret
        exact ⟨by simp, below_th (below_th hB1 hB2) hB3⟩

end Go.Proofs.Ytekfkgceemcmpaa
