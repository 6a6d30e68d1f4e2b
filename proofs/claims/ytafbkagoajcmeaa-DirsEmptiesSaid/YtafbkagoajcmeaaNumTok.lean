/- TakeText answers the text that stands behind its length, and the place behind it. -/
import Derived.Test.YtafbkagoajcmeaaNumFit
namespace Go.Proofs.Ytafbkagoajcmeaa
open Go.RowKit Go.Shelf
set_option linter.unusedVariables false

/-- do a text's bytes stand there? -/
def tokOk (s : ByteArray) (at0 : Int) : Prop := takeOk s at0 2 ∧ at0.toNat + 2 + takeN s at0.toNat 2 ≤ s.size
instance (s : ByteArray) (at0 : Int) : Decidable (tokOk s at0) := by unfold tokOk; infer_instance
/-- what TakeText answers -/
def tokS (s : ByteArray) (at0 : Int) : ByteArray := if tokOk s at0 then s.extract (at0.toNat + 2) (at0.toNat + 2 + takeN s at0.toNat 2) else ⟨#[]⟩
def tokI (s : ByteArray) (at0 : Int) : Int := if tokOk s at0 then ((at0.toNat + 2 + takeN s at0.toNat 2 : Nat) : Int) else 0
def tokE (s : ByteArray) (at0 : Int) : Int := if tokOk s at0 then 0 else 2
theorem tokS_no {s : ByteArray} {at0 : Int} (h : ¬ tokOk s at0) : tokS s at0 = ⟨#[]⟩ := if_neg h
theorem tokI_no {s : ByteArray} {at0 : Int} (h : ¬ tokOk s at0) : tokI s at0 = 0 := if_neg h
theorem tokE_no {s : ByteArray} {at0 : Int} (h : ¬ tokOk s at0) : tokE s at0 = 2 := if_neg h
theorem tokS_yes {s : ByteArray} {a : Nat} (h : tokOk s (a : Int)) : tokS s (a : Int) = s.extract (a + 2) (a + 2 + takeN s a 2) := (if_pos h).trans (by rw [Int.toNat_natCast])
theorem tokI_yes {s : ByteArray} {a : Nat} (h : tokOk s (a : Int)) : tokI s (a : Int) = ((a + 2 + takeN s a 2 : Nat) : Int) := (if_pos h).trans (by rw [Int.toNat_natCast])
theorem tokE_yes {s : ByteArray} {at0 : Int} (h : tokOk s at0) : tokE s at0 = 0 := if_pos h
theorem ret_sie {s t : ByteArray} {j k : IntKind} {x y a b : Int} (h : s = t) (h1 : x = y) (h2 : a = b) : Ending.returned (.tuple #[.string t, .int j y, .int k b]) = .returned (.tuple #[.string s, .int j x, .int k a]) := by rw [h, h1, h2]
theorem takeN_two (s : ByteArray) (a : Nat) : takeN s a 2 ≤ 65535 := by
  have := takeN_lt s a 2
  rw [show (256 : Nat) ^ 2 = 65536 from rfl] at this
  omega

set_option maxRecDepth 100000 in
set_option maxHeartbeats 400000 in
theorem tok_any (s : ByteArray) (at0 : Int) (w : World) (hs : s.size ≤ 281474976710656) (hat : at0 ≤ 9223372036854775807) :
    Calls Try.prog 55 #[.string s, .int .i64 at0] w fun e w' => e = .returned (.tuple #[.string (tokS s at0), .int .i64 (tokI s at0), .int .i64 (tokE s at0)]) ∧ Below w.heap.size w w' := by
  have hsm : s.size ≤ maxLen := by unfold maxLen; omega
  by_cases ht : takeOk s at0 2
  · have ht' := ht
    obtain ⟨_, _, h3, h4⟩ := ht'
    obtain ⟨a, rfl⟩ := Int.eq_ofNat_of_zero_le h3
    obtain ⟨N, hN⟩ : ∃ N, takeN s a 2 = N := ⟨_, rfl⟩
    have hN2 := takeN_two s a
    rw [hN] at hN2
    have HP := Lib.hid (fun W : World => (take_any s (a : Int) 2 W hs hat).mono (R' := fun e w' => e = .returned (.tuple #[.int .u64 (N : Int), .int .i64 0]) ∧ Below W.heap.size W w') fun e w' ⟨he, hb⟩ => ⟨by rw [he, takeV_yes ht, takeE_yes ht, Int.toNat_natCast, show (2 : Int).toNat = 2 from rfl, hN], hb⟩)
    by_cases hh : a + 2 + N ≤ s.size
    · have hok : tokOk s (a : Int) := ⟨ht, by rw [Int.toNat_natCast, hN]; exact hh⟩
      have HS := Lib.hid (tokS_yes hok)
      have HI := Lib.hid (tokI_yes hok)
      have HE := Lib.hid (tokE_yes hok)
      rw [hN] at HS HI
      have hhas : Hid (hasP s ((a : Int) + 2) (N : Int)) := ⟨by omega, by omega⟩
      have hex : (s.extract (a + 2) (a + 2 + N)).size ≤ 281474976710656 := by rw [ByteArray.size_extract]; omega
      clear ht hok hN h4
      go_enter Try.func55, Try.ntmps55
      go_wp2_with (first | (go_at_call 54; refine Calls.mono (HP.out _) ?_; rintro e w1 ⟨rfl, hB1⟩) | (go_at_call 73; refine (has_yes _ _ _ _ hsm hhas.out (by omega)).mono ?_; rintro e w' ⟨rfl, rfl⟩) | (go_at_call 39; refine (clone_any _ _ hex).mono ?_; rintro e w2 ⟨rfl, hB2⟩))
      go_ret3
      exact ⟨ret_sie HS.out (by rw [HI.out]; omega) HE.out, hB1.trans (hB2.mono hB1.size)⟩
    · have hno : ¬ tokOk s (a : Int) := fun h => hh (by have := h.2; rwa [Int.toNat_natCast, hN] at this)
      have HS := Lib.hid (tokS_no hno)
      have HI := Lib.hid (tokI_no hno)
      have HE := Lib.hid (tokE_no hno)
      have hhas : Hid (¬ hasP s ((a : Int) + 2) (N : Int)) := fun h => by have := h.2; omega
      clear ht hno hN
      go_enter Try.func55, Try.ntmps55
      go_wp2_with (first | (go_at_call 54; refine Calls.mono (HP.out _) ?_; rintro e w1 ⟨rfl, hB1⟩) | (go_at_call 73; refine (has_no _ _ _ _ hsm hhas.out (by omega)).mono ?_; rintro e w' ⟨rfl, rfl⟩))
      go_ret3
      exact ⟨ret_sie HS.out HI.out HE.out, hB1⟩
  · have hno : ¬ tokOk s at0 := fun h => ht h.1
    have HS := Lib.hid (tokS_no hno)
    have HI := Lib.hid (tokI_no hno)
    have HE := Lib.hid (tokE_no hno)
    have HP := Lib.hid (fun W : World => (take_any s at0 2 W hs hat).mono (R' := fun e w' => e = .returned (.tuple #[.int .u64 0, .int .i64 2]) ∧ Below W.heap.size W w') fun e w' ⟨he, hb⟩ => ⟨by rw [he, takeV_no ht, takeE_no ht], hb⟩)
    clear ht hno
    go_enter Try.func55, Try.ntmps55
    go_wp2_with (go_at_call 54; refine Calls.mono (HP.out _) ?_; rintro e w1 ⟨rfl, hB1⟩)
    go_ret3
    exact ⟨ret_sie HS.out HI.out HE.out, hB1⟩

set_option maxRecDepth 100000 in
set_option maxHeartbeats 400000 in
theorem tok_ref (s : ByteArray) (at0 : Int) (w : World) (hs : s.size ≤ 281474976710656) (hat : at0 ≤ 9223372036854775807) (hlo : -9223372036854775808 ≤ at0) :
    Calls Try.prog 46 #[.string s, .int .i64 at0] w fun e w' => e = .returned (.tuple #[.string (tokS s at0), .int .i64 (tokI s at0), .int .i64 (tokE s at0)]) ∧ w = w' := by
  by_cases ht : takeOk s at0 2
  · have ht' := ht
    obtain ⟨_, _, h3, h4⟩ := ht'
    obtain ⟨a, rfl⟩ := Int.eq_ofNat_of_zero_le h3
    obtain ⟨N, hN⟩ : ∃ N, takeN s a 2 = N := ⟨_, rfl⟩
    have hN2 := takeN_two s a
    rw [hN] at hN2
    have HP := Lib.hid (fun W : World => (take_ref s (a : Int) 2 W hs hat).mono (R' := fun e w' => e = .returned (.tuple #[.int .u64 (N : Int), .int .i64 0]) ∧ W = w') fun e w' ⟨he, hb⟩ => ⟨by rw [he, takeV_yes ht, takeE_yes ht, Int.toNat_natCast, show (2 : Int).toNat = 2 from rfl, hN], hb⟩)
    by_cases hh : a + 2 + N ≤ s.size
    · have hok : tokOk s (a : Int) := ⟨ht, by rw [Int.toNat_natCast, hN]; exact hh⟩
      have HS := Lib.hid (tokS_yes hok)
      have HI := Lib.hid (tokI_yes hok)
      have HE := Lib.hid (tokE_yes hok)
      rw [hN] at HS HI
      clear ht hok hN h4
      go_enter Try.func46, Try.ntmps46
      go_wp2_with (go_at_call 45; refine Calls.mono (HP.out _) ?_; rintro e w1 ⟨rfl, rfl⟩)
      go_ret3
      exact ⟨ret_sie HS.out (by rw [HI.out]; omega) HE.out, rfl⟩
    · have hno : ¬ tokOk s (a : Int) := fun h => hh (by have := h.2; rwa [Int.toNat_natCast, hN] at this)
      have HS := Lib.hid (tokS_no hno)
      have HI := Lib.hid (tokI_no hno)
      have HE := Lib.hid (tokE_no hno)
      clear ht hno hN
      go_enter Try.func46, Try.ntmps46
      go_wp2_with (go_at_call 45; refine Calls.mono (HP.out _) ?_; rintro e w1 ⟨rfl, rfl⟩)
      go_ret3
      exact ⟨ret_sie HS.out HI.out HE.out, rfl⟩
  · have hno : ¬ tokOk s at0 := fun h => ht h.1
    have HS := Lib.hid (tokS_no hno)
    have HI := Lib.hid (tokI_no hno)
    have HE := Lib.hid (tokE_no hno)
    have HP := Lib.hid (fun W : World => (take_ref s at0 2 W hs hat).mono (R' := fun e w' => e = .returned (.tuple #[.int .u64 0, .int .i64 2]) ∧ W = w') fun e w' ⟨he, hb⟩ => ⟨by rw [he, takeV_no ht, takeE_no ht], hb⟩)
    clear ht hno
    go_enter Try.func46, Try.ntmps46
    go_wp2_with (go_at_call 45; refine Calls.mono (HP.out _) ?_; rintro e w1 ⟨rfl, rfl⟩)
    go_ret3
    exact ⟨ret_sie HS.out HI.out HE.out, rfl⟩

/-! ### the statements' head -/
theorem put_258 : putS 258 3 = ⟨#[2, 1, 0]⟩ ∧ putE 258 3 = 0 := by decide +kernel
theorem text_ab : textS ⟨#[97, 98]⟩ = ⟨#[2, 0, 97, 98]⟩ ∧ textE ⟨#[97, 98]⟩ = 0 := by decide +kernel

end Go.Proofs.Ytafbkagoajcmeaa
