/- TakeText answers the text that stands behind its length, and the place behind it. -/
import Derived.Test.YtdniakoedgohkaaNumFit
namespace Go.Proofs.Ytdniakoedgohkaa
open Go.RowKit Go.Shelf
set_option linter.unusedVariables false

/-- do a text's bytes stand there? -/
def tokOk (s : ByteArray) (at0 : Int) : Prop := takeOk s at0 2 ∧ at0.toNat + 2 + takeN s at0.toNat 2 ≤ s.size
instance (s : ByteArray) (at0 : Int) : Decidable (tokOk s at0) := by unfold tokOk; infer_instance
/-- what TakeText answers -/
def tokS (s : ByteArray) (at0 : Int) : ByteArray := if tokOk s at0 then s.extract (at0.toNat + 2) (at0.toNat + 2 + takeN s at0.toNat 2) else ⟨#[]⟩
def tokI (s : ByteArray) (at0 : Int) : Int := if tokOk s at0 then ((at0.toNat + 2 + takeN s at0.toNat 2 : Nat) : Int) else 0
def tokE (s : ByteArray) (at0 : Int) : Int := if tokOk s at0 then 0 else 2
theorem tokS_no {s : ByteArray} {at0 : Int} (h : ¬ tokOk s at0) : tokS s at0 = ⟨#[]⟩ := if_neg h
theorem tokI_no {s : ByteArray} {at0 : Int} (h : ¬ tokOk s at0) : tokI s at0 = 0 := if_neg h
theorem tokE_no {s : ByteArray} {at0 : Int} (h : ¬ tokOk s at0) : tokE s at0 = 2 := if_neg h
theorem tokS_yes {s : ByteArray} {a : Nat} (h : tokOk s (a : Int)) : tokS s (a : Int) = s.extract (a + 2) (a + 2 + takeN s a 2) := (if_pos h).trans (by rw [Int.toNat_natCast])
theorem tokI_yes {s : ByteArray} {a : Nat} (h : tokOk s (a : Int)) : tokI s (a : Int) = ((a + 2 + takeN s a 2 : Nat) : Int) := (if_pos h).trans (by rw [Int.toNat_natCast])
theorem tokE_yes {s : ByteArray} {at0 : Int} (h : tokOk s at0) : tokE s at0 = 0 := if_pos h
theorem ret_sie {s t : ByteArray} {j k : IntKind} {x y a b : Int} (h : s = t) (h1 : x = y) (h2 : a = b) : Ending.returned (.tuple #[.string t, .int j y, .int k b]) = .returned (.tuple #[.string s, .int j x, .int k a]) := by rw [h, h1, h2]
theorem takeN_two (s : ByteArray) (a : Nat) : takeN s a 2 ≤ 65535 := by
  have := takeN_lt s a 2
  rw [show (256 : Nat) ^ 2 = 65536 from rfl] at this
  omega

/-! ### the statements' head -/
theorem put_258 : putS 258 3 = ⟨#[2, 1, 0]⟩ ∧ putE 258 3 = 0 := by decide +kernel
theorem text_ab : textS ⟨#[97, 98]⟩ = ⟨#[2, 0, 97, 98]⟩ ∧ textE ⟨#[97, 98]⟩ = 0 := by decide +kernel

end Go.Proofs.Ytdniakoedgohkaa
