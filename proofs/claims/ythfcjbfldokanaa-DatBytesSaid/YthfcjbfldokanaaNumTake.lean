/- Take answers the number that the bytes from its place on are, and an error where the width is none or they are too few. -/
import Derived.Test.YthfcjbfldokanaaNumRef
namespace Go.Proofs.Ythfcjbfldokanaa
open Go.RowKit Go.Shelf
attribute [local go_sem] Oper.semAt_some
set_option linter.unusedVariables false

/-- are there so many bytes from at on? -/
def hasP (s : ByteArray) (at0 cnt : Int) : Prop := 0 ≤ at0 ∧ cnt ≤ (s.size : Int) - at0
instance (s : ByteArray) (at0 cnt : Int) : Decidable (hasP s at0 cnt) := by unfold hasP; infer_instance

/-- what the loop has put together -/
def accT (s : ByteArray) (at0 : Nat) (pre : List Place) : Int := pre.foldl (fun a x => bits BinOp.or IntKind.u64 a (IntKind.u64.wrap (sbyte s (at0 + x.1) * 2 ^ min (8 * x.1) 64))) 0
theorem accT_snoc (s : ByteArray) (at0 : Nat) (pre : List Place) (x : Place) : accT s at0 (pre ++ [x]) = bits BinOp.or IntKind.u64 (accT s at0 pre) (IntKind.u64.wrap (sbyte s (at0 + x.1) * 2 ^ min (8 * x.1) 64)) := by simp [accT]

theorem accT_eq (s : ByteArray) (at0 : Nat) : ∀ (j : Nat) (pre : List Place), j ≤ 8 → pre.map (·.1) = List.range j → accT s at0 pre = (takeN s at0 j : Int)
  | 0, pre, _, h => by
    obtain rfl : pre = [] := List.map_eq_nil_iff.1 h
    rfl
  | j + 1, pre, hj, h => by
    rw [List.range_succ] at h
    obtain ⟨p1, p2, rfl, h1, h2⟩ := List.map_eq_append_iff.1 h
    obtain ⟨x, rfl, hx⟩ : ∃ x, p2 = [x] ∧ x.1 = j := by
      cases p2 with
      | nil => cases h2
      | cons x r => cases r with
        | nil => simp at h2; exact ⟨x, rfl, h2⟩
        | cons y r => simp at h2
    rw [accT_snoc, accT_eq s at0 j p1 (by omega) h1, hx, sbyte_eq, or_high _ _ _ (takeN_lt _ _ _) (sb_lt _ _) (by omega)]
    rfl

/-- are there a number's bytes? -/
def takeOk (s : ByteArray) (at0 wd : Int) : Prop := 1 ≤ wd ∧ wd ≤ 8 ∧ hasP s at0 wd
instance (s : ByteArray) (at0 wd : Int) : Decidable (takeOk s at0 wd) := by unfold takeOk; infer_instance
/-- what Take answers -/
def takeV (s : ByteArray) (at0 wd : Int) : Int := if takeOk s at0 wd then (takeN s at0.toNat wd.toNat : Int) else 0
def takeE (s : ByteArray) (at0 wd : Int) : Int := if takeOk s at0 wd then 0 else 2
theorem takeV_yes {s : ByteArray} {at0 wd : Int} (h : takeOk s at0 wd) : takeV s at0 wd = (takeN s at0.toNat wd.toNat : Int) := if_pos h
theorem takeV_no {s : ByteArray} {at0 wd : Int} (h : ¬ takeOk s at0 wd) : takeV s at0 wd = 0 := if_neg h
theorem takeE_yes {s : ByteArray} {at0 wd : Int} (h : takeOk s at0 wd) : takeE s at0 wd = 0 := if_pos h
theorem takeE_no {s : ByteArray} {at0 wd : Int} (h : ¬ takeOk s at0 wd) : takeE s at0 wd = 2 := if_neg h
theorem ret_ve {j k : IntKind} {x y a b : Int} (h : x = y) (h2 : a = b) : Ending.returned (.tuple #[.int j y, .int k b]) = .returned (.tuple #[.int j x, .int k a]) := by rw [h, h2]

end Go.Proofs.Ythfcjbfldokanaa
