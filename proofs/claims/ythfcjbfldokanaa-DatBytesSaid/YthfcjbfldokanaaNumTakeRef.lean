/- The document's own Take. -/
import Derived.Test.YthfcjbfldokanaaNumTake
namespace Go.Proofs.Ythfcjbfldokanaa
open Go.RowKit Go.Shelf
set_option linter.unusedVariables false

/-! ### a text behind its length -/

def textOk (s : ByteArray) : Prop := s.size ≤ 65535
instance (s : ByteArray) : Decidable (textOk s) := by unfold textOk; infer_instance
/-- what Text answers -/
def textS (s : ByteArray) : ByteArray := if textOk s then numB s.size 2 ++ s else ⟨#[]⟩
def textE (s : ByteArray) : Int := if textOk s then 0 else 2
theorem textS_yes {s : ByteArray} (h : textOk s) : textS s = numB s.size 2 ++ s := if_pos h
theorem textS_no {s : ByteArray} (h : ¬ textOk s) : textS s = ⟨#[]⟩ := if_neg h
theorem textE_yes {s : ByteArray} (h : textOk s) : textE s = 0 := if_pos h
theorem textE_no {s : ByteArray} (h : ¬ textOk s) : textE s = 2 := if_neg h
theorem textOk_put (s : ByteArray) : putOk s.size 2 ↔ textOk s := by
  unfold putOk textOk
  rw [show (2 : Int).toNat = 2 from rfl, show (256 : Nat) ^ 2 = 65536 from rfl]
  omega

/-! ### all bytes from there on -/

/-- are all bytes from a on 0? -/
def bareB (s : ByteArray) (a : Nat) : Bool := (s.data.toList.drop a).all (· == 0)
theorem bareB_end (s : ByteArray) (a : Nat) (h : s.size ≤ a) : bareB s a = true := by
  unfold bareB
  rw [List.drop_of_length_le (by simpa using h)]
  rfl
theorem bareB_step (s : ByteArray) (a : Nat) (h : a < s.size) : bareB s a = ((sb s a == 0) && bareB s (a + 1)) := by
  unfold bareB sb
  have hl : a < s.data.toList.length := by simpa using h
  rw [List.drop_eq_getElem_cons hl, List.all_cons, List.getElem?_eq_getElem hl]
  congr 1
  rw [Bool.eq_iff_iff]
  simp only [Option.getD_some, beq_iff_eq]
  constructor
  · intro h0
    rw [h0]
    rfl
  · intro h0
    exact UInt8.toNat_inj.1 h0

end Go.Proofs.Ythfcjbfldokanaa
