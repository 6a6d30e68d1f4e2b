/- The document's own Take. -/
import Derived.Test.YtdakfdecfpebcaaNumTake
namespace Go.Proofs.Ytdakfdecfpebcaa
open Go.RowKit Go.Shelf
set_option linter.unusedVariables false

/-! ### a text behind its length -/

def textOk (s : ByteArray) : Prop := s.size ≤ 65535
instance (s : ByteArray) : Decidable (textOk s) := by unfold textOk; infer_instance
/-- what Text answers -/
def textS (s : ByteArray) : ByteArray := if textOk s then numB s.size 2 ++ s else ⟨#[]⟩
def textE (s : ByteArray) : Int := if textOk s then 0 else 2
theorem textS_yes {s : ByteArray} (h : textOk s) : textS s = numB s.size 2 ++ s := if_pos h
theorem textS_no {s : ByteArray} (h : ¬ textOk s) : textS s = ⟨#[]⟩ := if_neg h
theorem textE_yes {s : ByteArray} (h : textOk s) : textE s = 0 := if_pos h
theorem textE_no {s : ByteArray} (h : ¬ textOk s) : textE s = 2 := if_neg h
theorem textOk_put (s : ByteArray) : putOk s.size 2 ↔ textOk s := by
  unfold putOk textOk
  rw [show (2 : Int).toNat = 2 from rfl, show (256 : Nat) ^ 2 = 65536 from rfl]
  omega

/-! ### all bytes from there on -/

/-- are all bytes from a on 0? -/
def bareB (s : ByteArray) (a : Nat) : Bool := (s.data.toList.drop a).all (· == 0)
theorem bareB_end (s : ByteArray) (a : Nat) (h : s.size ≤ a) : bareB s a = true := by
  unfold bareB
  rw [List.drop_of_length_le (by simpa using h)]
  rfl
theorem bareB_step (s : ByteArray) (a : Nat) (h : a < s.size) : bareB s a = ((sb s a == 0) && bareB s (a + 1)) := by
  unfold bareB sb
  have hl : a < s.data.toList.length := by simpa using h
  rw [List.drop_eq_getElem_cons hl, List.all_cons, List.getElem?_eq_getElem hl]
  congr 1
  rw [Bool.eq_iff_iff]
  simp only [Option.getD_some, beq_iff_eq]
  constructor
  · intro h0
    rw [h0]
    rfl
  · intro h0
    exact UInt8.toNat_inj.1 h0

set_option maxRecDepth 100000 in
set_option maxHeartbeats 400000 in
theorem bare_any (s : ByteArray) (from0 : Int) (w : World) (hs : s.size ≤ 281474976710656) :
    Calls Try.prog 43 #[.string s, .int .i64 from0] w fun e w' => e = .returned (.bool (bareB s from0.toNat)) ∧ w = w' := by
  go_enter Try.func43, Try.ntmps43
  go_wp2
  go_loop [5] (fun i => ∃ j : Nat, i = .int .i64 j ∧ Hid (bareB s from0.toNat = bareB s j)) (fun i => (s.size : Nat) - (intOf i).toNat)
  case atStart => exact ⟨from0.toNat, by rw [Int.toNat_eq_max], rfl⟩
  case round =>
    obtain ⟨j, rfl, HB⟩ := hrel
    by_cases hlt : j < s.size
    · have e3 : ∀ h : j < s.size, (((s[j]'h).toNat : Nat) : Int) = sbyte s j := fun h => by
        have : s.data.toList[j]? = some (s[j]'h) := Go.Proofs.byte_at s j h
        simp [sbyte, this]
      by_cases hz : sb s j = 0
      · have hb : (sbyte s j != 0) = false := by rw [sbyte_eq, hz]; rfl
        have HN : Hid (bareB s from0.toNat = bareB s (j + 1)) := by unfold Hid; rw [HB.out, bareB_step s j hlt, hz]; rfl
        clear hz
        go_wp2
        go_round
        case rel => exact ⟨j + 1, by go_num, HN⟩
        case measure => simp [intOf]; omega
      · have hb : (sbyte s j != 0) = true := by rw [sbyte_eq]; simpa using hz
        have HN : Hid (bareB s from0.toNat = false) := by unfold Hid; rw [HB.out, bareB_step s j hlt]; simp [hz]
        clear hz
        go_wp2
        go_ret
        exact ⟨by rw [HN.out]; rfl, rfl⟩
    · have HN : Hid (bareB s from0.toNat = true) := by unfold Hid; rw [HB.out, bareB_end s j (by omega)]
      go_wp2
      go_ret
      exact ⟨by rw [HN.out]; rfl, rfl⟩

end Go.Proofs.Ytdakfdecfpebcaa
