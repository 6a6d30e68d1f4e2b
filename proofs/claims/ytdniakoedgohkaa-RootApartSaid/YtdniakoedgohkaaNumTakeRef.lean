/- The document's own Take. -/
import Derived.Test.YtdniakoedgohkaaNumTake
namespace Go.Proofs.Ytdniakoedgohkaa
open Go.RowKit Go.Shelf
set_option linter.unusedVariables false

set_option maxRecDepth 100000 in
set_option maxHeartbeats 400000 in
theorem take_ref_yes (s : ByteArray) (a k : Nat) (w : World) (hs : s.size ≤ 281474976710656) (h1 : 1 ≤ k) (h2 : k ≤ 8) (hk : a + k ≤ s.size) :
    Calls Try.prog 36 #[.string s, .int .i64 a, .int .i64 k] w fun e w' => e = .returned (.tuple #[.int .u64 (takeN s a k), .int .i64 0]) ∧ w = w' := by
  have hc1 : ¬ ((a : Int) > (s.size : Int)) := by omega
  have hc2 : ¬ ((s.size : Int) - a < k) := by omega
  go_enter Try.func36, Try.ntmps36
  go_wp2
  go_loop [8, 9] (fun n i => ∃ (j : Nat) (t : Nat), j ≤ k ∧ i = .int .i64 ((j : Int) - 1) ∧ n = .int .u64 t ∧ Hid (t = takeN s (a + j) (k - j))) (fun _ i => (intOf i + 1).toNat)
  case atStart => exact ⟨k, 0, Nat.le_refl _, rfl, rfl, by unfold Hid; rw [Nat.sub_self]; rfl⟩
  case round =>
    obtain ⟨j, t, hj, rfl, rfl, HT⟩ := hrel
    cases j with
    | zero =>
      go_wp2
      go_ret2
      have e : t = takeN s a k := by have := HT.out; rwa [Nat.add_zero, Nat.sub_zero] at this
      rw [← e]
      exact ⟨rfl, rfl⟩
    | succ q =>
      have hq : a + q < s.size := by omega
      have e3 : ∀ h : a + q < s.size, (((s[a + q]'h).toNat : Nat) : Int) = sbyte s (a + q) := fun h => by
        have : s.data.toList[a + q]? = some (s[a + q]'h) := Go.Proofs.byte_at s (a + q) h
        simp [sbyte, this]
      have HL : Hid (bits BinOp.or IntKind.u64 (IntKind.u64.wrap ((t : Int) * 256)) (IntKind.u64.wrap (sbyte s (a + q))) = ((takeN s (a + q) (k - q) : Nat) : Int)) := by
        have ht : t < 256 ^ (k - (q + 1)) := by rw [HT.out]; exact takeN_lt _ _ _
        have hw : IntKind.u64.wrap (sbyte s (a + q)) = ((sb s (a + q) : Nat) : Int) := by
          have := sb_lt s (a + q)
          rw [sbyte_eq, IntKind.wrap_u64]; omega
        unfold Hid
        rw [hw, or_low _ _ _ ht (sb_lt _ _) (by omega), show k - q = (k - (q + 1)) + 1 from by omega, takeN_front, HT.out]
        rfl
      go_wp2
      go_round
      case rel => exact ⟨q, takeN s (a + q) (k - q), by omega, rfl, by rw [HL.out], rfl⟩
      case measure => simp [intOf]

set_option maxRecDepth 100000 in
set_option maxHeartbeats 400000 in
/-- the reference's Take, whatever its text, place and width -/
theorem take_ref (s : ByteArray) (at0 wd : Int) (w : World) (hs : s.size ≤ 281474976710656) (hat : at0 ≤ 9223372036854775807) :
    Calls Try.prog 36 #[.string s, .int .i64 at0, .int .i64 wd] w fun e w' => e = .returned (.tuple #[.int .u64 (takeV s at0 wd), .int .i64 (takeE s at0 wd)]) ∧ w = w' := by
  by_cases h : takeOk s at0 wd
  · have h' := h
    obtain ⟨h1, h2, h3, h4⟩ := h'
    obtain ⟨k, rfl⟩ := Int.eq_ofNat_of_zero_le (show 0 ≤ wd by omega)
    obtain ⟨a, rfl⟩ := Int.eq_ofNat_of_zero_le h3
    refine (take_ref_yes s a k w hs (by omega) (by omega) (by omega)).mono fun e w' ⟨he, hb⟩ => ⟨?_, hb⟩
    rw [he]
    exact ret_ve (by rw [takeV_yes h, Int.toNat_natCast, Int.toNat_natCast]) (takeE_yes h)
  · have HV := Lib.hid (takeV_no h)
    have HE := Lib.hid (takeE_no h)
    have h0 : wd < 1 ∨ (1 ≤ wd ∧ 8 < wd) ∨ (1 ≤ wd ∧ wd ≤ 8 ∧ at0 < 0) ∨ (1 ≤ wd ∧ wd ≤ 8 ∧ 0 ≤ at0 ∧ (s.size : Int) < at0) ∨ (1 ≤ wd ∧ wd ≤ 8 ∧ 0 ≤ at0 ∧ at0 ≤ (s.size : Int) ∧ (s.size : Int) - at0 < wd) := by
      unfold takeOk hasP at h
      omega
    clear h
    rcases h0 with h | ⟨h1, h⟩ | ⟨h1, h2, h⟩ | ⟨h1, h2, h3, h⟩ | ⟨h1, h2, h3, h4, h⟩
    all_goals
      go_enter Try.func36, Try.ntmps36
      go_wp2
      go_ret2
      exact ⟨ret_ve HV.out HE.out, rfl⟩

/-! ### a text behind its length -/

def textOk (s : ByteArray) : Prop := s.size ≤ 65535
instance (s : ByteArray) : Decidable (textOk s) := by unfold textOk; infer_instance
/-- what Text answers -/
def textS (s : ByteArray) : ByteArray := if textOk s then numB s.size 2 ++ s else ⟨#[]⟩
def textE (s : ByteArray) : Int := if textOk s then 0 else 2
theorem textS_yes {s : ByteArray} (h : textOk s) : textS s = numB s.size 2 ++ s := if_pos h
theorem textS_no {s : ByteArray} (h : ¬ textOk s) : textS s = ⟨#[]⟩ := if_neg h
theorem textE_yes {s : ByteArray} (h : textOk s) : textE s = 0 := if_pos h
theorem textE_no {s : ByteArray} (h : ¬ textOk s) : textE s = 2 := if_neg h
theorem textOk_put (s : ByteArray) : putOk s.size 2 ↔ textOk s := by
  unfold putOk textOk
  rw [show (2 : Int).toNat = 2 from rfl, show (256 : Nat) ^ 2 = 65536 from rfl]
  omega

/-! ### all bytes from there on -/

/-- are all bytes from a on 0? -/
def bareB (s : ByteArray) (a : Nat) : Bool := (s.data.toList.drop a).all (· == 0)
theorem bareB_end (s : ByteArray) (a : Nat) (h : s.size ≤ a) : bareB s a = true := by
  unfold bareB
  rw [List.drop_of_length_le (by simpa using h)]
  rfl
theorem bareB_step (s : ByteArray) (a : Nat) (h : a < s.size) : bareB s a = ((sb s a == 0) && bareB s (a + 1)) := by
  unfold bareB sb
  have hl : a < s.data.toList.length := by simpa using h
  rw [List.drop_eq_getElem_cons hl, List.all_cons, List.getElem?_eq_getElem hl]
  congr 1
  rw [Bool.eq_iff_iff]
  simp only [Option.getD_some, beq_iff_eq]
  constructor
  · intro h0
    rw [h0]
    rfl
  · intro h0
    exact UInt8.toNat_inj.1 h0

end Go.Proofs.Ytdniakoedgohkaa
