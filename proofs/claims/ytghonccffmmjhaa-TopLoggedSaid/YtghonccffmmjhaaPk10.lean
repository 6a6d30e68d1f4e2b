/- Several texts in one, each under its own heading. -/
import Derived.Laws.BytesArg
import Derived.Lib.Strings
import Derived.Laws.Bits64b
/- Plain facts on numbers as bytes, lowest byte first; they speak of no program. -/
namespace Go.Proofs.Ytghonccffmmjhaa

/-- byte number k of n, the lowest one is number 0 -/
def nbyte (n k : Nat) : Int := (n : Int) / 2 ^ (8 * k) % 256
def numL (n k : Nat) : List Int := (List.range k).map (nbyte n)
/-- the k lowest bytes of n -/
def numB (n k : Nat) : ByteArray := strOfNums (numL n k)

theorem nbyte_nat (n k : Nat) : nbyte n k = ((n / 256 ^ k % 256 : Nat) : Int) := by
  unfold nbyte
  have e : (2 : Int) ^ (8 * k) = ((256 ^ k : Nat) : Int) := by
    rw [show (256 : Nat) = 2 ^ 8 from rfl, ← Nat.pow_mul]
    simp
  rw [e]
  omega
theorem nbyte_range (n k : Nat) : 0 ≤ nbyte n k ∧ nbyte n k ≤ 255 := by
  rw [nbyte_nat]
  omega
theorem numL_length (n k : Nat) : (numL n k).length = k := by simp [numL]
theorem numB_size (n k : Nat) : (numB n k).size = k := by rw [numB, strOfNums_size, numL_length]

/-- does n fit into k bytes? -/
theorem high_zero (n k : Nat) (h : n < 256 ^ k) (j : Nat) (hj : k ≤ j) : nbyte n j = 0 := by
  rw [nbyte_nat]
  have : n < 256 ^ j := Nat.lt_of_lt_of_le h (Nat.pow_le_pow_right (by decide) hj)
  rw [Nat.div_eq_of_lt this]
  rfl

theorem small_of_high (n k : Nat) : ∀ (d : Nat), n < 256 ^ (k + d) → (∀ j, k ≤ j → j < k + d → nbyte n j = 0) → n < 256 ^ k
  | 0, h, _ => h
  | d + 1, h, hz => by
    refine small_of_high n k d ?_ fun j h1 h2 => hz j h1 (by omega)
    have hb := hz (k + d) (by omega) (by omega)
    rw [nbyte_nat] at hb
    have hb' : n / 256 ^ (k + d) % 256 = 0 := by exact_mod_cast hb
    have hlt : n / 256 ^ (k + d) < 256 := by
      rw [Nat.div_lt_iff_lt_mul (Nat.pow_pos (by decide))]
      calc n < 256 ^ (k + (d + 1)) := h
        _ = 256 * 256 ^ (k + d) := by rw [← Nat.add_assoc, Nat.pow_succ, Nat.mul_comm]
    rw [Nat.mod_eq_of_lt hlt] at hb'
    have := (Nat.div_eq_zero_iff).1 hb'
    rcases this with h0 | h0
    · exact absurd h0 (Nat.pos_iff_ne_zero.1 (Nat.pow_pos (by decide)))
    · exact h0

/-- a width that is one, and a number that fits -/
def putOk (n : Nat) (wd : Int) : Prop := 1 ≤ wd ∧ wd ≤ 8 ∧ n < 256 ^ wd.toNat
instance (n : Nat) (wd : Int) : Decidable (putOk n wd) := by unfold putOk; infer_instance
/-- what Put answers -/
def putS (n : Nat) (wd : Int) : ByteArray := if putOk n wd then numB n wd.toNat else ⟨#[]⟩
def putE (n : Nat) (wd : Int) : Int := if putOk n wd then 0 else 2

theorem putS_yes {n : Nat} {wd : Int} (h : putOk n wd) : putS n wd = numB n wd.toNat := if_pos h
theorem putS_no {n : Nat} {wd : Int} (h : ¬ putOk n wd) : putS n wd = ⟨#[]⟩ := if_neg h
theorem putE_yes {n : Nat} {wd : Int} (h : putOk n wd) : putE n wd = 0 := if_pos h
theorem putE_no {n : Nat} {wd : Int} (h : ¬ putOk n wd) : putE n wd = 2 := if_neg h

end Go.Proofs.Ytghonccffmmjhaa
/- Plain facts on the number that some bytes of a text are; they speak of no program. -/
namespace Go.Proofs.Ytghonccffmmjhaa

/-- byte number i of s, 0 where there is none -/
def sb (s : ByteArray) (i : Nat) : Nat := (s.data.toList[i]?.getD 0).toNat
/-- the same as an integer -/
def sbyte (s : ByteArray) (i : Nat) : Int := ((s.data.toList[i]?.getD 0).toNat : Int)
theorem sb_lt (s : ByteArray) (i : Nat) : sb s i < 256 := (s.data.toList[i]?.getD 0).toNat_lt
theorem sbyte_eq (s : ByteArray) (i : Nat) : sbyte s i = (sb s i : Int) := rfl
theorem sbyte_range (s : ByteArray) (i : Nat) : 0 ≤ sbyte s i ∧ sbyte s i ≤ 255 := by
  have := sb_lt s i
  rw [sbyte_eq]
  omega

/-- the number that k bytes from a on are, the lowest one first -/
def takeN (s : ByteArray) (a : Nat) : Nat → Nat
  | 0 => 0
  | k + 1 => takeN s a k + sb s (a + k) * 256 ^ k
theorem takeN_lt (s : ByteArray) (a : Nat) : ∀ k, takeN s a k < 256 ^ k
  | 0 => by simp [takeN]
  | k + 1 => by
    have h := takeN_lt s a k
    have hb := sb_lt s (a + k)
    have h2 : sb s (a + k) * 256 ^ k ≤ 255 * 256 ^ k := Nat.mul_le_mul_right _ (by omega)
    simp only [takeN, Nat.pow_succ]
    omega
theorem takeN_front (s : ByteArray) (a : Nat) : ∀ k, takeN s a (k + 1) = sb s a + 256 * takeN s (a + 1) k
  | 0 => by simp [takeN]
  | k + 1 => by
    rw [takeN, takeN_front s a k]
    conv => rhs; rw [takeN]
    rw [show a + (k + 1) = a + 1 + k from by omega, Nat.pow_succ, Nat.mul_add]
    have : sb s (a + 1 + k) * (256 ^ k * 256) = 256 * (sb s (a + 1 + k) * 256 ^ k) := by
      rw [Nat.mul_comm (256 ^ k) 256, ← Nat.mul_assoc, Nat.mul_comm _ 256, Nat.mul_assoc]
    omega

theorem or_mul (a b i : Nat) (h : a < 2 ^ i) : a ||| (b * 2 ^ i) = a + b * 2 ^ i := by
  rw [Nat.or_comm, ← Nat.shiftLeft_eq, ← Nat.shiftLeft_add_eq_or_of_lt h, Nat.add_comm]
theorem pow_eight (k : Nat) : (256 : Nat) ^ k = 2 ^ (8 * k) := by rw [show (256 : Nat) = 2 ^ 8 from rfl, ← Nat.pow_mul]

/-- one byte more at the high end -/
theorem or_high (t b k : Nat) (ht : t < 256 ^ k) (hb : b < 256) (hk : k < 8) :
    bits BinOp.or IntKind.u64 (t : Int) (IntKind.u64.wrap ((b : Int) * 2 ^ min (8 * k) 64)) = ((t + b * 256 ^ k : Nat) : Int) := by
  rw [show min (8 * k) 64 = 8 * k from by omega]
  have e : (b : Int) * 2 ^ (8 * k) = ((b * 256 ^ k : Nat) : Int) := by rw [pow_eight]; simp
  have h7 : 256 ^ k ≤ 256 ^ 7 := Nat.pow_le_pow_right (by decide) (by omega)
  have h77 : (256 : Nat) ^ 7 = 72057594037927936 := by decide
  have hm : b * 256 ^ k ≤ 255 * 256 ^ 7 := Nat.mul_le_mul (by omega) h7
  have hw : IntKind.u64.wrap (((b * 256 ^ k : Nat) : Nat) : Int) = ((b * 256 ^ k : Nat) : Int) := by
    rw [IntKind.wrap_u64]; omega
  rw [e, hw, bits_or_u64_nat _ _ (by omega) (by omega), pow_eight, or_mul _ _ _ (by rw [← pow_eight]; exact ht)]

/-- one byte more at the low end -/
theorem or_low (t b k : Nat) (ht : t < 256 ^ k) (hb : b < 256) (hk : k < 8) :
    bits BinOp.or IntKind.u64 (IntKind.u64.wrap ((t : Int) * 256)) (b : Int) = ((b + 256 * t : Nat) : Int) := by
  have h7 : 256 ^ k ≤ 256 ^ 7 := Nat.pow_le_pow_right (by decide) (by omega)
  have h77 : (256 : Nat) ^ 7 = 72057594037927936 := by decide
  have hw : IntKind.u64.wrap ((t : Int) * 256) = ((t * 256 : Nat) : Int) := by
    rw [IntKind.wrap_u64]; omega
  rw [hw, bits_or_u64_nat _ _ (by omega) (by omega), Nat.or_comm, show (256 : Nat) = 2 ^ 8 from rfl, or_mul _ _ _ (by omega)]
  omega

end Go.Proofs.Ytghonccffmmjhaa
