/- Plain facts on the number that some bytes of a text are; they speak of no program. -/
import Derived.Laws.Bits64b
import Derived.Test.YtdniakoedgohkaaNumMath
namespace Go.Proofs.Ytdniakoedgohkaa

/-- byte number i of s, 0 where there is none -/
def sb (s : ByteArray) (i : Nat) : Nat := (s.data.toList[i]?.getD 0).toNat
/-- the same as an integer -/
def sbyte (s : ByteArray) (i : Nat) : Int := ((s.data.toList[i]?.getD 0).toNat : Int)
theorem sb_lt (s : ByteArray) (i : Nat) : sb s i < 256 := (s.data.toList[i]?.getD 0).toNat_lt
theorem sbyte_eq (s : ByteArray) (i : Nat) : sbyte s i = (sb s i : Int) := rfl
theorem sbyte_range (s : ByteArray) (i : Nat) : 0 ≤ sbyte s i ∧ sbyte s i ≤ 255 := by
  have := sb_lt s i
  rw [sbyte_eq]
  omega

/-- the number that k bytes from a on are, the lowest one first -/
def takeN (s : ByteArray) (a : Nat) : Nat → Nat
  | 0 => 0
  | k + 1 => takeN s a k + sb s (a + k) * 256 ^ k
theorem takeN_lt (s : ByteArray) (a : Nat) : ∀ k, takeN s a k < 256 ^ k
  | 0 => by simp [takeN]
  | k + 1 => by
    have h := takeN_lt s a k
    have hb := sb_lt s (a + k)
    have h2 : sb s (a + k) * 256 ^ k ≤ 255 * 256 ^ k := Nat.mul_le_mul_right _ (by omega)
    simp only [takeN, Nat.pow_succ]
    omega
theorem takeN_front (s : ByteArray) (a : Nat) : ∀ k, takeN s a (k + 1) = sb s a + 256 * takeN s (a + 1) k
  | 0 => by simp [takeN]
  | k + 1 => by
    rw [takeN, takeN_front s a k]
    conv => rhs; rw [takeN]
    rw [show a + (k + 1) = a + 1 + k from by omega, Nat.pow_succ, Nat.mul_add]
    have : sb s (a + 1 + k) * (256 ^ k * 256) = 256 * (sb s (a + 1 + k) * 256 ^ k) := by
      rw [Nat.mul_comm (256 ^ k) 256, ← Nat.mul_assoc, Nat.mul_comm _ 256, Nat.mul_assoc]
    omega

theorem or_mul (a b i : Nat) (h : a < 2 ^ i) : a ||| (b * 2 ^ i) = a + b * 2 ^ i := by
  rw [Nat.or_comm, ← Nat.shiftLeft_eq, ← Nat.shiftLeft_add_eq_or_of_lt h, Nat.add_comm]
theorem pow_eight (k : Nat) : (256 : Nat) ^ k = 2 ^ (8 * k) := by rw [show (256 : Nat) = 2 ^ 8 from rfl, ← Nat.pow_mul]

/-- one byte more at the high end -/
theorem or_high (t b k : Nat) (ht : t < 256 ^ k) (hb : b < 256) (hk : k < 8) :
    bits BinOp.or IntKind.u64 (t : Int) (IntKind.u64.wrap ((b : Int) * 2 ^ min (8 * k) 64)) = ((t + b * 256 ^ k : Nat) : Int) := by
  rw [show min (8 * k) 64 = 8 * k from by omega]
  have e : (b : Int) * 2 ^ (8 * k) = ((b * 256 ^ k : Nat) : Int) := by rw [pow_eight]; simp
  have h7 : 256 ^ k ≤ 256 ^ 7 := Nat.pow_le_pow_right (by decide) (by omega)
  have h77 : (256 : Nat) ^ 7 = 72057594037927936 := by decide
  have hm : b * 256 ^ k ≤ 255 * 256 ^ 7 := Nat.mul_le_mul (by omega) h7
  have hw : IntKind.u64.wrap (((b * 256 ^ k : Nat) : Nat) : Int) = ((b * 256 ^ k : Nat) : Int) := by
    rw [IntKind.wrap_u64]; omega
  rw [e, hw, bits_or_u64_nat _ _ (by omega) (by omega), pow_eight, or_mul _ _ _ (by rw [← pow_eight]; exact ht)]

/-- one byte more at the low end -/
theorem or_low (t b k : Nat) (ht : t < 256 ^ k) (hb : b < 256) (hk : k < 8) :
    bits BinOp.or IntKind.u64 (IntKind.u64.wrap ((t : Int) * 256)) (b : Int) = ((b + 256 * t : Nat) : Int) := by
  have h7 : 256 ^ k ≤ 256 ^ 7 := Nat.pow_le_pow_right (by decide) (by omega)
  have h77 : (256 : Nat) ^ 7 = 72057594037927936 := by decide
  have hw : IntKind.u64.wrap ((t : Int) * 256) = ((t * 256 : Nat) : Int) := by
    rw [IntKind.wrap_u64]; omega
  rw [hw, bits_or_u64_nat _ _ (by omega) (by omega), Nat.or_comm, show (256 : Nat) = 2 ^ 8 from rfl, or_mul _ _ _ (by omega)]
  omega

end Go.Proofs.Ytdniakoedgohkaa
