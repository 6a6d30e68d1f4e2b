/- Plain facts on numbers as bytes, lowest byte first; they speak of no program. -/
import Derived.Laws.BytesArg
import Derived.Lib.Strings
namespace Go.Proofs.Ytdniakoedgohkaa

/-- byte number k of n, the lowest one is number 0 -/
def nbyte (n k : Nat) : Int := (n : Int) / 2 ^ (8 * k) % 256
def numL (n k : Nat) : List Int := (List.range k).map (nbyte n)
/-- the k lowest bytes of n -/
def numB (n k : Nat) : ByteArray := strOfNums (numL n k)

theorem nbyte_nat (n k : Nat) : nbyte n k = ((n / 256 ^ k % 256 : Nat) : Int) := by
  unfold nbyte
  have e : (2 : Int) ^ (8 * k) = ((256 ^ k : Nat) : Int) := by
    rw [show (256 : Nat) = 2 ^ 8 from rfl, ← Nat.pow_mul]
    simp
  rw [e]
  omega
theorem nbyte_range (n k : Nat) : 0 ≤ nbyte n k ∧ nbyte n k ≤ 255 := by
  rw [nbyte_nat]
  omega
theorem numL_length (n k : Nat) : (numL n k).length = k := by simp [numL]
theorem numB_size (n k : Nat) : (numB n k).size = k := by rw [numB, strOfNums_size, numL_length]

/-- does n fit into k bytes? -/
theorem high_zero (n k : Nat) (h : n < 256 ^ k) (j : Nat) (hj : k ≤ j) : nbyte n j = 0 := by
  rw [nbyte_nat]
  have : n < 256 ^ j := Nat.lt_of_lt_of_le h (Nat.pow_le_pow_right (by decide) hj)
  rw [Nat.div_eq_of_lt this]
  rfl

theorem small_of_high (n k : Nat) : ∀ (d : Nat), n < 256 ^ (k + d) → (∀ j, k ≤ j → j < k + d → nbyte n j = 0) → n < 256 ^ k
  | 0, h, _ => h
  | d + 1, h, hz => by
    refine small_of_high n k d ?_ fun j h1 h2 => hz j h1 (by omega)
    have hb := hz (k + d) (by omega) (by omega)
    rw [nbyte_nat] at hb
    have hb' : n / 256 ^ (k + d) % 256 = 0 := by exact_mod_cast hb
    have hlt : n / 256 ^ (k + d) < 256 := by
      rw [Nat.div_lt_iff_lt_mul (Nat.pow_pos (by decide))]
      calc n < 256 ^ (k + (d + 1)) := h
        _ = 256 * 256 ^ (k + d) := by rw [← Nat.add_assoc, Nat.pow_succ, Nat.mul_comm]
    rw [Nat.mod_eq_of_lt hlt] at hb'
    have := (Nat.div_eq_zero_iff).1 hb'
    rcases this with h0 | h0
    · exact absurd h0 (Nat.pos_iff_ne_zero.1 (Nat.pow_pos (by decide)))
    · exact h0

/-- a width that is one, and a number that fits -/
def putOk (n : Nat) (wd : Int) : Prop := 1 ≤ wd ∧ wd ≤ 8 ∧ n < 256 ^ wd.toNat
instance (n : Nat) (wd : Int) : Decidable (putOk n wd) := by unfold putOk; infer_instance
/-- what Put answers -/
def putS (n : Nat) (wd : Int) : ByteArray := if putOk n wd then numB n wd.toNat else ⟨#[]⟩
def putE (n : Nat) (wd : Int) : Int := if putOk n wd then 0 else 2

theorem putS_yes {n : Nat} {wd : Int} (h : putOk n wd) : putS n wd = numB n wd.toNat := if_pos h
theorem putS_no {n : Nat} {wd : Int} (h : ¬ putOk n wd) : putS n wd = ⟨#[]⟩ := if_neg h
theorem putE_yes {n : Nat} {wd : Int} (h : putOk n wd) : putE n wd = 0 := if_pos h
theorem putE_no {n : Nat} {wd : Int} (h : ¬ putOk n wd) : putE n wd = 2 := if_neg h

end Go.Proofs.Ytdniakoedgohkaa
