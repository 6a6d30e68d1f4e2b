/- Several texts in one, each under its own heading. -/
import Derived.WalkKit
import Derived.Lib.Hide
import Derived.Laws.OwnMore
import Derived.RangeFuncBox
import Derived.Deep.AppendLies
import Derived.Deep.Draws
import Derived.Laws.BytesArg
import Derived.Lib.Strings
/- What a piece of work leaves of a world: all but some blocks, and new ones. -/
namespace Go.Proofs.Yteopcjfakhmifaa
open Go.RowKit
set_option linter.unusedVariables false

/-- W' is W but for the blocks of S, and new ones -/
structure Only (S : Nat → Prop) (W W' : World) : Prop where
  os : W'.os = W.os
  tape : W'.tape = W.tape
  output : W'.output = W.output
  size : W.heap.size ≤ W'.heap.size
  block : ∀ k, k < W.heap.size → ¬ S k → W'.heap[k]? = W.heap[k]?

namespace Only
variable {S T : Nat → Prop} {A B C : World}
theorem refl (S : Nat → Prop) (W : World) : Only S W W := ⟨rfl, rfl, rfl, Nat.le_refl _, fun _ _ _ => rfl⟩
theorem mono (h : Only S A B) (hs : ∀ k, k < A.heap.size → S k → T k) : Only T A B := ⟨h.os, h.tape, h.output, h.size, fun k hk hn => h.block k hk (fun hh => hn (hs k hk hh))⟩
theorem trans (h : Only S A B) (k : Only S B C) : Only S A C :=
  ⟨k.os.trans h.os, k.tape.trans h.tape, k.output.trans h.output, Nat.le_trans h.size k.size, fun i hi hn => (k.block i (Nat.lt_of_lt_of_le hi h.size) hn).trans (h.block i hi hn)⟩
/-- what is new to the second step may be written by it -/
theorem step (h : Only S A B) (k : Only T B C) (hs : ∀ i, i < A.heap.size → T i → S i) : Only S A C :=
  ⟨k.os.trans h.os, k.tape.trans h.tape, k.output.trans h.output, Nat.le_trans h.size k.size, fun i hi hn => (k.block i (Nat.lt_of_lt_of_le hi h.size) (fun ht => hn (hs i hi ht))).trans (h.block i hi hn)⟩
theorem drew (h : Only S A B) : Only S A B.drew := ⟨h.os, h.tape, h.output, h.size, h.block⟩
theorem drewN (h : Only S A B) (n : Nat) : Only S A (B.drewN n) := ⟨h.os, h.tape, h.output, h.size, h.block⟩
theorem ofDrew (h : Only S A.drew B) : Only S A B := ⟨h.os, h.tape, h.output, h.size, h.block⟩
theorem alloc (h : Only S A B) (o : Obj) : Only S A (B.alloc o) :=
  ⟨h.os, h.tape, h.output, by rw [World.size_alloc]; have := h.size; omega, fun i hi hn => (Below.heap_alloc B o i (Nat.lt_of_lt_of_le hi h.size)).trans (h.block i hi hn)⟩
theorem setCell (h : Only S A B) {p : Addr} (hp : A.heap.size ≤ p.block ∨ S p.block) (u : Value) : Only S A (B.setCell p u) :=
  ⟨h.os, h.tape, h.output, Nat.le_trans h.size (KeepsWalks.setCell B p u).size, fun i hi hn => (Below.heap_setCell _ _ _ _ (fun e => by subst e; exact hp.elim (fun h1 => by omega) (fun h1 => hn h1))).trans (h.block i hi hn)⟩
theorem grown (h : Only S A B) {row : Option Nat} (hg : B.grownBy C row) (hr : ∀ r, row = some r → A.heap.size ≤ r ∨ S r) : Only S A C :=
  ⟨hg.os.trans h.os, hg.tape.trans h.tape, hg.output.trans h.output, Nat.le_trans h.size hg.size, fun i hi hn =>
    (hg.block i (Nat.lt_of_lt_of_le hi h.size) (fun e => (hr _ e.symm).elim (fun h1 => by omega) (fun h1 => hn h1))).trans (h.block i hi hn)⟩
theorem of_below (h : Below A.heap.size A B) : Only S A B := ⟨h.os, h.tape, h.output, h.size, fun i hi _ => h.block i hi⟩
theorem below (h : Only S A B) {n : Nat} (hn : n ≤ A.heap.size) (hs : ∀ k, S k → n ≤ k) : Below n A B :=
  ⟨h.os, h.tape, h.output, by have := h.size; omega, fun k hk => h.block k (by omega) (fun hh => by have := hs k hh; omega)⟩
end Only
theorem below_drewN {B : Nat} {w w' : World} (h : Below B w w') (n : Nat) : Below B w (w'.drewN n) := ⟨h.os, h.tape, h.output, h.size, h.block⟩

end Go.Proofs.Yteopcjfakhmifaa
/- Plain facts on numbers as bytes, lowest byte first; they speak of no program. -/
namespace Go.Proofs.Yteopcjfakhmifaa

/-- byte number k of n, the lowest one is number 0 -/
def nbyte (n k : Nat) : Int := (n : Int) / 2 ^ (8 * k) % 256
def numL (n k : Nat) : List Int := (List.range k).map (nbyte n)
/-- the k lowest bytes of n -/
def numB (n k : Nat) : ByteArray := strOfNums (numL n k)

theorem nbyte_nat (n k : Nat) : nbyte n k = ((n / 256 ^ k % 256 : Nat) : Int) := by
  unfold nbyte
  have e : (2 : Int) ^ (8 * k) = ((256 ^ k : Nat) : Int) := by
    rw [show (256 : Nat) = 2 ^ 8 from rfl, ← Nat.pow_mul]
    simp
  rw [e]
  omega
theorem nbyte_range (n k : Nat) : 0 ≤ nbyte n k ∧ nbyte n k ≤ 255 := by
  rw [nbyte_nat]
  omega
theorem numL_length (n k : Nat) : (numL n k).length = k := by simp [numL]
theorem numB_size (n k : Nat) : (numB n k).size = k := by rw [numB, strOfNums_size, numL_length]

/-- does n fit into k bytes? -/
theorem high_zero (n k : Nat) (h : n < 256 ^ k) (j : Nat) (hj : k ≤ j) : nbyte n j = 0 := by
  rw [nbyte_nat]
  have : n < 256 ^ j := Nat.lt_of_lt_of_le h (Nat.pow_le_pow_right (by decide) hj)
  rw [Nat.div_eq_of_lt this]
  rfl

theorem small_of_high (n k : Nat) : ∀ (d : Nat), n < 256 ^ (k + d) → (∀ j, k ≤ j → j < k + d → nbyte n j = 0) → n < 256 ^ k
  | 0, h, _ => h
  | d + 1, h, hz => by
    refine small_of_high n k d ?_ fun j h1 h2 => hz j h1 (by omega)
    have hb := hz (k + d) (by omega) (by omega)
    rw [nbyte_nat] at hb
    have hb' : n / 256 ^ (k + d) % 256 = 0 := by exact_mod_cast hb
    have hlt : n / 256 ^ (k + d) < 256 := by
      rw [Nat.div_lt_iff_lt_mul (Nat.pow_pos (by decide))]
      calc n < 256 ^ (k + (d + 1)) := h
        _ = 256 * 256 ^ (k + d) := by rw [← Nat.add_assoc, Nat.pow_succ, Nat.mul_comm]
    rw [Nat.mod_eq_of_lt hlt] at hb'
    have := (Nat.div_eq_zero_iff).1 hb'
    rcases this with h0 | h0
    · exact absurd h0 (Nat.pos_iff_ne_zero.1 (Nat.pow_pos (by decide)))
    · exact h0

/-- a width that is one, and a number that fits -/
def putOk (n : Nat) (wd : Int) : Prop := 1 ≤ wd ∧ wd ≤ 8 ∧ n < 256 ^ wd.toNat
instance (n : Nat) (wd : Int) : Decidable (putOk n wd) := by unfold putOk; infer_instance
/-- what Put answers -/
def putS (n : Nat) (wd : Int) : ByteArray := if putOk n wd then numB n wd.toNat else ⟨#[]⟩
def putE (n : Nat) (wd : Int) : Int := if putOk n wd then 0 else 2

theorem putS_yes {n : Nat} {wd : Int} (h : putOk n wd) : putS n wd = numB n wd.toNat := if_pos h
theorem putS_no {n : Nat} {wd : Int} (h : ¬ putOk n wd) : putS n wd = ⟨#[]⟩ := if_neg h
theorem putE_yes {n : Nat} {wd : Int} (h : putOk n wd) : putE n wd = 0 := if_pos h
theorem putE_no {n : Nat} {wd : Int} (h : ¬ putOk n wd) : putE n wd = 2 := if_neg h

end Go.Proofs.Yteopcjfakhmifaa
