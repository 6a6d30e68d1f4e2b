/- What a piece of work leaves of a world: all but some blocks, and new ones. -/
import Derived.WalkKit
import Derived.Lib.Hide
import Derived.Laws.OwnMore
import Derived.RangeFuncBox
import Derived.Deep.AppendLies
import Derived.Deep.Draws
namespace Go.Proofs.Ytdniakoedgohkaa
open Go.RowKit
set_option linter.unusedVariables false

/-- W' is W but for the blocks of S, and new ones -/
structure Only (S : Nat → Prop) (W W' : World) : Prop where
  os : W'.os = W.os
  tape : W'.tape = W.tape
  output : W'.output = W.output
  size : W.heap.size ≤ W'.heap.size
  block : ∀ k, k < W.heap.size → ¬ S k → W'.heap[k]? = W.heap[k]?

namespace Only
variable {S T : Nat → Prop} {A B C : World}
theorem refl (S : Nat → Prop) (W : World) : Only S W W := ⟨rfl, rfl, rfl, Nat.le_refl _, fun _ _ _ => rfl⟩
theorem mono (h : Only S A B) (hs : ∀ k, k < A.heap.size → S k → T k) : Only T A B := ⟨h.os, h.tape, h.output, h.size, fun k hk hn => h.block k hk (fun hh => hn (hs k hk hh))⟩
theorem trans (h : Only S A B) (k : Only S B C) : Only S A C :=
  ⟨k.os.trans h.os, k.tape.trans h.tape, k.output.trans h.output, Nat.le_trans h.size k.size, fun i hi hn => (k.block i (Nat.lt_of_lt_of_le hi h.size) hn).trans (h.block i hi hn)⟩
/-- what is new to the second step may be written by it -/
theorem step (h : Only S A B) (k : Only T B C) (hs : ∀ i, i < A.heap.size → T i → S i) : Only S A C :=
  ⟨k.os.trans h.os, k.tape.trans h.tape, k.output.trans h.output, Nat.le_trans h.size k.size, fun i hi hn => (k.block i (Nat.lt_of_lt_of_le hi h.size) (fun ht => hn (hs i hi ht))).trans (h.block i hi hn)⟩
theorem drew (h : Only S A B) : Only S A B.drew := ⟨h.os, h.tape, h.output, h.size, h.block⟩
theorem drewN (h : Only S A B) (n : Nat) : Only S A (B.drewN n) := ⟨h.os, h.tape, h.output, h.size, h.block⟩
theorem ofDrew (h : Only S A.drew B) : Only S A B := ⟨h.os, h.tape, h.output, h.size, h.block⟩
theorem alloc (h : Only S A B) (o : Obj) : Only S A (B.alloc o) :=
  ⟨h.os, h.tape, h.output, by rw [World.size_alloc]; have := h.size; omega, fun i hi hn => (Below.heap_alloc B o i (Nat.lt_of_lt_of_le hi h.size)).trans (h.block i hi hn)⟩
theorem setCell (h : Only S A B) {p : Addr} (hp : A.heap.size ≤ p.block ∨ S p.block) (u : Value) : Only S A (B.setCell p u) :=
  ⟨h.os, h.tape, h.output, Nat.le_trans h.size (KeepsWalks.setCell B p u).size, fun i hi hn => (Below.heap_setCell _ _ _ _ (fun e => by subst e; exact hp.elim (fun h1 => by omega) (fun h1 => hn h1))).trans (h.block i hi hn)⟩
theorem grown (h : Only S A B) {row : Option Nat} (hg : B.grownBy C row) (hr : ∀ r, row = some r → A.heap.size ≤ r ∨ S r) : Only S A C :=
  ⟨hg.os.trans h.os, hg.tape.trans h.tape, hg.output.trans h.output, Nat.le_trans h.size hg.size, fun i hi hn =>
    (hg.block i (Nat.lt_of_lt_of_le hi h.size) (fun e => (hr _ e.symm).elim (fun h1 => by omega) (fun h1 => hn h1))).trans (h.block i hi hn)⟩
theorem of_below (h : Below A.heap.size A B) : Only S A B := ⟨h.os, h.tape, h.output, h.size, fun i hi _ => h.block i hi⟩
theorem below (h : Only S A B) {n : Nat} (hn : n ≤ A.heap.size) (hs : ∀ k, S k → n ≤ k) : Below n A B :=
  ⟨h.os, h.tape, h.output, by have := h.size; omega, fun k hk => h.block k (by omega) (fun hh => by have := hs k hh; omega)⟩
end Only
theorem below_drewN {B : Nat} {w w' : World} (h : Below B w w') (n : Nat) : Below B w (w'.drewN n) := ⟨h.os, h.tape, h.output, h.size, h.block⟩

end Go.Proofs.Ytdniakoedgohkaa
