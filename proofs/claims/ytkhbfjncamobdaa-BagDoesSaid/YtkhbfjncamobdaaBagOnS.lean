/- A bag that lies in new memory alone, and what each call makes of it. -/
import Derived.Test.YtkhbfjncamobdaaBagKeysS
import Derived.Test.YtkhbfjncamobdaaBagPutWS
namespace Go.Proofs.Ytkhbfjncamobdaa.S
open Go.RowKit Go.Shelf
set_option linter.unusedVariables false

structure BagOn (W : World) (N a : Nat) (xs : List It) : Prop where
  bag : BagIs W a (fun k => N ≤ k) xs
  le : N ≤ W.heap.size

theorem BagOn.below {W W' : World} {N a : Nat} {xs : List It} (h : BagOn W N a xs) (hB : Below W.heap.size W W') : BagOn W' N a xs := by
  refine ⟨h.bag.kept (S := fun _ => False) (Only.of_below hB) (fun _ _ h => h), Nat.le_trans h.le hB.size⟩
theorem BagIs.on {W W' : World} {N a : Nat} {xs : List It} (h : BagIs W' a (fun k => N ≤ k ∨ W.heap.size ≤ k) xs) (hN : N ≤ W.heap.size) (ho : Only (fun k => N ≤ k) W W') : BagOn W' N a xs ∧ Below N W W' :=
  ⟨⟨h.more fun k hk => by rcases hk with hk | hk <;> omega, Nat.le_trans hN ho.size⟩, ho.below hN fun _ h => h⟩

theorem new_on (W : World) : Calls Try.prog 5 #[] W fun e w' => e = .returned (.pointer (some ⟨W.heap.size, 0, none⟩)) ∧ BagOn w' W.heap.size W.heap.size [] ∧ Below W.heap.size W w' :=
  (new_bag W).mono fun e w' ⟨he, hb, hB⟩ => ⟨he, ⟨hb, hB.size⟩, hB⟩
theorem put_on (at0 : Int) (u : ByteArray) (xs : List It) (N a : Nat) (W : World) (h : BagOn W N a xs) (hl : xs.length ≤ 1000) :
    Calls Try.prog 10 #[.pointer (some ⟨a, 0, none⟩), .int .i64 at0, .string u] W fun e w' => e = .returned (.bool (T.get at0 xs).isSome) ∧ BagOn w' N a (T.put at0 u xs) ∧ Below N W w' :=
  (put_any at0 u xs a _ W h.bag hl).mono fun e w' ⟨he, hb, ho⟩ => ⟨he, (hb.on h.le ho).1, (hb.on h.le ho).2⟩
theorem next_on (from0 : Int) (xs : List It) (N a : Nat) (W : World) (h : BagOn W N a xs) :
    Calls Try.prog 26 #[.pointer (some ⟨a, 0, none⟩), .int .i64 from0] W fun e w' => e = .returned (.tuple #[.int .i64 ((T.vis from0 xs).headD 0), .bool (!(T.vis from0 xs).isEmpty)]) ∧ BagOn w' N a xs ∧ Below W.heap.size W w' :=
  (next_any from0 xs a _ W h.bag).mono fun e w' ⟨he, hB⟩ => ⟨he, h.below hB, hB⟩
theorem keys_on (from0 to0 : Int) (xs : List It) (N a : Nat) (W : World) (h : BagOn W N a xs) (hl : xs.length ≤ 1000) :
    Calls Try.prog 24 #[.pointer (some ⟨a, 0, none⟩), .int .i64 from0, .int .i64 to0] W fun e w' => ∃ v, e = .returned v ∧ w'.ownsRow W.heap.size 2 1 v ((T.vis from0 xs).filter fun x => decide (x < to0)).length (intsOf ((T.vis from0 xs).filter fun x => decide (x < to0))) ∧ BagOn w' N a xs ∧ Below W.heap.size W w' :=
  (keys_any from0 to0 xs a _ W h.bag hl).mono fun e w' ⟨v, he, ho, hB⟩ => ⟨v, he, ho, h.below hB, hB⟩
theorem len_on (xs : List It) (N a : Nat) (W : World) (h : BagOn W N a xs) :
    Calls Try.prog 7 #[.pointer (some ⟨a, 0, none⟩)] W fun e w' => e = .returned (.int .i64 xs.length) ∧ W = w' := len_bag W a _ xs h.bag
end Go.Proofs.Ytkhbfjncamobdaa.S
