/- Drop and Get at a bag that lies in new memory alone. -/
import Derived.Test.YtbelgkccfajjoaaBagPkFI
import Derived.Test.YtbelgkccfajjoaaBagGetI
import Derived.Test.YtbelgkccfajjoaaBagOnI
namespace Go.Proofs.Ytbelgkccfajjoaa.I
open Go.RowKit Go.Shelf
set_option linter.unusedVariables false

theorem drop_on (at0 : Int) (xs : List It) (N a : Nat) (W : World) (hM : 3 < xs.length → MendSaid) (h : BagOn W N a xs) (hl : xs.length ≤ 1000) :
    Calls Try.prog 19 #[.pointer (some ⟨a, 0, none⟩), .int .i64 at0] W fun e w' => e = .returned (.bool (T.get at0 xs).isSome) ∧ BagOn w' N a (T.del at0 xs) ∧ Below N W w' :=
  (drop_any at0 xs a _ W hM h.bag hl).mono fun e w' ⟨he, hb, ho⟩ => ⟨he, (hb.on h.le ho).1, (hb.on h.le ho).2⟩
theorem get_on (at0 : Int) (xs : List It) (N a : Nat) (W : World) (h : BagOn W N a xs) (hl : xs.length ≤ 1000) :
    Calls Try.prog 18 #[.pointer (some ⟨a, 0, none⟩), .int .i64 at0] W fun e w' => e = .returned (.tuple #[valOf (T.get at0 xs), .bool (T.get at0 xs).isSome]) ∧ BagOn w' N a xs ∧ Below W.heap.size W w' :=
  (get_any at0 xs a _ W h.bag hl).mono fun e w' ⟨he, hB⟩ => ⟨he, h.below hB, hB⟩
end Go.Proofs.Ytbelgkccfajjoaa.I
