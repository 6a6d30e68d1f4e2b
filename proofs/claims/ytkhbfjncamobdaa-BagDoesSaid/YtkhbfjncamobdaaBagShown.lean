/- What stands ahead of every law on bags: what was put is there, and gone when it was dropped. -/
import Derived.Test.YtkhbfjncamobdaaBagPkFS
import Derived.Test.YtkhbfjncamobdaaBagGetS
import Derived.Test.YtkhbfjncamobdaaBagOnS
namespace Go.Proofs.Ytkhbfjncamobdaa.S
open Go.RowKit Go.Shelf
set_option linter.unusedVariables false

theorem drop_on (at0 : Int) (xs : List It) (N a : Nat) (W : World) (hM : 3 < xs.length → MendSaid) (h : BagOn W N a xs) (hl : xs.length ≤ 1000) :
    Calls Try.prog 12 #[.pointer (some ⟨a, 0, none⟩), .int .i64 at0] W fun e w' => e = .returned (.bool (T.get at0 xs).isSome) ∧ BagOn w' N a (T.del at0 xs) ∧ Below N W w' :=
  (drop_any at0 xs a _ W hM h.bag hl).mono fun e w' ⟨he, hb, ho⟩ => ⟨he, (hb.on h.le ho).1, (hb.on h.le ho).2⟩
theorem get_on (at0 : Int) (xs : List It) (N a : Nat) (W : World) (h : BagOn W N a xs) (hl : xs.length ≤ 1000) :
    Calls Try.prog 11 #[.pointer (some ⟨a, 0, none⟩), .int .i64 at0] W fun e w' => e = .returned (.tuple #[valOf (T.get at0 xs), .bool (T.get at0 xs).isSome]) ∧ BagOn w' N a xs ∧ Below W.heap.size W w' :=
  (get_any at0 xs a _ W h.bag hl).mono fun e w' ⟨he, hB⟩ => ⟨he, h.below hB, hB⟩
end Go.Proofs.Ytkhbfjncamobdaa.S
namespace Go.Proofs.Ytkhbfjncamobdaa
open Go.RowKit Go.Shelf
open S
set_option linter.unusedVariables false

set_option maxRecDepth 100000 in
set_option maxHeartbeats 1000000 in
theorem shown_any (w : World) : Calls Try.prog 4 #[] w fun e w' => e = .returned (.bool true) ∧ Below w.heap.size w w' := by
  have hP1 : ∀ W, BagOn W w.heap.size w.heap.size [] → Calls Try.prog 10 #[.pointer (some ⟨w.heap.size, 0, none⟩), .int .i64 5, .string ⟨#[97]⟩] W fun e w' => e = .returned (.bool false) ∧ Hid (BagOn w' w.heap.size w.heap.size [(5, ⟨#[97]⟩)]) ∧ Below w.heap.size W w' := fun W h => put_on 5 ⟨#[97]⟩ [] _ _ W h (by decide)
  have hP2 : ∀ W, BagOn W w.heap.size w.heap.size [(5, ⟨#[97]⟩)] → Calls Try.prog 10 #[.pointer (some ⟨w.heap.size, 0, none⟩), .int .i64 5, .string ⟨#[98]⟩] W fun e w' => e = .returned (.bool true) ∧ Hid (BagOn w' w.heap.size w.heap.size [(5, ⟨#[98]⟩)]) ∧ Below w.heap.size W w' := fun W h => put_on 5 ⟨#[98]⟩ [(5, ⟨#[97]⟩)] _ _ W h (by decide)
  have hG : ∀ W, BagOn W w.heap.size w.heap.size [(5, ⟨#[98]⟩)] → Calls Try.prog 11 #[.pointer (some ⟨w.heap.size, 0, none⟩), .int .i64 5] W fun e w' => e = .returned (.tuple #[.string ⟨#[98]⟩, .bool true]) ∧ Hid (BagOn w' w.heap.size w.heap.size [(5, ⟨#[98]⟩)]) ∧ Below W.heap.size W w' := fun W h => get_on 5 [(5, ⟨#[98]⟩)] _ _ W h (by decide)
  have hD1 : ∀ W, BagOn W w.heap.size w.heap.size [(5, ⟨#[98]⟩)] → Calls Try.prog 12 #[.pointer (some ⟨w.heap.size, 0, none⟩), .int .i64 5] W fun e w' => e = .returned (.bool true) ∧ Hid (BagOn w' w.heap.size w.heap.size []) ∧ Below w.heap.size W w' := fun W h => drop_on 5 [(5, ⟨#[98]⟩)] _ _ W (fun h => by simp at h) h (by decide)
  have hD2 : ∀ W, BagOn W w.heap.size w.heap.size [] → Calls Try.prog 12 #[.pointer (some ⟨w.heap.size, 0, none⟩), .int .i64 5] W fun e w' => e = .returned (.bool false) ∧ Hid (BagOn w' w.heap.size w.heap.size []) ∧ Below w.heap.size W w' := fun W h => drop_on 5 [] _ _ W (fun h => by simp at h) h (by decide)
  have hL : ∀ W, BagOn W w.heap.size w.heap.size [] → Calls Try.prog 7 #[.pointer (some ⟨w.heap.size, 0, none⟩)] W fun e w' => e = .returned (.int .i64 0) ∧ W = w' := fun W h => len_on [] _ _ W h
  go_enter Try.func4, Try.ntmps4
  go_wp2_with (first
    | (go_at_call 5; refine (new_on _).mono ?_; rintro e w1 ⟨rfl, hb1, hB1⟩)
    | (go_at_call 10; (with_reducible refine Calls.mono (hP2 _ hb2.out) ?_); rintro e w3 ⟨rfl, hb3, hB3⟩)
    | (go_at_call 10; (with_reducible refine Calls.mono (hP1 _ hb1) ?_); rintro e w2 ⟨rfl, hb2, hB2⟩)
    | (go_at_call 11; (with_reducible refine Calls.mono (hG _ hb3.out) ?_); rintro e w4 ⟨rfl, hb4, hB4⟩)
    | (go_at_call 12; (with_reducible refine Calls.mono (hD2 _ hb5.out) ?_); rintro e w6 ⟨rfl, hb6, hB6⟩)
    | (go_at_call 12; (with_reducible refine Calls.mono (hD1 _ hb4.out) ?_); rintro e w5 ⟨rfl, hb5, hB5⟩)
    | (go_at_call 7; (with_reducible refine Calls.mono (hL _ hb6.out) ?_); rintro e w7 ⟨rfl, rfl⟩))
  go_ret
  exact ⟨rfl, ((((hB1.trans hB2).trans hB3).trans (hB4.mono hb3.out.le)).trans hB5).trans hB6⟩
end Go.Proofs.Ytkhbfjncamobdaa
