/- Drop at whatever bag, and what Get, Put and Drop make of the list. -/
import Derived.Test.YtbelgkccfajjoaaBagFill
import Derived.Test.YtbelgkccfajjoaaBagOnDI
import Derived.Test.YtbelgkccfajjoaaBagPkGI
namespace Go.Proofs.Ytbelgkccfajjoaa
open Go.RowKit Go.Shelf
open I (BagOn)
set_option linter.unusedVariables false

namespace T
variable {α : Type}
theorem get_put_self (a : Int) (v : α) (xs : List (I α)) : get a (put a v xs) = some v := by
  induction xs with
  | nil => simp [put, get]
  | cons x xs ih =>
    rw [put]
    split
    · rename_i h
      rw [get, if_neg (by omega), ih]
    · split <;> simp [get]
theorem get_put_ne (a b : Int) (v : α) (xs : List (I α)) (h : ¬ b = a) : get b (put a v xs) = get b xs := by
  have h' : ¬ a = b := fun e => h e.symm
  induction xs with
  | nil => simp [put, get, h']
  | cons x xs ih =>
    rw [put]
    split
    · rw [get, get, ih]
    · split
      · rename_i h1 h2
        rw [get, get, if_neg h', if_neg (by rw [h2]; exact h')]
      · rw [get, if_neg h']
theorem put_length (a : Int) (v : α) (xs : List (I α)) (hr : Rise xs) : (put a v xs).length = xs.length + if (get a xs).isSome then 0 else 1 := by
  induction xs with
  | nil => simp [put, get]
  | cons x xs ih =>
    obtain ⟨h1, h2⟩ := List.pairwise_cons.1 hr
    rw [put]
    split
    · rename_i h
      rw [get, if_neg (show ¬ x.1 = a by omega), List.length_cons, List.length_cons, ih h2]
      omega
    · split
      · rename_i h3 h4
        rw [get, if_pos h4]
        simp
      · rename_i h3 h4
        rw [get_out a (x :: xs) (fun y hy => by
          rcases List.mem_cons.1 hy with rfl | hy
          · exact h4
          · have := h1 y hy
            omega)]
        simp
theorem get_del_self (a : Int) (xs : List (I α)) : get a (del a xs) = none := get_out a _ fun y hy => by
  have := (List.mem_filter.1 hy).2
  simpa using this
theorem get_del_ne (a b : Int) (xs : List (I α)) (h : ¬ b = a) : get b (del a xs) = get b xs := by
  unfold del
  induction xs with
  | nil => rfl
  | cons x xs ih =>
    rw [List.filter_cons]
    split
    · rw [get, get, ih]
    · rename_i h1
      have h2 : x.1 = a := by simpa using h1
      rw [get, if_neg (by omega), ih]
theorem del_length (a : Int) (xs : List (I α)) : (del a xs).length ≤ xs.length := List.length_filter_le _ _
end T

theorem get_as (k v : Int) (b : Bool) (ys : List (Int × Int)) (N : Nat) (W : World) (hl : ys.length ≤ 1000) (hv : (T.get k ys).getD 0 = v) (hb : (T.get k ys).isSome = b) (h : BagOn W N N ys) :
    Calls Try.prog 18 #[.pointer (some ⟨N, 0, none⟩), .int .i64 k] W fun e w' => e = .returned (.tuple #[.int .i64 v, .bool b]) ∧ Hid (BagOn w' N N ys) ∧ Below N W w' :=
  (I.get_on k ys N N W h hl).mono fun e w' ⟨he, h2, hB⟩ => ⟨by
    rw [he, ← hv, ← hb]
    cases T.get k ys <;> rfl, h2, hB.mono h.le⟩
theorem put_as (k v : Int) (b : Bool) (ys zs : List (Int × Int)) (N : Nat) (W : World) (hl : ys.length ≤ 1000) (hb : (T.get k ys).isSome = b) (hz : T.put k v ys = zs) (h : BagOn W N N ys) :
    Calls Try.prog 17 #[.pointer (some ⟨N, 0, none⟩), .int .i64 k, .int .i64 v] W fun e w' => e = .returned (.bool b) ∧ Hid (BagOn w' N N zs) ∧ Below N W w' := by
  subst hb; subst hz
  exact I.put_on k v ys N N W h hl
theorem drop_as (k : Int) (b : Bool) (ys zs : List (Int × Int)) (N : Nat) (W : World) (hl : ys.length ≤ 1000) (hb : (T.get k ys).isSome = b) (hz : T.del k ys = zs) (h : BagOn W N N ys) :
    Calls Try.prog 19 #[.pointer (some ⟨N, 0, none⟩), .int .i64 k] W fun e w' => e = .returned (.bool b) ∧ Hid (BagOn w' N N zs) ∧ Below N W w' := by
  subst hb; subst hz
  exact I.drop_on k ys N N W (fun _ => I.mend_said) h hl
theorem len_as (n : Int) (ys : List (Int × Int)) (N : Nat) (W : World) (hn : (ys.length : Int) = n) (h : BagOn W N N ys) :
    Calls Try.prog 22 #[.pointer (some ⟨N, 0, none⟩)] W fun e w' => e = .returned (.int .i64 n) ∧ W = w' := by
  subst hn
  exact I.len_on ys N N W h
end Go.Proofs.Ytbelgkccfajjoaa
