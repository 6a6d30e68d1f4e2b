/- What comes in to the laws on super blocks: a super block by value. -/
import Derived.Lib.SmallJoins
import Derived.OpenShut
import Derived.Test.YtmknjnmbdnlkpaaSupNewP
namespace Go.Proofs.Ytmknjnmbdnlkpaa.Super
open Go.RowKit Go.Shelf Go.ChangeShapes Go.WideShapes Go.Deep
set_option linter.unusedVariables false

structure SOk (s : S) : Prop where
  blocks : -9223372036854775808 ≤ s.blocks ∧ s.blocks ≤ 9223372036854775807
  seq : s.seq < 18446744073709551616
  at_ : -9223372036854775808 ≤ s.at_ ∧ s.at_ ≤ 9223372036854775807
  cp : s.cp < 18446744073709551616
theorem cells_super : Try.prog.cellsOf 24 = 4 := by kernel_rfl
section
variable {H : Type} {enc : TypeId × Value → H} {w : World} {base : Nat}
/-- a super block that came in as a parameter -/
theorem super_arg {v : Value} {dd : DataW H} {pl : List MemPlace} {r : Reach} {b0 : Nat} (hv : Value.okWide Try.prog w r b0 24 v) (h : DataW.Trod enc Try.prog w base (fun _ => true) true 24 v dd pl) : ∃ s : S, v = s.val ∧ SOk s := by
  obtain ⟨c0, c1, c2, c3, y0, y1, y2, y3, n, rfl, _, _, t0, t1, t2, t3⟩ := Joins.open_agg4 Try.underlying24 (by kernel_rfl) cells_super hv h
  obtain ⟨b, e0, _, w0⟩ := DataW.trod_int Try.underlying3 t0
  obtain ⟨q, e1, _, w1⟩ := DataW.trod_int Try.underlying22 t1
  obtain ⟨a, e2, _, w2⟩ := DataW.trod_int Try.underlying3 t2
  obtain ⟨c, e3, _, w3⟩ := DataW.trod_int Try.underlying22 t3
  simp only [List.cons.injEq, and_true] at e0 e1 e2 e3
  subst e0 e1 e2 e3
  have k0 := bounds_i64 w0
  have k1 := bounds_u64 w1
  have k2 := bounds_i64 w2
  have k3 := bounds_u64 w3
  obtain ⟨q, rfl⟩ := Int.eq_ofNat_of_zero_le k1.1
  obtain ⟨c, rfl⟩ := Int.eq_ofNat_of_zero_le k3.1
  exact ⟨⟨b, q, a, c⟩, rfl, ⟨k0, by show q < _; omega, k2, by show c < _; omega⟩⟩
end
end Go.Proofs.Ytmknjnmbdnlkpaa.Super
