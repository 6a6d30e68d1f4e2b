/- Names, for seats that have no directories: what is one, what a call leaves. -/
import Derived.StillTailTactics
import Derived.Deep.RegionWith
import Derived.Deep.RegionHeld3
import Derived.BigQuiet
import Derived.Handy
import Derived.Laws.StructEq
import Derived.Laws.AppendOwnNone
import Derived.Deep.AppendLies
import Derived.Lib.SliceRun
import Derived.Lib.Strings
import Derived.Test.YtgmpfkhcohlijaaRow
import Derived.Test.YtgmpfkhcohlijaaNumVal
import Derived.Lib.Hide
import Derived.Lib.RabinKarpLaws
namespace Go.Proofs.Ytgmpfkhcohlijaa.Nam
open Go.RowKit
attribute [local go_sem] Oper.semAt_some
set_option linter.unusedVariables false
set_option linter.unusedSimpArgs false
def nameP (s : ByteArray) : Prop := 1 ≤ s.size ∧ s.size ≤ 59 ∧ ¬ s = ⟨#[46]⟩ ∧ ¬ s = ⟨#[46, 46]⟩ ∧ ∀ i, i < s.size → ¬ sb s i = 0 ∧ ¬ sb s i = 47
instance (s : ByteArray) : Decidable (nameP s) := by unfold nameP; infer_instance
def nameB (s : ByteArray) : Bool := decide (nameP s)
theorem nameB_yes {s : ByteArray} (h : nameP s) : nameB s = true := decide_eq_true h
theorem nameB_no {s : ByteArray} (h : ¬ nameP s) : nameB s = false := decide_eq_false h
theorem ba_ext {a b : ByteArray} (h : a.data.toList = b.data.toList) : a = b := ByteArray.ext (Array.toList_inj.1 h)
theorem none_app (s : ByteArray) : (⟨#[]⟩ : ByteArray) ++ s = s := ba_ext (by rw [ByteArray.data_append, Array.toList_append]; rfl)
theorem beq_yes {A B : ByteArray} (h : A = B) : (A.toList == B.toList) = true := by rw [h]; simp
theorem beq_no {A B : ByteArray} (h : ¬ A = B) : (A.toList == B.toList) = false := by
  rw [beq_eq_false_iff_ne]
  exact fun he => h (ByteArray.ext (Array.toList_inj.1 (by rw [← Lib.toList_data, ← Lib.toList_data]; exact he)))
theorem below_al {w W : World} (h : Below w.heap.size w W) (o : Obj) : Below w.heap.size w (W.alloc o) := h.alloc h.size _
theorem below_new (w : World) (o : Obj) : Below w.heap.size w (w.alloc o) := (Below.refl _ _).alloc (Nat.le_refl _) _
theorem below_drewN {B : Nat} {w W : World} (h : Below B w W) (n : Nat) : Below B w (W.drewN n) := ⟨h.1, h.2, h.3, h.4, h.5⟩
def Ans (w : World) (v : Value) (e : Ending) (w' : World) : Prop := e = .returned v ∧ Below w.heap.size w w'
end Go.Proofs.Ytgmpfkhcohlijaa.Nam
