/- Numbers, whole numbers, texts in slices. -/
import Derived.StillTailTactics
import Derived.Deep.RegionWith
import Derived.Deep.RegionHeld3
import Derived.BigQuiet
import Derived.Handy
import Derived.Laws.StructEq
import Derived.ChangeKeysEq
import Derived.Lib.Strings
import Derived.Test.YtdakfdecfpebcaaRow
import Derived.Test.YtdakfdecfpebcaaInoSize
import Derived.Test.YtdakfdecfpebcaaBmpMath
namespace Go.Proofs.Ytdakfdecfpebcaa.Bmp
open Go.RowKit Ino
attribute [local go_sem] Oper.semAt_some
set_option linter.unusedVariables false
set_option linter.unusedSimpArgs false
theorem getD_ext {α : Type} {d : α} {X Y : List α} (hl : X.length = Y.length) (h : ∀ i, i < X.length → X.getD i d = Y.getD i d) : X = Y := by
  refine List.ext_getElem hl fun i h1 h2 => ?_
  have := h i h1
  rw [List.getD_eq_getElem?_getD, List.getD_eq_getElem?_getD, List.getElem?_eq_getElem h1, List.getElem?_eq_getElem h2] at this
  exact this
theorem beq_yes {A B : ByteArray} (h : A = B) : (A.toList == B.toList) = true := by rw [h]; simp
theorem beq_no {A B : ByteArray} (h : ¬ A = B) : (A.toList == B.toList) = false := by
  rw [beq_eq_false_iff_ne]
  exact fun he => h (ByteArray.ext (Array.toList_inj.1 (by rw [← Lib.toList_data, ← Lib.toList_data]; exact he)))
def U32s (w : World) (v : Value) (X : List Nat) : Prop := Lies w v X.length 1 (X.map (fun (n : Nat) => Value.int .u32 (n : Int)))
theorem U32s.below {w w' : World} {v : Value} {X : List Nat} (h : U32s w v X) (hB : Below w.heap.size w w') : U32s w' v X := Lies.below h hB
theorem U32s.nil (w : World) : U32s w (.slice none 0 0) [] := Lies.nil w 1
theorem U32s.parts {w : World} {v : Value} {X : List Nat} (h : U32s w v X) : ∃ a cap, v = .slice a X.length cap ∧ X.length ≤ cap ∧ cap ≤ 9223372036854775807 := by
  obtain ⟨a, cap, e, _, h1, h2⟩ := Lies.parts h
  exact ⟨a, cap, e, h1, h2⟩
theorem U32s.get {w : World} {a : Option Addr} {n cap : Nat} {X : List Nat} (h : U32s w (.slice a n cap) X) {k : Nat} (hk : k < X.length) : ∃ b off, a = some ⟨b, off, none⟩ ∧ w.cell? ⟨b, off + k, none⟩ = some (.int .u32 ((X.getD k 0 : Nat) : Int)) := by
  have hn : X.length = n := by
    obtain ⟨_, _, e, _⟩ := Lies.parts h
    cases e
    rfl
  unfold U32s at h
  rw [hn] at h
  exact Lies.read h (j := k) (u := (.int .u32 ((X.getD k 0 : Nat) : Int))) (by rw [List.getElem?_map, List.getD_eq_getElem?_getD, List.getElem?_eq_getElem hk]; rfl)
def Ints (w : World) (v : Value) (X : List Int) : Prop := Lies w v X.length 1 (X.map (fun (n : Int) => Value.int .i64 n))
theorem Ints.below {w w' : World} {v : Value} {X : List Int} (h : Ints w v X) (hB : Below w.heap.size w w') : Ints w' v X := Lies.below h hB
theorem Ints.nil (w : World) : Ints w (.slice none 0 0) [] := Lies.nil w 1
theorem Ints.parts {w : World} {v : Value} {X : List Int} (h : Ints w v X) : ∃ a cap, v = .slice a X.length cap ∧ X.length ≤ cap ∧ cap ≤ 9223372036854775807 := by
  obtain ⟨a, cap, e, _, h1, h2⟩ := Lies.parts h
  exact ⟨a, cap, e, h1, h2⟩
theorem Ints.get {w : World} {a : Option Addr} {n cap : Nat} {X : List Int} (h : Ints w (.slice a n cap) X) {k : Nat} (hk : k < X.length) : ∃ b off, a = some ⟨b, off, none⟩ ∧ w.cell? ⟨b, off + k, none⟩ = some (.int .i64 (X.getD k 0)) := by
  have hn : X.length = n := by
    obtain ⟨_, _, e, _⟩ := Lies.parts h
    cases e
    rfl
  unfold Ints at h
  rw [hn] at h
  exact Lies.read h (j := k) (u := (.int .i64 (X.getD k 0))) (by rw [List.getElem?_map, List.getD_eq_getElem?_getD, List.getElem?_eq_getElem hk]; rfl)
def Strs (w : World) (v : Value) (X : List ByteArray) : Prop := Lies w v X.length 1 (X.map (Value.string))
theorem Strs.below {w w' : World} {v : Value} {X : List ByteArray} (h : Strs w v X) (hB : Below w.heap.size w w') : Strs w' v X := Lies.below h hB
theorem Strs.nil (w : World) : Strs w (.slice none 0 0) [] := Lies.nil w 1
theorem Strs.parts {w : World} {v : Value} {X : List ByteArray} (h : Strs w v X) : ∃ a cap, v = .slice a X.length cap ∧ X.length ≤ cap ∧ cap ≤ 9223372036854775807 := by
  obtain ⟨a, cap, e, _, h1, h2⟩ := Lies.parts h
  exact ⟨a, cap, e, h1, h2⟩
theorem Strs.get {w : World} {a : Option Addr} {n cap : Nat} {X : List ByteArray} (h : Strs w (.slice a n cap) X) {k : Nat} (hk : k < X.length) : ∃ b off, a = some ⟨b, off, none⟩ ∧ w.cell? ⟨b, off + k, none⟩ = some (.string (X.getD k ⟨#[]⟩)) := by
  have hn : X.length = n := by
    obtain ⟨_, _, e, _⟩ := Lies.parts h
    cases e
    rfl
  unfold Strs at h
  rw [hn] at h
  exact Lies.read h (j := k) (u := (.string (X.getD k ⟨#[]⟩))) (by rw [List.getElem?_map, List.getD_eq_getElem?_getD, List.getElem?_eq_getElem hk]; rfl)
theorem Strs.own {w : World} {base : Nat} {v : Value} {L : List ByteArray} (h : w.ownsRow base 9 1 v L.length (L.map .string)) : Strs w v L := Lies.own h
end Go.Proofs.Ytdakfdecfpebcaa.Bmp