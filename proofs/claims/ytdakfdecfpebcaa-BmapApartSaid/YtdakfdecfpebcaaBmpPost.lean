/- What the program's functions on maps answer; slices as they are written out. -/
import Derived.Test.YtdakfdecfpebcaaBmpLay2
namespace Go.Proofs.Ytdakfdecfpebcaa.Bmp
open Go.RowKit Ino
attribute [local go_sem] Oper.semAt_some
set_option linter.unusedVariables false
set_option linter.unusedSimpArgs false
/-- numbers that a map has, and its blocks -/
def joinP (s : Nat) (m : M) (B : List ByteArray) (V I : List Nat) : Prop := Small V ∧ Small I ∧ layP s V I ∧ mapOf s V I = m ∧ blocksOf s V I = B
theorem joinP_one {s : Nat} {m : M} {B : List ByteArray} {V V' I I' : List Nat} (h : joinP s m B V I) (k : joinP s m B V' I') : V = V' ∧ I = I' :=
  lay_inj h.2.2.1 k.2.2.1 h.1 k.1 h.2.1 k.2.1 (h.2.2.2.1.trans k.2.2.2.1.symm) (h.2.2.2.2.trans k.2.2.2.2.symm)
theorem joinP_lay {s : Nat} {V I : List Nat} (h : layP s V I) (hv : Small V) (hi : Small I) : joinP s (layM s V I) (layB s V I) V I := by
  unfold layM layB
  rw [if_pos h, if_pos h]
  exact ⟨hv, hi, h, rfl, rfl⟩
theorem lay_back {s : Nat} {m : M} {B : List ByteArray} {V I : List Nat} (h : joinP s m B V I) : layM s V I = m ∧ layB s V I = B ∧ layE s V I = 0 := by
  unfold layM layB layE
  rw [if_pos h.2.2.1, if_pos h.2.2.1, if_pos h.2.2.1]
  exact ⟨h.2.2.2.1, h.2.2.2.2, rfl⟩
theorem lay_e0 {s : Nat} {V I : List Nat} (h : layE s V I = 0) : layP s V I := by
  unfold layE at h
  split at h
  · assumption
  · cases h
theorem lay_e1 {s : Nat} {V I : List Nat} (h : ¬ layP s V I) : layE s V I = 130 ∧ layM s V I = M.zero ∧ layB s V I = [] := by
  unfold layE layM layB
  rw [if_neg h, if_neg h, if_neg h]
  exact ⟨rfl, rfl, rfl⟩
/-- a slice as it is written out -/
theorem Lies.lit {W : World} {b n : Nat} {c : Array Value} {ty : TypeId} {xs : List Value} (h : W.heap[b]? = some (.cells c ty (0, 0))) (hc : c.toList = xs) (hn : xs.length = n) (hm : n ≤ 1000) : Lies W (.slice (some ⟨b, 0, none⟩) n n) n 1 xs := by
  refine ⟨some ⟨b, 0, none⟩, n, rfl, Nat.le_refl _, ⟨by unfold maxLen; omega, fun e => by cases e⟩, by omega, fun _ => ⟨b, 0, rfl, fun j u hj => ?_⟩⟩
  simp only [World.cell?, h]
  rw [← hc, Array.getElem?_toList] at hj
  simpa using hj
theorem U32s.lit {W : World} {b : Nat} {c : Array Value} {ty : TypeId} {X : List Nat} (h : W.heap[b]? = some (.cells c ty (0, 0))) (hc : c.toList = X.map (fun (n : Nat) => Value.int .u32 (n : Int))) (hm : X.length ≤ 1000) : U32s W (.slice (some ⟨b, 0, none⟩) X.length X.length) X :=
  Lies.lit h hc (by simp) hm
end Go.Proofs.Ytdakfdecfpebcaa.Bmp
