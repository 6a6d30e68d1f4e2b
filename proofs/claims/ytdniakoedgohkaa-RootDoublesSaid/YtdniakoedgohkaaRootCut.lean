/- The first hundred places of each kind; a root in its box, cut so. -/
import Derived.Test.YtdniakoedgohkaaRootArgs
namespace Go.Proofs.Ytdniakoedgohkaa.Root
open Go.RowKit
set_option linter.unusedVariables false
set_option linter.unusedSimpArgs false
def cutQ (r : Q) : Q := ⟨r.cp, r.tick, r.dats.take 100, r.cps.take 100⟩
theorem small_take {L : List Nat} (h : Small L) (n : Nat) : Small (L.take n) := fun x hx => h x (List.mem_of_mem_take hx)
theorem cut_ok {r : Q} (h : QOk r) : QOk (cutQ r) := ⟨h.1, h.2, small_take h.3 _, small_take h.4 _⟩
theorem Nums.hundred {w : World} {v : Value} {L : List Nat} (h : Nums w v L) : ∃ a n cap K, v = .slice a n cap ∧ Nums w (.slice a K cap) (L.take 100) ∧ (L.take 100).length = K ∧ K ≤ n ∧ K ≤ 100 ∧ n ≤ cap ∧ cap ≤ 9223372036854775807 ∧ min (n : Int) 100 = (K : Int) := by
  obtain ⟨a, cap, rfl, h1, h2⟩ := h.parts
  have hl : (L.take 100).length = min 100 L.length := List.length_take
  refine ⟨a, L.length, cap, min 100 L.length, rfl, ?_, hl, Nat.min_le_right _ _, Nat.min_le_left _ _, h1, h2, by omega⟩
  have h3 := h.cut rfl (min 100 L.length) (Nat.min_le_right _ _)
  have e : L.take (min 100 L.length) = L.take 100 := by
    rcases Nat.le_total 100 L.length with h | h
    · rw [Nat.min_eq_left h]
    · rw [Nat.min_eq_right h, List.take_length, List.take_of_length_le h]
  rw [e] at h3
  exact h3
theorem QAt.put2 {W : World} {b : Nat} {q : Q} {vd vc : Value} (h : QAt W b q vd vc) (D C : List Nat) (d c : Value) : QAt ((W.setCell ⟨b, 2, none⟩ d).setCell ⟨b, 3, none⟩ c) b ⟨q.cp, q.tick, D, C⟩ d c := by
  unfold QAt at h ⊢
  have h1 := heap_setCell_same W b 2 _ _ d h
  exact heap_setCell_same _ b 3 _ _ c h1
theorem below_put2 {n : Nat} {w W : World} (h : Below n w W) (b : Nat) (hb : n ≤ b) (u v : Value) : Below n w ((W.setCell ⟨b, 2, none⟩ u).setCell ⟨b, 3, none⟩ v) := (h.setCell (p := ⟨b, 2, none⟩) hb _).setCell (p := ⟨b, 3, none⟩) hb _
theorem put2_other (W : World) (b : Nat) (u v : Value) (j : Nat) (hj : j ≠ b) : ((W.setCell ⟨b, 2, none⟩ u).setCell ⟨b, 3, none⟩ v).heap[j]? = W.heap[j]? := (Below.heap_setCell _ _ _ _ hj).trans (Below.heap_setCell _ _ _ _ hj)
end Go.Proofs.Ytdniakoedgohkaa.Root
