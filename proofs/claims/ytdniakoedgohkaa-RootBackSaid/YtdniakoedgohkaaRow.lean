/- A slice that is only read, wherever it lies: what came in, what a call has made, and what is cut out of these. -/
import Derived.WalkKit
import Derived.ProofKit
import Derived.OpenShut
import Derived.ShutString
import Derived.SizedLaws
import Derived.SliceStrings
import Derived.ChangeSlices
import Derived.Deep.Slices
import Derived.Laws.OwnMore
import Derived.RangeFuncBox
import Derived.Lib.Hide
import Derived.Test.YtdniakoedgohkaaRows
namespace Go.Proofs.Ytdniakoedgohkaa
open Go.RowKit
set_option linter.unusedVariables false

theorem below_th {w u v : World} (h : Below w.heap.size w u) (k : Below u.heap.size u v) : Below w.heap.size w v := h.trans (k.mono h.size)
def Lies (w : World) (v : Value) (n size : Nat) (xs : List Value) : Prop :=
  ∃ a cap, v = .slice a n cap ∧ n ≤ cap ∧ (cap ≤ maxLen ∧ (a = none → cap = 0)) ∧ xs.length = n * size ∧ (0 < n → ∃ b off, a = some ⟨b, off, none⟩ ∧ ∀ j u, xs[j]? = some u → w.cell? ⟨b, off + j, none⟩ = some u)

theorem add_plain (b off j : Nat) : (⟨b, off, none⟩ : Addr).add j = ⟨b, off + j, none⟩ := by simp [Addr.add]
theorem cell_block {w : World} {a : Addr} {u : Value} (h : w.cell? a = some u) : ∃ c t f, w.heap[a.block]? = some (.cells c t f) := by
  unfold World.cell? at h
  split at h
  · rename_i c t f hb
    exact ⟨c, t, f, hb⟩
  · cases h

theorem Lies.grown {w w' : World} {v : Value} {n size : Nat} {xs : List Value} {o : Option Nat} (h : Lies w v n size xs) (hg : w.grownBy w' o) (ho : ∀ k, o = some k → ∀ c t f, w.heap[k]? ≠ some (.cells c t f)) : Lies w' v n size xs := by
  obtain ⟨a, cap, h1, h2, h3, h4, h5⟩ := h
  refine ⟨a, cap, h1, h2, h3, h4, fun hn => ?_⟩
  obtain ⟨b, off, e, hc⟩ := h5 hn
  refine ⟨b, off, e, fun j u hj => ?_⟩
  have hcell := hc j u hj
  obtain ⟨c, t, f, hb⟩ := cell_block hcell
  exact hg.cell hcell (fun e => ho b e.symm c t f hb)
theorem Lies.below {w w' : World} {v : Value} {n size : Nat} {xs : List Value} (h : Lies w v n size xs) (hB : Below w.heap.size w w') : Lies w' v n size xs :=
  h.grown (o := none) ⟨hB.os, hB.tape, hB.output, hB.size, fun k hk _ => hB.block k hk⟩ (fun _ e => by cases e)
theorem Lies.nil (w : World) (size : Nat) : Lies w (.slice none 0 0) 0 size [] := ⟨none, 0, rfl, Nat.le_refl _, ⟨Nat.zero_le _, fun _ => rfl⟩, by simp, fun h => absurd h (by omega)⟩
/-- a row of one's own -/
theorem Lies.own {w : World} {base n size : Nat} {e : TypeId} {v : Value} {xs : List Value} (h : w.ownsRow base e size v n xs) : Lies w v n size xs := by
  rcases h.2 with ⟨rfl, rfl⟩ | ⟨g, cap, cur, rfl, hb, hg, hn, hm, hs, ht⟩
  · exact ⟨none, 0, rfl, Nat.le_refl _, ⟨Nat.zero_le _, fun _ => rfl⟩, h.1, fun h => absurd h (by omega)⟩
  · refine ⟨_, cap, rfl, hn, ⟨hm, fun e => by cases e⟩, h.1, fun _ => ⟨g, 0, rfl, fun j u hj => ?_⟩⟩
    have hlt := (List.getElem?_eq_some_iff.1 hj).1
    rw [Nat.zero_add, h.cellAt j (by rw [← h.1]; exact hlt)]
    exact hj

theorem Lies.parts {w : World} {n size : Nat} {v : Value} {xs : List Value} (h : Lies w v n size xs) : ∃ a cap, v = .slice a n cap ∧ Hid (Lies w (.slice a n cap) n size xs) ∧ n ≤ cap ∧ cap ≤ 9223372036854775807 := by
  have h0 := h
  obtain ⟨a, cap, rfl, h2, h3, h4, h5⟩ := h
  have h3 := h3.1
  unfold maxLen at h3
  exact ⟨a, cap, rfl, h0, h2, by omega⟩
theorem lies_own {w : World} {base n size : Nat} {e : TypeId} {v : Value} {xs : List Value} (h : w.ownsRow base e size v n xs) : ∃ a cap, v = .slice a n cap ∧ Hid (Lies w (.slice a n cap) n size xs) ∧ n ≤ cap ∧ cap ≤ 9223372036854775807 := (Lies.own h).parts

theorem Lies.read {w : World} {n cap : Nat} {a : Option Addr} {xs : List Value} (h : Lies w (.slice a n cap) n 1 xs) {j : Nat} {u : Value} (hu : xs[j]? = some u) : ∃ b off, a = some ⟨b, off, none⟩ ∧ w.cell? ⟨b, off + j, none⟩ = some u := by
  obtain ⟨_, _, h1, _, _, h4, h5⟩ := h
  cases h1
  have := (List.getElem?_eq_some_iff.1 hu).1
  obtain ⟨b, off, e, hc⟩ := h5 (by omega)
  exact ⟨b, off, e, hc j u hu⟩
theorem Lies.drew {w : World} {v : Value} {n size : Nat} {xs : List Value} (h : Lies w v n size xs) : Lies w.drew v n size xs := h
theorem below_drew {B : Nat} {w w' : World} (h : Below B w w') : Below B w w'.drew := ⟨h.os, h.tape, h.output, h.size, h.block⟩

theorem Lies.tail {w : World} {n c b off : Nat} {u : Value} {xs : List Value} (h : Lies w (.slice (some ⟨b, off, none⟩) (n + 1) c) (n + 1) 1 (u :: xs)) : Lies w (.slice (some ⟨b, off + 1, none⟩) n (c - 1)) n 1 xs := by
  obtain ⟨_, _, h1, h2, h3, h4, h5⟩ := h
  cases h1
  refine ⟨_, _, rfl, by omega, ⟨by have := h3.1; unfold maxLen at this ⊢; omega, fun e => by cases e⟩, by simp at h4; omega, fun _ => ⟨b, off + 1, rfl, fun j u' hj => ?_⟩⟩
  obtain ⟨b2, off2, e, hc⟩ := h5 (by omega)
  cases e
  have := hc (j + 1) u' (by simpa using hj)
  rw [show off + 1 + j = off + (j + 1) from by omega]
  exact this
theorem Lies.tail1 {w : World} {n b off : Nat} {u : Value} {xs : List Value} (h : Lies w (.slice (some ⟨b, off, none⟩) (n + 1) 1) (n + 1) 1 (u :: xs)) (a : Option Addr) : Lies w (.slice a n 0) n 1 xs := by
  obtain ⟨_, _, h1, h2, h3, h4, h5⟩ := h
  cases h1
  obtain rfl : n = 0 := by omega
  exact ⟨_, _, rfl, Nat.le_refl _, ⟨Nat.zero_le _, fun _ => rfl⟩, by simp at h4; simp [h4], fun h => absurd h (by omega)⟩

/-- cutting off the first j -/
theorem slice_tail {P : Program} {t e : TypeId} (ht : P.underlying t = some (.slice e)) (hs : ∀ w, (sizeOf (P.elem t)).run P w = .ok 1 w) (a : Option Addr) (n cap j : Nat) (hj : j ≤ n) (hn : n ≤ cap) :
    ∃ a' : Option Addr, (∀ W, (Instr.slice t (.slice a n cap) (some (.int .i64 j)) none none).run P W = .ok (.slice a' (n - j) (cap - j)) W) ∧ ∀ W xs, Lies W (.slice a n cap) n 1 xs → Lies W (.slice a' (n - j) (cap - j)) (n - j) 1 (xs.drop j) := by
  refine ⟨if cap = j then a else a.map (·.add (j * 1)), fun W => ?_, fun W xs h => ?_⟩
  · have ht' : P.underlying t = some (.slice (P.elem t)) := by simp [Program.elem, ht]
    rw [run_slice_l (P := P) W t a n cap ht' .i64 (j : Int) (by omega) (by omega)]
    simp [hs, Result.andThen, sliced]
  · obtain ⟨a1, cap1, h1, h2, h3, h4, h5⟩ := h
    cases h1
    refine ⟨_, cap - j, rfl, by omega, ⟨by have := h3.1; unfold maxLen at this ⊢; omega, fun e => ?_⟩, by simp; omega, fun hp => ?_⟩
    · by_cases hc : cap = j
      · omega
      · rw [if_neg hc] at e
        have := h3.2 (by simpa using e)
        omega
    · obtain ⟨b, off, rfl, hc⟩ := h5 (by omega)
      refine ⟨b, off + j, by rw [if_neg (by omega)]; simp [Addr.add], fun i u hi => ?_⟩
      rw [List.getElem?_drop] at hi
      have := hc _ u hi
      rw [Nat.add_assoc]
      exact this
theorem Lies.none_cap {w : World} {n cap size : Nat} {xs : List Value} (h : Lies w (.slice none n cap) n size xs) : cap = 0 := by
  obtain ⟨_, _, h1, _, h3, _⟩ := h
  cases h1
  exact h3.2 rfl
theorem Lies.all {w w' : World} {n cap : Nat} {b off : Nat} {xs : List Value} (h : Lies w (.slice (some ⟨b, off, none⟩) n cap) n 1 xs) (hn : 0 < n) (hB : Below w.heap.size w w') : ∀ j u, xs[j]? = some u → w'.cell? ((⟨b, off, none⟩ : Addr).add j) = some u := fun j u hj => by
  obtain ⟨_, _, h1, _, _, _, h5⟩ := h.below hB
  cases h1
  obtain ⟨b2, off2, e, hc⟩ := h5 hn
  cases e
  rw [add_plain]
  exact hc j u hj

section
variable {H : Type} {enc : TypeId × Value → H} {w : World} {base fuel : Nat} {cs : List Value} {x : DataW H × List MemPlace} {t e : TypeId} {P : Program}
open Go.ChangeShapes Go.WideShapes


/-- strings that came in -/
theorem lies_strings (ht : P.underlying t = some (.slice e)) (he : P.underlying e = some .string) (hc : P.cellsOf e = 1) (h : DataW.trod enc P w base (fun _ => true) true fuel t cs = some x) :
    ∃ (v : Value) (L : List ByteArray), cs = [v] ∧ Lies w v L.length 1 (L.map .string) ∧ (∀ s ∈ L, s.size ≤ maxLen) := by
  rcases open_strings ht he hc h with ⟨rfl, rfl⟩ | ⟨a, len, cap, ss, rfl, _, hl, hm, hz, hx, hcell, hsz⟩
  · exact ⟨_, [], rfl, Lies.nil _ _, by simp⟩
  · simp only [if_true] at hz
    refine ⟨_, ss.take len, rfl, ⟨some a, cap, by rw [List.length_take, Nat.min_eq_left (by omega)], by simp; omega, ⟨hm, fun e => by cases e⟩, by simp, fun hp => ?_⟩, fun s hs => hsz s (List.mem_of_mem_take hs)⟩
    have hp : 0 < len := by rw [List.length_take] at hp; omega
    obtain ⟨b, off, spot⟩ := a
    obtain rfl : spot = none := by simpa [Addr.add] using World.cell?_spot (hcell 0 (by omega))
    refine ⟨b, off, rfl, fun j u hj => ?_⟩
    obtain ⟨s, hs, rfl⟩ : ∃ s, (ss.take len)[j]? = some s ∧ .string s = u := by rw [List.getElem?_map, Option.map_eq_some_iff] at hj; exact hj
    have hjl := (List.getElem?_eq_some_iff.1 hs).1
    rw [List.length_take] at hjl
    rw [List.getElem?_take, if_pos (by omega)] at hs
    have := hcell j (by omega)
    rw [add_plain] at this
    rw [this]
    simp [List.getD, hs]
/-- numbers that came in -/
theorem lies_ints {k : IntKind} (ht : P.underlying t = some (.slice e)) (he : P.underlying e = some (.int k)) (hc : P.cellsOf e = 1) (h : DataW.trod enc P w base (fun _ => true) true fuel t cs = some x) :
    ∃ (v : Value) (L : List Int), cs = [v] ∧ Lies w v L.length 1 (L.map (.int k)) ∧ (∀ n ∈ L, (Lit.int k n).wf = true) := by
  rcases open_ints ht he hc h with ⟨rfl, rfl⟩ | ⟨a, len, cap, ss, rfl, _, hl, hm, hz, hx, hcell, hsz⟩
  · exact ⟨_, [], rfl, Lies.nil _ _, by simp⟩
  · simp only [if_true] at hz
    refine ⟨_, ss.take len, rfl, ⟨some a, cap, by rw [List.length_take, Nat.min_eq_left (by omega)], by simp; omega, ⟨hm, fun e => by cases e⟩, by simp, fun hp => ?_⟩, fun s hs => hsz s (List.mem_of_mem_take hs)⟩
    have hp : 0 < len := by rw [List.length_take] at hp; omega
    obtain ⟨b, off, spot⟩ := a
    obtain rfl : spot = none := by simpa [Addr.add] using World.cell?_spot (hcell 0 (by omega))
    refine ⟨b, off, rfl, fun j u hj => ?_⟩
    obtain ⟨s, hs, rfl⟩ : ∃ s, (ss.take len)[j]? = some s ∧ .int k s = u := by rw [List.getElem?_map, Option.map_eq_some_iff] at hj; exact hj
    have hjl := (List.getElem?_eq_some_iff.1 hs).1
    rw [List.length_take] at hjl
    rw [List.getElem?_take, if_pos (by omega)] at hs
    have := hcell j (by omega)
    rw [add_plain] at this
    rw [this]
    simp [List.getD, hs]
end
end Go.Proofs.Ytdniakoedgohkaa
