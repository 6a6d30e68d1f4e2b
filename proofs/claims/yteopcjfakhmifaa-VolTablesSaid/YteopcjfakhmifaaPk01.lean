/- Several texts in one, each under its own heading. -/
import Derived.WalkKit
import Derived.ProofKit
import Derived.OpenShut
import Derived.ShutString
import Derived.SizedLaws
import Derived.SliceStrings
import Derived.ChangeSlices
import Derived.Deep.Slices
import Derived.Laws.OwnMore
import Derived.RangeFuncBox
import Derived.Lib.Hide
import Derived.Test.YteopcjfakhmifaaRows
import Derived.Lib.SmallJoins
import Derived.Deep.SlicePairs
/- A slice that is only read, wherever it lies: what came in, what a call has made, and what is cut out of these. -/
namespace Go.Proofs.Yteopcjfakhmifaa
open Go.RowKit
set_option linter.unusedVariables false

theorem below_th {w u v : World} (h : Below w.heap.size w u) (k : Below u.heap.size u v) : Below w.heap.size w v := h.trans (k.mono h.size)
def Lies (w : World) (v : Value) (n size : Nat) (xs : List Value) : Prop :=
  ∃ a cap, v = .slice a n cap ∧ n ≤ cap ∧ (cap ≤ maxLen ∧ (a = none → cap = 0)) ∧ xs.length = n * size ∧ (0 < n → ∃ b off, a = some ⟨b, off, none⟩ ∧ ∀ j u, xs[j]? = some u → w.cell? ⟨b, off + j, none⟩ = some u)

theorem add_plain (b off j : Nat) : (⟨b, off, none⟩ : Addr).add j = ⟨b, off + j, none⟩ := by simp [Addr.add]
theorem cell_block {w : World} {a : Addr} {u : Value} (h : w.cell? a = some u) : ∃ c t f, w.heap[a.block]? = some (.cells c t f) := by
  unfold World.cell? at h
  split at h
  · rename_i c t f hb
    exact ⟨c, t, f, hb⟩
  · cases h

theorem Lies.grown {w w' : World} {v : Value} {n size : Nat} {xs : List Value} {o : Option Nat} (h : Lies w v n size xs) (hg : w.grownBy w' o) (ho : ∀ k, o = some k → ∀ c t f, w.heap[k]? ≠ some (.cells c t f)) : Lies w' v n size xs := by
  obtain ⟨a, cap, h1, h2, h3, h4, h5⟩ := h
  refine ⟨a, cap, h1, h2, h3, h4, fun hn => ?_⟩
  obtain ⟨b, off, e, hc⟩ := h5 hn
  refine ⟨b, off, e, fun j u hj => ?_⟩
  have hcell := hc j u hj
  obtain ⟨c, t, f, hb⟩ := cell_block hcell
  exact hg.cell hcell (fun e => ho b e.symm c t f hb)
theorem Lies.below {w w' : World} {v : Value} {n size : Nat} {xs : List Value} (h : Lies w v n size xs) (hB : Below w.heap.size w w') : Lies w' v n size xs :=
  h.grown (o := none) ⟨hB.os, hB.tape, hB.output, hB.size, fun k hk _ => hB.block k hk⟩ (fun _ e => by cases e)
theorem Lies.nil (w : World) (size : Nat) : Lies w (.slice none 0 0) 0 size [] := ⟨none, 0, rfl, Nat.le_refl _, ⟨Nat.zero_le _, fun _ => rfl⟩, by simp, fun h => absurd h (by omega)⟩
/-- a row of one's own -/
theorem Lies.own {w : World} {base n size : Nat} {e : TypeId} {v : Value} {xs : List Value} (h : w.ownsRow base e size v n xs) : Lies w v n size xs := by
  rcases h.2 with ⟨rfl, rfl⟩ | ⟨g, cap, cur, rfl, hb, hg, hn, hm, hs, ht⟩
  · exact ⟨none, 0, rfl, Nat.le_refl _, ⟨Nat.zero_le _, fun _ => rfl⟩, h.1, fun h => absurd h (by omega)⟩
  · refine ⟨_, cap, rfl, hn, ⟨hm, fun e => by cases e⟩, h.1, fun _ => ⟨g, 0, rfl, fun j u hj => ?_⟩⟩
    have hlt := (List.getElem?_eq_some_iff.1 hj).1
    rw [Nat.zero_add, h.cellAt j (by rw [← h.1]; exact hlt)]
    exact hj

theorem Lies.parts {w : World} {n size : Nat} {v : Value} {xs : List Value} (h : Lies w v n size xs) : ∃ a cap, v = .slice a n cap ∧ Hid (Lies w (.slice a n cap) n size xs) ∧ n ≤ cap ∧ cap ≤ 9223372036854775807 := by
  have h0 := h
  obtain ⟨a, cap, rfl, h2, h3, h4, h5⟩ := h
  have h3 := h3.1
  unfold maxLen at h3
  exact ⟨a, cap, rfl, h0, h2, by omega⟩
theorem lies_own {w : World} {base n size : Nat} {e : TypeId} {v : Value} {xs : List Value} (h : w.ownsRow base e size v n xs) : ∃ a cap, v = .slice a n cap ∧ Hid (Lies w (.slice a n cap) n size xs) ∧ n ≤ cap ∧ cap ≤ 9223372036854775807 := (Lies.own h).parts

theorem Lies.read {w : World} {n cap : Nat} {a : Option Addr} {xs : List Value} (h : Lies w (.slice a n cap) n 1 xs) {j : Nat} {u : Value} (hu : xs[j]? = some u) : ∃ b off, a = some ⟨b, off, none⟩ ∧ w.cell? ⟨b, off + j, none⟩ = some u := by
  obtain ⟨_, _, h1, _, _, h4, h5⟩ := h
  cases h1
  have := (List.getElem?_eq_some_iff.1 hu).1
  obtain ⟨b, off, e, hc⟩ := h5 (by omega)
  exact ⟨b, off, e, hc j u hu⟩
theorem Lies.drew {w : World} {v : Value} {n size : Nat} {xs : List Value} (h : Lies w v n size xs) : Lies w.drew v n size xs := h
theorem below_drew {B : Nat} {w w' : World} (h : Below B w w') : Below B w w'.drew := ⟨h.os, h.tape, h.output, h.size, h.block⟩

theorem Lies.tail {w : World} {n c b off : Nat} {u : Value} {xs : List Value} (h : Lies w (.slice (some ⟨b, off, none⟩) (n + 1) c) (n + 1) 1 (u :: xs)) : Lies w (.slice (some ⟨b, off + 1, none⟩) n (c - 1)) n 1 xs := by
  obtain ⟨_, _, h1, h2, h3, h4, h5⟩ := h
  cases h1
  refine ⟨_, _, rfl, by omega, ⟨by have := h3.1; unfold maxLen at this ⊢; omega, fun e => by cases e⟩, by simp at h4; omega, fun _ => ⟨b, off + 1, rfl, fun j u' hj => ?_⟩⟩
  obtain ⟨b2, off2, e, hc⟩ := h5 (by omega)
  cases e
  have := hc (j + 1) u' (by simpa using hj)
  rw [show off + 1 + j = off + (j + 1) from by omega]
  exact this
theorem Lies.tail1 {w : World} {n b off : Nat} {u : Value} {xs : List Value} (h : Lies w (.slice (some ⟨b, off, none⟩) (n + 1) 1) (n + 1) 1 (u :: xs)) (a : Option Addr) : Lies w (.slice a n 0) n 1 xs := by
  obtain ⟨_, _, h1, h2, h3, h4, h5⟩ := h
  cases h1
  obtain rfl : n = 0 := by omega
  exact ⟨_, _, rfl, Nat.le_refl _, ⟨Nat.zero_le _, fun _ => rfl⟩, by simp at h4; simp [h4], fun h => absurd h (by omega)⟩

/-- cutting off the first j -/
theorem slice_tail {P : Program} {t e : TypeId} (ht : P.underlying t = some (.slice e)) (hs : ∀ w, (sizeOf (P.elem t)).run P w = .ok 1 w) (a : Option Addr) (n cap j : Nat) (hj : j ≤ n) (hn : n ≤ cap) :
    ∃ a' : Option Addr, (∀ W, (Instr.slice t (.slice a n cap) (some (.int .i64 j)) none none).run P W = .ok (.slice a' (n - j) (cap - j)) W) ∧ ∀ W xs, Lies W (.slice a n cap) n 1 xs → Lies W (.slice a' (n - j) (cap - j)) (n - j) 1 (xs.drop j) := by
  refine ⟨if cap = j then a else a.map (·.add (j * 1)), fun W => ?_, fun W xs h => ?_⟩
  · have ht' : P.underlying t = some (.slice (P.elem t)) := by simp [Program.elem, ht]
    rw [run_slice_l (P := P) W t a n cap ht' .i64 (j : Int) (by omega) (by omega)]
    simp [hs, Result.andThen, sliced]
  · obtain ⟨a1, cap1, h1, h2, h3, h4, h5⟩ := h
    cases h1
    refine ⟨_, cap - j, rfl, by omega, ⟨by have := h3.1; unfold maxLen at this ⊢; omega, fun e => ?_⟩, by simp; omega, fun hp => ?_⟩
    · by_cases hc : cap = j
      · omega
      · rw [if_neg hc] at e
        have := h3.2 (by simpa using e)
        omega
    · obtain ⟨b, off, rfl, hc⟩ := h5 (by omega)
      refine ⟨b, off + j, by rw [if_neg (by omega)]; simp [Addr.add], fun i u hi => ?_⟩
      rw [List.getElem?_drop] at hi
      have := hc _ u hi
      rw [Nat.add_assoc]
      exact this
theorem Lies.none_cap {w : World} {n cap size : Nat} {xs : List Value} (h : Lies w (.slice none n cap) n size xs) : cap = 0 := by
  obtain ⟨_, _, h1, _, h3, _⟩ := h
  cases h1
  exact h3.2 rfl
theorem Lies.all {w w' : World} {n cap : Nat} {b off : Nat} {xs : List Value} (h : Lies w (.slice (some ⟨b, off, none⟩) n cap) n 1 xs) (hn : 0 < n) (hB : Below w.heap.size w w') : ∀ j u, xs[j]? = some u → w'.cell? ((⟨b, off, none⟩ : Addr).add j) = some u := fun j u hj => by
  obtain ⟨_, _, h1, _, _, _, h5⟩ := h.below hB
  cases h1
  obtain ⟨b2, off2, e, hc⟩ := h5 hn
  cases e
  rw [add_plain]
  exact hc j u hj

section
variable {H : Type} {enc : TypeId × Value → H} {w : World} {base fuel : Nat} {cs : List Value} {x : DataW H × List MemPlace} {t e : TypeId} {P : Program}
open Go.ChangeShapes Go.WideShapes


/-- strings that came in -/
theorem lies_strings (ht : P.underlying t = some (.slice e)) (he : P.underlying e = some .string) (hc : P.cellsOf e = 1) (h : DataW.trod enc P w base (fun _ => true) true fuel t cs = some x) :
    ∃ (v : Value) (L : List ByteArray), cs = [v] ∧ Lies w v L.length 1 (L.map .string) ∧ (∀ s ∈ L, s.size ≤ maxLen) := by
  rcases open_strings ht he hc h with ⟨rfl, rfl⟩ | ⟨a, len, cap, ss, rfl, _, hl, hm, hz, hx, hcell, hsz⟩
  · exact ⟨_, [], rfl, Lies.nil _ _, by simp⟩
  · simp only [if_true] at hz
    refine ⟨_, ss.take len, rfl, ⟨some a, cap, by rw [List.length_take, Nat.min_eq_left (by omega)], by simp; omega, ⟨hm, fun e => by cases e⟩, by simp, fun hp => ?_⟩, fun s hs => hsz s (List.mem_of_mem_take hs)⟩
    have hp : 0 < len := by rw [List.length_take] at hp; omega
    obtain ⟨b, off, spot⟩ := a
    obtain rfl : spot = none := by simpa [Addr.add] using World.cell?_spot (hcell 0 (by omega))
    refine ⟨b, off, rfl, fun j u hj => ?_⟩
    obtain ⟨s, hs, rfl⟩ : ∃ s, (ss.take len)[j]? = some s ∧ .string s = u := by rw [List.getElem?_map, Option.map_eq_some_iff] at hj; exact hj
    have hjl := (List.getElem?_eq_some_iff.1 hs).1
    rw [List.length_take] at hjl
    rw [List.getElem?_take, if_pos (by omega)] at hs
    have := hcell j (by omega)
    rw [add_plain] at this
    rw [this]
    simp [List.getD, hs]
/-- numbers that came in -/
theorem lies_ints {k : IntKind} (ht : P.underlying t = some (.slice e)) (he : P.underlying e = some (.int k)) (hc : P.cellsOf e = 1) (h : DataW.trod enc P w base (fun _ => true) true fuel t cs = some x) :
    ∃ (v : Value) (L : List Int), cs = [v] ∧ Lies w v L.length 1 (L.map (.int k)) ∧ (∀ n ∈ L, (Lit.int k n).wf = true) := by
  rcases open_ints ht he hc h with ⟨rfl, rfl⟩ | ⟨a, len, cap, ss, rfl, _, hl, hm, hz, hx, hcell, hsz⟩
  · exact ⟨_, [], rfl, Lies.nil _ _, by simp⟩
  · simp only [if_true] at hz
    refine ⟨_, ss.take len, rfl, ⟨some a, cap, by rw [List.length_take, Nat.min_eq_left (by omega)], by simp; omega, ⟨hm, fun e => by cases e⟩, by simp, fun hp => ?_⟩, fun s hs => hsz s (List.mem_of_mem_take hs)⟩
    have hp : 0 < len := by rw [List.length_take] at hp; omega
    obtain ⟨b, off, spot⟩ := a
    obtain rfl : spot = none := by simpa [Addr.add] using World.cell?_spot (hcell 0 (by omega))
    refine ⟨b, off, rfl, fun j u hj => ?_⟩
    obtain ⟨s, hs, rfl⟩ : ∃ s, (ss.take len)[j]? = some s ∧ .int k s = u := by rw [List.getElem?_map, Option.map_eq_some_iff] at hj; exact hj
    have hjl := (List.getElem?_eq_some_iff.1 hs).1
    rw [List.length_take] at hjl
    rw [List.getElem?_take, if_pos (by omega)] at hs
    have := hcell j (by omega)
    rw [add_plain] at this
    rw [this]
    simp [List.getD, hs]
end
end Go.Proofs.Yteopcjfakhmifaa
/- Slices of structs that came in, told as lists: each element by its cells. -/
namespace Go.Proofs.Yteopcjfakhmifaa
open Go.RowKit Go.ChangeShapes Go.WideShapes Go.Deep
set_option linter.unusedVariables false

theorem cells_list {w : World} {base n : Nat} {a : Addr} {cs : List Value} (h : w.cells? base a n = some cs) : cs.length = n ∧ ∀ j u, cs[j]? = some u → w.cell? (a.add j) = some u := by
  obtain ⟨_, h1, h2⟩ := World.cells?_some h
  refine ⟨h1, fun j u hj => ?_⟩
  have hl := (List.getElem?_eq_some_iff.1 hj).1
  rw [h2 j (by omega)]
  exact hj

theorem flat_at {α : Type} (f : α → List Value) (sz : Nat) : ∀ (L : List α) (hf : ∀ o ∈ L, (f o).length = sz) (k j : Nat) (o : α), L[k]? = some o → j < sz → (L.flatMap f)[k * sz + j]? = (f o)[j]?
  | [], _, _, _, _, h, _ => by simp at h
  | x :: L, hf, 0, j, o, h, hj => by
    obtain rfl : x = o := by simpa using h
    rw [List.flatMap_cons, Nat.zero_mul, Nat.zero_add, List.getElem?_append_left (by rw [hf x (by simp)]; exact hj)]
  | x :: L, hf, k + 1, j, o, h, hj => by
    have hx := hf x (by simp)
    rw [List.flatMap_cons, List.getElem?_append_right (by rw [hx, Nat.succ_mul]; omega), hx, show (k + 1) * sz + j - sz = k * sz + j by rw [Nat.succ_mul]; omega]
    exact flat_at f sz L (fun o ho => hf o (List.mem_cons_of_mem _ ho)) k j o (by simpa using h) hj
theorem flat_length {α : Type} (f : α → List Value) (sz : Nat) : ∀ (L : List α) (hf : ∀ o ∈ L, (f o).length = sz), (L.flatMap f).length = L.length * sz
  | [], _ => by simp
  | x :: L, hf => by
    rw [List.flatMap_cons, List.length_append, hf x (by simp), flat_length f sz L (fun o ho => hf o (List.mem_cons_of_mem _ ho)), List.length_cons, Nat.succ_mul]
    omega

section
variable {H : Type} {enc : TypeId × Value → H} {w : World} {base fuel : Nat} {cs : List Value} {x : DataW H × List MemPlace} {t e : TypeId} {P : Program}
/-- a slice of structs, each told by o: its cells are f o's -/
theorem lies_flat {α : Type} (f : α → List Value) (Q : α → Prop) (sz : Nat) (ht : P.underlying t = some (.slice e)) (hc : P.cellsOf e = sz) (hs : 0 < sz)
    (hg : ∀ n c y, DataW.trod enc P w base (fun _ => true) true n e c = some y → ∃ o, c = f o ∧ Q o)
    (h : DataW.trod enc P w base (fun _ => true) true fuel t cs = some x) :
    ∃ (v : Value) (L : List α), cs = [v] ∧ Lies w v L.length sz (L.flatMap f) ∧ (∀ o ∈ L, Q o) ∧ ∀ o ∈ L, (f o).length = sz := by
  rcases open_slice ht h with ⟨rfl, rfl⟩ | ⟨a, len, cap, m, n, D, Pl, rfl, _, hl, hm, hmm, hx, hall⟩
  · exact ⟨_, [], rfl, Lies.nil _ _, by simp, by simp⟩
  · simp only [if_true] at hmm
    subst hmm
    have hv : ∀ i, i < m → ∃ o, Q o ∧ (f o).length = sz ∧ ∀ j u, (f o)[j]? = some u → w.cell? ((a.add (i * sz)).add j) = some u := fun i hi => by
      obtain ⟨c, hcs, htr⟩ := hall i hi
      rw [hc] at hcs
      obtain ⟨o, rfl, hq⟩ := hg _ _ _ htr
      obtain ⟨h1, h2⟩ := cells_list hcs
      exact ⟨o, hq, h1, h2⟩
    obtain ⟨g, hgq⟩ : ∃ g : Nat → Option α, ∀ i, i < m → ∃ o, g i = some o ∧ Q o ∧ (f o).length = sz ∧ ∀ j u, (f o)[j]? = some u → w.cell? ((a.add (i * sz)).add j) = some u := by
      refine ⟨fun i => if hi : i < m then some (Classical.choose (hv i hi)) else none, fun i hi => ?_⟩
      exact ⟨Classical.choose (hv i hi), by simp [hi], Classical.choose_spec (hv i hi)⟩
    have hL : ∀ k, k ≤ m → ∃ L : List α, L.length = k ∧ ∀ i o, L[i]? = some o → g i = some o := by
      intro k
      induction k with
      | zero => intro _; exact ⟨[], rfl, by simp⟩
      | succ k ih =>
        intro hk
        obtain ⟨L, h1, h2⟩ := ih (by omega)
        obtain ⟨o, ho, _⟩ := hgq k (by omega)
        refine ⟨L ++ [o], by simp [h1], fun i p hp => ?_⟩
        rcases Nat.lt_or_ge i L.length with hi | hi
        · rw [List.getElem?_append_left hi] at hp; exact h2 i p hp
        · rw [List.getElem?_append_right hi] at hp
          have : i = L.length := by have := (List.getElem?_eq_some_iff.1 hp).1; simp at this; omega
          subst this
          simp at hp
          subst hp
          rw [h1]; exact ho
    obtain ⟨L, hLl, hLg⟩ := hL len hl
    have hQ : ∀ i o, L[i]? = some o → Q o ∧ (f o).length = sz ∧ ∀ j u, (f o)[j]? = some u → w.cell? ((a.add (i * sz)).add j) = some u := fun i o ho => by
      have hi := (List.getElem?_eq_some_iff.1 ho).1
      obtain ⟨o', h1, h2⟩ := hgq i (by omega)
      rw [hLg i o ho] at h1
      cases h1
      exact h2
    have hflen : ∀ o ∈ L, (f o).length = sz := fun o ho => by
      obtain ⟨i, hi⟩ := List.getElem?_of_mem ho
      exact (hQ i o hi).2.1
    refine ⟨_, L, rfl, ⟨some a, m, by rw [hLl], by omega, ⟨hm, fun e => by cases e⟩, flat_length f sz L hflen, fun hp => ?_⟩, fun o ho => ?_, hflen⟩
    · obtain ⟨b, off, spot⟩ := a
      obtain ⟨o0, ho0⟩ : ∃ o, L[0]? = some o := ⟨_, List.getElem?_eq_getElem hp⟩
      obtain ⟨_, hl0, hc0⟩ := hQ 0 o0 ho0
      obtain ⟨u0, hu0⟩ : ∃ u, (f o0)[0]? = some u := ⟨_, List.getElem?_eq_getElem (by omega)⟩
      obtain rfl : spot = none := by
        have := World.cell?_spot (hc0 0 u0 hu0)
        cases spot with
        | none => rfl
        | some s => simp [Addr.add] at this
      refine ⟨b, off, rfl, fun j u hj => ?_⟩
      have hjl := (List.getElem?_eq_some_iff.1 hj).1
      rw [flat_length f sz L hflen] at hjl
      have hk : j / sz < L.length := (Nat.div_lt_iff_lt_mul hs).2 hjl
      obtain ⟨o, ho⟩ : ∃ o, L[j / sz]? = some o := ⟨_, List.getElem?_eq_getElem hk⟩
      have hr := Nat.mod_lt j hs
      have hsplit : j / sz * sz + j % sz = j := by rw [Nat.mul_comm]; exact Nat.div_add_mod j sz
      have hfl := flat_at f sz L hflen (j / sz) (j % sz) o ho hr
      rw [hsplit, hj] at hfl
      have := (hQ _ o ho).2.2 (j % sz) u hfl.symm
      rw [add_plain, add_plain, Nat.add_assoc, hsplit] at this
      exact this
    · obtain ⟨i, hi⟩ := List.getElem?_of_mem ho
      exact (hQ i o hi).1
end
end Go.Proofs.Yteopcjfakhmifaa
