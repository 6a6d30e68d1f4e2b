/- Several texts in one, each under its own heading. -/
import Derived.Deep.RegionWith
import Derived.Deep.RegionHeld3
import Derived.Test.YtghonccffmmjhaaPk08
import Derived.Lib.SmallJoins
import Derived.Deep.SlicePairs
import Derived.Test.YtghonccffmmjhaaPk02
/- What stands ahead of every law on disks (a loose write is lost, and torn), and what the laws call besides: pick, Full. -/
namespace Go.Proofs.Ytghonccffmmjhaa.Disk
open Go.RowKit Go.Shelf
set_option linter.unusedVariables false

/-- so many bytes, each one more than the one ahead -/
def fullN (c : Int) (k : Nat) : List Int := (List.range k).map fun (i : Nat) => (c + (i : Int)) % 256
theorem fullN_length (c : Int) (k : Nat) : (fullN c k).length = k := by simp [fullN]
theorem fullN_succ (c : Int) (k : Nat) : fullN c (k + 1) = fullN c k ++ [(c + (k : Int)) % 256] := by simp [fullN, List.range_succ]
def fullS (c : Int) (n : Int) : ByteArray := strOfNums (fullN c (min n.toNat 1000))
theorem fullS_size (c n : Int) : (fullS c n).size = min n.toNat 1000 := by rw [fullS, strOfNums_size, fullN_length]
theorem fullS_cut (c : Int) (a b : Nat) (h : a ≤ b) (hb : b ≤ 1000) : (fullS c b).extract 0 a = fullS c a := by
  apply ByteArray.ext
  apply Array.toList_inj.1
  have e1 : min ((b : Int)).toNat 1000 = b := by omega
  have e2 : min ((a : Int)).toNat 1000 = a := by omega
  rw [fullS, fullS, e1, e2, Lib.extract_data, strOfNums_data, strOfNums_data]
  simp only [List.drop_zero, ← List.map_take]
  rw [show a - 0 = a from rfl]
  congr 1
  rw [fullN, ← List.map_take, List.take_range, Nat.min_eq_left h]
  rfl

section
set_option maxRecDepth 100000
def PickPost (n : Nat) (w : World) (e : Ending) (w' : World) : Prop := ∃ k : Nat, k < n ∧ e = .returned (.int .i64 (k : Int)) ∧ w = w'
theorem empty_zeros (n : Nat) : (⟨#[]⟩ : ByteArray) ++ zeros n = zeros n := by
  apply ByteArray.ext
  apply Array.toList_inj.1
  simp [zeros]
theorem zblock_eq : zblock = zeros 512 := empty_zeros 512
/-- a new disk, told as data -/
def Made (d : D) (W : World) (e : Ending) (w' : World) : Prop := ∃ p, e = .returned (.tuple #[.pointer (some ⟨p, 0, none⟩), .int .i64 0]) ∧ Hid (IsDisk w' p (fun k => W.heap.size ≤ k) d) ∧ W.heap.size ≤ p ∧ Below W.heap.size W w'
def Fell (d : D) (W : World) (e : Ending) (w' : World) : Prop := ∃ p, e = .returned (.pointer (some ⟨p, 0, none⟩)) ∧ Hid (IsDisk w' p (fun k => W.heap.size ≤ k) d) ∧ W.heap.size ≤ p ∧ Below W.heap.size W w'
theorem new_made (n : Nat) (h : sizeOk n) (W : World) : Calls Try.prog 9 #[.int .i64 n] W (Made (D.of (List.replicate n (zeros 512))) W) := by
  rw [← zblock_eq]; exact new_yes n W h
end
end Go.Proofs.Ytghonccffmmjhaa.Disk
/- Slices of structs that came in, told as lists: each element by its cells. -/
namespace Go.Proofs.Ytghonccffmmjhaa
open Go.RowKit Go.ChangeShapes Go.WideShapes Go.Deep
set_option linter.unusedVariables false

theorem cells_list {w : World} {base n : Nat} {a : Addr} {cs : List Value} (h : w.cells? base a n = some cs) : cs.length = n ∧ ∀ j u, cs[j]? = some u → w.cell? (a.add j) = some u := by
  obtain ⟨_, h1, h2⟩ := World.cells?_some h
  refine ⟨h1, fun j u hj => ?_⟩
  have hl := (List.getElem?_eq_some_iff.1 hj).1
  rw [h2 j (by omega)]
  exact hj

theorem flat_at {α : Type} (f : α → List Value) (sz : Nat) : ∀ (L : List α) (hf : ∀ o ∈ L, (f o).length = sz) (k j : Nat) (o : α), L[k]? = some o → j < sz → (L.flatMap f)[k * sz + j]? = (f o)[j]?
  | [], _, _, _, _, h, _ => by simp at h
  | x :: L, hf, 0, j, o, h, hj => by
    obtain rfl : x = o := by simpa using h
    rw [List.flatMap_cons, Nat.zero_mul, Nat.zero_add, List.getElem?_append_left (by rw [hf x (by simp)]; exact hj)]
  | x :: L, hf, k + 1, j, o, h, hj => by
    have hx := hf x (by simp)
    rw [List.flatMap_cons, List.getElem?_append_right (by rw [hx, Nat.succ_mul]; omega), hx, show (k + 1) * sz + j - sz = k * sz + j by rw [Nat.succ_mul]; omega]
    exact flat_at f sz L (fun o ho => hf o (List.mem_cons_of_mem _ ho)) k j o (by simpa using h) hj
theorem flat_length {α : Type} (f : α → List Value) (sz : Nat) : ∀ (L : List α) (hf : ∀ o ∈ L, (f o).length = sz), (L.flatMap f).length = L.length * sz
  | [], _ => by simp
  | x :: L, hf => by
    rw [List.flatMap_cons, List.length_append, hf x (by simp), flat_length f sz L (fun o ho => hf o (List.mem_cons_of_mem _ ho)), List.length_cons, Nat.succ_mul]
    omega

section
variable {H : Type} {enc : TypeId × Value → H} {w : World} {base fuel : Nat} {cs : List Value} {x : DataW H × List MemPlace} {t e : TypeId} {P : Program}
/-- a slice of structs, each told by o: its cells are f o's -/
theorem lies_flat {α : Type} (f : α → List Value) (Q : α → Prop) (sz : Nat) (ht : P.underlying t = some (.slice e)) (hc : P.cellsOf e = sz) (hs : 0 < sz)
    (hg : ∀ n c y, DataW.trod enc P w base (fun _ => true) true n e c = some y → ∃ o, c = f o ∧ Q o)
    (h : DataW.trod enc P w base (fun _ => true) true fuel t cs = some x) :
    ∃ (v : Value) (L : List α), cs = [v] ∧ Lies w v L.length sz (L.flatMap f) ∧ (∀ o ∈ L, Q o) ∧ ∀ o ∈ L, (f o).length = sz := by
  rcases open_slice ht h with ⟨rfl, rfl⟩ | ⟨a, len, cap, m, n, D, Pl, rfl, _, hl, hm, hmm, hx, hall⟩
  · exact ⟨_, [], rfl, Lies.nil _ _, by simp, by simp⟩
  · simp only [if_true] at hmm
    subst hmm
    have hv : ∀ i, i < m → ∃ o, Q o ∧ (f o).length = sz ∧ ∀ j u, (f o)[j]? = some u → w.cell? ((a.add (i * sz)).add j) = some u := fun i hi => by
      obtain ⟨c, hcs, htr⟩ := hall i hi
      rw [hc] at hcs
      obtain ⟨o, rfl, hq⟩ := hg _ _ _ htr
      obtain ⟨h1, h2⟩ := cells_list hcs
      exact ⟨o, hq, h1, h2⟩
    obtain ⟨g, hgq⟩ : ∃ g : Nat → Option α, ∀ i, i < m → ∃ o, g i = some o ∧ Q o ∧ (f o).length = sz ∧ ∀ j u, (f o)[j]? = some u → w.cell? ((a.add (i * sz)).add j) = some u := by
      refine ⟨fun i => if hi : i < m then some (Classical.choose (hv i hi)) else none, fun i hi => ?_⟩
      exact ⟨Classical.choose (hv i hi), by simp [hi], Classical.choose_spec (hv i hi)⟩
    have hL : ∀ k, k ≤ m → ∃ L : List α, L.length = k ∧ ∀ i o, L[i]? = some o → g i = some o := by
      intro k
      induction k with
      | zero => intro _; exact ⟨[], rfl, by simp⟩
      | succ k ih =>
        intro hk
        obtain ⟨L, h1, h2⟩ := ih (by omega)
        obtain ⟨o, ho, _⟩ := hgq k (by omega)
        refine ⟨L ++ [o], by simp [h1], fun i p hp => ?_⟩
        rcases Nat.lt_or_ge i L.length with hi | hi
        · rw [List.getElem?_append_left hi] at hp; exact h2 i p hp
        · rw [List.getElem?_append_right hi] at hp
          have : i = L.length := by have := (List.getElem?_eq_some_iff.1 hp).1; simp at this; omega
          subst this
          simp at hp
          subst hp
          rw [h1]; exact ho
    obtain ⟨L, hLl, hLg⟩ := hL len hl
    have hQ : ∀ i o, L[i]? = some o → Q o ∧ (f o).length = sz ∧ ∀ j u, (f o)[j]? = some u → w.cell? ((a.add (i * sz)).add j) = some u := fun i o ho => by
      have hi := (List.getElem?_eq_some_iff.1 ho).1
      obtain ⟨o', h1, h2⟩ := hgq i (by omega)
      rw [hLg i o ho] at h1
      cases h1
      exact h2
    have hflen : ∀ o ∈ L, (f o).length = sz := fun o ho => by
      obtain ⟨i, hi⟩ := List.getElem?_of_mem ho
      exact (hQ i o hi).2.1
    refine ⟨_, L, rfl, ⟨some a, m, by rw [hLl], by omega, ⟨hm, fun e => by cases e⟩, flat_length f sz L hflen, fun hp => ?_⟩, fun o ho => ?_, hflen⟩
    · obtain ⟨b, off, spot⟩ := a
      obtain ⟨o0, ho0⟩ : ∃ o, L[0]? = some o := ⟨_, List.getElem?_eq_getElem hp⟩
      obtain ⟨_, hl0, hc0⟩ := hQ 0 o0 ho0
      obtain ⟨u0, hu0⟩ : ∃ u, (f o0)[0]? = some u := ⟨_, List.getElem?_eq_getElem (by omega)⟩
      obtain rfl : spot = none := by
        have := World.cell?_spot (hc0 0 u0 hu0)
        cases spot with
        | none => rfl
        | some s => simp [Addr.add] at this
      refine ⟨b, off, rfl, fun j u hj => ?_⟩
      have hjl := (List.getElem?_eq_some_iff.1 hj).1
      rw [flat_length f sz L hflen] at hjl
      have hk : j / sz < L.length := (Nat.div_lt_iff_lt_mul hs).2 hjl
      obtain ⟨o, ho⟩ : ∃ o, L[j / sz]? = some o := ⟨_, List.getElem?_eq_getElem hk⟩
      have hr := Nat.mod_lt j hs
      have hsplit : j / sz * sz + j % sz = j := by rw [Nat.mul_comm]; exact Nat.div_add_mod j sz
      have hfl := flat_at f sz L hflen (j / sz) (j % sz) o ho hr
      rw [hsplit, hj] at hfl
      have := (hQ _ o ho).2.2 (j % sz) u hfl.symm
      rw [add_plain, add_plain, Nat.add_assoc, hsplit] at this
      exact this
    · obtain ⟨i, hi⟩ := List.getElem?_of_mem ho
      exact (hQ i o hi).1
end
end Go.Proofs.Ytghonccffmmjhaa
