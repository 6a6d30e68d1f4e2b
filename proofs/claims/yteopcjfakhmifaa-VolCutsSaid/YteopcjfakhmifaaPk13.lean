/- Several texts in one, each under its own heading. -/
import Derived.Test.YteopcjfakhmifaaPk07
import Derived.Test.YteopcjfakhmifaaPk06
import Derived.Lib.Hide
import Derived.StillTailTactics
import Derived.Deep.RegionWith
import Derived.Deep.RegionHeld3
import Derived.BigQuiet
import Derived.Handy
import Derived.Laws.StructEq
import Derived.Laws.AppendOwnNone
import Derived.Deep.AppendLies
import Derived.Lib.SliceRun
import Derived.Lib.Strings
import Derived.Test.YteopcjfakhmifaaPk01
import Derived.Test.YteopcjfakhmifaaPk03
import Derived.Lib.RabinKarpLaws
/- Directories as lists of names: which are right, their bytes, and that bytes are those of one list at most. They speak of no program. -/
namespace Go.Proofs.Yteopcjfakhmifaa.Dir
set_option linter.unusedVariables false
set_option linter.unusedSimpArgs false

/-- a name, and what it names -/
structure N where
  name : ByteArray
  ino : Nat
deriving DecidableEq
def N.zero : N := ⟨⟨#[]⟩, 0⟩
def nm (L : List N) (i : Nat) : N := L.getD i N.zero
theorem nm_get {L : List N} {i : Nat} (h : i < L.length) : L[i]? = some (nm L i) := by
  unfold nm
  rw [List.getD_eq_getElem?_getD, List.getElem?_eq_getElem h]
  rfl
theorem nm_elem {L : List N} {i : Nat} (h : i < L.length) : L[i] = nm L i := by
  have := nm_get h
  rw [List.getElem?_eq_getElem h] at this
  exact Option.some.inj this
theorem nm_mem {L : List N} {i : Nat} (h : i < L.length) : nm L i ∈ L := List.mem_of_getElem? (nm_get h)
theorem mem_nm {L : List N} {e : N} (h : e ∈ L) : ∃ i, i < L.length ∧ nm L i = e := by
  obtain ⟨i, hi⟩ := List.getElem?_of_mem h
  have hl := (List.getElem?_eq_some_iff.1 hi).1
  rw [nm_get hl] at hi
  exact ⟨i, hl, Option.some.inj hi⟩
theorem nm_app {L M : List N} {i : Nat} (h : i < L.length) : nm (L ++ M) i = nm L i := by
  have h1 := nm_get (L := L ++ M) (i := i) (by rw [List.length_append]; omega)
  rw [List.getElem?_append_left h, nm_get h] at h1
  exact (Option.some.inj h1).symm
theorem nm_app2 {L M : List N} {i : Nat} (h : i < M.length) : nm (L ++ M) (L.length + i) = nm M i := by
  have h1 := nm_get (L := L ++ M) (i := L.length + i) (by rw [List.length_append]; omega)
  rw [List.getElem?_append_right (by omega), show L.length + i - L.length = i by omega, nm_get h] at h1
  exact (Option.some.inj h1).symm
theorem nm_last (L : List N) (e : N) : nm (L ++ [e]) L.length = e := by
  have := nm_app2 (L := L) (M := [e]) (i := 0) (by simp)
  rwa [Nat.add_zero] at this
theorem nm_ext {L M : List N} (hl : L.length = M.length) (h : ∀ i, i < L.length → nm L i = nm M i) : L = M := by
  apply List.ext_getElem?
  intro i
  by_cases hi : i < L.length
  · rw [nm_get hi, nm_get (by omega), h i hi]
  · rw [List.getElem?_eq_none (by omega), List.getElem?_eq_none (by omega)]
theorem take_snoc {L : List N} {k : Nat} (h : k < L.length) : L.take (k + 1) = L.take k ++ [nm L k] := by
  rw [List.take_add_one, nm_get h]
  rfl
theorem nm_set {L : List N} {k : Nat} (hk : k < L.length) (e : N) (i : Nat) : nm (L.set k e) i = if i = k then e else nm L i := by
  unfold nm
  rw [List.getD_eq_getElem?_getD, List.getD_eq_getElem?_getD, List.getElem?_set]
  split
  · rename_i h; subst h; simp [hk]
  · rename_i h; rw [if_neg (fun e => h e.symm)]

/-! ### names, and right lists -/
def nameP (s : ByteArray) : Prop := 1 ≤ s.size ∧ s.size ≤ 59 ∧ ¬ s = ⟨#[46]⟩ ∧ ¬ s = ⟨#[46, 46]⟩ ∧ ∀ i, i < s.size → ¬ sb s i = 0 ∧ ¬ sb s i = 47
instance (s : ByteArray) : Decidable (nameP s) := by unfold nameP; infer_instance
def nameB (s : ByteArray) : Bool := decide (nameP s)
theorem nameB_yes {s : ByteArray} (h : nameP s) : nameB s = true := decide_eq_true h
theorem nameB_no {s : ByteArray} (h : ¬ nameP s) : nameB s = false := decide_eq_false h
def fineE (e : N) : Prop := nameP e.name ∧ ¬ e.ino = 0 ∧ e.ino < 4294967296
def Fine (L : List N) : Prop := (∀ i, i < L.length → fineE (nm L i)) ∧ ∀ i j, i < L.length → j < L.length → (nm L i).name = (nm L j).name → i = j
theorem Fine.nil : Fine [] := ⟨fun i h => absurd h (Nat.not_lt_zero _), fun i j h _ _ => absurd h (Nat.not_lt_zero _)⟩
def ent (e : N) : ByteArray := numB e.ino 4 ++ numB e.name.size 2 ++ e.name
theorem ent_size (e : N) : (ent e).size = 6 + e.name.size := by simp only [ent, ByteArray.size_append, numB_size]
def bytesL : List N → ByteArray
  | [] => ⟨#[]⟩
  | e :: L => ent e ++ bytesL L
theorem none_app (s : ByteArray) : (⟨#[]⟩ : ByteArray) ++ s = s := by
  apply ByteArray.ext
  apply Array.toList_inj.1
  rw [app_list]
  simp
theorem bytesL_app : ∀ (L M : List N), bytesL (L ++ M) = bytesL L ++ bytesL M
  | [], M => by rw [List.nil_append, bytesL, none_app]
  | e :: L, M => by rw [List.cons_append, bytesL, bytesL, bytesL_app L M, app_assoc]
theorem bytesL_snoc (L : List N) (e : N) : bytesL (L ++ [e]) = bytesL L ++ ent e := by
  rw [bytesL_app]
  congr 1
  show ent e ++ ⟨#[]⟩ = _
  rw [app_none]
theorem bytesL_one (e : N) : bytesL [e] = ent e := by
  show ent e ++ ⟨#[]⟩ = _
  rw [app_none]
theorem bytesL_pos {L : List N} (h : 0 < L.length) : 6 ≤ (bytesL L).size := by
  match L, h with
  | e :: L, _ => rw [bytesL, ByteArray.size_append, ent_size]; omega
theorem bytesL_many : ∀ L : List N, 6 * L.length ≤ (bytesL L).size
  | [] => by simp [bytesL]
  | e :: L => by
    have := bytesL_many L
    rw [bytesL, ByteArray.size_append, ent_size, List.length_cons]
    omega
/-- what a directory's bytes are -/
def DirP (s : ByteArray) (L : List N) : Prop := Fine L ∧ bytesL L = s ∧ s.size ≤ 20000
theorem DirP.nil : DirP ⟨#[]⟩ [] := ⟨Fine.nil, rfl, by decide⟩

/-! ### bytes are those of one list alone -/
theorem ba_ext {a b : ByteArray} (h : a.data.toList = b.data.toList) : a = b := ByteArray.ext (Array.toList_inj.1 h)
theorem app_inj {a b x y : ByteArray} (h : a ++ x = b ++ y) (hs : a.size = b.size) : a = b ∧ x = y := by
  have h1 := congrArg (fun z : ByteArray => z.data.toList) h
  simp only [app_list] at h1
  obtain ⟨h2, h3⟩ := List.append_inj h1 (by simpa using hs)
  exact ⟨ba_ext h2, ba_ext h3⟩
theorem ent_split {p l : N} {x y : ByteArray} (hp : fineE p) (hl : fineE l) (h : ent p ++ x = ent l ++ y) : p = l ∧ x = y := by
  unfold ent at h
  rw [← app_assoc, ← app_assoc, ← app_assoc, ← app_assoc] at h
  obtain ⟨h1, h2⟩ := app_inj h (by rw [numB_size, numB_size])
  obtain ⟨h3, h4⟩ := app_inj h2 (by rw [numB_size, numB_size])
  have e4 : (256 : Nat) ^ 4 = 4294967296 := by decide
  have e2 : (256 : Nat) ^ 2 = 65536 := by decide
  have i1 := numB_inj _ _ 4 (by rw [e4]; exact hp.2.2) (by rw [e4]; exact hl.2.2) h1
  have i2 := numB_inj _ _ 2 (by have := hp.1.2.1; omega) (by have := hl.1.2.1; omega) h3
  obtain ⟨h5, h6⟩ := app_inj h4 i2
  obtain ⟨pn, pi⟩ := p
  obtain ⟨ln, li⟩ := l
  dsimp only at i1 h5
  rw [i1, h5]
  exact ⟨rfl, h6⟩
theorem pre_split : ∀ (P L : List N) (t : ByteArray), (∀ e ∈ P, fineE e) → (∀ e ∈ L, fineE e) → bytesL P ++ t = bytesL L → ∃ R, L = P ++ R ∧ bytesL R = t
  | [], L, t, _, _, h => ⟨L, rfl, by rw [← h, bytesL, none_app]⟩
  | p :: P, [], t, _, _, h => by
    have := congrArg ByteArray.size h
    rw [bytesL, bytesL, ByteArray.size_append, ByteArray.size_append, ent_size] at this
    have h0 : (⟨#[]⟩ : ByteArray).size = 0 := rfl
    omega
  | p :: P, l :: L, t, hP, hL, h => by
    rw [bytesL, bytesL, ← app_assoc] at h
    obtain ⟨h1, h2⟩ := ent_split (hP p (by simp)) (hL l (by simp)) h
    obtain ⟨R, h3, h4⟩ := pre_split P L t (fun e he => hP e (List.mem_cons_of_mem _ he)) (fun e he => hL e (List.mem_cons_of_mem _ he)) h2
    exact ⟨R, by rw [h1, h3, List.cons_append], h4⟩
theorem Fine.mem {L : List N} (h : Fine L) : ∀ e ∈ L, fineE e := fun e he => by
  obtain ⟨i, hi, rfl⟩ := mem_nm he
  exact h.1 i hi
theorem bytesL_none {R : List N} (h : bytesL R = ⟨#[]⟩) : R = [] := by
  cases R with
  | nil => rfl
  | cons e R =>
    have := congrArg ByteArray.size h
    rw [bytesL, ByteArray.size_append, ent_size] at this
    have h0 : (⟨#[]⟩ : ByteArray).size = 0 := rfl
    omega
theorem DirP.unique {s : ByteArray} {L M : List N} (h : DirP s L) (k : DirP s M) : L = M := by
  obtain ⟨R, h1, h2⟩ := pre_split L M ⟨#[]⟩ h.1.mem k.1.mem (by rw [app_none, h.2.1, k.2.1])
  rw [bytesL_none h2, List.append_nil] at h1
  exact h1.symm

/-! ### where a name is -/
def idx (L : List N) (s : ByteArray) : Nat := L.findIdx (fun e => decide (e.name = s))
theorem idx_le (L : List N) (s : ByteArray) : idx L s ≤ L.length := List.findIdx_le_length
theorem idx_is {L : List N} {s : ByteArray} (h : idx L s < L.length) : (nm L (idx L s)).name = s := by
  have := of_decide_eq_true (List.findIdx_getElem (w := h))
  rw [← nm_elem h]
  exact this
theorem idx_not {L : List N} {s : ByteArray} {i : Nat} (h : i < idx L s) : ¬ (nm L i).name = s := by
  have hl : i < L.length := Nat.lt_of_lt_of_le h (idx_le L s)
  have := List.not_of_lt_findIdx h
  rw [nm_elem hl] at this
  simpa using this
theorem idx_eq {L : List N} (hf : Fine L) {s : ByteArray} {i : Nat} (hi : i < L.length) (h : (nm L i).name = s) : idx L s = i := by
  have h1 : idx L s < L.length := by
    rcases Nat.lt_or_ge i (idx L s) with hh | hh
    · exact absurd h (idx_not hh)
    · omega
  exact hf.2 _ _ h1 hi ((idx_is h1).trans h.symm)
theorem idx_none {L : List N} {s : ByteArray} : idx L s = L.length ↔ ∀ i, i < L.length → ¬ (nm L i).name = s := by
  constructor
  · intro h i hi
    exact idx_not (by rw [h]; exact hi)
  · intro h
    have h1 := idx_le L s
    rcases Nat.lt_or_ge (idx L s) L.length with hh | hh
    · exact absurd (idx_is hh) (h _ hh)
    · omega

/-! ### what is answered -/
def findE (L : List N) (s : ByteArray) : Int := if ¬ nameP s then 111 else if idx L s < L.length then 0 else 112
def findV (L : List N) (s : ByteArray) : Nat := if findE L s = 0 then (nm L (idx L s)).ino else 0
def addE (L : List N) (s : ByteArray) (ino : Nat) : Int := if ¬ nameP s then 111 else if idx L s < L.length then 113 else if ino = 0 then 110 else if 20000 < (bytesL L).size + 6 + s.size then 114 else 0
def addV (L : List N) (s : ByteArray) (ino : Nat) : ByteArray := if addE L s ino = 0 then bytesL (L ++ [⟨s, ino⟩]) else ⟨#[]⟩
def dropV (L : List N) (s : ByteArray) : ByteArray := if findE L s = 0 then bytesL (L.eraseIdx (idx L s)) else ⟨#[]⟩
def setE (L : List N) (s : ByteArray) (ino : Nat) : Int := if ¬ findE L s = 0 then findE L s else if ino = 0 then 110 else 0
def setV (L : List N) (s : ByteArray) (ino : Nat) : ByteArray := if setE L s ino = 0 then bytesL (L.set (idx L s) ⟨s, ino⟩) else ⟨#[]⟩
theorem find_zero {L : List N} {s : ByteArray} : findE L s = 0 ↔ nameP s ∧ idx L s < L.length := by
  unfold findE
  by_cases h1 : nameP s
  · by_cases h2 : idx L s < L.length
    · simp [h1, h2]
    · simp [h1, h2]
  · simp [h1]
theorem add_zero {L : List N} {s : ByteArray} {ino : Nat} : addE L s ino = 0 ↔ nameP s ∧ idx L s = L.length ∧ ¬ ino = 0 ∧ (bytesL L).size + 6 + s.size ≤ 20000 := by
  have hle := idx_le L s
  unfold addE
  by_cases h1 : nameP s
  · by_cases h2 : idx L s < L.length
    · simp [h1, h2]; omega
    · by_cases h3 : ino = 0
      · simp [h1, h2, h3]
      · by_cases h4 : 20000 < (bytesL L).size + 6 + s.size
        · simp [h1, h2, h3, h4]
        · simp [h1, h2, h3, h4]; omega
  · simp [h1]

/-! ### what changes is right -/
theorem Fine.add {L : List N} (h : Fine L) {e : N} (he : fineE e) (hi : idx L e.name = L.length) : Fine (L ++ [e]) := by
  have hn := idx_none.1 hi
  have hl : (L ++ [e]).length = L.length + 1 := by simp
  refine ⟨fun i hi => ?_, fun i j hi hj hij => ?_⟩
  · rw [hl] at hi
    by_cases hh : i < L.length
    · rw [nm_app hh]; exact h.1 i hh
    · obtain rfl : i = L.length := by omega
      rw [nm_last]; exact he
  · rw [hl] at hi hj
    by_cases h1 : i < L.length
    · by_cases h2 : j < L.length
      · rw [nm_app h1, nm_app h2] at hij
        exact h.2 i j h1 h2 hij
      · obtain rfl : j = L.length := by omega
        rw [nm_app h1, nm_last] at hij
        exact absurd hij (hn i h1)
    · obtain rfl : i = L.length := by omega
      by_cases h2 : j < L.length
      · rw [nm_app h2, nm_last] at hij
        exact absurd hij.symm (hn j h2)
      · omega
theorem Fine.pre {P R : List N} (h : Fine (P ++ R)) : Fine P := by
  refine ⟨fun i hi => ?_, fun i j hi hj hij => ?_⟩
  · have := h.1 i (by rw [List.length_append]; omega)
    rwa [nm_app hi] at this
  · refine h.2 i j (by rw [List.length_append]; omega) (by rw [List.length_append]; omega) ?_
    rw [nm_app hi, nm_app hj]
    exact hij
theorem Fine.set {L : List N} (h : Fine L) {k : Nat} (hk : k < L.length) {ino : Nat} (h0 : ¬ ino = 0) (h1 : ino < 4294967296) : Fine (L.set k ⟨(nm L k).name, ino⟩) := by
  have hn : ∀ i, (nm (L.set k ⟨(nm L k).name, ino⟩) i).name = (nm L i).name := fun i => by
    rw [nm_set hk]
    split
    · rename_i e; rw [e]
    · rfl
  refine ⟨fun i hi => ?_, fun i j hi hj hij => ?_⟩
  · rw [List.length_set] at hi
    rw [nm_set hk]
    split
    · exact ⟨(h.1 k hk).1, h0, h1⟩
    · exact h.1 i hi
  · rw [List.length_set] at hi hj
    rw [hn, hn] at hij
    exact h.2 i j hi hj hij
theorem nm_erase {L : List N} {k i : Nat} : nm (L.eraseIdx k) i = if i < k then nm L i else nm L (i + 1) := by
  unfold nm
  rw [List.getD_eq_getElem?_getD, List.getD_eq_getElem?_getD, List.getD_eq_getElem?_getD, List.getElem?_eraseIdx]
  split <;> rfl
theorem erase_length {L : List N} {k : Nat} (hk : k < L.length) : (L.eraseIdx k).length = L.length - 1 := List.length_eraseIdx_of_lt hk
theorem Fine.erase {L : List N} (h : Fine L) {k : Nat} (hk : k < L.length) : Fine (L.eraseIdx k) := by
  have hl := erase_length hk
  refine ⟨fun i hi => ?_, fun i j hi hj hij => ?_⟩
  · rw [nm_erase]
    split
    · exact h.1 i (by omega)
    · exact h.1 (i + 1) (by omega)
  · rw [nm_erase, nm_erase] at hij
    split at hij <;> split at hij
    · exact h.2 i j (by omega) (by omega) hij
    · have := h.2 i (j + 1) (by omega) (by omega) hij; omega
    · have := h.2 (i + 1) j (by omega) (by omega) hij; omega
    · have := h.2 (i + 1) (j + 1) (by omega) (by omega) hij; omega
theorem erase_split {L : List N} {k : Nat} (hk : k < L.length) : L = L.take k ++ nm L k :: L.drop (k + 1) ∧ L.eraseIdx k = L.take k ++ L.drop (k + 1) := by
  refine ⟨?_, List.eraseIdx_eq_take_drop_succ L k⟩
  rw [← nm_elem hk, List.getElem_cons_drop, List.take_append_drop]
theorem erase_size {L : List N} {k : Nat} (hk : k < L.length) : (bytesL (L.eraseIdx k)).size + 6 + (nm L k).name.size = (bytesL L).size := by
  obtain ⟨h1, h2⟩ := erase_split hk
  rw [h2]
  conv => rhs; rw [h1]
  rw [bytesL_app, bytesL_app, bytesL, ByteArray.size_append, ByteArray.size_append, ByteArray.size_append, ent_size]
  omega
theorem set_size {L : List N} {k : Nat} (hk : k < L.length) (ino : Nat) : (bytesL (L.set k ⟨(nm L k).name, ino⟩)).size = (bytesL L).size := by
  obtain ⟨h1, _⟩ := erase_split hk
  have h2 : L.set k ⟨(nm L k).name, ino⟩ = L.take k ++ ⟨(nm L k).name, ino⟩ :: L.drop (k + 1) := List.set_eq_take_append_cons_drop.trans (if_pos hk)
  rw [h2]
  conv => rhs; rw [h1]
  rw [bytesL_app, bytesL_app, bytesL, bytesL, ByteArray.size_append, ByteArray.size_append, ByteArray.size_append, ByteArray.size_append, ent_size, ent_size]
theorem DirP.add {s : ByteArray} {L : List N} (h : DirP s L) {e : N} (he : fineE e) (hi : idx L e.name = L.length) (hs : s.size + 6 + e.name.size ≤ 20000) : DirP (s ++ ent e) (L ++ [e]) :=
  ⟨h.1.add he hi, by rw [bytesL_snoc, h.2.1], by rw [ByteArray.size_append, ent_size]; omega⟩
theorem DirP.erase {s : ByteArray} {L : List N} (h : DirP s L) {k : Nat} (hk : k < L.length) : DirP (bytesL (L.eraseIdx k)) (L.eraseIdx k) :=
  ⟨h.1.erase hk, rfl, by have h1 := erase_size hk; have h2 := h.2.2; rw [← h.2.1] at h2; omega⟩
theorem DirP.set {s : ByteArray} {L : List N} (h : DirP s L) {k : Nat} (hk : k < L.length) {ino : Nat} (h0 : ¬ ino = 0) (h1 : ino < 4294967296) : DirP (bytesL (L.set k ⟨(nm L k).name, ino⟩)) (L.set k ⟨(nm L k).name, ino⟩) :=
  ⟨h.1.set hk h0 h1, rfl, by rw [set_size hk, h.2.1]; exact h.2.2⟩
end Go.Proofs.Yteopcjfakhmifaa.Dir
/- Names, for seats that have no directories: what is one, what a call leaves. -/
namespace Go.Proofs.Yteopcjfakhmifaa.Nam
open Go.RowKit
attribute [local go_sem] Oper.semAt_some
set_option linter.unusedVariables false
set_option linter.unusedSimpArgs false
def nameP (s : ByteArray) : Prop := 1 ≤ s.size ∧ s.size ≤ 59 ∧ ¬ s = ⟨#[46]⟩ ∧ ¬ s = ⟨#[46, 46]⟩ ∧ ∀ i, i < s.size → ¬ sb s i = 0 ∧ ¬ sb s i = 47
instance (s : ByteArray) : Decidable (nameP s) := by unfold nameP; infer_instance
def nameB (s : ByteArray) : Bool := decide (nameP s)
theorem nameB_yes {s : ByteArray} (h : nameP s) : nameB s = true := decide_eq_true h
theorem nameB_no {s : ByteArray} (h : ¬ nameP s) : nameB s = false := decide_eq_false h
theorem ba_ext {a b : ByteArray} (h : a.data.toList = b.data.toList) : a = b := ByteArray.ext (Array.toList_inj.1 h)
theorem none_app (s : ByteArray) : (⟨#[]⟩ : ByteArray) ++ s = s := ba_ext (by rw [ByteArray.data_append, Array.toList_append]; rfl)
theorem beq_yes {A B : ByteArray} (h : A = B) : (A.toList == B.toList) = true := by rw [h]; simp
theorem beq_no {A B : ByteArray} (h : ¬ A = B) : (A.toList == B.toList) = false := by
  rw [beq_eq_false_iff_ne]
  exact fun he => h (ByteArray.ext (Array.toList_inj.1 (by rw [← Lib.toList_data, ← Lib.toList_data]; exact he)))
theorem below_al {w W : World} (h : Below w.heap.size w W) (o : Obj) : Below w.heap.size w (W.alloc o) := h.alloc h.size _
theorem below_new (w : World) (o : Obj) : Below w.heap.size w (w.alloc o) := (Below.refl _ _).alloc (Nat.le_refl _) _
theorem below_drewN {B : Nat} {w W : World} (h : Below B w W) (n : Nat) : Below B w (W.drewN n) := ⟨h.1, h.2, h.3, h.4, h.5⟩
def Ans (w : World) (v : Value) (e : Ending) (w' : World) : Prop := e = .returned v ∧ Below w.heap.size w w'
end Go.Proofs.Yteopcjfakhmifaa.Nam
