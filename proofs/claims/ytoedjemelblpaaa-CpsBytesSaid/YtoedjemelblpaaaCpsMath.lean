/- Tables of checkpoints as lists: which are right, what is found, added, marked, deleted, what expires. They speak of no program. -/
import Derived.Lib.Hide
namespace Go.Proofs.Ytoedjemelblpaaa.Cps
set_option linter.unusedVariables false
set_option linter.unusedSimpArgs false

/-- a checkpoint -/
structure C where
  cp : Nat
  tick : Nat
  snap : Bool
  root : ByteArray
deriving DecidableEq
def C.zero : C := ⟨0, 0, false, ⟨#[]⟩⟩
/-- numbers of their types -/
def COk (c : C) : Prop := c.cp < 18446744073709551616 ∧ c.tick < 18446744073709551616
def ck (L : List C) (i : Nat) : C := L.getD i C.zero
theorem ck_get {L : List C} {i : Nat} (h : i < L.length) : L[i]? = some (ck L i) := by
  unfold ck
  rw [List.getD_eq_getElem?_getD, List.getElem?_eq_getElem h]
  rfl
theorem ck_mem {L : List C} {i : Nat} (h : i < L.length) : ck L i ∈ L := List.mem_of_getElem? (ck_get h)
theorem mem_ck {L : List C} {c : C} (h : c ∈ L) : ∃ i, i < L.length ∧ ck L i = c := by
  obtain ⟨i, hi⟩ := List.getElem?_of_mem h
  have hl := (List.getElem?_eq_some_iff.1 hi).1
  rw [ck_get hl] at hi
  exact ⟨i, hl, Option.some.inj hi⟩
theorem ck_out {L : List C} {i : Nat} (h : L.length ≤ i) : ck L i = C.zero := by
  unfold ck
  rw [List.getD_eq_getElem?_getD, List.getElem?_eq_none h]
  rfl
theorem ck_app {L M : List C} {i : Nat} (h : i < L.length) : ck (L ++ M) i = ck L i := by
  have h1 := ck_get (L := L ++ M) (i := i) (by rw [List.length_append]; omega)
  rw [List.getElem?_append_left h, ck_get h] at h1
  exact (Option.some.inj h1).symm
theorem ck_last (L : List C) (c : C) : ck (L ++ [c]) L.length = c := by
  unfold ck
  simp
theorem ck_ext {L M : List C} (hl : L.length = M.length) (h : ∀ i, i < L.length → ck L i = ck M i) : L = M := by
  apply List.ext_getElem?
  intro i
  by_cases hi : i < L.length
  · rw [ck_get hi, ck_get (by omega), h i hi]
  · rw [List.getElem?_eq_none (by omega), List.getElem?_eq_none (by omega)]
theorem ck_set {L : List C} {k : Nat} (hk : k < L.length) (c : C) (i : Nat) : ck (L.set k c) i = if i = k then c else ck L i := by
  unfold ck
  rw [List.getD_eq_getElem?_getD, List.getD_eq_getElem?_getD, List.getElem?_set]
  split
  · rename_i h; subst h; simp [hk]
  · rename_i h; rw [if_neg (fun e => h e.symm)]
theorem take_snoc {L : List C} {k : Nat} (h : k < L.length) : L.take (k + 1) = L.take k ++ [ck L k] := by
  rw [List.take_add_one, ck_get h]
  rfl

/-! ### right tables -/
def fineP (c : C) : Prop := c.cp < 281474976710656 ∧ c.tick < 281474976710656 ∧ c.root.size = 42
instance (c : C) : Decidable (fineP c) := by unfold fineP; infer_instance
/-- the number that must be below -/
def prev (L : List C) : Nat → Nat
  | 0 => 0
  | i + 1 => (ck L i).cp
def stepP (L : List C) (i : Nat) : Prop := prev L i < (ck L i).cp ∧ fineP (ck L i)
instance (L : List C) (i : Nat) : Decidable (stepP L i) := by unfold stepP; infer_instance
def RightP (L : List C) : Prop := L.length ≤ 108 ∧ ∀ i, i < L.length → stepP L i
instance (L : List C) : Decidable (RightP L) := by unfold RightP; infer_instance
def rightB (L : List C) : Bool := decide (RightP L)
theorem rightB_yes {L : List C} (h : RightP L) : rightB L = true := decide_eq_true h
theorem rightB_no {L : List C} (h : ¬ RightP L) : rightB L = false := decide_eq_false h
theorem RightP.fine {L : List C} (h : RightP L) {i : Nat} (hi : i < L.length) : fineP (ck L i) := (h.2 i hi).2
theorem RightP.fine_mem {L : List C} (h : RightP L) {c : C} (hc : c ∈ L) : fineP c := by
  obtain ⟨i, hi, rfl⟩ := mem_ck hc
  exact h.fine hi
theorem RightP.lt {L : List C} (h : RightP L) : ∀ {i j : Nat}, i < j → j < L.length → (ck L i).cp < (ck L j).cp
  | i, 0, hij, _ => by omega
  | i, j + 1, hij, hj => by
    have h1 : (ck L j).cp < (ck L (j + 1)).cp := (h.2 (j + 1) hj).1
    rcases Nat.lt_succ_iff_lt_or_eq.1 hij with h2 | h2
    · exact Nat.lt_trans (h.lt h2 (by omega)) h1
    · rw [h2]; exact h1
theorem RightP.pos {L : List C} (h : RightP L) {i : Nat} (hi : i < L.length) : 1 ≤ (ck L i).cp := by
  have h1 := (h.2 i hi).1
  omega
theorem RightP.inj {L : List C} (h : RightP L) {i j : Nat} (hi : i < L.length) (hj : j < L.length) (e : (ck L i).cp = (ck L j).cp) : i = j := by
  rcases Nat.lt_trichotomy i j with h1 | h1 | h1
  · have := h.lt h1 hj; omega
  · exact h1
  · have := h.lt h1 hi; omega
theorem RightP.pairs {L : List C} (h : RightP L) : L.Pairwise (fun a b => a.cp < b.cp) := by
  rw [List.pairwise_iff_getElem]
  intro i j hi hj hij
  have h1 := h.lt hij hj
  have e1 := ck_get hi
  have e2 := ck_get hj
  rw [List.getElem?_eq_getElem hi] at e1
  rw [List.getElem?_eq_getElem hj] at e2
  rw [Option.some.inj e1, Option.some.inj e2]
  exact h1
theorem right_of {L : List C} (h1 : L.length ≤ 108) (h2 : L.Pairwise (fun a b => a.cp < b.cp)) (h3 : ∀ c ∈ L, 1 ≤ c.cp ∧ fineP c) : RightP L := by
  refine ⟨h1, fun i hi => ⟨?_, (h3 _ (ck_mem hi)).2⟩⟩
  cases i with
  | zero => have := (h3 _ (ck_mem hi)).1; show 0 < _; omega
  | succ i =>
    have hi0 : i < L.length := by omega
    have := (List.pairwise_iff_getElem.1 h2) i (i + 1) hi0 hi (by omega)
    have e1 := ck_get hi0
    have e2 := ck_get hi
    rw [List.getElem?_eq_getElem hi0] at e1
    rw [List.getElem?_eq_getElem hi] at e2
    rw [Option.some.inj e1, Option.some.inj e2] at this
    exact this
theorem RightP.sub {L M : List C} (h : RightP L) (hs : M.Sublist L) : RightP M := by
  refine right_of (Nat.le_trans hs.length_le h.1) (h.pairs.sublist hs) fun c hc => ?_
  obtain ⟨i, hi, rfl⟩ := mem_ck (hs.subset hc)
  exact ⟨h.pos hi, h.fine hi⟩
theorem RightP.filt {L : List C} (h : RightP L) (p : C → Bool) : RightP (L.filter p) := h.sub List.filter_sublist
theorem RightP.nil : RightP [] := ⟨by decide, fun i hi => by cases hi⟩

/-! ### what is found -/
def at_ (L : List C) (cp : Nat) : Nat := L.findIdx (fun c => decide (c.cp = cp))
theorem at_le (L : List C) (cp : Nat) : at_ L cp ≤ L.length := List.findIdx_le_length
theorem at_of {L : List C} {cp k : Nat} (hk : k < L.length) (he : (ck L k).cp = cp) (hb : ∀ j, j < k → (ck L j).cp ≠ cp) : at_ L cp = k := by
  unfold at_
  have e1 := ck_get hk
  rw [List.getElem?_eq_getElem hk] at e1
  rw [List.findIdx_eq hk]
  refine ⟨by rw [Option.some.inj e1]; exact decide_eq_true he, fun j hj => ?_⟩
  have e2 := ck_get (L := L) (i := j) (by omega)
  rw [List.getElem?_eq_getElem (by omega)] at e2
  rw [Option.some.inj e2]
  exact decide_eq_false (hb j hj)
theorem at_none {L : List C} {cp : Nat} (h : ∀ j, j < L.length → (ck L j).cp ≠ cp) : at_ L cp = L.length := by
  unfold at_
  rw [List.findIdx_eq_length]
  intro c hc
  obtain ⟨i, hi, rfl⟩ := mem_ck hc
  exact decide_eq_false (h i hi)
theorem at_cp {L : List C} {cp : Nat} (h : at_ L cp < L.length) : (ck L (at_ L cp)).cp = cp := by
  have h1 : at_ L cp = L.findIdx (fun c => decide (c.cp = cp)) := rfl
  have e1 := ck_get h
  rw [List.getElem?_eq_getElem h] at e1
  rw [← Option.some.inj e1]
  have h2 := List.findIdx_getElem (p := fun c : C => decide (c.cp = cp)) (xs := L) (w := by rw [← h1]; exact h)
  simpa [at_] using h2
theorem at_not {L : List C} {cp : Nat} (h : ¬ at_ L cp < L.length) {j : Nat} (hj : j < L.length) : (ck L j).cp ≠ cp := fun e => by
  apply h
  unfold at_
  rw [List.findIdx_lt_length]
  exact ⟨ck L j, ck_mem hj, decide_eq_true e⟩
theorem RightP.at_eq {L : List C} (h : RightP L) {j : Nat} (hj : j < L.length) : at_ L (ck L j).cp = j := at_of hj rfl (fun i hi e => by have := h.inj (by omega) hj e; omega)

def fndE (L : List C) (cp : Nat) : Int := if RightP L then (if at_ L cp < L.length then 0 else 92) else 90
def fndP (L : List C) (cp : Nat) : Nat := if RightP L then (if at_ L cp < L.length then at_ L cp else 0) else 0
def fndC (L : List C) (cp : Nat) : C := if RightP L ∧ at_ L cp < L.length then ck L (at_ L cp) else C.zero
theorem fnd_yes {L : List C} {cp : Nat} (h : RightP L) (h1 : at_ L cp < L.length) : fndE L cp = 0 ∧ fndP L cp = at_ L cp ∧ fndC L cp = ck L (at_ L cp) := ⟨by unfold fndE; rw [if_pos h, if_pos h1], by unfold fndP; rw [if_pos h, if_pos h1], if_pos ⟨h, h1⟩⟩
theorem fnd_none {L : List C} {cp : Nat} (h : RightP L) (h1 : ¬ at_ L cp < L.length) : fndE L cp = 92 ∧ fndP L cp = 0 ∧ fndC L cp = C.zero := ⟨by unfold fndE; rw [if_pos h, if_neg h1], by unfold fndP; rw [if_pos h, if_neg h1], if_neg (fun hh => h1 hh.2)⟩
theorem fnd_no {L : List C} {cp : Nat} (h : ¬ RightP L) : fndE L cp = 90 ∧ fndP L cp = 0 ∧ fndC L cp = C.zero := ⟨if_neg h, if_neg h, if_neg (fun hh => h hh.1)⟩
theorem fndE_zero {L : List C} {cp : Nat} : fndE L cp = 0 ↔ RightP L ∧ at_ L cp < L.length := by
  unfold fndE
  by_cases h : RightP L
  · by_cases h1 : at_ L cp < L.length
    · simp [h, h1]
    · simp [h, h1]
  · simp [h]

/-! ### added, marked, deleted, expired -/
def addE (L : List C) (c : C) : Int := if RightP L then (if L.length = 108 then 91 else if RightP (L ++ [c]) then 0 else 90) else 90
def addV (L : List C) (c : C) : List C := if addE L c = 0 then L ++ [c] else []
theorem addE_zero {L : List C} {c : C} : addE L c = 0 ↔ RightP L ∧ L.length < 108 ∧ RightP (L ++ [c]) := by
  unfold addE
  by_cases h : RightP L
  · rw [if_pos h]
    by_cases h1 : L.length = 108
    · rw [if_pos h1]; simp [h1]
    · rw [if_neg h1]
      have := h.1
      by_cases h2 : RightP (L ++ [c])
      · rw [if_pos h2]; simp [h, h2]; omega
      · rw [if_neg h2]; simp [h2]
  · rw [if_neg h]; simp [h]
def markC (c : C) (s : Bool) : C := ⟨c.cp, c.tick, s, c.root⟩
def mrkV (L : List C) (cp : Nat) (s : Bool) : List C := if fndE L cp = 0 then L.set (at_ L cp) (markC (ck L (at_ L cp)) s) else []
def delE (L : List C) (cp : Nat) : Int := if fndE L cp = 0 then (if at_ L cp + 1 = L.length then 94 else if (ck L (at_ L cp)).snap = true then 93 else 0) else fndE L cp
def isB (cp : Nat) (c : C) : Bool := decide (c.cp = cp)
def othB (cp : Nat) (c : C) : Bool := !isB cp c
def delV (L : List C) (cp : Nat) : List C := if delE L cp = 0 then L.filter (othB cp) else []
theorem delE_zero {L : List C} {cp : Nat} : delE L cp = 0 ↔ RightP L ∧ at_ L cp < L.length ∧ ¬ at_ L cp + 1 = L.length ∧ (ck L (at_ L cp)).snap = false := by
  unfold delE
  by_cases h : fndE L cp = 0
  · rw [if_pos h]
    have h' := fndE_zero.1 h
    by_cases h1 : at_ L cp + 1 = L.length
    · rw [if_pos h1]; simp [h1]
    · rw [if_neg h1]
      cases h2 : (ck L (at_ L cp)).snap
      · simp [h', h1]
      · simp
  · rw [if_neg h]
    constructor
    · intro h1; exact absurd h1 h
    · rintro ⟨h1, h2, _⟩; exact absurd (fndE_zero.2 ⟨h1, h2⟩) h
def lastCp (L : List C) : Nat := (ck L (L.length - 1)).cp
def overP (c : C) (now keep : Nat) : Prop := c.tick + keep < now
instance (c : C) (now keep : Nat) : Decidable (overP c now keep) := by unfold overP; infer_instance
/-- is it dropped? -/
def dropB (last now keep : Nat) (c : C) : Bool := !c.snap && (decide (¬ c.cp = last) && decide (overP c now keep))
def keepB (last now keep : Nat) (c : C) : Bool := !dropB last now keep c
def expE (L : List C) : Int := if RightP L then 0 else 90
def expV (L : List C) (now keep : Nat) : List C := if RightP L then L.filter (keepB (lastCp L) now keep) else []
def expN (L : List C) (now keep : Nat) : Nat := if RightP L then L.length - (expV L now keep).length else 0
def numV (L : List C) : List Int := L.map fun c => (c.cp : Int)
theorem lastCp_nil : lastCp [] = 0 := rfl
theorem filt_le (p : C → Bool) (L : List C) : (L.filter p).length ≤ L.length := List.length_filter_le _ _
theorem filt_snoc (p : C → Bool) {L : List C} {k : Nat} (h : k < L.length) : (L.take (k + 1)).filter p = (L.take k).filter p ++ if p (ck L k) = true then [ck L k] else [] := by
  rw [take_snoc h, List.filter_append]
  congr 1
  by_cases hp : p (ck L k) = true
  · rw [if_pos hp, List.filter_cons_of_pos hp, List.filter_nil]
  · rw [if_neg hp, List.filter_cons_of_neg hp, List.filter_nil]
/-- the one that comes behind what has come -/
theorem filt_at (p : C → Bool) {L : List C} {k : Nat} (h : k < L.length) (hp : p (ck L k) = true) : ck (L.filter p) ((L.take k).filter p).length = ck L k ∧ ((L.take k).filter p).length < (L.filter p).length := by
  have e : L.filter p = (L.take k).filter p ++ ck L k :: (L.drop (k + 1)).filter p := by
    conv => lhs; rw [← List.take_append_drop (k + 1) L, List.filter_append, filt_snoc p h, if_pos hp, List.append_assoc]
    rfl
  constructor
  · unfold ck at *
    rw [e, List.getD_eq_getElem?_getD, List.getElem?_append_right (Nat.le_refl _), Nat.sub_self]
    simp
  · rw [e, List.length_append, List.length_cons]; omega
theorem filt_all (p : C → Bool) {L : List C} {k : Nat} (h : L.length ≤ k) : (L.take k).filter p = L.filter p := by rw [List.take_of_length_le h]
end Go.Proofs.Ytoedjemelblpaaa.Cps
