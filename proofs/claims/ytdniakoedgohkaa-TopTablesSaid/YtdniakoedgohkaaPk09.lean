/- Several texts in one, each under its own heading. -/
import Derived.StillTail
import Derived.StillTailTactics
import Derived.OrdersIn
import Derived.RangeFuncCalls
import Derived.Test.YtdniakoedgohkaaPk07
import Derived.Lib.Hide
import Derived.Deep.RegionWith
import Derived.Deep.RegionHeld3
import Derived.BigQuiet
import Derived.Handy
import Derived.Laws.StructEq
import Derived.Laws.AppendOwnNone
import Derived.Deep.AppendLies
import Derived.Lib.SliceRun
import Derived.Lib.Strings
import Derived.Test.YtdniakoedgohkaaPk01
/- A region that draws its order, in a loop's body over an iterator (a fence with a round): what a plain walk of the region shows holds there too; so the law of the quiet beginning serves. -/
namespace Go.Proofs.Ytdniakoedgohkaa
set_option linter.unusedVariables false

section
variable {P : Program} {ops : Array Oper} {Q : Exit → Act → World → Prop} {md : Region.Mode}

def noDefer (ops : Array Oper) : Bool := ops.all fun o => match o.op with | .defer _ => false | _ => true
theorem noDefer_at {i : Nat} {o : Oper} (h : noDefer ops = true) (hi : ops[i]? = some o) : ∀ c, o.op ≠ .defer c := by
  intro c hc
  have := (Array.all_eq_true.1 h) i (Array.getElem?_eq_some_iff.1 hi).1
  obtain ⟨hl, he⟩ := Array.getElem?_eq_some_iff.1 hi
  rw [he] at this
  simp [hc] at this

theorem upIn_of_up {l n : Nat} {o : Oper} {a : Act} {K : Act → World → Prop} {r : Result Next} (h : o.upon P a K Q r) : o.uponIn (Fence.wide.inRound l) n P a K Q r := by
  cases r with
  | ok x w' =>
    cases x <;> simp only [Oper.upon] at h <;> try exact h
    · exact ⟨fun hd => absurd hd (by simp [Fence.wide]), CallsIn.inRound l (callsIn_wide.2 h)⟩
    · refine ⟨fun hd => absurd hd (by simp [Fence.wide]), fun c cs _ => ?_⟩
      obtain ⟨v, w'', r, s⟩ := h c cs
      exact ⟨v, w'', r, stepsIn_wide.2 s⟩
  | halt x w' => cases x <;> simp only [Oper.upon] at h <;> exact h

theorem opIn_of_op {l n i : Nat} {K : Act → World → Prop} {a : Act} {w : World} (hd : noDefer ops = true) (hQ : ¬ LetsOut Q) (h : wpOp P ops Q i K a w) : wpOpIn (Fence.wide.inRound l) n P ops Q i K a w := by
  unfold wpOp at h
  unfold wpOpIn
  cases hi : ops[i]? with
  | none => simp only [hi] at h ⊢; exact h
  | some o =>
    simp only [hi] at h ⊢
    split
    · rename_i hw
      simp only [hw, if_true] at h
      rcases h with h | h
      · exact ⟨fun _ _ => trivial, by rw [Oper.semAt_eq _ _ _ (noDefer_at hd hi)]; exact upIn_of_up h⟩
      · exact absurd h.2 hQ
    · rename_i hw
      simp only [hw] at h
      exact ⟨fun _ _ => trivial, h⟩
theorem anyIn_of_any {l n : Nat} (hd : noDefer ops = true) (hQ : ¬ LetsOut Q) : ∀ (fuel : Nat) (listed : Array Bool) (a : Act) (w : World), wpAny P md ops Q fuel listed a w → wpAnyIn (Fence.wide.inRound l) n P md ops Q fuel listed a w
  | 0, _, _, _, h => h
  | fuel + 1, _, _, _, h => ⟨h.1, fun i hi => wpOpIn_mono (fun _ _ hh => anyIn_of_any hd hQ fuel _ _ _ hh) (opIn_of_op hd hQ (h.2 i hi))⟩

theorem wpIn_round_still_tail {l0 nF : Nat} {id : Nat} {a : Act} {w : World} {l : List Oper} (n : Nat) (hm : P.follows .mixedOrders = true) (hB : Region.lexTailB .any l.toArray n = true) (hd : noDefer l.toArray = true) (hQ : ¬ LetsOut Q)
    (h : wpStill P l.toArray w.drew (fun a' => wpList P l.toArray Q (l.drop n) a' w.drew) (l.take n) a) : (Code.region id l.toArray true).wpIn (Fence.wide.inRound l0) nF P Q a w := by
  simp only [Region.lexTailB, Bool.and_eq_true, decide_eq_true_eq] at hB
  obtain ⟨⟨⟨⟨hsel, hn⟩, hs⟩, hc⟩, hlex⟩ := hB
  have hn' : n < l.length := by simpa using hn
  have htl : (l.take n).length = n := by simp; omega
  have hdl : (l.drop n).length = l.toArray.size - n := by simp
  have inv0 : HeadInv .any l.toArray n (Array.replicate l.toArray.size false) :=
    ⟨by simp, fun j oj _ hl => (by rw [getD_replicate_false] at hl; cases hl), fun t _ ht => getD_in (by simpa using ht) (getD_replicate_false _ _)⟩
  have H := wpAnyL_lex (md := .any) (g := l.toArray.size - n) hsel hs hc hn (l.take n) 0 _ a (fun j hj => by
    have hj' : j < n := by rw [htl] at hj; exact hj
    simp [hj']) (by simpa using htl) inv0 (by rw [htl]; exact hlex) h
  refine wpIn_region_any hm (anyIn_of_any hd hQ _ _ _ _ ?_)
  have := wpAny_of_head (Q' := Q) (g := l.toArray.size - n) (fun listed a' hL => by
    have := wpAny_of_seq (md := .any) (Q' := Q) (l.drop n) n listed a' w.drew (fun j => by simp [List.getElem?_drop]) (by rw [hdl]; exact hL.1) hL.2
    rwa [hdl] at this) _ _ _ H
  rw [htl, show n + (l.toArray.size - n) = l.toArray.size by omega] at this
  exact this
end
end Go.Proofs.Ytdniakoedgohkaa
/- Tables of checkpoints as lists: which are right, what is found, added, marked, deleted, what expires. They speak of no program. -/
namespace Go.Proofs.Ytdniakoedgohkaa.Cps
set_option linter.unusedVariables false
set_option linter.unusedSimpArgs false

/-- a checkpoint -/
structure C where
  cp : Nat
  tick : Nat
  snap : Bool
  root : ByteArray
deriving DecidableEq
def C.zero : C := ⟨0, 0, false, ⟨#[]⟩⟩
/-- numbers of their types -/
def COk (c : C) : Prop := c.cp < 18446744073709551616 ∧ c.tick < 18446744073709551616
def ck (L : List C) (i : Nat) : C := L.getD i C.zero
theorem ck_get {L : List C} {i : Nat} (h : i < L.length) : L[i]? = some (ck L i) := by
  unfold ck
  rw [List.getD_eq_getElem?_getD, List.getElem?_eq_getElem h]
  rfl
theorem ck_mem {L : List C} {i : Nat} (h : i < L.length) : ck L i ∈ L := List.mem_of_getElem? (ck_get h)
theorem mem_ck {L : List C} {c : C} (h : c ∈ L) : ∃ i, i < L.length ∧ ck L i = c := by
  obtain ⟨i, hi⟩ := List.getElem?_of_mem h
  have hl := (List.getElem?_eq_some_iff.1 hi).1
  rw [ck_get hl] at hi
  exact ⟨i, hl, Option.some.inj hi⟩
theorem ck_out {L : List C} {i : Nat} (h : L.length ≤ i) : ck L i = C.zero := by
  unfold ck
  rw [List.getD_eq_getElem?_getD, List.getElem?_eq_none h]
  rfl
theorem ck_app {L M : List C} {i : Nat} (h : i < L.length) : ck (L ++ M) i = ck L i := by
  have h1 := ck_get (L := L ++ M) (i := i) (by rw [List.length_append]; omega)
  rw [List.getElem?_append_left h, ck_get h] at h1
  exact (Option.some.inj h1).symm
theorem ck_last (L : List C) (c : C) : ck (L ++ [c]) L.length = c := by
  unfold ck
  simp
theorem ck_ext {L M : List C} (hl : L.length = M.length) (h : ∀ i, i < L.length → ck L i = ck M i) : L = M := by
  apply List.ext_getElem?
  intro i
  by_cases hi : i < L.length
  · rw [ck_get hi, ck_get (by omega), h i hi]
  · rw [List.getElem?_eq_none (by omega), List.getElem?_eq_none (by omega)]
theorem ck_set {L : List C} {k : Nat} (hk : k < L.length) (c : C) (i : Nat) : ck (L.set k c) i = if i = k then c else ck L i := by
  unfold ck
  rw [List.getD_eq_getElem?_getD, List.getD_eq_getElem?_getD, List.getElem?_set]
  split
  · rename_i h; subst h; simp [hk]
  · rename_i h; rw [if_neg (fun e => h e.symm)]
theorem take_snoc {L : List C} {k : Nat} (h : k < L.length) : L.take (k + 1) = L.take k ++ [ck L k] := by
  rw [List.take_add_one, ck_get h]
  rfl

/-! ### right tables -/
def fineP (c : C) : Prop := c.cp < 281474976710656 ∧ c.tick < 281474976710656 ∧ c.root.size = 42
instance (c : C) : Decidable (fineP c) := by unfold fineP; infer_instance
/-- the number that must be below -/
def prev (L : List C) : Nat → Nat
  | 0 => 0
  | i + 1 => (ck L i).cp
def stepP (L : List C) (i : Nat) : Prop := prev L i < (ck L i).cp ∧ fineP (ck L i)
instance (L : List C) (i : Nat) : Decidable (stepP L i) := by unfold stepP; infer_instance
def RightP (L : List C) : Prop := L.length ≤ 108 ∧ ∀ i, i < L.length → stepP L i
instance (L : List C) : Decidable (RightP L) := by unfold RightP; infer_instance
def rightB (L : List C) : Bool := decide (RightP L)
theorem rightB_yes {L : List C} (h : RightP L) : rightB L = true := decide_eq_true h
theorem rightB_no {L : List C} (h : ¬ RightP L) : rightB L = false := decide_eq_false h
theorem RightP.fine {L : List C} (h : RightP L) {i : Nat} (hi : i < L.length) : fineP (ck L i) := (h.2 i hi).2
theorem RightP.fine_mem {L : List C} (h : RightP L) {c : C} (hc : c ∈ L) : fineP c := by
  obtain ⟨i, hi, rfl⟩ := mem_ck hc
  exact h.fine hi
theorem RightP.lt {L : List C} (h : RightP L) : ∀ {i j : Nat}, i < j → j < L.length → (ck L i).cp < (ck L j).cp
  | i, 0, hij, _ => by omega
  | i, j + 1, hij, hj => by
    have h1 : (ck L j).cp < (ck L (j + 1)).cp := (h.2 (j + 1) hj).1
    rcases Nat.lt_succ_iff_lt_or_eq.1 hij with h2 | h2
    · exact Nat.lt_trans (h.lt h2 (by omega)) h1
    · rw [h2]; exact h1
theorem RightP.pos {L : List C} (h : RightP L) {i : Nat} (hi : i < L.length) : 1 ≤ (ck L i).cp := by
  have h1 := (h.2 i hi).1
  omega
theorem RightP.inj {L : List C} (h : RightP L) {i j : Nat} (hi : i < L.length) (hj : j < L.length) (e : (ck L i).cp = (ck L j).cp) : i = j := by
  rcases Nat.lt_trichotomy i j with h1 | h1 | h1
  · have := h.lt h1 hj; omega
  · exact h1
  · have := h.lt h1 hi; omega
theorem RightP.pairs {L : List C} (h : RightP L) : L.Pairwise (fun a b => a.cp < b.cp) := by
  rw [List.pairwise_iff_getElem]
  intro i j hi hj hij
  have h1 := h.lt hij hj
  have e1 := ck_get hi
  have e2 := ck_get hj
  rw [List.getElem?_eq_getElem hi] at e1
  rw [List.getElem?_eq_getElem hj] at e2
  rw [Option.some.inj e1, Option.some.inj e2]
  exact h1
theorem right_of {L : List C} (h1 : L.length ≤ 108) (h2 : L.Pairwise (fun a b => a.cp < b.cp)) (h3 : ∀ c ∈ L, 1 ≤ c.cp ∧ fineP c) : RightP L := by
  refine ⟨h1, fun i hi => ⟨?_, (h3 _ (ck_mem hi)).2⟩⟩
  cases i with
  | zero => have := (h3 _ (ck_mem hi)).1; show 0 < _; omega
  | succ i =>
    have hi0 : i < L.length := by omega
    have := (List.pairwise_iff_getElem.1 h2) i (i + 1) hi0 hi (by omega)
    have e1 := ck_get hi0
    have e2 := ck_get hi
    rw [List.getElem?_eq_getElem hi0] at e1
    rw [List.getElem?_eq_getElem hi] at e2
    rw [Option.some.inj e1, Option.some.inj e2] at this
    exact this
theorem RightP.sub {L M : List C} (h : RightP L) (hs : M.Sublist L) : RightP M := by
  refine right_of (Nat.le_trans hs.length_le h.1) (h.pairs.sublist hs) fun c hc => ?_
  obtain ⟨i, hi, rfl⟩ := mem_ck (hs.subset hc)
  exact ⟨h.pos hi, h.fine hi⟩
theorem RightP.filt {L : List C} (h : RightP L) (p : C → Bool) : RightP (L.filter p) := h.sub List.filter_sublist
theorem RightP.nil : RightP [] := ⟨by decide, fun i hi => by cases hi⟩

/-! ### what is found -/
def at_ (L : List C) (cp : Nat) : Nat := L.findIdx (fun c => decide (c.cp = cp))
theorem at_le (L : List C) (cp : Nat) : at_ L cp ≤ L.length := List.findIdx_le_length
theorem at_of {L : List C} {cp k : Nat} (hk : k < L.length) (he : (ck L k).cp = cp) (hb : ∀ j, j < k → (ck L j).cp ≠ cp) : at_ L cp = k := by
  unfold at_
  have e1 := ck_get hk
  rw [List.getElem?_eq_getElem hk] at e1
  rw [List.findIdx_eq hk]
  refine ⟨by rw [Option.some.inj e1]; exact decide_eq_true he, fun j hj => ?_⟩
  have e2 := ck_get (L := L) (i := j) (by omega)
  rw [List.getElem?_eq_getElem (by omega)] at e2
  rw [Option.some.inj e2]
  exact decide_eq_false (hb j hj)
theorem at_none {L : List C} {cp : Nat} (h : ∀ j, j < L.length → (ck L j).cp ≠ cp) : at_ L cp = L.length := by
  unfold at_
  rw [List.findIdx_eq_length]
  intro c hc
  obtain ⟨i, hi, rfl⟩ := mem_ck hc
  exact decide_eq_false (h i hi)
theorem at_cp {L : List C} {cp : Nat} (h : at_ L cp < L.length) : (ck L (at_ L cp)).cp = cp := by
  have h1 : at_ L cp = L.findIdx (fun c => decide (c.cp = cp)) := rfl
  have e1 := ck_get h
  rw [List.getElem?_eq_getElem h] at e1
  rw [← Option.some.inj e1]
  have h2 := List.findIdx_getElem (p := fun c : C => decide (c.cp = cp)) (xs := L) (w := by rw [← h1]; exact h)
  simpa [at_] using h2
theorem at_not {L : List C} {cp : Nat} (h : ¬ at_ L cp < L.length) {j : Nat} (hj : j < L.length) : (ck L j).cp ≠ cp := fun e => by
  apply h
  unfold at_
  rw [List.findIdx_lt_length]
  exact ⟨ck L j, ck_mem hj, decide_eq_true e⟩
theorem RightP.at_eq {L : List C} (h : RightP L) {j : Nat} (hj : j < L.length) : at_ L (ck L j).cp = j := at_of hj rfl (fun i hi e => by have := h.inj (by omega) hj e; omega)

def fndE (L : List C) (cp : Nat) : Int := if RightP L then (if at_ L cp < L.length then 0 else 92) else 90
def fndP (L : List C) (cp : Nat) : Nat := if RightP L then (if at_ L cp < L.length then at_ L cp else 0) else 0
def fndC (L : List C) (cp : Nat) : C := if RightP L ∧ at_ L cp < L.length then ck L (at_ L cp) else C.zero
theorem fnd_yes {L : List C} {cp : Nat} (h : RightP L) (h1 : at_ L cp < L.length) : fndE L cp = 0 ∧ fndP L cp = at_ L cp ∧ fndC L cp = ck L (at_ L cp) := ⟨by unfold fndE; rw [if_pos h, if_pos h1], by unfold fndP; rw [if_pos h, if_pos h1], if_pos ⟨h, h1⟩⟩
theorem fnd_none {L : List C} {cp : Nat} (h : RightP L) (h1 : ¬ at_ L cp < L.length) : fndE L cp = 92 ∧ fndP L cp = 0 ∧ fndC L cp = C.zero := ⟨by unfold fndE; rw [if_pos h, if_neg h1], by unfold fndP; rw [if_pos h, if_neg h1], if_neg (fun hh => h1 hh.2)⟩
theorem fnd_no {L : List C} {cp : Nat} (h : ¬ RightP L) : fndE L cp = 90 ∧ fndP L cp = 0 ∧ fndC L cp = C.zero := ⟨if_neg h, if_neg h, if_neg (fun hh => h hh.1)⟩
theorem fndE_zero {L : List C} {cp : Nat} : fndE L cp = 0 ↔ RightP L ∧ at_ L cp < L.length := by
  unfold fndE
  by_cases h : RightP L
  · by_cases h1 : at_ L cp < L.length
    · simp [h, h1]
    · simp [h, h1]
  · simp [h]

/-! ### added, marked, deleted, expired -/
def addE (L : List C) (c : C) : Int := if RightP L then (if L.length = 108 then 91 else if RightP (L ++ [c]) then 0 else 90) else 90
def addV (L : List C) (c : C) : List C := if addE L c = 0 then L ++ [c] else []
theorem addE_zero {L : List C} {c : C} : addE L c = 0 ↔ RightP L ∧ L.length < 108 ∧ RightP (L ++ [c]) := by
  unfold addE
  by_cases h : RightP L
  · rw [if_pos h]
    by_cases h1 : L.length = 108
    · rw [if_pos h1]; simp [h1]
    · rw [if_neg h1]
      have := h.1
      by_cases h2 : RightP (L ++ [c])
      · rw [if_pos h2]; simp [h, h2]; omega
      · rw [if_neg h2]; simp [h2]
  · rw [if_neg h]; simp [h]
def markC (c : C) (s : Bool) : C := ⟨c.cp, c.tick, s, c.root⟩
def mrkV (L : List C) (cp : Nat) (s : Bool) : List C := if fndE L cp = 0 then L.set (at_ L cp) (markC (ck L (at_ L cp)) s) else []
def delE (L : List C) (cp : Nat) : Int := if fndE L cp = 0 then (if at_ L cp + 1 = L.length then 94 else if (ck L (at_ L cp)).snap = true then 93 else 0) else fndE L cp
def isB (cp : Nat) (c : C) : Bool := decide (c.cp = cp)
def othB (cp : Nat) (c : C) : Bool := !isB cp c
def delV (L : List C) (cp : Nat) : List C := if delE L cp = 0 then L.filter (othB cp) else []
theorem delE_zero {L : List C} {cp : Nat} : delE L cp = 0 ↔ RightP L ∧ at_ L cp < L.length ∧ ¬ at_ L cp + 1 = L.length ∧ (ck L (at_ L cp)).snap = false := by
  unfold delE
  by_cases h : fndE L cp = 0
  · rw [if_pos h]
    have h' := fndE_zero.1 h
    by_cases h1 : at_ L cp + 1 = L.length
    · rw [if_pos h1]; simp [h1]
    · rw [if_neg h1]
      cases h2 : (ck L (at_ L cp)).snap
      · simp [h', h1]
      · simp
  · rw [if_neg h]
    constructor
    · intro h1; exact absurd h1 h
    · rintro ⟨h1, h2, _⟩; exact absurd (fndE_zero.2 ⟨h1, h2⟩) h
def lastCp (L : List C) : Nat := (ck L (L.length - 1)).cp
def overP (c : C) (now keep : Nat) : Prop := c.tick + keep < now
instance (c : C) (now keep : Nat) : Decidable (overP c now keep) := by unfold overP; infer_instance
/-- is it dropped? -/
def dropB (last now keep : Nat) (c : C) : Bool := !c.snap && (decide (¬ c.cp = last) && decide (overP c now keep))
def keepB (last now keep : Nat) (c : C) : Bool := !dropB last now keep c
def expE (L : List C) : Int := if RightP L then 0 else 90
def expV (L : List C) (now keep : Nat) : List C := if RightP L then L.filter (keepB (lastCp L) now keep) else []
def expN (L : List C) (now keep : Nat) : Nat := if RightP L then L.length - (expV L now keep).length else 0
def numV (L : List C) : List Int := L.map fun c => (c.cp : Int)
theorem lastCp_nil : lastCp [] = 0 := rfl
theorem filt_le (p : C → Bool) (L : List C) : (L.filter p).length ≤ L.length := List.length_filter_le _ _
theorem filt_snoc (p : C → Bool) {L : List C} {k : Nat} (h : k < L.length) : (L.take (k + 1)).filter p = (L.take k).filter p ++ if p (ck L k) = true then [ck L k] else [] := by
  rw [take_snoc h, List.filter_append]
  congr 1
  by_cases hp : p (ck L k) = true
  · rw [if_pos hp, List.filter_cons_of_pos hp, List.filter_nil]
  · rw [if_neg hp, List.filter_cons_of_neg hp, List.filter_nil]
/-- the one that comes behind what has come -/
theorem filt_at (p : C → Bool) {L : List C} {k : Nat} (h : k < L.length) (hp : p (ck L k) = true) : ck (L.filter p) ((L.take k).filter p).length = ck L k ∧ ((L.take k).filter p).length < (L.filter p).length := by
  have e : L.filter p = (L.take k).filter p ++ ck L k :: (L.drop (k + 1)).filter p := by
    conv => lhs; rw [← List.take_append_drop (k + 1) L, List.filter_append, filt_snoc p h, if_pos hp, List.append_assoc]
    rfl
  constructor
  · unfold ck at *
    rw [e, List.getD_eq_getElem?_getD, List.getElem?_append_right (Nat.le_refl _), Nat.sub_self]
    simp
  · rw [e, List.length_append, List.length_cons]; omega
theorem filt_all (p : C → Bool) {L : List C} {k : Nat} (h : L.length ≤ k) : (L.take k).filter p = L.filter p := by rw [List.take_of_length_le h]
end Go.Proofs.Ytdniakoedgohkaa.Cps
/- Checkpoints of a table in memory: one, and a slice of them; when two are the same. -/
namespace Go.Proofs.Ytdniakoedgohkaa.Cps
open Go.RowKit
attribute [local go_sem] Oper.semAt_some
set_option linter.unusedVariables false
set_option linter.unusedSimpArgs false

def C.cells (s : C) : List Value := [.int .u64 s.cp, .int .u64 s.tick, .bool s.snap, .string s.root]
def C.val (s : C) : Value := .agg #[.int .u64 s.cp, .int .u64 s.tick, .bool s.snap, .string s.root]
/-- a checkpoint's cells -/
def boxO (s : C) : Obj := .cells #[.int .u64 s.cp, .int .u64 s.tick, .bool s.snap, .string s.root] 85

/-- a checkpoint lies at block b -/
def At (W : World) (b : Nat) (s : C) : Prop := W.heap[b]? = some (.cells #[.int .u64 s.cp, .int .u64 s.tick, .bool s.snap, .string s.root] 85 (0, 0))
theorem At.c {W : World} {b : Nat} {s : C} (h : At W b s) : W.cell? ⟨b, 0, none⟩ = some (.int .u64 s.cp) ∧ W.cell? ⟨b, 1, none⟩ = some (.int .u64 s.tick) ∧ W.cell? ⟨b, 2, none⟩ = some (.bool s.snap) ∧ W.cell? ⟨b, 3, none⟩ = some (.string s.root) := by
  unfold At at h
  simp only [World.cell?, h]
  exact ⟨rfl, rfl, rfl, rfl⟩
theorem At.f {W : World} {b : Nat} {s : C} (h : At W b s) (i : Nat) : W.frozen? ⟨b, i, none⟩ = false := by
  unfold At at h
  simp [World.frozen?, h]
theorem At.below {W W' : World} {b n : Nat} {s : C} (h : At W b s) (hB : Below n W W') (hb : b < n) : At W' b s := (hB.block b hb).trans h
theorem At.new (w : World) (s : C) : At (w.alloc (boxO s)) w.heap.size s := World.alloc_heap_new w _
theorem At.lt {W : World} {b : Nat} {s : C} (h : At W b s) : b < W.heap.size := (Array.getElem?_eq_some_iff.1 h).1
theorem At.th {W W' : World} {b : Nat} {s : C} (h : At W b s) (hB : Below W.heap.size W W') : At W' b s := h.below hB h.lt
theorem At.of_heap {W W' : World} {b : Nat} {s : C} (h : At W b s) (hb : W'.heap[b]? = W.heap[b]?) : At W' b s := hb.trans h
theorem At.drew {W : World} {b : Nat} {s : C} (h : At W b s) : At W.drew b s := h
/-- one part alone is laid over -/
theorem At.put_cp {W : World} {b : Nat} {s : C} (h : At W b s) (n : Nat) : At (W.setCell ⟨b, 0, none⟩ (.int .u64 n)) b ⟨n, s.tick, s.snap, s.root⟩ ∧ Below b W (W.setCell ⟨b, 0, none⟩ (.int .u64 n)) := by
  unfold At at h
  exact ⟨heap_setCell_same W b 0 _ _ (.int .u64 n) h, (Below.refl b W).setCell (p := ⟨b, 0, none⟩) (Nat.le_refl _) _⟩
theorem At.put_root {W : World} {b : Nat} {s : C} (h : At W b s) (r : ByteArray) : At (W.setCell ⟨b, 3, none⟩ (.string r)) b ⟨s.cp, s.tick, s.snap, r⟩ ∧ Below b W (W.setCell ⟨b, 3, none⟩ (.string r)) := by
  unfold At at h
  exact ⟨heap_setCell_same W b 3 _ _ (.string r) h, (Below.refl b W).setCell (p := ⟨b, 3, none⟩) (Nat.le_refl _) _⟩
/-- a checkpoint is laid over another one, part by part -/
theorem At.put4 {W : World} {b : Nat} {s : C} (h : At W b s) (t : C) :
    At ((((W.setCell ⟨b, 0, none⟩ (.int .u64 t.cp)).setCell ⟨b, 1, none⟩ (.int .u64 t.tick)).setCell ⟨b, 2, none⟩ (.bool t.snap)).setCell ⟨b, 3, none⟩ (.string t.root)) b t ∧
    Below b W ((((W.setCell ⟨b, 0, none⟩ (.int .u64 t.cp)).setCell ⟨b, 1, none⟩ (.int .u64 t.tick)).setCell ⟨b, 2, none⟩ (.bool t.snap)).setCell ⟨b, 3, none⟩ (.string t.root)) := by
  unfold At at h
  have h0 := heap_setCell_same W b 0 _ _ (.int .u64 t.cp) h
  have h1 := heap_setCell_same _ b 1 _ _ (.int .u64 t.tick) h0
  have h2 := heap_setCell_same _ b 2 _ _ (.bool t.snap) h1
  have h3 := heap_setCell_same _ b 3 _ _ (.string t.root) h2
  refine ⟨h3, ?_⟩
  exact ((((Below.refl b W).setCell (p := ⟨b, 0, none⟩) (Nat.le_refl _) _).setCell (p := ⟨b, 1, none⟩) (Nat.le_refl _) _).setCell (p := ⟨b, 2, none⟩) (Nat.le_refl _) _).setCell (p := ⟨b, 3, none⟩) (Nat.le_refl _) _
theorem below_al {w W : World} (h : Below w.heap.size w W) (o : Obj) : Below w.heap.size w (W.alloc o) := h.alloc h.size _
theorem below_new (w : World) (o : Obj) : Below w.heap.size w (w.alloc o) := (Below.refl _ _).alloc (Nat.le_refl _) _

/-- a table -/
def Chs (w : World) (v : Value) (L : List C) : Prop := Lies w v L.length 4 (L.flatMap C.cells)
theorem Chs.below {w w' : World} {v : Value} {L : List C} (h : Chs w v L) (hB : Below w.heap.size w w') : Chs w' v L := Lies.below h hB
theorem Chs.nil (w : World) : Chs w (.slice none 0 0) [] := Lies.nil w 4
theorem Chs.parts {w : World} {v : Value} {L : List C} (h : Chs w v L) : ∃ a cap, v = .slice a L.length cap ∧ L.length ≤ cap ∧ cap ≤ 9223372036854775807 := by
  obtain ⟨a, cap, e, _, h1, h2⟩ := Lies.parts h
  exact ⟨a, cap, e, h1, h2⟩
/-- what stands at a place -/
def Reads (w : World) (b o : Nat) (c : C) : Prop := w.cell? ⟨b, o, none⟩ = some (.int .u64 c.cp) ∧ w.cell? ⟨b, o + 1, none⟩ = some (.int .u64 c.tick) ∧ w.cell? ⟨b, o + 2, none⟩ = some (.bool c.snap) ∧ w.cell? ⟨b, o + 3, none⟩ = some (.string c.root)
theorem Chs.at {w : World} {v : Value} {L : List C} (h : Chs w v L) {k : Nat} (hk : k < L.length) :
    ∃ b off cap, v = .slice (some ⟨b, off, none⟩) L.length cap ∧ Reads w b (off + k * 4) (ck L k) := by
  obtain ⟨a, cap, rfl, _, _, _, h5⟩ := h
  obtain ⟨b, off, rfl, hc⟩ := h5 (by omega)
  have hf := fun j (hj : j < 4) => flat_at C.cells 4 L (fun o _ => rfl) k j (ck L k) (ck_get hk) hj
  refine ⟨b, off, cap, rfl, ?_, ?_, ?_, ?_⟩
  · exact hc (k * 4) _ (hf 0 (by omega))
  · have := hc _ _ (hf 1 (by omega)); rwa [← Nat.add_assoc] at this
  · have := hc _ _ (hf 2 (by omega)); rwa [← Nat.add_assoc] at this
  · have := hc _ _ (hf 3 (by omega)); rwa [← Nat.add_assoc] at this
/-- the same, of a slice that is known by its parts -/
theorem Chs.get {w : World} {b off n cap : Nat} {L : List C} (hn : L.length = n) (h : Chs w (.slice (some ⟨b, off, none⟩) n cap) L) {k : Nat} (hk : k < n) : Reads w b (off + k * 4) (ck L k) := by
  obtain ⟨b2, off2, cap2, e, h1⟩ := h.at (hn ▸ hk)
  cases e
  exact h1
/-- the first one -/
theorem Chs.get0 {w : World} {b off n cap : Nat} {L : List C} (hn : L.length = n) (h : Chs w (.slice (some ⟨b, off, none⟩) n cap) L) (hk : 0 < n) : Reads w b off (ck L 0) := by
  have := h.get hn hk
  simpa using this
/-- a slice stands where its block does -/
theorem Chs.keep {W W' : World} {v : Value} {L : List C} (h : Chs W v L) (hk : ∀ g o k c, v = .slice (some ⟨g, o, none⟩) k c → 0 < k → W'.heap[g]? = W.heap[g]?) : Chs W' v L := by
  obtain ⟨a, cap, rfl, h2, h3, h4, h5⟩ := h
  refine ⟨a, cap, rfl, h2, h3, h4, fun hn => ?_⟩
  obtain ⟨b, off, rfl, hc⟩ := h5 hn
  refine ⟨b, off, rfl, fun j u hj => ?_⟩
  have he : W'.cell? ⟨b, off + j, none⟩ = W.cell? ⟨b, off + j, none⟩ := World.cell?_of_block (w := W) (hk b off _ _ rfl hn)
  exact he.trans (hc j u hj)
/-- a slice, taken apart: none at all, or an address -/
theorem Chs.open {w : World} {v : Value} {L : List C} (h : Chs w v L) : (∃ a cap, v = .slice a 0 cap ∧ L = []) ∨ ∃ b off cap, v = .slice (some ⟨b, off, none⟩) L.length cap ∧ 0 < L.length ∧ L.length ≤ cap ∧ cap ≤ 9223372036854775807 := by
  obtain ⟨a, cap, rfl, h1, h2⟩ := h.parts
  rcases Nat.eq_zero_or_pos L.length with hz | hz
  · exact .inl ⟨a, cap, by rw [hz], List.eq_nil_of_length_eq_zero hz⟩
  · obtain ⟨b, off, cap2, e, _⟩ := h.at hz
    cases e
    exact .inr ⟨b, off, cap, rfl, hz, h1, h2⟩
theorem Chs.lt {W : World} {b off n cap : Nat} {L : List C} (h : Chs W (.slice (some ⟨b, off, none⟩) n cap) L) (hn : 0 < L.length) : b < W.heap.size := by
  obtain ⟨b2, off2, cap2, e, h1, _⟩ := h.at hn
  cases e
  exact World.block_lt_of_cell? _ _ h1
/-- what stands ahead in a table -/
theorem Chs.cut {w : World} {a : Option Addr} {n cap : Nat} {L : List C} (h : Chs w (.slice a n cap) L) (m : Nat) (hm : m ≤ L.length) : Chs w (.slice a m cap) (L.take m) := by
  obtain ⟨a1, cap1, e, h2, h3, h4, h5⟩ := h
  cases e
  have hl : (L.take m).length = m := by rw [List.length_take]; omega
  have hcells : ∀ (L : List C) (m : Nat), (L.take m).flatMap C.cells = (L.flatMap C.cells).take (m * 4) := fun L => by
    induction L with
    | nil => intro m; simp
    | cons x L ih =>
      intro m
      cases m with
      | zero => simp
      | succ m => rw [List.take_succ_cons, List.flatMap_cons, List.flatMap_cons, ih m, show (m + 1) * 4 = (C.cells x).length + m * 4 by show _ = 4 + _; omega, List.take_length_add_append]
  refine ⟨a, cap, by rw [hl], by omega, h3, by rw [hl, hcells, List.length_take, h4]; omega, fun hn => ?_⟩
  obtain ⟨b, off, e2, hc⟩ := h5 (by omega)
  refine ⟨b, off, e2, fun j u hj => hc j u ?_⟩
  rw [hcells, List.getElem?_take] at hj
  split at hj
  · exact hj
  · cases hj
def cellsL (L : List C) : List Value := L.flatMap C.cells
theorem cellsL_length (L : List C) : (cellsL L).length = L.length * 4 := flat_length C.cells 4 L (fun _ _ => rfl)
theorem cellsL_one (L : List C) : ∀ u ∈ cellsL L, u.oneCell' = true := fun u hu => by
  obtain ⟨s, _, hs⟩ := List.mem_flatMap.1 hu
  simp only [C.cells, List.mem_cons, List.not_mem_nil, or_false] at hs
  rcases hs with rfl | rfl | rfl | rfl <;> rfl
theorem cellsL_snoc (L : List C) (s : C) : cellsL (L ++ [s]) = cellsL L ++ s.cells := by
  unfold cellsL
  rw [List.flatMap_append]
  simp
theorem cellsL_set (s : C) : ∀ (L : List C) (k : Nat), k < L.length → ((((cellsL L).set (k * 4) (.int .u64 s.cp)).set (k * 4 + 1) (.int .u64 s.tick)).set (k * 4 + 2) (.bool s.snap)).set (k * 4 + 3) (.string s.root) = cellsL (L.set k s)
  | [], _, h => by simp at h
  | x :: L, 0, _ => rfl
  | x :: L, k + 1, h => by
    have ih := cellsL_set s L k (by simpa using h)
    have e : cellsL (x :: L) = .int .u64 x.cp :: .int .u64 x.tick :: .bool x.snap :: .string x.root :: cellsL L := rfl
    have e2 : cellsL ((x :: L).set (k + 1) s) = .int .u64 x.cp :: .int .u64 x.tick :: .bool x.snap :: .string x.root :: cellsL (L.set k s) := rfl
    rw [e, e2, show (k + 1) * 4 = k * 4 + 1 + 1 + 1 + 1 by omega]
    simp only [List.set_cons_succ]
    rw [← ih]
/-- one part of one -/
theorem cellsL_snap (s : Bool) : ∀ (L : List C) (k : Nat), k < L.length → (cellsL L).set (k * 4 + 2) (.bool s) = cellsL (L.set k (markC (ck L k) s))
  | [], _, h => by simp at h
  | x :: L, 0, _ => rfl
  | x :: L, k + 1, h => by
    have ih := cellsL_snap s L k (by simpa using h)
    have e : cellsL (x :: L) = .int .u64 x.cp :: .int .u64 x.tick :: .bool x.snap :: .string x.root :: cellsL L := rfl
    have e2 : cellsL ((x :: L).set (k + 1) (markC (ck (x :: L) (k + 1)) s)) = .int .u64 x.cp :: .int .u64 x.tick :: .bool x.snap :: .string x.root :: cellsL (L.set k (markC (ck L k) s)) := rfl
    rw [e, e2, show (k + 1) * 4 + 2 = (k * 4 + 2) + 1 + 1 + 1 + 1 by omega]
    simp only [List.set_cons_succ]
    rw [← ih]
theorem infoCh : (Try.prog.info? 85).map (fun i => (i.zero, i.size, i.bytes)) = some (some (.agg #[.int .u64 0, .int .u64 0, .bool false, .string ⟨#[]⟩]), 4, 40) := by kernel_rfl
/-- a row of one's own, as checkpoints -/
theorem Chs.own {w : World} {base : Nat} {v : Value} {L : List C} (h : w.ownsRow base 85 4 v L.length (cellsL L)) : Chs w v L := Lies.own h
/-- the cells of a slice that is not nil, wherever it is laid -/
theorem Chs.news {w : World} {a : Addr} {n cap : Nat} {L : List C} (h : Chs w (.slice (some a) n cap) L) : ∀ j u, (cellsL L)[j]? = some u → w.cell? (a.add j) = some u := fun j u hj => by
  obtain ⟨a', cap', e, _, _, h4, h5⟩ := h
  cases e
  have hl := (List.getElem?_eq_some_iff.1 hj).1
  rw [cellsL_length] at hl
  obtain ⟨b, off, e2, hc⟩ := h5 (by omega)
  cases e2
  rw [add_plain]
  exact hc j u hj
theorem own_open {w : World} {base n : Nat} {v : Value} {xs : List Value} (h : w.ownsRow base 85 4 v n xs) (hn : 0 < n) : ∃ g cap, v = .slice (some ⟨g, 0, none⟩) n cap ∧ base ≤ g ∧ n ≤ cap ∧ cap ≤ 9223372036854775807 := by
  rcases h.2 with ⟨rfl, rfl⟩ | ⟨g, cap, cur, rfl, hb, hg, hn, hm, hs, ht⟩
  · omega
  · exact ⟨g, cap, rfl, hb, hn, by unfold maxLen at hm; omega⟩
/-- a mark is laid into a row of one's own -/
theorem own_snap {w : World} {base n cap g k : Nat} {L : List C} (hn : L.length = n) (h : w.ownsRow base 85 4 (.slice (some ⟨g, 0, none⟩) n cap) n (cellsL L)) (hk : k < n) (s : Bool) :
    (∃ u, w.cell? ⟨g, k * 4 + 2, none⟩ = some u) ∧ w.frozen? ⟨g, k * 4 + 2, none⟩ = false ∧
    (w.setCell ⟨g, k * 4 + 2, none⟩ (.bool s)).ownsRow base 85 4 (.slice (some ⟨g, 0, none⟩) n cap) n (cellsL (L.set k (markC (ck L k) s))) ∧
    Below g w (w.setCell ⟨g, k * 4 + 2, none⟩ (.bool s)) := by
  have hl := cellsL_length L
  have h1 := (h.stored (k * 4 + 2) (.bool s)).1
  rw [cellsL_snap s L k (by omega)] at h1
  exact ⟨⟨_, (h.cellAt (k * 4 + 2) (by omega)).trans (List.getElem?_eq_getElem (by omega))⟩, h.frozenAt _, h1, (Below.refl g w).setCell (p := ⟨g, k * 4 + 2, none⟩) (Nat.le_refl _) _⟩

/-- what asks answers: only what is new is written -/
def Ans (w : World) (v : Value) (e : Ending) (w' : World) : Prop := e = .returned v ∧ Below w.heap.size w w'
theorem Ans.eq {w w' : World} {e : Ending} {v u : Value} (h : v = u) (k : Ans w v e w') : Ans w u e w' := h ▸ k

theorem eqlC (a b : C) (w : World) : (binOp .eql 85 a.val b.val).run Try.prog w = .ok (.bool (decide (a = b))) w := by
  obtain ⟨l1, b1, s1, r1⟩ := a
  obtain ⟨l2, b2, s2, r2⟩ := b
  have he : (Op.equalIn 10000 85 (.agg #[.int .u64 l1, .int .u64 b1, .bool s1, .string r1]) (.agg #[.int .u64 l2, .int .u64 b2, .bool s2, .string r2])).run Try.prog w = .ok (decide ((⟨l1, b1, s1, r1⟩ : C) = ⟨l2, b2, s2, r2⟩)) w := by
    rw [run_equalIn_agg w 9999 85 _ _ (by kernel_rfl) (by kernel_rfl)]
    simp only [C.mk.injEq]
    by_cases h1 : l1 = l2
    · by_cases h2 : b1 = b2
      · by_cases h3 : s1 = s2
        · by_cases h4 : r1 = r2
          · simp [go_sem, h1, h2, h3, h4]
          · have h4' : ¬ r1.toList = r2.toList := fun he => h4 (ByteArray.ext (Array.toList_inj.1 (by rw [← Lib.toList_data, ← Lib.toList_data]; exact he)))
            simp [go_sem, h1, h2, h3, h4, h4']
        · simp [go_sem, h1, h2, h3]
      · have h2' : ¬ (b1 : Int) = b2 := by omega
        simp [go_sem, h1, h2, h2']
    · have h1' : ¬ (l1 : Int) = l2 := by omega
      simp [go_sem, h1, h1']
  unfold C.val
  dsimp only
  rw [run_eql_struct, he]
  rfl
theorem neqC (a b : C) (w : World) : (binOp .neq 85 a.val b.val).run Try.prog w = .ok (.bool (!decide (a = b))) w := by
  have h := eqlC a b w
  unfold C.val at h ⊢
  rw [run_eql_struct] at h
  rw [run_neq_struct]
  revert h
  generalize (Op.equalIn 10000 85 (.agg #[.int .u64 a.cp, .int .u64 a.tick, .bool a.snap, .string a.root]) (.agg #[.int .u64 b.cp, .int .u64 b.tick, .bool b.snap, .string b.root])).run Try.prog w = r
  intro h
  cases r with
  | ok x w1 =>
    simp only [Result.andThen] at h ⊢
    injection h with h1 h2
    injection h1 with h3
    rw [h3, h2]
  | halt x w1 => simp [Result.andThen] at h
end Go.Proofs.Ytdniakoedgohkaa.Cps
