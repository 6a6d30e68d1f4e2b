/- Several texts in one, each under its own heading. -/
import Derived.Test.YtkipkcmcolomcaaGreatPk04
/- Paths: what a text is cut into, the parts, and what parts are joined to. They speak of no program. -/
namespace Go.Proofs.YtkipkcmcolomcaaGreat.Pth
open Nam
set_option linter.unusedVariables false
set_option linter.unusedSimpArgs false
/-- a list cut at each '/' -/
def cutL : List UInt8 → List (List UInt8)
  | [] => [[]]
  | c :: t => if c = 47 then [] :: cutL t else match cutL t with
    | [] => [[c]]
    | h :: r => (c :: h) :: r
theorem cut_last : ∀ {l : List UInt8}, (∀ c ∈ l, ¬ c = 47) → cutL l = [l]
  | [], _ => rfl
  | c :: t, h => by
    have ih := cut_last (l := t) fun x hx => h x (List.mem_cons_of_mem _ hx)
    rw [cutL, if_neg (h c (List.mem_cons_self ..)), ih]
theorem cut_next : ∀ {l t : List UInt8}, (∀ c ∈ l, ¬ c = 47) → cutL (l ++ 47 :: t) = l :: cutL t
  | [], t, _ => by rw [List.nil_append, cutL, if_pos rfl]
  | c :: r, t, h => by
    have ih := cut_next (l := r) (t := t) fun x hx => h x (List.mem_cons_of_mem _ hx)
    rw [List.cons_append, cutL, if_neg (h c (List.mem_cons_self ..)), ih]
theorem cut_some : ∀ l : List UInt8, ¬ cutL l = []
  | [] => by simp [cutL]
  | c :: t => by
    rw [cutL]
    split
    · simp
    · split <;> simp
/-- how many bytes pieces take, each with a '/' -/
def szP : List ByteArray → Nat
  | [] => 0
  | p :: r => p.size + 1 + szP r
theorem szP_app : ∀ A B : List ByteArray, szP (A ++ B) = szP A + szP B
  | [], B => by simp [szP]
  | p :: r, B => by rw [List.cons_append, szP, szP, szP_app r B]; omega
def toB (l : List UInt8) : ByteArray := ⟨l.toArray⟩
theorem toB_size (l : List UInt8) : (toB l).size = l.length := by simp [toB, ByteArray.size]
def pcs (s : ByteArray) : List ByteArray := (cutL s.data.toList).map toB
theorem szP_cut : ∀ l : List UInt8, szP ((cutL l).map toB) = l.length + 1
  | [] => by simp [cutL, szP, toB_size]
  | c :: t => by
    have ih := szP_cut t
    rw [cutL]
    split
    · simp only [List.map_cons, szP, toB_size, List.length_nil, ih, List.length_cons]; omega
    · cases hc : cutL t with
      | nil => exact absurd hc (cut_some t)
      | cons h r =>
        rw [hc] at ih
        simp only [List.map_cons, szP, toB_size, List.length_cons] at ih ⊢
        omega
def dot : ByteArray := ⟨#[46]⟩
def dots : ByteArray := ⟨#[46, 46]⟩
def slash : ByteArray := ⟨#[47]⟩
/-- one piece, behind parts -/
def stp (o : Option (List ByteArray)) (p : ByteArray) : Option (List ByteArray) := match o with
  | none => none
  | some l => if p = ⟨#[]⟩ ∨ p = dot then some l else if p = dots then some l.dropLast else if nameP p then some (l ++ [p]) else none
def goP (P : List ByteArray) (o : Option (List ByteArray)) : Option (List ByteArray) := P.foldl stp o
theorem goP_none : ∀ P : List ByteArray, goP P none = none
  | [] => rfl
  | p :: r => goP_none r
theorem goP_app (A B : List ByteArray) (o : Option (List ByteArray)) : goP (A ++ B) o = goP B (goP A o) := List.foldl_append ..
theorem goP_cons (p : ByteArray) (B : List ByteArray) (o : Option (List ByteArray)) : goP (p :: B) o = goP B (stp o p) := rfl
theorem name_some {p : ByteArray} (h : nameP p) : ¬ p = ⟨#[]⟩ ∧ ¬ p = dot ∧ ¬ p = dots := ⟨fun e => by have := h.1; rw [e] at this; exact absurd this (by decide), h.2.2.1, h.2.2.2.1⟩
theorem stp_some (l : List ByteArray) (p : ByteArray) : stp (some l) p = if p = ⟨#[]⟩ ∨ p = dot then some l else if p = dots then some l.dropLast else if nameP p then some (l ++ [p]) else none := rfl
theorem stp_name {p : ByteArray} (h : nameP p) (l : List ByteArray) : stp (some l) p = some (l ++ [p]) := by
  obtain ⟨h1, h2, h3⟩ := name_some h
  rw [stp_some, if_neg (fun e => e.elim h1 h2), if_neg h3, if_pos h]
theorem stp_none (l : List ByteArray) : stp (some l) ⟨#[]⟩ = some l := by rw [stp_some, if_pos (Or.inl rfl)]
theorem stp_dots (l : List ByteArray) : stp (some l) dots = some l.dropLast := by
  rw [stp_some, if_neg (by decide), if_pos rfl]
/-- what one step leaves -/
theorem stp_is {l l2 : List ByteArray} {p : ByteArray} (h : stp (some l) p = some l2) (hn : ∀ q ∈ l, nameP q) : (∀ q ∈ l2, nameP q) ∧ szP l2 ≤ szP l + p.size + 1 ∧ (p = ⟨#[]⟩ → l2 = l) := by
  by_cases h1 : p = ⟨#[]⟩ ∨ p = dot
  · have e : some l = some l2 := by rw [← h]; exact (if_pos h1).symm
    cases e
    exact ⟨hn, by omega, fun _ => rfl⟩
  · by_cases h2 : p = dots
    · subst h2
      rw [stp_dots] at h
      cases h
      have hs : szP l.dropLast ≤ szP l := by
        rcases List.eq_nil_or_concat l with e | ⟨t, x, e⟩
        · rw [e]; exact Nat.le_refl _
        · subst e
          rw [List.concat_eq_append, List.dropLast_concat, szP_app]
          omega
      exact ⟨fun q hq => hn q ((List.dropLast_sublist l).mem hq), by omega, fun e => absurd (Or.inl e) h1⟩
    · by_cases h3 : nameP p
      · rw [stp_name h3] at h
        cases h
        refine ⟨fun q hq => ?_, by rw [szP_app]; simp only [szP]; omega, fun e => absurd (Or.inl e) h1⟩
        rcases List.mem_append.1 hq with hq | hq
        · exact hn q hq
        · rw [List.mem_singleton.1 hq]; exact h3
      · exfalso
        have e : (none : Option (List ByteArray)) = some l2 := by
          rw [← h]
          rw [stp_some, if_neg h1, if_neg h2, if_neg h3]
        cases e
theorem goP_is : ∀ (P : List ByteArray) {l l2 : List ByteArray}, goP P (some l) = some l2 → (∀ q ∈ l, nameP q) → (∀ q ∈ l2, nameP q) ∧ szP l2 ≤ szP l + szP P
  | [], l, l2, h, hn => by cases h; exact ⟨hn, by omega⟩
  | p :: r, l, l2, h, hn => by
    rw [goP_cons] at h
    cases hs : stp (some l) p with
    | none => rw [hs, goP_none] at h; cases h
    | some l1 =>
      rw [hs] at h
      obtain ⟨a1, a2, _⟩ := stp_is hs hn
      obtain ⟨b1, b2⟩ := goP_is r h a1
      exact ⟨b1, by simp only [szP]; omega⟩
theorem goP_names : ∀ (P l : List ByteArray), (∀ q ∈ P, nameP q) → goP P (some l) = some (l ++ P)
  | [], l, _ => by simp [goP]
  | p :: r, l, h => by
    rw [goP_cons, stp_name (h p (List.mem_cons_self ..)), goP_names r _ fun q hq => h q (List.mem_cons_of_mem _ hq), List.append_assoc]
    rfl
def pathP (s : ByteArray) : Prop := s.size ≤ 1000 ∧ 0 < s.size ∧ sb s 0 = 47
instance (s : ByteArray) : Decidable (pathP s) := by unfold pathP; infer_instance
/-- at most forty parts -/
def few (o : Option (List ByteArray)) : Option (List ByteArray) := match o with
  | some l => if l.length ≤ 40 then some l else none
  | none => none
theorem few_some {o : Option (List ByteArray)} {l : List ByteArray} (h : few o = some l) : o = some l ∧ l.length ≤ 40 := by
  cases o with
  | none => cases h
  | some k =>
    unfold few at h
    simp only at h
    split at h
    · cases h; exact ⟨rfl, by assumption⟩
    · cases h
/-- the parts of a path -/
def splitD (s : ByteArray) : Option (List ByteArray) := if pathP s then few (goP (pcs s) (some [])) else none
theorem split_some {s : ByteArray} {l : List ByteArray} (h : splitD s = some l) : pathP s ∧ goP (pcs s) (some []) = some l ∧ l.length ≤ 40 := by
  unfold splitD at h
  split at h
  · exact ⟨by assumption, few_some h⟩
  · cases h
/-- parts, each behind a '/' -/
def joinS : List ByteArray → ByteArray
  | [] => ⟨#[]⟩
  | p :: r => (slash ++ p) ++ joinS r
theorem joinS_size : ∀ L : List ByteArray, (joinS L).size = szP L
  | [] => rfl
  | p :: r => by rw [joinS, ByteArray.size_append, ByteArray.size_append, joinS_size r, szP]; show 1 + p.size + _ = _; omega
theorem joinS_app : ∀ A B : List ByteArray, joinS (A ++ B) = joinS A ++ joinS B
  | [], B => by rw [List.nil_append, joinS, none_app]
  | p :: r, B => by rw [List.cons_append, joinS, joinS, joinS_app r B, ← ByteArray.append_assoc]
theorem joinS_none {L : List ByteArray} : joinS L = ⟨#[]⟩ ↔ L = [] := by
  constructor
  · intro h
    cases L with
    | nil => rfl
    | cons p r =>
      have := joinS_size (p :: r)
      rw [h] at this
      simp only [szP] at this
      exact absurd this.symm (by show ¬ _ = 0; omega)
  · intro h; rw [h]; rfl
/-- the path of parts -/
def fitJ (L : List ByteArray) : Prop := L.length ≤ 40 ∧ (∀ p ∈ L, nameP p) ∧ szP L ≤ 1000
instance (L : List ByteArray) : Decidable (fitJ L) := by unfold fitJ; infer_instance
def outJ (L : List ByteArray) : ByteArray := if L = [] then slash else joinS L
theorem name_free {p : ByteArray} (h : nameP p) : ∀ c ∈ p.data.toList, ¬ c = 47 := by
  intro c hc e
  obtain ⟨i, hi, he⟩ := List.getElem_of_mem hc
  have hs : i < p.size := by rw [Array.length_toList] at hi; exact hi
  refine (h.2.2.2.2 i hs).2 ?_
  unfold sb
  rw [List.getElem?_eq_getElem hi, he, e]
  rfl
theorem toB_data (p : ByteArray) : toB p.data.toList = p := by unfold toB; rw [Array.toArray_toList]
theorem app_list (a b : ByteArray) : (a ++ b).data.toList = a.data.toList ++ b.data.toList := by rw [ByteArray.data_append, Array.toList_append]
theorem pcs_slash (s : ByteArray) : pcs (slash ++ s) = ⟨#[]⟩ :: pcs s := by
  unfold pcs
  rw [app_list]
  show (cutL (47 :: s.data.toList)).map toB = _
  rw [cutL, if_pos rfl, List.map_cons]
  rfl
theorem pcs_name {p : ByteArray} (h : nameP p) (s : ByteArray) : pcs (p ++ (slash ++ s)) = p :: pcs s := by
  unfold pcs
  rw [app_list, app_list]
  show (cutL (p.data.toList ++ 47 :: s.data.toList)).map toB = _
  rw [cut_next (name_free h), List.map_cons, toB_data]
theorem pcs_one {p : ByteArray} (h : nameP p) : pcs p = [p] := by
  unfold pcs
  rw [cut_last (name_free h), List.map_cons, List.map_nil, toB_data]
theorem app_none (s : ByteArray) : s ++ (⟨#[]⟩ : ByteArray) = s := ba_ext (by rw [app_list]; exact List.append_nil _)
theorem pcs_run : ∀ (L : List ByteArray) (p : ByteArray), nameP p → (∀ q ∈ L, nameP q) → pcs (p ++ joinS L) = p :: L
  | [], p, hp, _ => by rw [joinS, app_none, pcs_one hp]
  | q :: r, p, hp, h => by
    rw [joinS, ByteArray.append_assoc, pcs_name hp, pcs_run r q (h q (List.mem_cons_self ..)) fun x hx => h x (List.mem_cons_of_mem _ hx)]
theorem pcs_join {L : List ByteArray} (h : ∀ q ∈ L, nameP q) (h0 : ¬ L = []) : pcs (joinS L) = ⟨#[]⟩ :: L := by
  cases L with
  | nil => exact absurd rfl h0
  | cons q r => rw [joinS, ByteArray.append_assoc, pcs_slash, pcs_run r q (h q (List.mem_cons_self ..)) fun x hx => h x (List.mem_cons_of_mem _ hx)]
theorem pathP_slash {s : ByteArray} (h : s.size ≤ 999) : pathP (slash ++ s) := by
  have hz : (slash ++ s).size = 1 + s.size := by rw [ByteArray.size_append]; rfl
  refine ⟨by omega, by omega, ?_⟩
  unfold sb
  rw [app_list]
  rfl
/-- a path's first byte, and what is behind it -/
theorem path_open {s : ByteArray} (h : pathP s) : ∃ t, s = slash ++ t := by
  obtain ⟨_, h1, h2⟩ := h
  cases hl : s.data.toList with
  | nil =>
    have : s.size = s.data.toList.length := by rw [Array.length_toList]; rfl
    rw [hl] at this
    have h9 : s.size = 0 := this
    omega
  | cons c r =>
    refine ⟨toB r, ba_ext ?_⟩
    unfold sb at h2
    rw [hl] at h2
    have hc : c = 47 := by
      apply UInt8.toNat_inj.1
      exact h2
    rw [app_list, hl, hc]
    rfl
theorem outJ_size (L : List ByteArray) : (outJ L).size = max 1 (szP L) := by
  unfold outJ
  split
  · rename_i h; rw [h]; rfl
  · rename_i h
    rw [joinS_size]
    cases L with
    | nil => exact absurd rfl h
    | cons p r => simp only [szP]; omega
/-- what was joined is split as it was -/
theorem split_join {L : List ByteArray} (h : fitJ L) : splitD (outJ L) = some L := by
  obtain ⟨h1, h2, h3⟩ := h
  have hp : pathP (outJ L) ∧ goP (pcs (outJ L)) (some []) = some L := by
    unfold outJ
    split
    · rename_i e
      rw [e]
      exact ⟨by decide, by decide⟩
    · rename_i e
      refine ⟨?_, ?_⟩
      · cases L with
        | nil => exact absurd rfl e
        | cons q r =>
          rw [joinS, ByteArray.append_assoc]
          refine pathP_slash ?_
          rw [ByteArray.size_append, joinS_size]
          simp only [szP] at h3
          omega
      · rw [pcs_join h2 e, goP_cons, stp_none, goP_names _ _ h2, List.nil_append]
  unfold splitD
  rw [if_pos hp.1, hp.2]
  exact if_pos h1
/-- what was split can be joined -/
theorem join_split {s : ByteArray} {L : List ByteArray} (h : splitD s = some L) : fitJ L ∧ (outJ L).size ≤ max 1 s.size := by
  obtain ⟨h1, h2, h3⟩ := split_some h
  obtain ⟨t, e⟩ := path_open h1
  have hz : s.size = 1 + t.size := by rw [e, ByteArray.size_append]; rfl
  rw [e, pcs_slash, goP_cons, stp_none] at h2
  obtain ⟨n1, n2⟩ := goP_is (pcs t) h2 (fun q hq => by cases hq)
  have n3 : szP (pcs t) = t.size + 1 := by
    unfold pcs
    rw [szP_cut, Array.length_toList]
    rfl
  have n4 : szP L ≤ s.size := by
    simp only [szP] at n2
    omega
  refine ⟨⟨h3, n1, by have := h1.1; omega⟩, by rw [outJ_size]; omega⟩
def up : ByteArray := ⟨#[47, 46, 46, 47]⟩
/-- a part, and the one up, take each other back -/
theorem split_up {p s : ByteArray} (h : nameP p) (hs : s.size ≤ 500) : splitD (((slash ++ p) ++ up) ++ s) = splitD (slash ++ s) := by
  have hp := h.2.1
  have hu : up = slash ++ (dots ++ slash) := by decide
  have e1 : ((slash ++ p) ++ up) ++ s = slash ++ (p ++ (slash ++ (dots ++ (slash ++ s)))) := by
    rw [hu]
    simp only [ByteArray.append_assoc]
  have hd : pcs (dots ++ (slash ++ s)) = dots :: pcs s := by
    unfold pcs
    rw [app_list, app_list]
    show (cutL (dots.data.toList ++ 47 :: s.data.toList)).map toB = _
    rw [cut_next (by decide), List.map_cons, toB_data]
  have hpa : pathP (slash ++ (p ++ (slash ++ (dots ++ (slash ++ s))))) := by
    refine pathP_slash ?_
    simp only [ByteArray.size_append]
    have h1 : slash.size = 1 := rfl
    have h2 : dots.size = 2 := rfl
    omega
  unfold splitD
  rw [e1, if_pos hpa, if_pos (pathP_slash (by omega)), pcs_slash, pcs_slash, pcs_name h, hd]
  simp only [goP_cons, stp_none, stp_name h, stp_dots]
  rfl
/-- parts of two paths, one behind the other -/
theorem join_two {A B : List ByteArray} (hA : fitJ A) (hB : fitJ B) (a0 : ¬ A = []) (b0 : ¬ B = []) (hl : A.length + B.length ≤ 40) (hs : (outJ A).size + (outJ B).size ≤ 1000) : fitJ (A ++ B) ∧ outJ (A ++ B) = outJ A ++ outJ B := by
  rw [outJ_size, outJ_size] at hs
  refine ⟨⟨by rw [List.length_append]; exact hl, fun p hp => ?_, by rw [szP_app]; omega⟩, ?_⟩
  · rcases List.mem_append.1 hp with h | h
    · exact hA.2.1 p h
    · exact hB.2.1 p h
  · unfold outJ
    rw [if_neg a0, if_neg b0, if_neg (fun e => a0 (List.append_eq_nil_iff.1 e).1), joinS_app]
end Go.Proofs.YtkipkcmcolomcaaGreat.Pth
/- Files as plain values: nodes by their numbers, the names in their directories, which are right. They speak of no program. -/
namespace Go.Proofs.YtkipkcmcolomcaaGreat.Pln
open Dir (N N.zero nm nm_get nm_mem mem_nm nm_erase nm_app nm_last DirP Fine fineE idx idx_is idx_eq idx_none idx_le bytesL ent bytesL_snoc)
set_option linter.unusedVariables false
set_option linter.unusedSimpArgs false
/-- a node -/
structure Nd where
  kind : Int
  mode : Nat
  links : Nat
  time : Nat
  data : ByteArray
deriving DecidableEq
def Nd.zero : Nd := ⟨0, 0, 0, 0, ⟨#[]⟩⟩
def nd (l : List Nd) (i : Nat) : Nd := l.getD i Nd.zero
/-- the names of a number, if it is a directory's -/
def ds (D : List (List N)) (i : Nat) : List N := D.getD i []
theorem nd_out {l : List Nd} {i : Nat} (h : l.length ≤ i) : nd l i = Nd.zero := by unfold nd; rw [List.getD_eq_getElem?_getD, List.getElem?_eq_none h]; rfl
theorem ds_out {D : List (List N)} {i : Nat} (h : D.length ≤ i) : ds D i = [] := by unfold ds; rw [List.getD_eq_getElem?_getD, List.getElem?_eq_none h]; rfl
theorem getD_setA {α : Type} {d : α} {l : List α} {i : Nat} (hi : i < l.length) (n : α) (j : Nat) : (l.set i n).getD j d = if j = i then n else l.getD j d := by
  rw [List.getD_eq_getElem?_getD, List.getD_eq_getElem?_getD, List.getElem?_set]
  by_cases h : i = j
  · subst h
    rw [if_pos rfl, if_pos rfl, if_pos hi]
    rfl
  · rw [if_neg h, if_neg (fun e => h e.symm)]
theorem getD_appA {α : Type} {d : α} {l : List α} {j : Nat} : (l ++ [d]).getD j d = l.getD j d := by
  rw [List.getD_eq_getElem?_getD, List.getD_eq_getElem?_getD]
  by_cases h : j < l.length
  · rw [List.getElem?_append_left h]
  · rw [List.getElem?_append_right (by omega), List.getElem?_eq_none (l := l) (by omega)]
    by_cases h2 : j - l.length = 0
    · rw [h2]; rfl
    · rw [List.getElem?_eq_none (by show 1 ≤ _; omega)]
theorem nd_set {l : List Nd} {i : Nat} (hi : i < l.length) (n : Nd) (j : Nat) : nd (l.set i n) j = if j = i then n else nd l j := getD_setA hi n j
theorem ds_set {D : List (List N)} {i : Nat} (hi : i < D.length) (L : List N) (j : Nat) : ds (D.set i L) j = if j = i then L else ds D j := getD_setA hi L j
theorem nd_app {l : List Nd} {j : Nat} : nd (l ++ [Nd.zero]) j = nd l j := getD_appA
theorem ds_app {D : List (List N)} {j : Nat} : ds (D ++ [[]]) j = ds D j := getD_appA
/-! ### how many names a number has -/
def cntN (L : List N) (i : Nat) : Nat := (L.filter fun e => decide (e.ino = i)).length
def cnt (D : List (List N)) (i : Nat) : Nat := (D.map fun L => cntN L i).sum
theorem cntN_app (L M : List N) (i : Nat) : cntN (L ++ M) i = cntN L i + cntN M i := by unfold cntN; rw [List.filter_append, List.length_append]
theorem cntN_one (e : N) (i : Nat) : cntN [e] i = if e.ino = i then 1 else 0 := by
  unfold cntN
  by_cases h : e.ino = i
  · rw [if_pos h, List.filter_cons_of_pos (by simpa using h)]; rfl
  · rw [if_neg h, List.filter_cons_of_neg (by simpa using h)]; rfl
theorem cntN_none {L : List N} {i : Nat} : cntN L i = 0 ↔ ∀ e ∈ L, ¬ e.ino = i := by
  unfold cntN
  rw [List.length_eq_zero_iff, List.filter_eq_nil_iff]
  simp
theorem cntN_erase {L : List N} {k : Nat} (hk : k < L.length) (i : Nat) : cntN (L.eraseIdx k) i + (if (nm L k).ino = i then 1 else 0) = cntN L i := by
  obtain ⟨h1, h2⟩ := Dir.erase_split hk
  have h3 : L = L.take k ++ ([nm L k] ++ L.drop (k + 1)) := h1
  rw [h2, cntN_app]
  conv => rhs; rw [h3, cntN_app, cntN_app, cntN_one]
  omega
theorem cnt_set : ∀ {D : List (List N)} {j : Nat}, j < D.length → ∀ (L : List N) (i : Nat), cnt (D.set j L) i + cntN (ds D j) i = cnt D i + cntN L i
  | [], j, h, _, _ => absurd h (Nat.not_lt_zero _)
  | M :: r, 0, _, L, i => by
    show (cntN L i + cnt r i) + cntN M i = (cntN M i + cnt r i) + cntN L i
    omega
  | M :: r, j + 1, h, L, i => by
    have ih := cnt_set (D := r) (j := j) (by simpa using h) L i
    show (cntN M i + cnt (r.set j L) i) + cntN (ds r j) i = (cntN M i + cnt r i) + cntN L i
    omega
theorem cnt_app {D : List (List N)} {i : Nat} : cnt (D ++ [[]]) i = cnt D i := by
  unfold cnt
  rw [List.map_append, List.sum_append]
  rfl
theorem cnt_le {D : List (List N)} {j i : Nat} : cntN (ds D j) i ≤ cnt D i := by
  by_cases hj : j < D.length
  · have := cnt_set hj [] i
    have h0 : cntN ([] : List N) i = 0 := rfl
    omega
  · rw [ds_out (by omega)]; exact Nat.zero_le _
theorem cnt_none : ∀ {D : List (List N)} {i : Nat}, cnt D i = 0 ↔ ∀ j e, e ∈ ds D j → ¬ e.ino = i
  | [], i => ⟨fun _ j e he => (by rw [ds_out (Nat.zero_le _)] at he; cases he), fun _ => rfl⟩
  | M :: r, i => by
    have ih := cnt_none (D := r) (i := i)
    constructor
    · intro h j e he
      have h1 : cntN M i + cnt r i = 0 := h
      cases j with
      | zero =>
        have h2 : cntN M i = 0 := by omega
        exact cntN_none.1 h2 e he
      | succ j => exact ih.1 (by omega) j e he
    · intro h
      have h1 : cntN M i = 0 := cntN_none.2 fun e he => h 0 e he
      have h2 : cnt r i = 0 := ih.2 fun j e he => h (j + 1) e he
      show cntN M i + cnt r i = 0
      omega
theorem cnt_some {D : List (List N)} {i : Nat} (h : 0 < cnt D i) : ∃ j e, e ∈ ds D j ∧ e.ino = i := Classical.byContradiction fun hn => by
  have : cnt D i = 0 := cnt_none.2 fun j e he hi => hn ⟨j, e, he, hi⟩
  omega
/-- of one name alone: it lies in one directory -/
theorem cnt_one {D : List (List N)} {i a b : Nat} {e f : N} (h : cnt D i = 1) (he : e ∈ ds D a) (hi : e.ino = i) (hf : f ∈ ds D b) (hj : f.ino = i) : a = b := Classical.byContradiction fun hab => by
  have ha : a < D.length := Classical.byContradiction fun hn => by rw [ds_out (by omega)] at he; cases he
  have h1 := cnt_set ha [] i
  have h0 : cntN ([] : List N) i = 0 := rfl
  have h2 : 0 < cntN (ds D a) i := Nat.pos_of_ne_zero fun hz => cntN_none.1 hz e he hi
  have h3 : cnt (D.set a []) i = 0 := by omega
  refine cnt_none.1 h3 b f ?_ hj
  rw [ds_set ha, if_neg (fun e => hab e.symm)]
  exact hf
/-! ### what is reached -/
inductive Desc (D : List (List N)) (x : Nat) : Nat → Prop where
  | refl : Desc D x x
  | step {i : Nat} {e : N} : Desc D x i → e ∈ ds D i → Desc D x e.ino
theorem Desc.mono {D E : List (List N)} (h : ∀ i e, e ∈ ds D i → e ∈ ds E i) {x y : Nat} (hd : Desc D x y) : Desc E x y := by
  induction hd with
  | refl => exact .refl
  | step _ he ih => exact .step ih (h _ _ he)
theorem Desc.leaf {D : List (List N)} {x y : Nat} (h : ds D x = []) (hd : Desc D x y) : y = x := by
  induction hd with
  | refl => rfl
  | step _ he ih => rw [ih, h] at he; cases he
/-! ### files that are right -/
def bareP (s : ByteArray) : Prop := ∀ c ∈ s.data.toList, ¬ c = 0
instance (s : ByteArray) : Decidable (bareP s) := by unfold bareP; infer_instance
/-- what is in it may be (a directory's names apart) -/
def dataP (n : Nd) : Prop := (n.kind = 1 ∧ n.data.size ≤ 200000) ∨ (n.kind = 3 ∧ 1 ≤ n.data.size ∧ n.data.size ≤ 500 ∧ bareP n.data) ∨ n.kind = 2
def oneP (n : Nd) : Prop := n = Nd.zero ∨ (n.mode ≤ 4095 ∧ n.time < 281474976710656 ∧ 1 ≤ n.links ∧ n.links ≤ 1000 ∧ dataP n)
structure RightD (l : List Nd) (D : List (List N)) : Prop where
  low : 3 ≤ l.length
  high : l.length ≤ 240
  len : D.length = l.length
  z0 : nd l 0 = Nd.zero
  z1 : nd l 1 = Nd.zero
  root : (nd l 2).kind = 2 ∧ (nd l 2).links = 1
  one : ∀ i, i < l.length → oneP (nd l i)
  dir : ∀ i, i < l.length → (nd l i).kind = 2 → DirP (nd l i).data (ds D i)
  non : ∀ i, i < l.length → ¬ (nd l i).kind = 2 → ds D i = []
  range : ∀ i e, e ∈ ds D i → e.ino < l.length ∧ ¬ nd l e.ino = Nd.zero ∧ ¬ e.ino = 2
  each : ∀ i, 3 ≤ i → i < l.length → ¬ nd l i = Nd.zero → cnt D i = (nd l i).links ∧ ((nd l i).kind = 2 → cnt D i = 1) ∧ Desc D 2 i
theorem zero_kind {n : Nd} (h : ¬ n.kind = 0) : ¬ n = Nd.zero := fun e => h (by rw [e]; rfl)
section
variable {l : List Nd} {D : List (List N)}
theorem RightD.at_dir (h : RightD l D) {i : Nat} {e : N} (he : e ∈ ds D i) : i < l.length ∧ (nd l i).kind = 2 := by
  have hi : i < l.length := Classical.byContradiction fun hn => by rw [ds_out (by rw [h.len]; omega)] at he; cases he
  refine ⟨hi, Classical.byContradiction fun hk => ?_⟩
  rw [h.non i hi hk] at he
  cases he
theorem RightD.big (h : RightD l D) {i : Nat} (hn : ¬ nd l i = Nd.zero) : 2 ≤ i ∧ i < l.length := by
  refine ⟨Classical.byContradiction fun hi => ?_, Classical.byContradiction fun hi => hn (nd_out (by omega))⟩
  have : i = 0 ∨ i = 1 := by omega
  rcases this with rfl | rfl
  · exact hn h.z0
  · exact hn h.z1
theorem RightD.reach (h : RightD l D) {i : Nat} (hn : ¬ nd l i = Nd.zero) : Desc D 2 i := by
  obtain ⟨h1, h2⟩ := h.big hn
  by_cases h3 : i = 2
  · rw [h3]; exact .refl
  · exact (h.each i (by omega) h2 hn).2.2
theorem RightD.named (h : RightD l D) {i : Nat} {e : N} (he : e ∈ ds D i) : 3 ≤ e.ino ∧ e.ino < l.length ∧ ¬ nd l e.ino = Nd.zero := by
  obtain ⟨h1, h2, h3⟩ := h.range i e he
  have := (h.big h2).1
  exact ⟨by omega, h1, h2⟩
theorem RightD.fine (h : RightD l D) (i : Nat) : Fine (ds D i) := by
  by_cases hi : i < l.length
  · by_cases hk : (nd l i).kind = 2
    · exact (h.dir i hi hk).1
    · rw [h.non i hi hk]; exact Fine.nil
  · rw [ds_out (by rw [h.len]; omega)]; exact Fine.nil
/-- none is named by nobody -/
theorem RightD.none_cnt (h : RightD l D) {i : Nat} (hz : nd l i = Nd.zero) : cnt D i = 0 := cnt_none.2 fun j e he hi => (h.range j e he).2.1 (by rw [hi]; exact hz)
theorem RightD.root_cnt (h : RightD l D) : cnt D 2 = 0 := cnt_none.2 fun j e he hi => (h.range j e he).2.2 hi
theorem RightD.root_big (h : RightD l D) : ¬ nd l 2 = Nd.zero := zero_kind (by rw [h.root.1]; decide)
/-! ### a node changes, but neither its kind nor its names -/
theorem right_set (h : RightD l D) {i : Nat} (hn : ¬ nd l i = Nd.zero) {n : Nd} (hk : n.kind = (nd l i).kind) (hl : n.links = (nd l i).links) (ho : oneP n) (hz : ¬ n = Nd.zero) (hd : n.kind = 2 → n.data = (nd l i).data) : RightD (l.set i n) D := by
  obtain ⟨hi2, hi⟩ := h.big hn
  have hat : ∀ j, nd (l.set i n) j = if j = i then n else nd l j := nd_set hi n
  have hzz : ∀ j, nd (l.set i n) j = Nd.zero ↔ nd l j = Nd.zero := fun j => by
    rw [hat]
    by_cases hj : j = i
    · rw [if_pos hj, hj]; exact ⟨fun e => absurd e hz, fun e => absurd e hn⟩
    · rw [if_neg hj]
  have hkk : ∀ j, (nd (l.set i n) j).kind = (nd l j).kind ∧ (nd (l.set i n) j).links = (nd l j).links := fun j => by
    rw [hat]
    by_cases hj : j = i
    · rw [if_pos hj, hj]; exact ⟨hk, hl⟩
    · rw [if_neg hj]; exact ⟨rfl, rfl⟩
  have hlen : (l.set i n).length = l.length := List.length_set ..
  refine ⟨by rw [hlen]; exact h.low, by rw [hlen]; exact h.high, by rw [hlen]; exact h.len, (hzz 0).2 h.z0, (hzz 1).2 h.z1, by rw [(hkk 2).1, (hkk 2).2]; exact h.root, fun j hj => ?_, fun j hj hd2 => ?_, fun j hj hd2 => ?_, fun j e he => ?_, fun j h3 hj hjn => ?_⟩
  · rw [hat]
    by_cases hj2 : j = i
    · rw [if_pos hj2]; exact ho
    · rw [if_neg hj2]; exact h.one j (by rw [← hlen]; exact hj)
  · rw [(hkk j).1] at hd2
    have h9 := h.dir j (by rw [← hlen]; exact hj) hd2
    rw [hat]
    by_cases hj2 : j = i
    · subst hj2
      rw [if_pos rfl, hd (by rw [hk]; exact hd2)]
      exact h9
    · rw [if_neg hj2]; exact h9
  · rw [(hkk j).1] at hd2
    exact h.non j (by rw [← hlen]; exact hj) hd2
  · obtain ⟨h1, h2, h3⟩ := h.range j e he
    exact ⟨by rw [hlen]; exact h1, fun hx => h2 ((hzz _).1 hx), h3⟩
  · obtain ⟨h1, h2, h4⟩ := h.each j h3 (by rw [← hlen]; exact hj) (fun hx => hjn ((hzz j).2 hx))
    rw [(hkk j).1, (hkk j).2]
    exact ⟨h1, h2, h4⟩
end
end Go.Proofs.YtkipkcmcolomcaaGreat.Pln
/- What changes of names leave right: a new file, a name more, a name less, a name moved. They speak of no program. -/
namespace Go.Proofs.YtkipkcmcolomcaaGreat.Pln
open Dir (N N.zero nm nm_get nm_mem mem_nm nm_erase nm_app nm_last DirP Fine fineE idx idx_is idx_eq idx_none idx_le bytesL ent bytesL_snoc)
set_option linter.unusedVariables false
set_option linter.unusedSimpArgs false
theorem fit_set {n : Nd} (hn : oneP n) (hz : ¬ n = Nd.zero) : n.mode ≤ 4095 ∧ n.time < 281474976710656 ∧ 1 ≤ n.links ∧ n.links ≤ 1000 ∧ dataP n := hn.resolve_left hz
/-- a directory with other names: what it is then -/
def dirN (n : Nd) (s : ByteArray) (now : Nat) : Nd := ⟨n.kind, n.mode, n.links, now, s⟩
theorem dirN_one {n : Nd} {s : ByteArray} {now : Nat} (hn : oneP n) (hk : n.kind = 2) (ht : now < 281474976710656) : oneP (dirN n s now) ∧ ¬ dirN n s now = Nd.zero := by
  have hz : ¬ n = Nd.zero := zero_kind (by rw [hk]; decide)
  obtain ⟨h1, h2, h3, h4, h5⟩ := fit_set hn hz
  exact ⟨.inr ⟨h1, ht, h3, h4, .inr (.inr hk)⟩, zero_kind (by show ¬ n.kind = 0; rw [hk]; decide)⟩
section
variable {l : List Nd} {D : List (List N)}
/-- a name less, of what has no names itself: x keeps links less one, or is none -/
def lessN (n : Nd) (now : Nat) : Nd := if n.links ≤ 1 then Nd.zero else ⟨n.kind, n.mode, n.links - 1, now, n.data⟩
theorem right_drop (h : RightD l D) {d k : Nat} (hk : k < (ds D d).length) {x : Nat} (hx : (nm (ds D d) k).ino = x) (hleaf : ds D x = []) {now : Nat} (ht : now < 281474976710656) :
    RightD ((l.set x (lessN (nd l x) now)).set d (dirN (nd l d) (bytesL ((ds D d).eraseIdx k)) now)) (D.set d ((ds D d).eraseIdx k)) := by
  have he : nm (ds D d) k ∈ ds D d := nm_mem hk
  obtain ⟨hd1, hd2⟩ := h.at_dir he
  obtain ⟨x1, x2, x3⟩ := h.named he
  rw [hx] at x1 x2 x3
  have hxd : ¬ x = d := fun e => by rw [← e, hleaf] at he; cases he
  have hdz : ¬ nd l d = Nd.zero := zero_kind (by rw [hd2]; decide)
  have hDl : d < D.length := by rw [h.len]; exact hd1
  have hDP := h.dir d hd1 hd2
  have hat : ∀ j, nd ((l.set x (lessN (nd l x) now)).set d (dirN (nd l d) (bytesL ((ds D d).eraseIdx k)) now)) j = if j = d then dirN (nd l d) (bytesL ((ds D d).eraseIdx k)) now else if j = x then lessN (nd l x) now else nd l j := fun j => by
    rw [nd_set (by rw [List.length_set]; exact hd1), nd_set x2]
  have hds : ∀ j, ds (D.set d ((ds D d).eraseIdx k)) j = if j = d then (ds D d).eraseIdx k else ds D j := ds_set hDl _
  have hlen : ((l.set x (lessN (nd l x) now)).set d (dirN (nd l d) (bytesL ((ds D d).eraseIdx k)) now)).length = l.length := by rw [List.length_set, List.length_set]
  have hsub : ∀ j e, e ∈ ds (D.set d ((ds D d).eraseIdx k)) j → e ∈ ds D j := fun j e hj => by
    rw [hds] at hj
    by_cases h1 : j = d
    · rw [if_pos h1] at hj
      rw [h1]
      exact List.mem_of_mem_eraseIdx hj
    · rw [if_neg h1] at hj; exact hj
  have hcnt : ∀ i, cnt (D.set d ((ds D d).eraseIdx k)) i + (if x = i then 1 else 0) = cnt D i := fun i => by
    have h1 := cnt_set hDl ((ds D d).eraseIdx k) i
    have h2 := cntN_erase hk i
    rw [hx] at h2
    omega
  have hkeep : ∀ j e, e ∈ ds D j → ¬ e.ino = x → e ∈ ds (D.set d ((ds D d).eraseIdx k)) j := fun j e hj hne => by
    rw [hds]
    by_cases h1 : j = d
    · rw [if_pos h1]
      rw [h1] at hj
      obtain ⟨i, hi, e1⟩ := mem_nm hj
      have hik : ¬ i = k := fun e2 => hne (by rw [← e1, e2]; exact hx)
      have hl := Dir.erase_length hk
      by_cases h2 : i < k
      · have := nm_mem (L := (ds D d).eraseIdx k) (i := i) (by omega)
        rw [nm_erase, if_pos h2, e1] at this
        exact this
      · have := nm_mem (L := (ds D d).eraseIdx k) (i := i - 1) (by omega)
        rw [nm_erase, if_neg (by omega), show i - 1 + 1 = i by omega, e1] at this
        exact this
    · rw [if_neg h1]; exact hj
  have hreach : ∀ y, Desc D 2 y → ¬ y = x → Desc (D.set d ((ds D d).eraseIdx k)) 2 y := fun y hy => by
    induction hy with
    | refl => exact fun _ => .refl
    | step hi hei ih =>
      intro hne
      refine .step (ih fun e => ?_) (hkeep _ _ hei hne)
      rw [e, hleaf] at hei
      cases hei
  have hxn := (h.each x x1 x2 x3)
  have hx2 : ¬ x = 2 := by omega
  have hone := fit_set (h.one x x2) x3
  have hlz : lessN (nd l x) now = Nd.zero ↔ (nd l x).links = 1 := by
    unfold lessN
    by_cases h1 : (nd l x).links ≤ 1
    · rw [if_pos h1]; exact ⟨fun _ => by omega, fun _ => rfl⟩
    · rw [if_neg h1]
      refine ⟨fun e => ?_, fun e => by omega⟩
      have := congrArg Nd.links e
      have h9 : (nd l x).links - 1 = 0 := this
      omega
  have hlk : ¬ (nd l x).links ≤ 1 → lessN (nd l x) now = ⟨(nd l x).kind, (nd l x).mode, (nd l x).links - 1, now, (nd l x).data⟩ := fun h1 => if_neg h1
  have hd20 : ¬ d = 0 := fun e => hdz (by rw [e]; exact h.z0)
  have hd21 : ¬ d = 1 := fun e => hdz (by rw [e]; exact h.z1)
  refine ⟨by rw [hlen]; exact h.low, by rw [hlen]; exact h.high, by rw [hlen, List.length_set]; exact h.len, ?_, ?_, ?_, fun j hj => ?_, fun j hj hj2 => ?_, fun j hj hj2 => ?_, fun j e hj => ?_, fun j j3 hj hjn => ?_⟩
  · rw [hat, if_neg (fun e => hd20 e.symm), if_neg (by omega)]; exact h.z0
  · rw [hat, if_neg (fun e => hd21 e.symm), if_neg (by omega)]; exact h.z1
  · rw [hat]
    by_cases h1 : 2 = d
    · rw [if_pos h1, ← h1]; exact h.root
    · rw [if_neg h1, if_neg (by omega)]; exact h.root
  · rw [hlen] at hj
    rw [hat]
    by_cases h1 : j = d
    · rw [if_pos h1]; exact (dirN_one (h.one d hd1) hd2 ht).1
    · rw [if_neg h1]
      by_cases h2 : j = x
      · rw [if_pos h2]
        by_cases h3 : (nd l x).links ≤ 1
        · exact .inl (by unfold lessN; rw [if_pos h3])
        · rw [hlk h3]
          obtain ⟨o1, o2, o3, o4, o5⟩ := hone
          exact .inr ⟨o1, ht, by show 1 ≤ (nd l x).links - 1; omega, by show (nd l x).links - 1 ≤ 1000; omega, o5⟩
      · rw [if_neg h2]; exact h.one j hj
  · rw [hlen] at hj
    rw [hat] at hj2 ⊢
    rw [hds]
    by_cases h1 : j = d
    · rw [if_pos h1, if_pos h1]
      exact hDP.erase hk
    · rw [if_neg h1] at hj2 ⊢
      rw [if_neg h1]
      by_cases h2 : j = x
      · rw [if_pos h2] at hj2 ⊢
        have h3 : ¬ (nd l x).links ≤ 1 := fun h3 => by unfold lessN at hj2; rw [if_pos h3] at hj2; exact absurd hj2 (by decide)
        rw [hlk h3] at hj2 ⊢
        rw [h2]
        exact h.dir x x2 hj2
      · rw [if_neg h2] at hj2 ⊢
        exact h.dir j hj hj2
  · rw [hlen] at hj
    rw [hat] at hj2
    rw [hds]
    by_cases h1 : j = d
    · rw [if_pos h1] at hj2
      exact absurd hd2 hj2
    · rw [if_neg h1] at hj2 ⊢
      by_cases h2 : j = x
      · rw [h2]; exact hleaf
      · rw [if_neg h2] at hj2
        exact h.non j hj hj2
  · have hj0 := hsub j e hj
    obtain ⟨r1, r2, r3⟩ := h.range j e hj0
    refine ⟨by rw [hlen]; exact r1, ?_, r3⟩
    rw [hat]
    by_cases h1 : e.ino = d
    · rw [if_pos h1]; exact (dirN_one (h.one d hd1) hd2 ht).2
    · rw [if_neg h1]
      by_cases h2 : e.ino = x
      · rw [if_pos h2]
        intro hz
        have h3 := hlz.1 hz
        have h4 := hcnt x
        rw [if_pos rfl, hxn.1, h3] at h4
        exact cnt_none.1 (by omega) j e hj h2
      · rw [if_neg h2]; exact r2
  · rw [hlen] at hj
    have h4 := hcnt j
    rw [hat] at hjn ⊢
    by_cases h1 : j = d
    · rw [if_pos h1] at hjn ⊢
      rw [if_neg (fun e => hxd (by rw [e, h1]))] at h4
      obtain ⟨e1, e2, e3⟩ := h.each d (by omega) hd1 hdz
      rw [h1] at h4 ⊢
      exact ⟨by rw [← h4] at e1; exact e1, fun hh => by have := e2 hd2; omega, hreach d e3 (fun e => hxd e.symm)⟩
    · rw [if_neg h1] at hjn ⊢
      by_cases h2 : j = x
      · rw [if_pos h2] at hjn ⊢
        have h3 : ¬ (nd l x).links ≤ 1 := fun h3 => hjn (by unfold lessN; rw [if_pos h3])
        rw [if_pos h2.symm] at h4
        rw [h2] at h4 ⊢
        have h5 : cnt (D.set d ((ds D d).eraseIdx k)) x = (nd l x).links - 1 := by have := hxn.1; omega
        rw [hlk h3]
        refine ⟨h5, fun hh => by have := hxn.2.1 hh; have := hxn.1; omega, ?_⟩
        obtain ⟨i, e, hei, hex⟩ := cnt_some (D := D.set d ((ds D d).eraseIdx k)) (i := x) (by omega)
        have hi0 := hsub i e hei
        have hiz : ¬ nd l i = Nd.zero := zero_kind (by rw [(h.at_dir hi0).2]; decide)
        have hix : ¬ i = x := fun e => by rw [e, hleaf] at hi0; cases hi0
        have := Desc.step (hreach i (h.reach hiz) hix) hei
        rw [hex] at this
        exact this
      · rw [if_neg h2] at hjn ⊢
        rw [if_neg (fun e => h2 e.symm)] at h4
        obtain ⟨e1, e2, e3⟩ := h.each j j3 hj hjn
        exact ⟨by omega, fun hh => by have := e2 hh; omega, hreach j e3 h2⟩
/-- a place more -/
theorem right_grow (h : RightD l D) (hl : l.length < 240) : RightD (l ++ [Nd.zero]) (D ++ [[]]) := by
  have hlen : (l ++ [Nd.zero]).length = l.length + 1 := by simp
  have hlow := h.low
  refine ⟨by omega, by omega, by rw [hlen, List.length_append, h.len]; rfl, by rw [nd_app]; exact h.z0, by rw [nd_app]; exact h.z1, by rw [nd_app]; exact h.root, fun j hj => ?_, fun j hj hk => ?_, fun j hj hk => ?_, fun j e he => ?_, fun j h3 hj hn => ?_⟩
  · rw [nd_app]
    by_cases hjl : j < l.length
    · exact h.one j hjl
    · exact .inl (nd_out (by omega))
  · rw [nd_app] at hk ⊢
    rw [ds_app]
    by_cases hjl : j < l.length
    · exact h.dir j hjl hk
    · rw [nd_out (by omega)] at hk; exact absurd hk (by decide)
  · rw [nd_app] at hk
    rw [ds_app]
    by_cases hjl : j < l.length
    · exact h.non j hjl hk
    · exact ds_out (by rw [h.len]; omega)
  · rw [ds_app] at he
    obtain ⟨h1, h2, h3⟩ := h.range j e he
    exact ⟨by omega, by rw [nd_app]; exact h2, h3⟩
  · rw [nd_app] at hn ⊢
    obtain ⟨h1, h2⟩ := h.big hn
    rw [cnt_app]
    obtain ⟨e1, e2, e3⟩ := h.each j h3 h2 hn
    exact ⟨e1, e2, e3.mono fun i e he => by rw [ds_app]; exact he⟩
/-- a name more, of a node that is then as it should be -/
theorem right_more (h : RightD l D) {d : Nat} (hd1 : d < l.length) (hd2 : (nd l d).kind = 2) {x : Nat} (x1 : 3 ≤ x) (x2 : x < l.length) (hxd : ¬ x = d) {s : ByteArray} (hs : fineE ⟨s, x⟩) (hi : idx (ds D d) s = (ds D d).length) (hz : (nd l d).data.size + 6 + s.size ≤ 20000)
    {n : Nd} (ho : oneP n) (hn : ¬ n = Nd.zero) (hl : n.links = cnt D x + 1) (hk2 : n.kind = 2 → cnt D x = 0 ∧ DirP n.data (ds D x)) (hk : ¬ n.kind = 2 → ds D x = []) {now : Nat} (ht : now < 281474976710656) :
    RightD ((l.set x n).set d (dirN (nd l d) (bytesL (ds D d ++ [⟨s, x⟩])) now)) (D.set d (ds D d ++ [⟨s, x⟩])) := by
  have hdz : ¬ nd l d = Nd.zero := zero_kind (by rw [hd2]; decide)
  have hDl : d < D.length := by rw [h.len]; exact hd1
  have hDP := h.dir d hd1 hd2
  have hDP2 := hDP.add hs hi hz
  have hb : bytesL (ds D d ++ [⟨s, x⟩]) = (nd l d).data ++ ent ⟨s, x⟩ := by rw [bytesL_snoc, hDP.2.1]
  have hat : ∀ j, nd ((l.set x n).set d (dirN (nd l d) (bytesL (ds D d ++ [⟨s, x⟩])) now)) j = if j = d then dirN (nd l d) (bytesL (ds D d ++ [⟨s, x⟩])) now else if j = x then n else nd l j := fun j => by
    rw [nd_set (by rw [List.length_set]; exact hd1), nd_set x2]
  have hds : ∀ j, ds (D.set d (ds D d ++ [⟨s, x⟩])) j = if j = d then ds D d ++ [⟨s, x⟩] else ds D j := ds_set hDl _
  have hlen : ((l.set x n).set d (dirN (nd l d) (bytesL (ds D d ++ [⟨s, x⟩])) now)).length = l.length := by rw [List.length_set, List.length_set]
  have hcnt : ∀ i, cnt (D.set d (ds D d ++ [⟨s, x⟩])) i = cnt D i + (if x = i then 1 else 0) := fun i => by
    have h1 := cnt_set hDl (ds D d ++ [⟨s, x⟩]) i
    rw [cntN_app, cntN_one] at h1
    have h2 : (if (⟨s, x⟩ : N).ino = i then 1 else 0) = (if x = i then 1 else 0) := rfl
    omega
  have hsup : ∀ j e, e ∈ ds D j → e ∈ ds (D.set d (ds D d ++ [⟨s, x⟩])) j := fun j e he => by
    rw [hds]
    by_cases h1 : j = d
    · rw [if_pos h1]; rw [h1] at he; exact List.mem_append_left _ he
    · rw [if_neg h1]; exact he
  have hreach : ∀ {y}, Desc D 2 y → Desc (D.set d (ds D d ++ [⟨s, x⟩])) 2 y := fun hy => hy.mono hsup
  have hd20 : ¬ d = 0 := fun e => hdz (by rw [e]; exact h.z0)
  have hd21 : ¬ d = 1 := fun e => hdz (by rw [e]; exact h.z1)
  refine ⟨by rw [hlen]; exact h.low, by rw [hlen]; exact h.high, by rw [hlen, List.length_set]; exact h.len, ?_, ?_, ?_, fun j hj => ?_, fun j hj hj2 => ?_, fun j hj hj2 => ?_, fun j e hj => ?_, fun j j3 hj hjn => ?_⟩
  · rw [hat, if_neg (fun e => hd20 e.symm), if_neg (by omega)]; exact h.z0
  · rw [hat, if_neg (fun e => hd21 e.symm), if_neg (by omega)]; exact h.z1
  · rw [hat]
    by_cases h1 : 2 = d
    · rw [if_pos h1, ← h1]; exact h.root
    · rw [if_neg h1, if_neg (by omega)]; exact h.root
  · rw [hlen] at hj
    rw [hat]
    by_cases h1 : j = d
    · rw [if_pos h1]; exact (dirN_one (h.one d hd1) hd2 ht).1
    · rw [if_neg h1]
      by_cases h2 : j = x
      · rw [if_pos h2]; exact ho
      · rw [if_neg h2]; exact h.one j hj
  · rw [hlen] at hj
    rw [hat] at hj2 ⊢
    rw [hds]
    by_cases h1 : j = d
    · rw [if_pos h1, if_pos h1, hb]
      exact hDP2
    · rw [if_neg h1] at hj2 ⊢
      rw [if_neg h1]
      by_cases h2 : j = x
      · rw [if_pos h2] at hj2 ⊢
        rw [h2]
        exact (hk2 hj2).2
      · rw [if_neg h2] at hj2 ⊢
        exact h.dir j hj hj2
  · rw [hlen] at hj
    rw [hat] at hj2
    rw [hds]
    by_cases h1 : j = d
    · rw [if_pos h1] at hj2
      exact absurd hd2 hj2
    · rw [if_neg h1] at hj2 ⊢
      by_cases h2 : j = x
      · rw [if_pos h2] at hj2
        rw [h2]
        exact hk hj2
      · rw [if_neg h2] at hj2
        exact h.non j hj hj2
  · have hor : e ∈ ds D j ∨ e.ino = x := by
      rw [hds] at hj
      by_cases h1 : j = d
      · rw [if_pos h1] at hj
        rcases List.mem_append.1 hj with h2 | h2
        · exact .inl (by rw [h1]; exact h2)
        · rw [List.mem_singleton.1 h2]; exact .inr rfl
      · rw [if_neg h1] at hj; exact .inl hj
    have hrr : e.ino < l.length ∧ ¬ e.ino = 2 := by
      rcases hor with h1 | h1
      · obtain ⟨r1, _, r3⟩ := h.range j e h1; exact ⟨r1, r3⟩
      · omega
    refine ⟨by rw [hlen]; exact hrr.1, ?_, hrr.2⟩
    rw [hat]
    by_cases h1 : e.ino = d
    · rw [if_pos h1]; exact (dirN_one (h.one d hd1) hd2 ht).2
    · rw [if_neg h1]
      by_cases h2 : e.ino = x
      · rw [if_pos h2]; exact hn
      · rw [if_neg h2]
        exact (h.range j e (hor.resolve_right h2)).2.1
  · rw [hlen] at hj
    have h4 := hcnt j
    rw [hat] at hjn ⊢
    by_cases h1 : j = d
    · rw [if_pos h1] at hjn ⊢
      rw [if_neg (fun e => hxd (by rw [e, h1]))] at h4
      obtain ⟨e1, e2, e3⟩ := h.each d (by omega) hd1 hdz
      rw [h1] at h4 ⊢
      exact ⟨by rw [h4]; exact e1, fun hh => by have := e2 hd2; omega, hreach e3⟩
    · rw [if_neg h1] at hjn ⊢
      by_cases h2 : j = x
      · rw [if_pos h2] at hjn ⊢
        rw [if_pos h2.symm] at h4
        rw [h2] at h4 ⊢
        refine ⟨by omega, fun hh => by have := (hk2 hh).1; omega, ?_⟩
        have hdd := hreach (h.reach hdz)
        have := Desc.step (e := ⟨s, x⟩) hdd (by rw [hds, if_pos rfl]; exact List.mem_append_right _ (List.mem_singleton.2 rfl))
        exact this
      · rw [if_neg h2] at hjn ⊢
        rw [if_neg (fun e => h2 e.symm)] at h4
        obtain ⟨e1, e2, e3⟩ := h.each j j3 hj hjn
        exact ⟨by omega, fun hh => by have := e2 hh; omega, hreach e3⟩
/-- a new file -/
theorem right_new (h : RightD l D) {d : Nat} (hd1 : d < l.length) (hd2 : (nd l d).kind = 2) {x : Nat} (x1 : 3 ≤ x) (x2 : x < l.length) (hx0 : nd l x = Nd.zero) {s : ByteArray} (hs : fineE ⟨s, x⟩) (hi : idx (ds D d) s = (ds D d).length) (hz : (nd l d).data.size + 6 + s.size ≤ 20000)
    {n : Nd} (ho : oneP n) (hn : ¬ n = Nd.zero) (hl : n.links = 1) (hk2 : n.kind = 2 → n.data = ⟨#[]⟩) {now : Nat} (ht : now < 281474976710656) :
    RightD ((l.set x n).set d (dirN (nd l d) (bytesL (ds D d ++ [⟨s, x⟩])) now)) (D.set d (ds D d ++ [⟨s, x⟩])) := by
  have h0 := h.none_cnt hx0
  have hdx := h.non x x2 (by rw [hx0]; decide)
  refine right_more h hd1 hd2 x1 x2 (fun e => ?_) hs hi hz ho hn (by rw [h0, hl]) (fun hk => ⟨h0, by rw [hdx, hk2 hk]; exact DirP.nil⟩) (fun _ => hdx) ht
  rw [← e, hx0] at hd2
  exact absurd hd2 (by decide)
/-- another name of a file -/
theorem right_link (h : RightD l D) {d : Nat} (hd1 : d < l.length) (hd2 : (nd l d).kind = 2) {x : Nat} (hx0 : ¬ nd l x = Nd.zero) (hk : ¬ (nd l x).kind = 2) (h9 : (nd l x).links < 1000) {s : ByteArray} (hs : fineE ⟨s, x⟩) (hi : idx (ds D d) s = (ds D d).length) (hz : (nd l d).data.size + 6 + s.size ≤ 20000) {now : Nat} (ht : now < 281474976710656) :
    RightD ((l.set x ⟨(nd l x).kind, (nd l x).mode, (nd l x).links + 1, now, (nd l x).data⟩).set d (dirN (nd l d) (bytesL (ds D d ++ [⟨s, x⟩])) now)) (D.set d (ds D d ++ [⟨s, x⟩])) := by
  obtain ⟨x1, x2⟩ := h.big hx0
  have x3 : ¬ x = 2 := fun e => hk (by rw [e]; exact h.root.1)
  obtain ⟨o1, o2, o3, o4, o5⟩ := fit_set (h.one x x2) hx0
  refine right_more (n := ⟨(nd l x).kind, (nd l x).mode, (nd l x).links + 1, now, (nd l x).data⟩) h hd1 hd2 (by omega) x2 (fun e => hk (by rw [e]; exact hd2)) hs hi hz (.inr ⟨o1, ht, by show 1 ≤ (nd l x).links + 1; omega, by show (nd l x).links + 1 ≤ 1000; omega, o5⟩) (fun e => ?_) (by rw [(h.each x (by omega) x2 hx0).1]) (fun hh => absurd hh hk) (fun _ => h.non x x2 hk) ht
  have := congrArg Nd.links e
  have h9 : (nd l x).links + 1 = 0 := this
  omega
/-- a name moved to a directory that does not lie within what it names -/
theorem right_move (h : RightD l D) {a k : Nat} (hk : k < (ds D a).length) {x : Nat} (hx : (nm (ds D a) k).ino = x) {b : Nat} (hb1 : b < l.length) (hb2 : (nd l b).kind = 2) (hin : ¬ ((nd l x).kind = 2 ∧ Desc D x b)) {s : ByteArray} (hs : fineE ⟨s, x⟩)
    {E : List (List N)} (hE : E = D.set a ((ds D a).eraseIdx k)) (hi : idx (ds E b) s = (ds E b).length) (hz : (bytesL (ds E b)).size + 6 + s.size ≤ 20000) {now : Nat} (ht : now < 281474976710656) :
    RightD ((l.set a (dirN (nd l a) (bytesL ((ds D a).eraseIdx k)) now)).set b (dirN (nd l b) (bytesL (ds E b ++ [⟨s, x⟩])) now)) (E.set b (ds E b ++ [⟨s, x⟩])) := by
  have he : nm (ds D a) k ∈ ds D a := nm_mem hk
  obtain ⟨ha1, ha2⟩ := h.at_dir he
  obtain ⟨x1, x2, x3⟩ := h.named he
  rw [hx] at x1 x2 x3
  have haz : ¬ nd l a = Nd.zero := zero_kind (by rw [ha2]; decide)
  have hbz : ¬ nd l b = Nd.zero := zero_kind (by rw [hb2]; decide)
  have hDa : a < D.length := by rw [h.len]; exact ha1
  have hEl : E.length = D.length := by rw [hE, List.length_set]
  have hEb : b < E.length := by rw [hEl, h.len]; exact hb1
  have hdE : ∀ j, ds E j = if j = a then (ds D a).eraseIdx k else ds D j := fun j => by rw [hE]; exact ds_set hDa _ j
  have hds : ∀ j, ds (E.set b (ds E b ++ [⟨s, x⟩])) j = if j = b then ds E b ++ [⟨s, x⟩] else ds E j := ds_set hEb _
  have hPE : DirP (bytesL (ds E b)) (ds E b) := by
    rw [hdE]
    by_cases h1 : b = a
    · rw [if_pos h1]; exact (h.dir a ha1 ha2).erase hk
    · rw [if_neg h1]
      have h2 := h.dir b hb1 hb2
      rw [h2.2.1]
      exact h2
  have hP2 : DirP (bytesL (ds E b ++ [⟨s, x⟩])) (ds E b ++ [⟨s, x⟩]) := by
    rw [bytesL_snoc]
    exact hPE.add hs hi hz
  have hat : ∀ j, nd ((l.set a (dirN (nd l a) (bytesL ((ds D a).eraseIdx k)) now)).set b (dirN (nd l b) (bytesL (ds E b ++ [⟨s, x⟩])) now)) j = if j = b then dirN (nd l b) (bytesL (ds E b ++ [⟨s, x⟩])) now else if j = a then dirN (nd l a) (bytesL ((ds D a).eraseIdx k)) now else nd l j := fun j => by
    rw [nd_set (by rw [List.length_set]; exact hb1), nd_set ha1]
  have hlen : ((l.set a (dirN (nd l a) (bytesL ((ds D a).eraseIdx k)) now)).set b (dirN (nd l b) (bytesL (ds E b ++ [⟨s, x⟩])) now)).length = l.length := by rw [List.length_set, List.length_set]
  have hcnt : ∀ i, cnt (E.set b (ds E b ++ [⟨s, x⟩])) i = cnt D i := fun i => by
    have h1 := cnt_set hEb (ds E b ++ [⟨s, x⟩]) i
    rw [cntN_app, cntN_one] at h1
    have h2 : (if (⟨s, x⟩ : N).ino = i then 1 else 0) = (if x = i then 1 else 0) := rfl
    have h3 := cnt_set hDa ((ds D a).eraseIdx k) i
    rw [← hE] at h3
    have h4 := cntN_erase hk i
    rw [hx] at h4
    omega
  have hkl : ∀ j, (nd ((l.set a (dirN (nd l a) (bytesL ((ds D a).eraseIdx k)) now)).set b (dirN (nd l b) (bytesL (ds E b ++ [⟨s, x⟩])) now)) j).kind = (nd l j).kind ∧ (nd ((l.set a (dirN (nd l a) (bytesL ((ds D a).eraseIdx k)) now)).set b (dirN (nd l b) (bytesL (ds E b ++ [⟨s, x⟩])) now)) j).links = (nd l j).links := fun j => by
    rw [hat]
    by_cases h1 : j = b
    · rw [if_pos h1, h1]; exact ⟨rfl, rfl⟩
    · rw [if_neg h1]
      by_cases h2 : j = a
      · rw [if_pos h2, h2]; exact ⟨rfl, rfl⟩
      · rw [if_neg h2]; exact ⟨rfl, rfl⟩
  have hzz : ∀ j, nd ((l.set a (dirN (nd l a) (bytesL ((ds D a).eraseIdx k)) now)).set b (dirN (nd l b) (bytesL (ds E b ++ [⟨s, x⟩])) now)) j = Nd.zero ↔ nd l j = Nd.zero := fun j => by
    rw [hat]
    by_cases h1 : j = b
    · rw [if_pos h1, h1]; exact ⟨fun e => absurd e (dirN_one (h.one b hb1) hb2 ht).2, fun e => absurd e hbz⟩
    · rw [if_neg h1]
      by_cases h2 : j = a
      · rw [if_pos h2, h2]; exact ⟨fun e => absurd e (dirN_one (h.one a ha1) ha2 ht).2, fun e => absurd e haz⟩
      · rw [if_neg h2]
  have hor : ∀ j e, e ∈ ds (E.set b (ds E b ++ [⟨s, x⟩])) j → e ∈ ds D j ∨ e.ino = x := fun j e hj => by
    have hsub : ∀ j e, e ∈ ds E j → e ∈ ds D j := fun j e hj => by
      rw [hdE] at hj
      by_cases h1 : j = a
      · rw [if_pos h1] at hj; rw [h1]; exact List.mem_of_mem_eraseIdx hj
      · rw [if_neg h1] at hj; exact hj
    rw [hds] at hj
    by_cases h1 : j = b
    · rw [if_pos h1] at hj
      rcases List.mem_append.1 hj with h2 | h2
      · exact .inl (by rw [h1]; exact hsub _ _ h2)
      · rw [List.mem_singleton.1 h2]; exact .inr rfl
    · rw [if_neg h1] at hj; exact .inl (hsub _ _ hj)
  have hkeep : ∀ j e, e ∈ ds D j → e ∈ ds E j ∨ e.ino = x := fun j e hj => by
    rw [hdE]
    by_cases h1 : j = a
    · rw [if_pos h1]
      rw [h1] at hj
      obtain ⟨i, hi, e1⟩ := mem_nm hj
      by_cases hik : i = k
      · exact .inr (by rw [← e1, hik]; exact hx)
      · left
        have hl := Dir.erase_length hk
        by_cases h2 : i < k
        · have := nm_mem (L := (ds D a).eraseIdx k) (i := i) (by omega)
          rw [nm_erase, if_pos h2, e1] at this
          exact this
        · have := nm_mem (L := (ds D a).eraseIdx k) (i := i - 1) (by omega)
          rw [nm_erase, if_neg (by omega), show i - 1 + 1 = i by omega, e1] at this
          exact this
    · rw [if_neg h1]; exact .inl hj
  have hsup : ∀ j e, e ∈ ds E j → e ∈ ds (E.set b (ds E b ++ [⟨s, x⟩])) j := fun j e he => by
    rw [hds]
    by_cases h1 : j = b
    · rw [if_pos h1]; rw [h1] at he; exact List.mem_append_left _ he
    · rw [if_neg h1]; exact he
  have hA : ∀ z, Desc D 2 z → Desc E 2 z ∨ Desc D x z := fun z hz => by
    induction hz with
    | refl => exact .inl .refl
    | step hi hei ih =>
      rcases ih with h1 | h1
      · rcases hkeep _ _ hei with h2 | h2
        · exact .inl (.step h1 h2)
        · exact .inr (by rw [h2]; exact .refl)
      · exact .inr (.step h1 hei)
  have hB : Desc E 2 b := by
    rcases hA b (h.reach hbz) with h1 | h1
    · exact h1
    · exfalso
      by_cases hkx : (nd l x).kind = 2
      · exact hin ⟨hkx, h1⟩
      · have := Desc.leaf (h.non x x2 hkx) h1
        rw [this] at hb2
        exact hkx hb2
  have hX : Desc (E.set b (ds E b ++ [⟨s, x⟩])) 2 x := by
    have := Desc.step (e := ⟨s, x⟩) (hB.mono hsup) (by rw [hds, if_pos rfl]; exact List.mem_append_right _ (List.mem_singleton.2 rfl))
    exact this
  have hC : ∀ z, Desc D x z → Desc (E.set b (ds E b ++ [⟨s, x⟩])) 2 z := fun z hz => by
    induction hz with
    | refl => exact hX
    | step hi hei ih =>
      rcases hkeep _ _ hei with h2 | h2
      · exact .step ih (hsup _ _ h2)
      · rw [h2]; exact hX
  have hreach : ∀ z, Desc D 2 z → Desc (E.set b (ds E b ++ [⟨s, x⟩])) 2 z := fun z hz => by
    rcases hA z hz with h1 | h1
    · exact h1.mono hsup
    · exact hC z h1
  refine ⟨by rw [hlen]; exact h.low, by rw [hlen]; exact h.high, by rw [hlen, List.length_set, hEl]; exact h.len, (hzz 0).2 h.z0, (hzz 1).2 h.z1, by rw [(hkl 2).1, (hkl 2).2]; exact h.root, fun j hj => ?_, fun j hj hj2 => ?_, fun j hj hj2 => ?_, fun j e hj => ?_, fun j j3 hj hjn => ?_⟩
  · rw [hlen] at hj
    rw [hat]
    by_cases h1 : j = b
    · rw [if_pos h1]; exact (dirN_one (h.one b hb1) hb2 ht).1
    · rw [if_neg h1]
      by_cases h2 : j = a
      · rw [if_pos h2]; exact (dirN_one (h.one a ha1) ha2 ht).1
      · rw [if_neg h2]; exact h.one j hj
  · rw [hlen] at hj
    rw [(hkl j).1] at hj2
    rw [hat, hds]
    by_cases h1 : j = b
    · rw [if_pos h1, if_pos h1]; exact hP2
    · rw [if_neg h1, if_neg h1, hdE]
      by_cases h2 : j = a
      · rw [if_pos h2, if_pos h2]; exact (h.dir a ha1 ha2).erase hk
      · rw [if_neg h2, if_neg h2]; exact h.dir j hj hj2
  · rw [hlen] at hj
    rw [(hkl j).1] at hj2
    rw [hds, if_neg (fun e => hj2 (by rw [e]; exact hb2)), hdE, if_neg (fun e => hj2 (by rw [e]; exact ha2))]
    exact h.non j hj hj2
  · rcases hor j e hj with h1 | h1
    · obtain ⟨r1, r2, r3⟩ := h.range j e h1
      exact ⟨by rw [hlen]; exact r1, fun hh => r2 ((hzz _).1 hh), r3⟩
    · exact ⟨by rw [hlen, h1]; exact x2, fun hh => x3 (by rw [← h1]; exact (hzz _).1 hh), by omega⟩
  · rw [hlen] at hj
    obtain ⟨e1, e2, e3⟩ := h.each j j3 hj (fun hh => hjn ((hzz j).2 hh))
    rw [(hkl j).1, (hkl j).2, hcnt]
    exact ⟨e1, e2, hreach j e3⟩
theorem bytesL_perm {L M : List N} (h : L.Perm M) : (bytesL L).size = (bytesL M).size := by
  induction h with
  | nil => rfl
  | cons x _ ih => rw [bytesL, bytesL, ByteArray.size_append, ByteArray.size_append, ih]
  | swap x y L => simp only [bytesL, ByteArray.size_append]; omega
  | trans _ _ h1 h2 => rw [h1, h2]
/-- the names of a directory in another order, each one's number kept -/
theorem right_perm (h : RightD l D) {b : Nat} (hb2 : (nd l b).kind = 2) {L : List N} (hp : L.Perm (ds D b)) {now : Nat} (ht : now < 281474976710656) :
    RightD (l.set b (dirN (nd l b) (bytesL L) now)) (D.set b L) := by
  have hbz : ¬ nd l b = Nd.zero := zero_kind (by rw [hb2]; decide)
  obtain ⟨hb0, hb1⟩ := h.big hbz
  have hDl : b < D.length := by rw [h.len]; exact hb1
  have hat : ∀ j, nd (l.set b (dirN (nd l b) (bytesL L) now)) j = if j = b then dirN (nd l b) (bytesL L) now else nd l j := nd_set hb1 _
  have hds : ∀ j, ds (D.set b L) j = if j = b then L else ds D j := ds_set hDl _
  have hlen : (l.set b (dirN (nd l b) (bytesL L) now)).length = l.length := List.length_set ..
  have hmem : ∀ j e, e ∈ ds (D.set b L) j ↔ e ∈ ds D j := fun j e => by
    rw [hds]
    by_cases h1 : j = b
    · rw [if_pos h1, h1]; exact hp.mem_iff
    · rw [if_neg h1]
  have hcnt : ∀ i, cnt (D.set b L) i = cnt D i := fun i => by
    have h1 := cnt_set hDl L i
    have h2 : cntN L i = cntN (ds D b) i := (hp.filter _).length_eq
    omega
  have hreach : ∀ {x}, Desc D 2 x → Desc (D.set b L) 2 x := fun hx => hx.mono fun i e he => (hmem i e).2 he
  have hkk : ∀ j, (nd (l.set b (dirN (nd l b) (bytesL L) now)) j).kind = (nd l j).kind ∧ (nd (l.set b (dirN (nd l b) (bytesL L) now)) j).links = (nd l j).links := fun j => by
    rw [hat]
    by_cases h1 : j = b
    · rw [if_pos h1, h1]; exact ⟨rfl, rfl⟩
    · rw [if_neg h1]; exact ⟨rfl, rfl⟩
  have hone := dirN_one (s := bytesL L) (h.one b hb1) hb2 ht
  have hzz : ∀ j, nd (l.set b (dirN (nd l b) (bytesL L) now)) j = Nd.zero ↔ nd l j = Nd.zero := fun j => by
    rw [hat]
    by_cases h1 : j = b
    · rw [if_pos h1, h1]; exact ⟨fun e => absurd e hone.2, fun e => absurd e hbz⟩
    · rw [if_neg h1]
  have hDP := h.dir b hb1 hb2
  refine ⟨by rw [hlen]; exact h.low, by rw [hlen]; exact h.high, by rw [hlen, List.length_set]; exact h.len, (hzz 0).2 h.z0, (hzz 1).2 h.z1, by rw [(hkk 2).1, (hkk 2).2]; exact h.root, fun j hj => ?_, fun j hj hj2 => ?_, fun j hj hj2 => ?_, fun j e he => ?_, fun j j3 hj hjn => ?_⟩
  · rw [hlen] at hj
    rw [hat]
    by_cases h1 : j = b
    · rw [if_pos h1]; exact hone.1
    · rw [if_neg h1]; exact h.one j hj
  · rw [hlen] at hj
    rw [(hkk j).1] at hj2
    rw [hat, hds]
    by_cases h1 : j = b
    · rw [if_pos h1, if_pos h1]
      refine ⟨hDP.1.perm hp.symm, rfl, ?_⟩
      show (bytesL L).size ≤ 20000
      have h3 : (bytesL L).size = (bytesL (ds D b)).size := bytesL_perm hp
      rw [h3, hDP.2.1]
      exact hDP.2.2
    · rw [if_neg h1, if_neg h1]; exact h.dir j hj hj2
  · rw [hlen] at hj
    rw [(hkk j).1] at hj2
    rw [hds, if_neg (fun e => hj2 (by rw [e]; exact hb2))]
    exact h.non j hj hj2
  · obtain ⟨r1, r2, r3⟩ := h.range j e ((hmem j e).1 he)
    exact ⟨by rw [hlen]; exact r1, fun hx => r2 ((hzz _).1 hx), r3⟩
  · rw [hlen] at hj
    obtain ⟨e1, e2, e3⟩ := h.each j j3 hj (fun hh => hjn ((hzz j).2 hh))
    rw [(hkk j).1, (hkk j).2, hcnt]
    exact ⟨e1, e2, hreach e3⟩
end
end Go.Proofs.YtkipkcmcolomcaaGreat.Pln
/- To go along a path among files: what is found there. They speak of no program. -/
namespace Go.Proofs.YtkipkcmcolomcaaGreat.Pln
open Dir (N N.zero nm nm_get nm_mem mem_nm nm_erase nm_app nm_last DirP Fine fineE idx idx_is idx_eq idx_none idx_le bytesL ent bytesL_snoc findV findE find_zero)
open Pth (splitD fitJ outJ split_some goP_is)
set_option linter.unusedVariables false
set_option linter.unusedSimpArgs false
/-- what is found: the directory (0: the root is found, at no place), the name there, the number (0: none) -/
structure Pl where
  dir : Nat
  name : ByteArray
  ino : Nat
deriving DecidableEq
def rootPl : Pl := ⟨0, ⟨#[]⟩, 2⟩
inductive Run where
  | fail : Int → Run
  | at_ : Pl → Run
  | link : List ByteArray → Nat → List ByteArray → Run
/-- part by part, as far as a link that is gone along -/
def runTo (l : List Nd) (D : List (List N)) (follow : Bool) : List ByteArray → List ByteArray → Pl → Run
  | _, [], p => .at_ p
  | gone, s :: r, p =>
    if p.ino = 0 then .fail 112
    else if ¬ (nd l p.ino).kind = 2 then .fail 140
    else if findV (ds D p.ino) s = 0 ∨ ¬ (nd l (findV (ds D p.ino) s)).kind = 3 ∨ (r = [] ∧ follow = false) then runTo l D follow (gone ++ [s]) r ⟨p.ino, s, findV (ds D p.ino) s⟩
    else .link gone (findV (ds D p.ino) s) r
/-- the parts of what a link says, in a directory -/
def underD (gone : List ByteArray) (t : ByteArray) : Option (List ByteArray) :=
  if t = ⟨#[]⟩ then none else if sb t 0 = 47 then splitD t else if fitJ gone then splitD ((outJ gone ++ ⟨#[47]⟩) ++ t) else none
/-- along parts, from the root, with so many links left -/
def goK (l : List Nd) (D : List (List N)) (follow : Bool) : Nat → List ByteArray → Except Int Pl
  | h, parts => match runTo l D follow [] parts rootPl with
    | .fail e => .error e
    | .at_ p => .ok p
    | .link gone n rest => match h with
      | 0 => .error 143
      | h + 1 => match underD gone (nd l n).data with
        | none => .error 120
        | some u => if 40 < u.length + rest.length then .error 120 else goK l D follow h (u ++ rest)
def goD (l : List Nd) (D : List (List N)) (path : ByteArray) (follow : Bool) : Except Int Pl := match splitD path with
  | none => .error 120
  | some p => goK l D follow 8 p
def foundD (l : List Nd) (D : List (List N)) (path : ByteArray) (follow : Bool) : Except Int Pl := match goD l D path follow with
  | .error e => .error e
  | .ok p => if p.ino = 0 then .error 112 else .ok p
/-- what a place is -/
def placeP (l : List Nd) (D : List (List N)) (follow : Bool) (p : Pl) : Prop :=
  (p = rootPl ∨ ((nd l p.dir).kind = 2 ∧ Dir.nameP p.name ∧ p.ino = findV (ds D p.dir) p.name)) ∧ (follow = true → p.ino = 0 ∨ ¬ (nd l p.ino).kind = 3)
theorem run_place {l : List Nd} {D : List (List N)} {follow : Bool} (hr : (nd l 2).kind = 2) : ∀ (rest gone : List ByteArray) (p q : Pl), (∀ s ∈ rest, Dir.nameP s) → placeP l D follow p → runTo l D follow gone rest p = .at_ q → placeP l D follow q
  | [], _, p, q, _, hp, h => by
    have e : p = q := by simpa [runTo] using h
    rw [← e]; exact hp
  | s :: r, gone, p, q, hn, hp, h => by
    unfold runTo at h
    by_cases h1 : p.ino = 0
    · rw [if_pos h1] at h; cases h
    · rw [if_neg h1] at h
      by_cases h2 : (nd l p.ino).kind = 2
      · rw [if_neg (fun hh => hh h2)] at h
        by_cases h3 : findV (ds D p.ino) s = 0 ∨ ¬ (nd l (findV (ds D p.ino) s)).kind = 3 ∨ (r = [] ∧ follow = false)
        · rw [if_pos h3] at h
          refine run_place hr r _ _ q (fun x hx => hn x (List.mem_cons_of_mem _ hx)) ⟨.inr ⟨h2, hn s (List.mem_cons_self ..), rfl⟩, fun hf => ?_⟩ h
          rcases h3 with h4 | h4 | h4
          · exact .inl h4
          · exact .inr h4
          · rw [hf] at h4; exact absurd h4.2 (by decide)
        · rw [if_neg h3] at h; cases h
      · rw [if_pos h2] at h; cases h
theorem split_names {s : ByteArray} {L : List ByteArray} (h : splitD s = some L) : ∀ p ∈ L, Dir.nameP p := by
  obtain ⟨_, h2, _⟩ := split_some h
  exact (goP_is _ h2 (fun q hq => by cases hq)).1
theorem run_rest {l : List Nd} {D : List (List N)} {follow : Bool} : ∀ (rest gone : List ByteArray) (p : Pl) {g : List ByteArray} {n : Nat} {r : List ByteArray}, runTo l D follow gone rest p = .link g n r → ∀ x ∈ r, x ∈ rest
  | [], _, p, g, n, r, h => by simp [runTo] at h
  | s :: t, gone, p, g, n, r, h => by
    unfold runTo at h
    by_cases h1 : p.ino = 0
    · rw [if_pos h1] at h; cases h
    · rw [if_neg h1] at h
      by_cases h2 : (nd l p.ino).kind = 2
      · rw [if_neg (fun hh => hh h2)] at h
        by_cases h3 : findV (ds D p.ino) s = 0 ∨ ¬ (nd l (findV (ds D p.ino) s)).kind = 3 ∨ (t = [] ∧ follow = false)
        · rw [if_pos h3] at h
          exact fun x hx => List.mem_cons_of_mem _ (run_rest t _ _ h x hx)
        · rw [if_neg h3] at h
          cases h
          exact fun x hx => List.mem_cons_of_mem _ hx
      · rw [if_pos h2] at h; cases h
theorem under_names {g : List ByteArray} {t : ByteArray} {u : List ByteArray} (h : underD g t = some u) : ∀ p ∈ u, Dir.nameP p := by
  unfold underD at h
  split at h
  · cases h
  · split at h
    · exact split_names h
    · split at h
      · exact split_names h
      · cases h
theorem root_place {l : List Nd} {D : List (List N)} {follow : Bool} (hr : (nd l 2).kind = 2) : placeP l D follow rootPl := ⟨.inl rfl, fun _ => .inr (by show ¬ (nd l 2).kind = 3; rw [hr]; decide)⟩
theorem goK_place {l : List Nd} {D : List (List N)} {follow : Bool} (hr : (nd l 2).kind = 2) : ∀ (h : Nat) (parts : List ByteArray) (q : Pl), (∀ s ∈ parts, Dir.nameP s) → goK l D follow h parts = .ok q → placeP l D follow q := by
  intro h
  induction h with
  | zero =>
    intro parts q hn hg
    unfold goK at hg
    cases hrun : runTo l D follow [] parts rootPl with
    | fail e => rw [hrun] at hg; cases hg
    | at_ p => rw [hrun] at hg; cases hg; exact run_place hr _ _ _ _ hn (root_place hr) hrun
    | link g n r => rw [hrun] at hg; cases hg
  | succ h ih =>
    intro parts q hn hg
    unfold goK at hg
    cases hrun : runTo l D follow [] parts rootPl with
    | fail e => rw [hrun] at hg; cases hg
    | at_ p => rw [hrun] at hg; cases hg; exact run_place hr _ _ _ _ hn (root_place hr) hrun
    | link g n r =>
      rw [hrun] at hg
      simp only at hg
      cases hu : underD g (nd l n).data with
      | none => rw [hu] at hg; cases hg
      | some u =>
        rw [hu] at hg
        simp only at hg
        by_cases h4 : 40 < u.length + r.length
        · rw [if_pos h4] at hg; cases hg
        · rw [if_neg h4] at hg
          refine ih _ q (fun s hs => ?_) hg
          rcases List.mem_append.1 hs with h5 | h5
          · exact under_names hu s h5
          · exact hn s (run_rest _ _ _ hrun s h5)
theorem goD_place {l : List Nd} {D : List (List N)} {follow : Bool} (hr : (nd l 2).kind = 2) {path : ByteArray} {q : Pl} (h : goD l D path follow = .ok q) : placeP l D follow q := by
  unfold goD at h
  cases hs : splitD path with
  | none => rw [hs] at h; cases h
  | some L => rw [hs] at h; exact goK_place hr _ _ _ (split_names hs) h
theorem found_place {l : List Nd} {D : List (List N)} {follow : Bool} (hr : (nd l 2).kind = 2) {path : ByteArray} {q : Pl} (h : foundD l D path follow = .ok q) : placeP l D follow q ∧ ¬ q.ino = 0 := by
  unfold foundD at h
  cases hg : goD l D path follow with
  | error e => rw [hg] at h; cases h
  | ok p =>
    rw [hg] at h
    simp only at h
    by_cases h0 : p.ino = 0
    · rw [if_pos h0] at h; cases h
    · rw [if_neg h0] at h
      cases h
      exact ⟨goD_place hr hg, h0⟩
/-- what is found by a name is named there -/
theorem findV_mem {L : List N} {s : ByteArray} {x : Nat} (h : x = findV L s) (h0 : ¬ x = 0) : idx L s < L.length ∧ (nm L (idx L s)).ino = x ∧ Dir.nameP s := by
  unfold findV at h
  by_cases hf : findE L s = 0
  · rw [if_pos hf] at h
    exact ⟨(find_zero.1 hf).2, h.symm, (find_zero.1 hf).1⟩
  · rw [if_neg hf] at h; exact absurd h h0
theorem place_big {l : List Nd} {D : List (List N)} (hR : RightD l D) {follow : Bool} {q : Pl} (h : placeP l D follow q) (h0 : ¬ q.ino = 0) : ¬ nd l q.ino = Nd.zero ∧ 2 ≤ q.ino ∧ q.ino < l.length := by
  have hz : ¬ nd l q.ino = Nd.zero := by
    rcases h.1 with rfl | ⟨_, _, h2⟩
    · exact hR.root_big
    · obtain ⟨h3, h4, _⟩ := findV_mem h2 h0
      have := (hR.named (nm_mem h3)).2.2
      rw [h4] at this
      exact this
  exact ⟨hz, hR.big hz⟩
end Go.Proofs.YtkipkcmcolomcaaGreat.Pln
