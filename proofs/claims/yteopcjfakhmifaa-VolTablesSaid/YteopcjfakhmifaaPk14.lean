/- Several texts in one, each under its own heading. -/
import Derived.Test.YteopcjfakhmifaaPk13
/- Paths: what a text is cut into, the parts, and what parts are joined to. They speak of no program. -/
namespace Go.Proofs.Yteopcjfakhmifaa.Pth
open Nam
set_option linter.unusedVariables false
set_option linter.unusedSimpArgs false
/-- a list cut at each '/' -/
def cutL : List UInt8 → List (List UInt8)
  | [] => [[]]
  | c :: t => if c = 47 then [] :: cutL t else match cutL t with
    | [] => [[c]]
    | h :: r => (c :: h) :: r
theorem cut_last : ∀ {l : List UInt8}, (∀ c ∈ l, ¬ c = 47) → cutL l = [l]
  | [], _ => rfl
  | c :: t, h => by
    have ih := cut_last (l := t) fun x hx => h x (List.mem_cons_of_mem _ hx)
    rw [cutL, if_neg (h c (List.mem_cons_self ..)), ih]
theorem cut_next : ∀ {l t : List UInt8}, (∀ c ∈ l, ¬ c = 47) → cutL (l ++ 47 :: t) = l :: cutL t
  | [], t, _ => by rw [List.nil_append, cutL, if_pos rfl]
  | c :: r, t, h => by
    have ih := cut_next (l := r) (t := t) fun x hx => h x (List.mem_cons_of_mem _ hx)
    rw [List.cons_append, cutL, if_neg (h c (List.mem_cons_self ..)), ih]
theorem cut_some : ∀ l : List UInt8, ¬ cutL l = []
  | [] => by simp [cutL]
  | c :: t => by
    rw [cutL]
    split
    · simp
    · split <;> simp
/-- how many bytes pieces take, each with a '/' -/
def szP : List ByteArray → Nat
  | [] => 0
  | p :: r => p.size + 1 + szP r
theorem szP_app : ∀ A B : List ByteArray, szP (A ++ B) = szP A + szP B
  | [], B => by simp [szP]
  | p :: r, B => by rw [List.cons_append, szP, szP, szP_app r B]; omega
def toB (l : List UInt8) : ByteArray := ⟨l.toArray⟩
theorem toB_size (l : List UInt8) : (toB l).size = l.length := by simp [toB, ByteArray.size]
def pcs (s : ByteArray) : List ByteArray := (cutL s.data.toList).map toB
theorem szP_cut : ∀ l : List UInt8, szP ((cutL l).map toB) = l.length + 1
  | [] => by simp [cutL, szP, toB_size]
  | c :: t => by
    have ih := szP_cut t
    rw [cutL]
    split
    · simp only [List.map_cons, szP, toB_size, List.length_nil, ih, List.length_cons]; omega
    · cases hc : cutL t with
      | nil => exact absurd hc (cut_some t)
      | cons h r =>
        rw [hc] at ih
        simp only [List.map_cons, szP, toB_size, List.length_cons] at ih ⊢
        omega
def dot : ByteArray := ⟨#[46]⟩
def dots : ByteArray := ⟨#[46, 46]⟩
def slash : ByteArray := ⟨#[47]⟩
/-- one piece, behind parts -/
def stp (o : Option (List ByteArray)) (p : ByteArray) : Option (List ByteArray) := match o with
  | none => none
  | some l => if p = ⟨#[]⟩ ∨ p = dot then some l else if p = dots then some l.dropLast else if nameP p then some (l ++ [p]) else none
def goP (P : List ByteArray) (o : Option (List ByteArray)) : Option (List ByteArray) := P.foldl stp o
theorem goP_none : ∀ P : List ByteArray, goP P none = none
  | [] => rfl
  | p :: r => goP_none r
theorem goP_app (A B : List ByteArray) (o : Option (List ByteArray)) : goP (A ++ B) o = goP B (goP A o) := List.foldl_append ..
theorem goP_cons (p : ByteArray) (B : List ByteArray) (o : Option (List ByteArray)) : goP (p :: B) o = goP B (stp o p) := rfl
theorem name_some {p : ByteArray} (h : nameP p) : ¬ p = ⟨#[]⟩ ∧ ¬ p = dot ∧ ¬ p = dots := ⟨fun e => by have := h.1; rw [e] at this; exact absurd this (by decide), h.2.2.1, h.2.2.2.1⟩
theorem stp_some (l : List ByteArray) (p : ByteArray) : stp (some l) p = if p = ⟨#[]⟩ ∨ p = dot then some l else if p = dots then some l.dropLast else if nameP p then some (l ++ [p]) else none := rfl
theorem stp_name {p : ByteArray} (h : nameP p) (l : List ByteArray) : stp (some l) p = some (l ++ [p]) := by
  obtain ⟨h1, h2, h3⟩ := name_some h
  rw [stp_some, if_neg (fun e => e.elim h1 h2), if_neg h3, if_pos h]
theorem stp_none (l : List ByteArray) : stp (some l) ⟨#[]⟩ = some l := by rw [stp_some, if_pos (Or.inl rfl)]
theorem stp_dots (l : List ByteArray) : stp (some l) dots = some l.dropLast := by
  rw [stp_some, if_neg (by decide), if_pos rfl]
/-- what one step leaves -/
theorem stp_is {l l2 : List ByteArray} {p : ByteArray} (h : stp (some l) p = some l2) (hn : ∀ q ∈ l, nameP q) : (∀ q ∈ l2, nameP q) ∧ szP l2 ≤ szP l + p.size + 1 ∧ (p = ⟨#[]⟩ → l2 = l) := by
  by_cases h1 : p = ⟨#[]⟩ ∨ p = dot
  · have e : some l = some l2 := by rw [← h]; exact (if_pos h1).symm
    cases e
    exact ⟨hn, by omega, fun _ => rfl⟩
  · by_cases h2 : p = dots
    · subst h2
      rw [stp_dots] at h
      cases h
      have hs : szP l.dropLast ≤ szP l := by
        rcases List.eq_nil_or_concat l with e | ⟨t, x, e⟩
        · rw [e]; exact Nat.le_refl _
        · subst e
          rw [List.concat_eq_append, List.dropLast_concat, szP_app]
          omega
      exact ⟨fun q hq => hn q ((List.dropLast_sublist l).mem hq), by omega, fun e => absurd (Or.inl e) h1⟩
    · by_cases h3 : nameP p
      · rw [stp_name h3] at h
        cases h
        refine ⟨fun q hq => ?_, by rw [szP_app]; simp only [szP]; omega, fun e => absurd (Or.inl e) h1⟩
        rcases List.mem_append.1 hq with hq | hq
        · exact hn q hq
        · rw [List.mem_singleton.1 hq]; exact h3
      · exfalso
        have e : (none : Option (List ByteArray)) = some l2 := by
          rw [← h]
          rw [stp_some, if_neg h1, if_neg h2, if_neg h3]
        cases e
theorem goP_is : ∀ (P : List ByteArray) {l l2 : List ByteArray}, goP P (some l) = some l2 → (∀ q ∈ l, nameP q) → (∀ q ∈ l2, nameP q) ∧ szP l2 ≤ szP l + szP P
  | [], l, l2, h, hn => by cases h; exact ⟨hn, by omega⟩
  | p :: r, l, l2, h, hn => by
    rw [goP_cons] at h
    cases hs : stp (some l) p with
    | none => rw [hs, goP_none] at h; cases h
    | some l1 =>
      rw [hs] at h
      obtain ⟨a1, a2, _⟩ := stp_is hs hn
      obtain ⟨b1, b2⟩ := goP_is r h a1
      exact ⟨b1, by simp only [szP]; omega⟩
theorem goP_names : ∀ (P l : List ByteArray), (∀ q ∈ P, nameP q) → goP P (some l) = some (l ++ P)
  | [], l, _ => by simp [goP]
  | p :: r, l, h => by
    rw [goP_cons, stp_name (h p (List.mem_cons_self ..)), goP_names r _ fun q hq => h q (List.mem_cons_of_mem _ hq), List.append_assoc]
    rfl
def pathP (s : ByteArray) : Prop := s.size ≤ 1000 ∧ 0 < s.size ∧ sb s 0 = 47
instance (s : ByteArray) : Decidable (pathP s) := by unfold pathP; infer_instance
/-- at most forty parts -/
def few (o : Option (List ByteArray)) : Option (List ByteArray) := match o with
  | some l => if l.length ≤ 40 then some l else none
  | none => none
theorem few_some {o : Option (List ByteArray)} {l : List ByteArray} (h : few o = some l) : o = some l ∧ l.length ≤ 40 := by
  cases o with
  | none => cases h
  | some k =>
    unfold few at h
    simp only at h
    split at h
    · cases h; exact ⟨rfl, by assumption⟩
    · cases h
/-- the parts of a path -/
def splitD (s : ByteArray) : Option (List ByteArray) := if pathP s then few (goP (pcs s) (some [])) else none
theorem split_some {s : ByteArray} {l : List ByteArray} (h : splitD s = some l) : pathP s ∧ goP (pcs s) (some []) = some l ∧ l.length ≤ 40 := by
  unfold splitD at h
  split at h
  · exact ⟨by assumption, few_some h⟩
  · cases h
/-- parts, each behind a '/' -/
def joinS : List ByteArray → ByteArray
  | [] => ⟨#[]⟩
  | p :: r => (slash ++ p) ++ joinS r
theorem joinS_size : ∀ L : List ByteArray, (joinS L).size = szP L
  | [] => rfl
  | p :: r => by rw [joinS, ByteArray.size_append, ByteArray.size_append, joinS_size r, szP]; show 1 + p.size + _ = _; omega
theorem joinS_app : ∀ A B : List ByteArray, joinS (A ++ B) = joinS A ++ joinS B
  | [], B => by rw [List.nil_append, joinS, none_app]
  | p :: r, B => by rw [List.cons_append, joinS, joinS, joinS_app r B, ← ByteArray.append_assoc]
theorem joinS_none {L : List ByteArray} : joinS L = ⟨#[]⟩ ↔ L = [] := by
  constructor
  · intro h
    cases L with
    | nil => rfl
    | cons p r =>
      have := joinS_size (p :: r)
      rw [h] at this
      simp only [szP] at this
      exact absurd this.symm (by show ¬ _ = 0; omega)
  · intro h; rw [h]; rfl
/-- the path of parts -/
def fitJ (L : List ByteArray) : Prop := L.length ≤ 40 ∧ (∀ p ∈ L, nameP p) ∧ szP L ≤ 1000
instance (L : List ByteArray) : Decidable (fitJ L) := by unfold fitJ; infer_instance
def outJ (L : List ByteArray) : ByteArray := if L = [] then slash else joinS L
theorem name_free {p : ByteArray} (h : nameP p) : ∀ c ∈ p.data.toList, ¬ c = 47 := by
  intro c hc e
  obtain ⟨i, hi, he⟩ := List.getElem_of_mem hc
  have hs : i < p.size := by rw [Array.length_toList] at hi; exact hi
  refine (h.2.2.2.2 i hs).2 ?_
  unfold sb
  rw [List.getElem?_eq_getElem hi, he, e]
  rfl
theorem toB_data (p : ByteArray) : toB p.data.toList = p := by unfold toB; rw [Array.toArray_toList]
theorem app_list (a b : ByteArray) : (a ++ b).data.toList = a.data.toList ++ b.data.toList := by rw [ByteArray.data_append, Array.toList_append]
theorem pcs_slash (s : ByteArray) : pcs (slash ++ s) = ⟨#[]⟩ :: pcs s := by
  unfold pcs
  rw [app_list]
  show (cutL (47 :: s.data.toList)).map toB = _
  rw [cutL, if_pos rfl, List.map_cons]
  rfl
theorem pcs_name {p : ByteArray} (h : nameP p) (s : ByteArray) : pcs (p ++ (slash ++ s)) = p :: pcs s := by
  unfold pcs
  rw [app_list, app_list]
  show (cutL (p.data.toList ++ 47 :: s.data.toList)).map toB = _
  rw [cut_next (name_free h), List.map_cons, toB_data]
theorem pcs_one {p : ByteArray} (h : nameP p) : pcs p = [p] := by
  unfold pcs
  rw [cut_last (name_free h), List.map_cons, List.map_nil, toB_data]
theorem app_none (s : ByteArray) : s ++ (⟨#[]⟩ : ByteArray) = s := ba_ext (by rw [app_list]; exact List.append_nil _)
theorem pcs_run : ∀ (L : List ByteArray) (p : ByteArray), nameP p → (∀ q ∈ L, nameP q) → pcs (p ++ joinS L) = p :: L
  | [], p, hp, _ => by rw [joinS, app_none, pcs_one hp]
  | q :: r, p, hp, h => by
    rw [joinS, ByteArray.append_assoc, pcs_name hp, pcs_run r q (h q (List.mem_cons_self ..)) fun x hx => h x (List.mem_cons_of_mem _ hx)]
theorem pcs_join {L : List ByteArray} (h : ∀ q ∈ L, nameP q) (h0 : ¬ L = []) : pcs (joinS L) = ⟨#[]⟩ :: L := by
  cases L with
  | nil => exact absurd rfl h0
  | cons q r => rw [joinS, ByteArray.append_assoc, pcs_slash, pcs_run r q (h q (List.mem_cons_self ..)) fun x hx => h x (List.mem_cons_of_mem _ hx)]
theorem pathP_slash {s : ByteArray} (h : s.size ≤ 999) : pathP (slash ++ s) := by
  have hz : (slash ++ s).size = 1 + s.size := by rw [ByteArray.size_append]; rfl
  refine ⟨by omega, by omega, ?_⟩
  unfold sb
  rw [app_list]
  rfl
/-- a path's first byte, and what is behind it -/
theorem path_open {s : ByteArray} (h : pathP s) : ∃ t, s = slash ++ t := by
  obtain ⟨_, h1, h2⟩ := h
  cases hl : s.data.toList with
  | nil =>
    have : s.size = s.data.toList.length := by rw [Array.length_toList]; rfl
    rw [hl] at this
    have h9 : s.size = 0 := this
    omega
  | cons c r =>
    refine ⟨toB r, ba_ext ?_⟩
    unfold sb at h2
    rw [hl] at h2
    have hc : c = 47 := by
      apply UInt8.toNat_inj.1
      exact h2
    rw [app_list, hl, hc]
    rfl
theorem outJ_size (L : List ByteArray) : (outJ L).size = max 1 (szP L) := by
  unfold outJ
  split
  · rename_i h; rw [h]; rfl
  · rename_i h
    rw [joinS_size]
    cases L with
    | nil => exact absurd rfl h
    | cons p r => simp only [szP]; omega
/-- what was joined is split as it was -/
theorem split_join {L : List ByteArray} (h : fitJ L) : splitD (outJ L) = some L := by
  obtain ⟨h1, h2, h3⟩ := h
  have hp : pathP (outJ L) ∧ goP (pcs (outJ L)) (some []) = some L := by
    unfold outJ
    split
    · rename_i e
      rw [e]
      exact ⟨by decide, by decide⟩
    · rename_i e
      refine ⟨?_, ?_⟩
      · cases L with
        | nil => exact absurd rfl e
        | cons q r =>
          rw [joinS, ByteArray.append_assoc]
          refine pathP_slash ?_
          rw [ByteArray.size_append, joinS_size]
          simp only [szP] at h3
          omega
      · rw [pcs_join h2 e, goP_cons, stp_none, goP_names _ _ h2, List.nil_append]
  unfold splitD
  rw [if_pos hp.1, hp.2]
  exact if_pos h1
/-- what was split can be joined -/
theorem join_split {s : ByteArray} {L : List ByteArray} (h : splitD s = some L) : fitJ L ∧ (outJ L).size ≤ max 1 s.size := by
  obtain ⟨h1, h2, h3⟩ := split_some h
  obtain ⟨t, e⟩ := path_open h1
  have hz : s.size = 1 + t.size := by rw [e, ByteArray.size_append]; rfl
  rw [e, pcs_slash, goP_cons, stp_none] at h2
  obtain ⟨n1, n2⟩ := goP_is (pcs t) h2 (fun q hq => by cases hq)
  have n3 : szP (pcs t) = t.size + 1 := by
    unfold pcs
    rw [szP_cut, Array.length_toList]
    rfl
  have n4 : szP L ≤ s.size := by
    simp only [szP] at n2
    omega
  refine ⟨⟨h3, n1, by have := h1.1; omega⟩, by rw [outJ_size]; omega⟩
def up : ByteArray := ⟨#[47, 46, 46, 47]⟩
/-- a part, and the one up, take each other back -/
theorem split_up {p s : ByteArray} (h : nameP p) (hs : s.size ≤ 500) : splitD (((slash ++ p) ++ up) ++ s) = splitD (slash ++ s) := by
  have hp := h.2.1
  have hu : up = slash ++ (dots ++ slash) := by decide
  have e1 : ((slash ++ p) ++ up) ++ s = slash ++ (p ++ (slash ++ (dots ++ (slash ++ s)))) := by
    rw [hu]
    simp only [ByteArray.append_assoc]
  have hd : pcs (dots ++ (slash ++ s)) = dots :: pcs s := by
    unfold pcs
    rw [app_list, app_list]
    show (cutL (dots.data.toList ++ 47 :: s.data.toList)).map toB = _
    rw [cut_next (by decide), List.map_cons, toB_data]
  have hpa : pathP (slash ++ (p ++ (slash ++ (dots ++ (slash ++ s))))) := by
    refine pathP_slash ?_
    simp only [ByteArray.size_append]
    have h1 : slash.size = 1 := rfl
    have h2 : dots.size = 2 := rfl
    omega
  unfold splitD
  rw [e1, if_pos hpa, if_pos (pathP_slash (by omega)), pcs_slash, pcs_slash, pcs_name h, hd]
  simp only [goP_cons, stp_none, stp_name h, stp_dots]
  rfl
/-- parts of two paths, one behind the other -/
theorem join_two {A B : List ByteArray} (hA : fitJ A) (hB : fitJ B) (a0 : ¬ A = []) (b0 : ¬ B = []) (hl : A.length + B.length ≤ 40) (hs : (outJ A).size + (outJ B).size ≤ 1000) : fitJ (A ++ B) ∧ outJ (A ++ B) = outJ A ++ outJ B := by
  rw [outJ_size, outJ_size] at hs
  refine ⟨⟨by rw [List.length_append]; exact hl, fun p hp => ?_, by rw [szP_app]; omega⟩, ?_⟩
  · rcases List.mem_append.1 hp with h | h
    · exact hA.2.1 p h
    · exact hB.2.1 p h
  · unfold outJ
    rw [if_neg a0, if_neg b0, if_neg (fun e => a0 (List.append_eq_nil_iff.1 e).1), joinS_app]
end Go.Proofs.Yteopcjfakhmifaa.Pth
/- Files as plain values: nodes by their numbers, the names in their directories, which are right. They speak of no program. -/
namespace Go.Proofs.Yteopcjfakhmifaa.Pln
open Dir (N N.zero nm nm_get nm_mem mem_nm nm_erase nm_app nm_last DirP Fine fineE idx idx_is idx_eq idx_none idx_le bytesL ent bytesL_snoc)
set_option linter.unusedVariables false
set_option linter.unusedSimpArgs false
/-- a node -/
structure Nd where
  kind : Int
  mode : Nat
  links : Nat
  time : Nat
  data : ByteArray
deriving DecidableEq
def Nd.zero : Nd := ⟨0, 0, 0, 0, ⟨#[]⟩⟩
def nd (l : List Nd) (i : Nat) : Nd := l.getD i Nd.zero
/-- the names of a number, if it is a directory's -/
def ds (D : List (List N)) (i : Nat) : List N := D.getD i []
theorem nd_out {l : List Nd} {i : Nat} (h : l.length ≤ i) : nd l i = Nd.zero := by unfold nd; rw [List.getD_eq_getElem?_getD, List.getElem?_eq_none h]; rfl
theorem ds_out {D : List (List N)} {i : Nat} (h : D.length ≤ i) : ds D i = [] := by unfold ds; rw [List.getD_eq_getElem?_getD, List.getElem?_eq_none h]; rfl
theorem getD_setA {α : Type} {d : α} {l : List α} {i : Nat} (hi : i < l.length) (n : α) (j : Nat) : (l.set i n).getD j d = if j = i then n else l.getD j d := by
  rw [List.getD_eq_getElem?_getD, List.getD_eq_getElem?_getD, List.getElem?_set]
  by_cases h : i = j
  · subst h
    rw [if_pos rfl, if_pos rfl, if_pos hi]
    rfl
  · rw [if_neg h, if_neg (fun e => h e.symm)]
theorem getD_appA {α : Type} {d : α} {l : List α} {j : Nat} : (l ++ [d]).getD j d = l.getD j d := by
  rw [List.getD_eq_getElem?_getD, List.getD_eq_getElem?_getD]
  by_cases h : j < l.length
  · rw [List.getElem?_append_left h]
  · rw [List.getElem?_append_right (by omega), List.getElem?_eq_none (l := l) (by omega)]
    by_cases h2 : j - l.length = 0
    · rw [h2]; rfl
    · rw [List.getElem?_eq_none (by show 1 ≤ _; omega)]
theorem nd_set {l : List Nd} {i : Nat} (hi : i < l.length) (n : Nd) (j : Nat) : nd (l.set i n) j = if j = i then n else nd l j := getD_setA hi n j
theorem ds_set {D : List (List N)} {i : Nat} (hi : i < D.length) (L : List N) (j : Nat) : ds (D.set i L) j = if j = i then L else ds D j := getD_setA hi L j
theorem nd_app {l : List Nd} {j : Nat} : nd (l ++ [Nd.zero]) j = nd l j := getD_appA
theorem ds_app {D : List (List N)} {j : Nat} : ds (D ++ [[]]) j = ds D j := getD_appA
/-! ### how many names a number has -/
def cntN (L : List N) (i : Nat) : Nat := (L.filter fun e => decide (e.ino = i)).length
def cnt (D : List (List N)) (i : Nat) : Nat := (D.map fun L => cntN L i).sum
theorem cntN_app (L M : List N) (i : Nat) : cntN (L ++ M) i = cntN L i + cntN M i := by unfold cntN; rw [List.filter_append, List.length_append]
theorem cntN_one (e : N) (i : Nat) : cntN [e] i = if e.ino = i then 1 else 0 := by
  unfold cntN
  by_cases h : e.ino = i
  · rw [if_pos h, List.filter_cons_of_pos (by simpa using h)]; rfl
  · rw [if_neg h, List.filter_cons_of_neg (by simpa using h)]; rfl
theorem cntN_none {L : List N} {i : Nat} : cntN L i = 0 ↔ ∀ e ∈ L, ¬ e.ino = i := by
  unfold cntN
  rw [List.length_eq_zero_iff, List.filter_eq_nil_iff]
  simp
theorem cntN_erase {L : List N} {k : Nat} (hk : k < L.length) (i : Nat) : cntN (L.eraseIdx k) i + (if (nm L k).ino = i then 1 else 0) = cntN L i := by
  obtain ⟨h1, h2⟩ := Dir.erase_split hk
  have h3 : L = L.take k ++ ([nm L k] ++ L.drop (k + 1)) := h1
  rw [h2, cntN_app]
  conv => rhs; rw [h3, cntN_app, cntN_app, cntN_one]
  omega
theorem cnt_set : ∀ {D : List (List N)} {j : Nat}, j < D.length → ∀ (L : List N) (i : Nat), cnt (D.set j L) i + cntN (ds D j) i = cnt D i + cntN L i
  | [], j, h, _, _ => absurd h (Nat.not_lt_zero _)
  | M :: r, 0, _, L, i => by
    show (cntN L i + cnt r i) + cntN M i = (cntN M i + cnt r i) + cntN L i
    omega
  | M :: r, j + 1, h, L, i => by
    have ih := cnt_set (D := r) (j := j) (by simpa using h) L i
    show (cntN M i + cnt (r.set j L) i) + cntN (ds r j) i = (cntN M i + cnt r i) + cntN L i
    omega
theorem cnt_app {D : List (List N)} {i : Nat} : cnt (D ++ [[]]) i = cnt D i := by
  unfold cnt
  rw [List.map_append, List.sum_append]
  rfl
theorem cnt_le {D : List (List N)} {j i : Nat} : cntN (ds D j) i ≤ cnt D i := by
  by_cases hj : j < D.length
  · have := cnt_set hj [] i
    have h0 : cntN ([] : List N) i = 0 := rfl
    omega
  · rw [ds_out (by omega)]; exact Nat.zero_le _
theorem cnt_none : ∀ {D : List (List N)} {i : Nat}, cnt D i = 0 ↔ ∀ j e, e ∈ ds D j → ¬ e.ino = i
  | [], i => ⟨fun _ j e he => (by rw [ds_out (Nat.zero_le _)] at he; cases he), fun _ => rfl⟩
  | M :: r, i => by
    have ih := cnt_none (D := r) (i := i)
    constructor
    · intro h j e he
      have h1 : cntN M i + cnt r i = 0 := h
      cases j with
      | zero =>
        have h2 : cntN M i = 0 := by omega
        exact cntN_none.1 h2 e he
      | succ j => exact ih.1 (by omega) j e he
    · intro h
      have h1 : cntN M i = 0 := cntN_none.2 fun e he => h 0 e he
      have h2 : cnt r i = 0 := ih.2 fun j e he => h (j + 1) e he
      show cntN M i + cnt r i = 0
      omega
theorem cnt_some {D : List (List N)} {i : Nat} (h : 0 < cnt D i) : ∃ j e, e ∈ ds D j ∧ e.ino = i := Classical.byContradiction fun hn => by
  have : cnt D i = 0 := cnt_none.2 fun j e he hi => hn ⟨j, e, he, hi⟩
  omega
/-- of one name alone: it lies in one directory -/
theorem cnt_one {D : List (List N)} {i a b : Nat} {e f : N} (h : cnt D i = 1) (he : e ∈ ds D a) (hi : e.ino = i) (hf : f ∈ ds D b) (hj : f.ino = i) : a = b := Classical.byContradiction fun hab => by
  have ha : a < D.length := Classical.byContradiction fun hn => by rw [ds_out (by omega)] at he; cases he
  have h1 := cnt_set ha [] i
  have h0 : cntN ([] : List N) i = 0 := rfl
  have h2 : 0 < cntN (ds D a) i := Nat.pos_of_ne_zero fun hz => cntN_none.1 hz e he hi
  have h3 : cnt (D.set a []) i = 0 := by omega
  refine cnt_none.1 h3 b f ?_ hj
  rw [ds_set ha, if_neg (fun e => hab e.symm)]
  exact hf
/-! ### what is reached -/
inductive Desc (D : List (List N)) (x : Nat) : Nat → Prop where
  | refl : Desc D x x
  | step {i : Nat} {e : N} : Desc D x i → e ∈ ds D i → Desc D x e.ino
theorem Desc.mono {D E : List (List N)} (h : ∀ i e, e ∈ ds D i → e ∈ ds E i) {x y : Nat} (hd : Desc D x y) : Desc E x y := by
  induction hd with
  | refl => exact .refl
  | step _ he ih => exact .step ih (h _ _ he)
theorem Desc.leaf {D : List (List N)} {x y : Nat} (h : ds D x = []) (hd : Desc D x y) : y = x := by
  induction hd with
  | refl => rfl
  | step _ he ih => rw [ih, h] at he; cases he
/-! ### files that are right -/
def bareP (s : ByteArray) : Prop := ∀ c ∈ s.data.toList, ¬ c = 0
instance (s : ByteArray) : Decidable (bareP s) := by unfold bareP; infer_instance
/-- what is in it may be (a directory's names apart) -/
def dataP (n : Nd) : Prop := (n.kind = 1 ∧ n.data.size ≤ 200000) ∨ (n.kind = 3 ∧ 1 ≤ n.data.size ∧ n.data.size ≤ 500 ∧ bareP n.data) ∨ n.kind = 2
def oneP (n : Nd) : Prop := n = Nd.zero ∨ (n.mode ≤ 4095 ∧ n.time < 281474976710656 ∧ 1 ≤ n.links ∧ n.links ≤ 1000 ∧ dataP n)
structure RightD (l : List Nd) (D : List (List N)) : Prop where
  low : 3 ≤ l.length
  high : l.length ≤ 240
  len : D.length = l.length
  z0 : nd l 0 = Nd.zero
  z1 : nd l 1 = Nd.zero
  root : (nd l 2).kind = 2 ∧ (nd l 2).links = 1
  one : ∀ i, i < l.length → oneP (nd l i)
  dir : ∀ i, i < l.length → (nd l i).kind = 2 → DirP (nd l i).data (ds D i)
  non : ∀ i, i < l.length → ¬ (nd l i).kind = 2 → ds D i = []
  range : ∀ i e, e ∈ ds D i → e.ino < l.length ∧ ¬ nd l e.ino = Nd.zero ∧ ¬ e.ino = 2
  each : ∀ i, 3 ≤ i → i < l.length → ¬ nd l i = Nd.zero → cnt D i = (nd l i).links ∧ ((nd l i).kind = 2 → cnt D i = 1) ∧ Desc D 2 i
theorem zero_kind {n : Nd} (h : ¬ n.kind = 0) : ¬ n = Nd.zero := fun e => h (by rw [e]; rfl)
section
variable {l : List Nd} {D : List (List N)}
theorem RightD.at_dir (h : RightD l D) {i : Nat} {e : N} (he : e ∈ ds D i) : i < l.length ∧ (nd l i).kind = 2 := by
  have hi : i < l.length := Classical.byContradiction fun hn => by rw [ds_out (by rw [h.len]; omega)] at he; cases he
  refine ⟨hi, Classical.byContradiction fun hk => ?_⟩
  rw [h.non i hi hk] at he
  cases he
theorem RightD.big (h : RightD l D) {i : Nat} (hn : ¬ nd l i = Nd.zero) : 2 ≤ i ∧ i < l.length := by
  refine ⟨Classical.byContradiction fun hi => ?_, Classical.byContradiction fun hi => hn (nd_out (by omega))⟩
  have : i = 0 ∨ i = 1 := by omega
  rcases this with rfl | rfl
  · exact hn h.z0
  · exact hn h.z1
theorem RightD.reach (h : RightD l D) {i : Nat} (hn : ¬ nd l i = Nd.zero) : Desc D 2 i := by
  obtain ⟨h1, h2⟩ := h.big hn
  by_cases h3 : i = 2
  · rw [h3]; exact .refl
  · exact (h.each i (by omega) h2 hn).2.2
theorem RightD.named (h : RightD l D) {i : Nat} {e : N} (he : e ∈ ds D i) : 3 ≤ e.ino ∧ e.ino < l.length ∧ ¬ nd l e.ino = Nd.zero := by
  obtain ⟨h1, h2, h3⟩ := h.range i e he
  have := (h.big h2).1
  exact ⟨by omega, h1, h2⟩
theorem RightD.fine (h : RightD l D) (i : Nat) : Fine (ds D i) := by
  by_cases hi : i < l.length
  · by_cases hk : (nd l i).kind = 2
    · exact (h.dir i hi hk).1
    · rw [h.non i hi hk]; exact Fine.nil
  · rw [ds_out (by rw [h.len]; omega)]; exact Fine.nil
/-- none is named by nobody -/
theorem RightD.none_cnt (h : RightD l D) {i : Nat} (hz : nd l i = Nd.zero) : cnt D i = 0 := cnt_none.2 fun j e he hi => (h.range j e he).2.1 (by rw [hi]; exact hz)
theorem RightD.root_cnt (h : RightD l D) : cnt D 2 = 0 := cnt_none.2 fun j e he hi => (h.range j e he).2.2 hi
theorem RightD.root_big (h : RightD l D) : ¬ nd l 2 = Nd.zero := zero_kind (by rw [h.root.1]; decide)
/-! ### a node changes, but neither its kind nor its names -/
theorem right_set (h : RightD l D) {i : Nat} (hn : ¬ nd l i = Nd.zero) {n : Nd} (hk : n.kind = (nd l i).kind) (hl : n.links = (nd l i).links) (ho : oneP n) (hz : ¬ n = Nd.zero) (hd : n.kind = 2 → n.data = (nd l i).data) : RightD (l.set i n) D := by
  obtain ⟨hi2, hi⟩ := h.big hn
  have hat : ∀ j, nd (l.set i n) j = if j = i then n else nd l j := nd_set hi n
  have hzz : ∀ j, nd (l.set i n) j = Nd.zero ↔ nd l j = Nd.zero := fun j => by
    rw [hat]
    by_cases hj : j = i
    · rw [if_pos hj, hj]; exact ⟨fun e => absurd e hz, fun e => absurd e hn⟩
    · rw [if_neg hj]
  have hkk : ∀ j, (nd (l.set i n) j).kind = (nd l j).kind ∧ (nd (l.set i n) j).links = (nd l j).links := fun j => by
    rw [hat]
    by_cases hj : j = i
    · rw [if_pos hj, hj]; exact ⟨hk, hl⟩
    · rw [if_neg hj]; exact ⟨rfl, rfl⟩
  have hlen : (l.set i n).length = l.length := List.length_set ..
  refine ⟨by rw [hlen]; exact h.low, by rw [hlen]; exact h.high, by rw [hlen]; exact h.len, (hzz 0).2 h.z0, (hzz 1).2 h.z1, by rw [(hkk 2).1, (hkk 2).2]; exact h.root, fun j hj => ?_, fun j hj hd2 => ?_, fun j hj hd2 => ?_, fun j e he => ?_, fun j h3 hj hjn => ?_⟩
  · rw [hat]
    by_cases hj2 : j = i
    · rw [if_pos hj2]; exact ho
    · rw [if_neg hj2]; exact h.one j (by rw [← hlen]; exact hj)
  · rw [(hkk j).1] at hd2
    have h9 := h.dir j (by rw [← hlen]; exact hj) hd2
    rw [hat]
    by_cases hj2 : j = i
    · subst hj2
      rw [if_pos rfl, hd (by rw [hk]; exact hd2)]
      exact h9
    · rw [if_neg hj2]; exact h9
  · rw [(hkk j).1] at hd2
    exact h.non j (by rw [← hlen]; exact hj) hd2
  · obtain ⟨h1, h2, h3⟩ := h.range j e he
    exact ⟨by rw [hlen]; exact h1, fun hx => h2 ((hzz _).1 hx), h3⟩
  · obtain ⟨h1, h2, h4⟩ := h.each j h3 (by rw [← hlen]; exact hj) (fun hx => hjn ((hzz j).2 hx))
    rw [(hkk j).1, (hkk j).2]
    exact ⟨h1, h2, h4⟩
end
end Go.Proofs.Yteopcjfakhmifaa.Pln
