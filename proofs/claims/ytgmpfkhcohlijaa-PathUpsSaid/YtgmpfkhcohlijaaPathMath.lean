/- Paths: what a text is cut into, the parts, and what parts are joined to. They speak of no program. -/
import Derived.Test.YtgmpfkhcohlijaaNameMath
namespace Go.Proofs.Ytgmpfkhcohlijaa.Pth
open Nam
set_option linter.unusedVariables false
set_option linter.unusedSimpArgs false
/-- a list cut at each '/' -/
def cutL : List UInt8 → List (List UInt8)
  | [] => [[]]
  | c :: t => if c = 47 then [] :: cutL t else match cutL t with
    | [] => [[c]]
    | h :: r => (c :: h) :: r
theorem cut_last : ∀ {l : List UInt8}, (∀ c ∈ l, ¬ c = 47) → cutL l = [l]
  | [], _ => rfl
  | c :: t, h => by
    have ih := cut_last (l := t) fun x hx => h x (List.mem_cons_of_mem _ hx)
    rw [cutL, if_neg (h c (List.mem_cons_self ..)), ih]
theorem cut_next : ∀ {l t : List UInt8}, (∀ c ∈ l, ¬ c = 47) → cutL (l ++ 47 :: t) = l :: cutL t
  | [], t, _ => by rw [List.nil_append, cutL, if_pos rfl]
  | c :: r, t, h => by
    have ih := cut_next (l := r) (t := t) fun x hx => h x (List.mem_cons_of_mem _ hx)
    rw [List.cons_append, cutL, if_neg (h c (List.mem_cons_self ..)), ih]
theorem cut_some : ∀ l : List UInt8, ¬ cutL l = []
  | [] => by simp [cutL]
  | c :: t => by
    rw [cutL]
    split
    · simp
    · split <;> simp
/-- how many bytes pieces take, each with a '/' -/
def szP : List ByteArray → Nat
  | [] => 0
  | p :: r => p.size + 1 + szP r
theorem szP_app : ∀ A B : List ByteArray, szP (A ++ B) = szP A + szP B
  | [], B => by simp [szP]
  | p :: r, B => by rw [List.cons_append, szP, szP, szP_app r B]; omega
def toB (l : List UInt8) : ByteArray := ⟨l.toArray⟩
theorem toB_size (l : List UInt8) : (toB l).size = l.length := by simp [toB, ByteArray.size]
def pcs (s : ByteArray) : List ByteArray := (cutL s.data.toList).map toB
theorem szP_cut : ∀ l : List UInt8, szP ((cutL l).map toB) = l.length + 1
  | [] => by simp [cutL, szP, toB_size]
  | c :: t => by
    have ih := szP_cut t
    rw [cutL]
    split
    · simp only [List.map_cons, szP, toB_size, List.length_nil, ih, List.length_cons]; omega
    · cases hc : cutL t with
      | nil => exact absurd hc (cut_some t)
      | cons h r =>
        rw [hc] at ih
        simp only [List.map_cons, szP, toB_size, List.length_cons] at ih ⊢
        omega
def dot : ByteArray := ⟨#[46]⟩
def dots : ByteArray := ⟨#[46, 46]⟩
def slash : ByteArray := ⟨#[47]⟩
/-- one piece, behind parts -/
def stp (o : Option (List ByteArray)) (p : ByteArray) : Option (List ByteArray) := match o with
  | none => none
  | some l => if p = ⟨#[]⟩ ∨ p = dot then some l else if p = dots then some l.dropLast else if nameP p then some (l ++ [p]) else none
def goP (P : List ByteArray) (o : Option (List ByteArray)) : Option (List ByteArray) := P.foldl stp o
theorem goP_none : ∀ P : List ByteArray, goP P none = none
  | [] => rfl
  | p :: r => goP_none r
theorem goP_app (A B : List ByteArray) (o : Option (List ByteArray)) : goP (A ++ B) o = goP B (goP A o) := List.foldl_append ..
theorem goP_cons (p : ByteArray) (B : List ByteArray) (o : Option (List ByteArray)) : goP (p :: B) o = goP B (stp o p) := rfl
theorem name_some {p : ByteArray} (h : nameP p) : ¬ p = ⟨#[]⟩ ∧ ¬ p = dot ∧ ¬ p = dots := ⟨fun e => by have := h.1; rw [e] at this; exact absurd this (by decide), h.2.2.1, h.2.2.2.1⟩
theorem stp_some (l : List ByteArray) (p : ByteArray) : stp (some l) p = if p = ⟨#[]⟩ ∨ p = dot then some l else if p = dots then some l.dropLast else if nameP p then some (l ++ [p]) else none := rfl
theorem stp_name {p : ByteArray} (h : nameP p) (l : List ByteArray) : stp (some l) p = some (l ++ [p]) := by
  obtain ⟨h1, h2, h3⟩ := name_some h
  rw [stp_some, if_neg (fun e => e.elim h1 h2), if_neg h3, if_pos h]
theorem stp_none (l : List ByteArray) : stp (some l) ⟨#[]⟩ = some l := by rw [stp_some, if_pos (Or.inl rfl)]
theorem stp_dots (l : List ByteArray) : stp (some l) dots = some l.dropLast := by
  rw [stp_some, if_neg (by decide), if_pos rfl]
/-- what one step leaves -/
theorem stp_is {l l2 : List ByteArray} {p : ByteArray} (h : stp (some l) p = some l2) (hn : ∀ q ∈ l, nameP q) : (∀ q ∈ l2, nameP q) ∧ szP l2 ≤ szP l + p.size + 1 ∧ (p = ⟨#[]⟩ → l2 = l) := by
  by_cases h1 : p = ⟨#[]⟩ ∨ p = dot
  · have e : some l = some l2 := by rw [← h]; exact (if_pos h1).symm
    cases e
    exact ⟨hn, by omega, fun _ => rfl⟩
  · by_cases h2 : p = dots
    · subst h2
      rw [stp_dots] at h
      cases h
      have hs : szP l.dropLast ≤ szP l := by
        rcases List.eq_nil_or_concat l with e | ⟨t, x, e⟩
        · rw [e]; exact Nat.le_refl _
        · subst e
          rw [List.concat_eq_append, List.dropLast_concat, szP_app]
          omega
      exact ⟨fun q hq => hn q ((List.dropLast_sublist l).mem hq), by omega, fun e => absurd (Or.inl e) h1⟩
    · by_cases h3 : nameP p
      · rw [stp_name h3] at h
        cases h
        refine ⟨fun q hq => ?_, by rw [szP_app]; simp only [szP]; omega, fun e => absurd (Or.inl e) h1⟩
        rcases List.mem_append.1 hq with hq | hq
        · exact hn q hq
        · rw [List.mem_singleton.1 hq]; exact h3
      · exfalso
        have e : (none : Option (List ByteArray)) = some l2 := by
          rw [← h]
          rw [stp_some, if_neg h1, if_neg h2, if_neg h3]
        cases e
theorem goP_is : ∀ (P : List ByteArray) {l l2 : List ByteArray}, goP P (some l) = some l2 → (∀ q ∈ l, nameP q) → (∀ q ∈ l2, nameP q) ∧ szP l2 ≤ szP l + szP P
  | [], l, l2, h, hn => by cases h; exact ⟨hn, by omega⟩
  | p :: r, l, l2, h, hn => by
    rw [goP_cons] at h
    cases hs : stp (some l) p with
    | none => rw [hs, goP_none] at h; cases h
    | some l1 =>
      rw [hs] at h
      obtain ⟨a1, a2, _⟩ := stp_is hs hn
      obtain ⟨b1, b2⟩ := goP_is r h a1
      exact ⟨b1, by simp only [szP]; omega⟩
theorem goP_names : ∀ (P l : List ByteArray), (∀ q ∈ P, nameP q) → goP P (some l) = some (l ++ P)
  | [], l, _ => by simp [goP]
  | p :: r, l, h => by
    rw [goP_cons, stp_name (h p (List.mem_cons_self ..)), goP_names r _ fun q hq => h q (List.mem_cons_of_mem _ hq), List.append_assoc]
    rfl
def pathP (s : ByteArray) : Prop := s.size ≤ 1000 ∧ 0 < s.size ∧ sb s 0 = 47
instance (s : ByteArray) : Decidable (pathP s) := by unfold pathP; infer_instance
/-- at most forty parts -/
def few (o : Option (List ByteArray)) : Option (List ByteArray) := match o with
  | some l => if l.length ≤ 40 then some l else none
  | none => none
theorem few_some {o : Option (List ByteArray)} {l : List ByteArray} (h : few o = some l) : o = some l ∧ l.length ≤ 40 := by
  cases o with
  | none => cases h
  | some k =>
    unfold few at h
    simp only at h
    split at h
    · cases h; exact ⟨rfl, by assumption⟩
    · cases h
/-- the parts of a path -/
def splitD (s : ByteArray) : Option (List ByteArray) := if pathP s then few (goP (pcs s) (some [])) else none
theorem split_some {s : ByteArray} {l : List ByteArray} (h : splitD s = some l) : pathP s ∧ goP (pcs s) (some []) = some l ∧ l.length ≤ 40 := by
  unfold splitD at h
  split at h
  · exact ⟨by assumption, few_some h⟩
  · cases h
/-- parts, each behind a '/' -/
def joinS : List ByteArray → ByteArray
  | [] => ⟨#[]⟩
  | p :: r => (slash ++ p) ++ joinS r
theorem joinS_size : ∀ L : List ByteArray, (joinS L).size = szP L
  | [] => rfl
  | p :: r => by rw [joinS, ByteArray.size_append, ByteArray.size_append, joinS_size r, szP]; show 1 + p.size + _ = _; omega
theorem joinS_app : ∀ A B : List ByteArray, joinS (A ++ B) = joinS A ++ joinS B
  | [], B => by rw [List.nil_append, joinS, none_app]
  | p :: r, B => by rw [List.cons_append, joinS, joinS, joinS_app r B, ← ByteArray.append_assoc]
theorem joinS_none {L : List ByteArray} : joinS L = ⟨#[]⟩ ↔ L = [] := by
  constructor
  · intro h
    cases L with
    | nil => rfl
    | cons p r =>
      have := joinS_size (p :: r)
      rw [h] at this
      simp only [szP] at this
      exact absurd this.symm (by show ¬ _ = 0; omega)
  · intro h; rw [h]; rfl
/-- the path of parts -/
def fitJ (L : List ByteArray) : Prop := L.length ≤ 40 ∧ (∀ p ∈ L, nameP p) ∧ szP L ≤ 1000
def outJ (L : List ByteArray) : ByteArray := if L = [] then slash else joinS L
theorem name_free {p : ByteArray} (h : nameP p) : ∀ c ∈ p.data.toList, ¬ c = 47 := by
  intro c hc e
  obtain ⟨i, hi, he⟩ := List.getElem_of_mem hc
  have hs : i < p.size := by rw [Array.length_toList] at hi; exact hi
  refine (h.2.2.2.2 i hs).2 ?_
  unfold sb
  rw [List.getElem?_eq_getElem hi, he, e]
  rfl
theorem toB_data (p : ByteArray) : toB p.data.toList = p := by unfold toB; rw [Array.toArray_toList]
theorem app_list (a b : ByteArray) : (a ++ b).data.toList = a.data.toList ++ b.data.toList := by rw [ByteArray.data_append, Array.toList_append]
theorem pcs_slash (s : ByteArray) : pcs (slash ++ s) = ⟨#[]⟩ :: pcs s := by
  unfold pcs
  rw [app_list]
  show (cutL (47 :: s.data.toList)).map toB = _
  rw [cutL, if_pos rfl, List.map_cons]
  rfl
theorem pcs_name {p : ByteArray} (h : nameP p) (s : ByteArray) : pcs (p ++ (slash ++ s)) = p :: pcs s := by
  unfold pcs
  rw [app_list, app_list]
  show (cutL (p.data.toList ++ 47 :: s.data.toList)).map toB = _
  rw [cut_next (name_free h), List.map_cons, toB_data]
theorem pcs_one {p : ByteArray} (h : nameP p) : pcs p = [p] := by
  unfold pcs
  rw [cut_last (name_free h), List.map_cons, List.map_nil, toB_data]
theorem app_none (s : ByteArray) : s ++ (⟨#[]⟩ : ByteArray) = s := ba_ext (by rw [app_list]; exact List.append_nil _)
theorem pcs_run : ∀ (L : List ByteArray) (p : ByteArray), nameP p → (∀ q ∈ L, nameP q) → pcs (p ++ joinS L) = p :: L
  | [], p, hp, _ => by rw [joinS, app_none, pcs_one hp]
  | q :: r, p, hp, h => by
    rw [joinS, ByteArray.append_assoc, pcs_name hp, pcs_run r q (h q (List.mem_cons_self ..)) fun x hx => h x (List.mem_cons_of_mem _ hx)]
theorem pcs_join {L : List ByteArray} (h : ∀ q ∈ L, nameP q) (h0 : ¬ L = []) : pcs (joinS L) = ⟨#[]⟩ :: L := by
  cases L with
  | nil => exact absurd rfl h0
  | cons q r => rw [joinS, ByteArray.append_assoc, pcs_slash, pcs_run r q (h q (List.mem_cons_self ..)) fun x hx => h x (List.mem_cons_of_mem _ hx)]
theorem pathP_slash {s : ByteArray} (h : s.size ≤ 999) : pathP (slash ++ s) := by
  have hz : (slash ++ s).size = 1 + s.size := by rw [ByteArray.size_append]; rfl
  refine ⟨by omega, by omega, ?_⟩
  unfold sb
  rw [app_list]
  rfl
/-- a path's first byte, and what is behind it -/
theorem path_open {s : ByteArray} (h : pathP s) : ∃ t, s = slash ++ t := by
  obtain ⟨_, h1, h2⟩ := h
  cases hl : s.data.toList with
  | nil =>
    have : s.size = s.data.toList.length := by rw [Array.length_toList]; rfl
    rw [hl] at this
    have h9 : s.size = 0 := this
    omega
  | cons c r =>
    refine ⟨toB r, ba_ext ?_⟩
    unfold sb at h2
    rw [hl] at h2
    have hc : c = 47 := by
      apply UInt8.toNat_inj.1
      exact h2
    rw [app_list, hl, hc]
    rfl
theorem outJ_size (L : List ByteArray) : (outJ L).size = max 1 (szP L) := by
  unfold outJ
  split
  · rename_i h; rw [h]; rfl
  · rename_i h
    rw [joinS_size]
    cases L with
    | nil => exact absurd rfl h
    | cons p r => simp only [szP]; omega
/-- what was joined is split as it was -/
theorem split_join {L : List ByteArray} (h : fitJ L) : splitD (outJ L) = some L := by
  obtain ⟨h1, h2, h3⟩ := h
  have hp : pathP (outJ L) ∧ goP (pcs (outJ L)) (some []) = some L := by
    unfold outJ
    split
    · rename_i e
      rw [e]
      exact ⟨by decide, by decide⟩
    · rename_i e
      refine ⟨?_, ?_⟩
      · cases L with
        | nil => exact absurd rfl e
        | cons q r =>
          rw [joinS, ByteArray.append_assoc]
          refine pathP_slash ?_
          rw [ByteArray.size_append, joinS_size]
          simp only [szP] at h3
          omega
      · rw [pcs_join h2 e, goP_cons, stp_none, goP_names _ _ h2, List.nil_append]
  unfold splitD
  rw [if_pos hp.1, hp.2]
  exact if_pos h1
/-- what was split can be joined -/
theorem join_split {s : ByteArray} {L : List ByteArray} (h : splitD s = some L) : fitJ L ∧ (outJ L).size ≤ max 1 s.size := by
  obtain ⟨h1, h2, h3⟩ := split_some h
  obtain ⟨t, e⟩ := path_open h1
  have hz : s.size = 1 + t.size := by rw [e, ByteArray.size_append]; rfl
  rw [e, pcs_slash, goP_cons, stp_none] at h2
  obtain ⟨n1, n2⟩ := goP_is (pcs t) h2 (fun q hq => by cases hq)
  have n3 : szP (pcs t) = t.size + 1 := by
    unfold pcs
    rw [szP_cut, Array.length_toList]
    rfl
  have n4 : szP L ≤ s.size := by
    simp only [szP] at n2
    omega
  refine ⟨⟨h3, n1, by have := h1.1; omega⟩, by rw [outJ_size]; omega⟩
def up : ByteArray := ⟨#[47, 46, 46, 47]⟩
/-- a part, and the one up, take each other back -/
theorem split_up {p s : ByteArray} (h : nameP p) (hs : s.size ≤ 500) : splitD (((slash ++ p) ++ up) ++ s) = splitD (slash ++ s) := by
  have hp := h.2.1
  have hu : up = slash ++ (dots ++ slash) := by decide
  have e1 : ((slash ++ p) ++ up) ++ s = slash ++ (p ++ (slash ++ (dots ++ (slash ++ s)))) := by
    rw [hu]
    simp only [ByteArray.append_assoc]
  have hd : pcs (dots ++ (slash ++ s)) = dots :: pcs s := by
    unfold pcs
    rw [app_list, app_list]
    show (cutL (dots.data.toList ++ 47 :: s.data.toList)).map toB = _
    rw [cut_next (by decide), List.map_cons, toB_data]
  have hpa : pathP (slash ++ (p ++ (slash ++ (dots ++ (slash ++ s))))) := by
    refine pathP_slash ?_
    simp only [ByteArray.size_append]
    have h1 : slash.size = 1 := rfl
    have h2 : dots.size = 2 := rfl
    omega
  unfold splitD
  rw [e1, if_pos hpa, if_pos (pathP_slash (by omega)), pcs_slash, pcs_slash, pcs_name h, hd]
  simp only [goP_cons, stp_none, stp_name h, stp_dots]
  rfl
/-- parts of two paths, one behind the other -/
theorem join_two {A B : List ByteArray} (hA : fitJ A) (hB : fitJ B) (a0 : ¬ A = []) (b0 : ¬ B = []) (hl : A.length + B.length ≤ 40) (hs : (outJ A).size + (outJ B).size ≤ 1000) : fitJ (A ++ B) ∧ outJ (A ++ B) = outJ A ++ outJ B := by
  rw [outJ_size, outJ_size] at hs
  refine ⟨⟨by rw [List.length_append]; exact hl, fun p hp => ?_, by rw [szP_app]; omega⟩, ?_⟩
  · rcases List.mem_append.1 hp with h | h
    · exact hA.2.1 p h
    · exact hB.2.1 p h
  · unfold outJ
    rw [if_neg a0, if_neg b0, if_neg (fun e => a0 (List.append_eq_nil_iff.1 e).1), joinS_app]
end Go.Proofs.Ytgmpfkhcohlijaa.Pth
