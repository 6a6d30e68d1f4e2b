/- Plain facts on tables: what is found, what is marked twice, what expires, what stays. They speak of no program. -/
import Derived.Test.YtoedjemelblpaaaCpsBytes0
namespace Go.Proofs.Ytoedjemelblpaaa.Cps
set_option linter.unusedVariables false
set_option linter.unusedSimpArgs false

theorem fnd_mem {L : List C} (h : RightP L) {c : C} (hc : c ∈ L) : fndE L c.cp = 0 ∧ fndC L c.cp = c := by
  obtain ⟨i, hi, rfl⟩ := mem_ck hc
  have e := h.at_eq hi
  obtain ⟨h1, h2, h3⟩ := fnd_yes (cp := (ck L i).cp) h (by omega)
  rw [e] at h3
  exact ⟨h1, h3⟩
theorem fnd_nomem {L : List C} (h : RightP L) {cp : Nat} (hc : ∀ c ∈ L, ¬ c.cp = cp) : fndE L cp = 92 ∧ fndC L cp = C.zero := by
  have e := at_none (L := L) (cp := cp) (fun j hj => hc _ (ck_mem hj))
  obtain ⟨h1, h2, h3⟩ := fnd_none (cp := cp) h (by omega)
  exact ⟨h1, h3⟩
/-! ### marking -/
theorem mark_ck {L : List C} {i : Nat} (hi : i < L.length) (s : Bool) (j : Nat) : (ck (L.set i (markC (ck L i) s)) j).cp = (ck L j).cp ∧ (ck (L.set i (markC (ck L i) s)) j).tick = (ck L j).tick ∧ (ck (L.set i (markC (ck L i) s)) j).root = (ck L j).root := by
  rw [ck_set hi]
  by_cases h : j = i
  · rw [if_pos h, h]; exact ⟨rfl, rfl, rfl⟩
  · rw [if_neg h]; exact ⟨rfl, rfl, rfl⟩
theorem RightP.mark {L : List C} (h : RightP L) {i : Nat} (hi : i < L.length) (s : Bool) : RightP (L.set i (markC (ck L i) s)) := by
  refine ⟨by rw [List.length_set]; exact h.1, fun j hj => ?_⟩
  rw [List.length_set] at hj
  obtain ⟨h1, h2, h3, h4⟩ := h.2 j hj
  obtain ⟨e1, e2, e3⟩ := mark_ck hi s j
  refine ⟨?_, by rw [e1]; exact h2, by rw [e2]; exact h3, by rw [e3]; exact h4⟩
  rw [e1]
  cases j with
  | zero => exact h1
  | succ j =>
    show (ck (L.set i (markC (ck L i) s)) j).cp < _
    rw [(mark_ck hi s j).1]
    exact h1
theorem mark_at {L : List C} {i cp : Nat} (hi : i < L.length) (s : Bool) (hx : at_ L cp = i) : at_ (L.set i (markC (ck L i) s)) cp = i := by
  refine at_of (by rw [List.length_set]; exact hi) (by rw [(mark_ck hi s i).1]; subst hx; exact at_cp hi) fun j hj => ?_
  rw [(mark_ck hi s j).1]
  intro e
  have := at_of (L := L) (cp := cp) (k := at_ L cp) (by omega) (at_cp (by omega)) (fun q hq e2 => by
    have h1 : L.findIdx (fun c => decide (c.cp = cp)) = at_ L cp := rfl
    have h2 := List.not_of_lt_findIdx (p := fun c : C => decide (c.cp = cp)) (xs := L) (i := q) (by rw [h1]; exact hq)
    have e1 := ck_get (L := L) (i := q) (by omega)
    rw [List.getElem?_eq_getElem (by omega)] at e1
    rw [Option.some.inj e1] at h2
    exact absurd (decide_eq_true e2) (by simpa using h2))
  have h1 : L.findIdx (fun c => decide (c.cp = cp)) = at_ L cp := rfl
  have h2 := List.not_of_lt_findIdx (p := fun c : C => decide (c.cp = cp)) (xs := L) (i := j) (by rw [h1, hx]; exact hj)
  have e1 := ck_get (L := L) (i := j) (by omega)
  rw [List.getElem?_eq_getElem (by omega)] at e1
  rw [Option.some.inj e1] at h2
  exact absurd (decide_eq_true e) (by simpa using h2)
theorem mark_twice {L : List C} {cp : Nat} (h : fndE L cp = 0) (a b : Bool) : fndE (mrkV L cp a) cp = 0 ∧ mrkV (mrkV L cp a) cp b = mrkV L cp b := by
  obtain ⟨hr, hi⟩ := fndE_zero.1 h
  have e : ∀ s, mrkV L cp s = L.set (at_ L cp) (markC (ck L (at_ L cp)) s) := fun s => if_pos h
  have ha := mark_at hi a rfl
  have h2 : fndE (mrkV L cp a) cp = 0 := by
    rw [e]
    exact fndE_zero.2 ⟨hr.mark hi a, by rw [ha, List.length_set]; exact hi⟩
  refine ⟨h2, ?_⟩
  unfold mrkV at h2 ⊢
  rw [if_pos h] at h2 ⊢
  rw [if_pos h2, if_pos h, ha, List.set_set, ck_set hi, if_pos rfl]
  rfl
/-! ### expiring -/
theorem last_snoc (L : List C) (z : C) : lastCp (L ++ [z]) = z.cp := by
  unfold lastCp
  rw [List.length_append, List.length_singleton, Nat.add_sub_cancel, ck_last]
theorem keep_last (z : C) (now keep : Nat) : keepB z.cp now keep z = true := by
  unfold keepB dropB
  simp
theorem exp_last (L : List C) (now keep : Nat) : lastCp (L.filter (keepB (lastCp L) now keep)) = lastCp L := by
  rcases List.eq_nil_or_concat L with rfl | ⟨I, z, rfl⟩
  · rfl
  · rw [List.concat_eq_append, last_snoc, List.filter_append, List.filter_cons_of_pos (keep_last z now keep), List.filter_nil, last_snoc]
theorem exp_again {L : List C} (h : RightP L) (now keep : Nat) : RightP (expV L now keep) ∧ expV (expV L now keep) now keep = expV L now keep ∧ expN (expV L now keep) now keep = 0 := by
  have e : expV L now keep = L.filter (keepB (lastCp L) now keep) := if_pos h
  have hr : RightP (expV L now keep) := by rw [e]; exact h.filt _
  have e2 : expV (expV L now keep) now keep = expV L now keep := by
    have e3 : expV (expV L now keep) now keep = (expV L now keep).filter (keepB (lastCp (expV L now keep)) now keep) := if_pos hr
    rw [e3, e, exp_last, List.filter_filter]
    congr 1
    funext c
    simp
  refine ⟨hr, e2, ?_⟩
  unfold expN
  rw [if_pos hr, e2, Nat.sub_self]
theorem exp_len {L : List C} (h : RightP L) (now keep : Nat) : (expV L now keep).length + expN L now keep = L.length := by
  unfold expN
  rw [if_pos h]
  have : (expV L now keep).length ≤ L.length := by unfold expV; rw [if_pos h]; exact filt_le _ _
  omega
/-- snapshots, and the newest, stay -/
theorem exp_stays {L : List C} (h : RightP L) (now keep : Nat) {i : Nat} (hi : i < L.length) (hs : (ck L i).snap = true ∨ i + 1 = L.length) : fndE (expV L now keep) (ck L i).cp = 0 ∧ fndC (expV L now keep) (ck L i).cp = ck L i := by
  have e : expV L now keep = L.filter (keepB (lastCp L) now keep) := if_pos h
  have hm : ck L i ∈ expV L now keep := by
    rw [e, List.mem_filter]
    refine ⟨ck_mem hi, ?_⟩
    unfold keepB dropB
    rcases hs with hs | hs
    · rw [hs]; rfl
    · have : (ck L i).cp = lastCp L := by unfold lastCp; rw [← hs]; rfl
      simp [this]
  exact fnd_mem (exp_again h now keep).1 hm
/-- what is deleted is not found, and all others are -/
theorem del_stays {L : List C} {cp : Nat} (h : delE L cp = 0) {i : Nat} (hi : i < L.length) : ((ck L i).cp = cp → fndE (delV L cp) (ck L i).cp = 92) ∧ (¬ (ck L i).cp = cp → fndE (delV L cp) (ck L i).cp = 0 ∧ fndC (delV L cp) (ck L i).cp = ck L i) := by
  obtain ⟨hr, _⟩ := delE_zero.1 h
  have e : delV L cp = L.filter (othB cp) := if_pos h
  have hrr : RightP (delV L cp) := by rw [e]; exact hr.filt _
  constructor
  · intro h1
    refine (fnd_nomem hrr fun c hc => ?_).1
    rw [e, List.mem_filter] at hc
    have h2 := hc.2
    unfold othB isB at h2
    rw [h1]
    simpa using h2
  · intro h1
    refine fnd_mem hrr ?_
    rw [e, List.mem_filter]
    exact ⟨ck_mem hi, by unfold othB isB; simp [h1]⟩
/-! ### one, and another one behind it -/
theorem add_nil (a : C) : addE [] a = if RightP [a] then 0 else 90 := rfl
theorem right_one {a : C} (h : addE [] a = 0) : RightP [a] := (addE_zero.1 h).2.2
theorem only_exp {a : C} (h : RightP [a]) (now keep : Nat) : expE [a] = 0 ∧ expN [a] now keep = 0 ∧ expV [a] now keep = [a] := by
  have e : expV [a] now keep = [a] := by
    unfold expV
    rw [if_pos h, show lastCp [a] = a.cp from rfl, List.filter_cons_of_pos (keep_last a now keep), List.filter_nil]
  exact ⟨if_pos h, by unfold expN; rw [if_pos h, e]; rfl, e⟩
theorem only_del {a : C} (h : RightP [a]) : delE [a] a.cp = 94 := by
  have hat : at_ [a] a.cp = 0 := h.at_eq (j := 0) (by simp)
  unfold delE
  rw [if_pos (fnd_mem h (by simp)).1, hat]
  rfl
theorem two_exp {a b : C} (h : RightP [a, b]) (now keep : Nat) : expE [a, b] = 0 ∧ expN [a, b] now keep = (if a.snap = false ∧ overP a now keep then 1 else 0) ∧ (expV [a, b] now keep).length = 2 - expN [a, b] now keep := by
  have hl : lastCp [a, b] = b.cp := rfl
  have hne : ¬ a.cp = b.cp := by have := h.lt (i := 0) (j := 1) (by decide) (by simp); exact fun e => by have h2 : a.cp < b.cp := this; omega
  have e : expV [a, b] now keep = if a.snap = false ∧ overP a now keep then [b] else [a, b] := by
    unfold expV
    rw [if_pos h, hl]
    have hb := keep_last b now keep
    by_cases hp : a.snap = false ∧ overP a now keep
    · rw [if_pos hp]
      have : ¬ keepB b.cp now keep a = true := by
        unfold keepB dropB
        simp [hp.1, hne, hp.2]
      rw [List.filter_cons_of_neg this, List.filter_cons_of_pos hb, List.filter_nil]
    · rw [if_neg hp]
      have : keepB b.cp now keep a = true := by
        unfold keepB dropB
        cases hs : a.snap
        · have : ¬ overP a now keep := fun ho => hp ⟨hs, ho⟩
          simp [this]
        · rfl
      rw [List.filter_cons_of_pos this, List.filter_cons_of_pos hb, List.filter_nil]
  refine ⟨if_pos h, ?_, ?_⟩
  · unfold expN
    rw [if_pos h, e]
    by_cases hp : a.snap = false ∧ overP a now keep
    · rw [if_pos hp, if_pos hp]; rfl
    · rw [if_neg hp, if_neg hp]; rfl
  · unfold expN
    rw [if_pos h, e]
    by_cases hp : a.snap = false ∧ overP a now keep
    · rw [if_pos hp]; rfl
    · rw [if_neg hp]; rfl
theorem two_del {a b : C} (h : RightP [a, b]) : (a.snap = true → delE [a, b] a.cp = 93) ∧ (a.snap = false → delE [a, b] a.cp = 0 ∧ delV [a, b] a.cp = [b]) := by
  have hat : at_ [a, b] a.cp = 0 := h.at_eq (j := 0) (by simp)
  have hf : fndE [a, b] a.cp = 0 := (fnd_mem h (c := a) (by simp)).1
  have hne : ¬ b.cp = a.cp := by have := h.lt (i := 0) (j := 1) (by decide) (by simp); exact fun e => by have h2 : a.cp < b.cp := this; omega
  have hE : delE [a, b] a.cp = if a.snap = true then 93 else 0 := by
    unfold delE
    rw [if_pos hf, hat]
    rfl
  constructor
  · intro hs; rw [hE, if_pos hs]
  · intro hs
    have h0 : delE [a, b] a.cp = 0 := by rw [hE, if_neg (by rw [hs]; decide)]
    refine ⟨h0, ?_⟩
    unfold delV
    rw [if_pos h0]
    have h1 : ¬ othB a.cp a = true := by unfold othB isB; simp
    have h2 : othB a.cp b = true := by unfold othB isB; simp [hne]
    rw [List.filter_cons_of_neg h1, List.filter_cons_of_pos h2, List.filter_nil]
end Go.Proofs.Ytoedjemelblpaaa.Cps
