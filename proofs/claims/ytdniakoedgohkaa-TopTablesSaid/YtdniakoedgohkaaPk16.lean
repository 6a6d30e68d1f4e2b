/- Several texts in one, each under its own heading. -/
import Derived.Test.YtdniakoedgohkaaRows
import Derived.StillTailTactics
import Derived.Deep.RegionWith
import Derived.Deep.RegionHeld3
import Derived.BigQuiet
import Derived.Handy
import Derived.Laws.StructEq
import Derived.Laws.AppendOwnNone
import Derived.Deep.AppendLies
import Derived.Lib.SliceRun
import Derived.Test.YtdniakoedgohkaaPk01
/- Plain facts: places of a table, which tables are right, which number is the lowest free one, which ones live. They speak of no program. -/
namespace Go.Proofs.Ytdniakoedgohkaa.Dat
set_option linter.unusedVariables false

/-- a place of a table -/
structure T where
  phys : Nat
  start : Nat
  fin : Nat
theorem T.ext' {a b : T} (h1 : a.phys = b.phys) (h2 : a.start = b.start) (h3 : a.fin = b.fin) : a = b := by
  cases a; cases b; simp_all
instance : DecidableEq T := fun a b => if h : a.phys = b.phys ∧ a.start = b.start ∧ a.fin = b.fin then isTrue (T.ext' h.1 h.2.1 h.2.2) else isFalse fun e => h (by rw [e]; exact ⟨rfl, rfl, rfl⟩)
def T.zero : T := ⟨0, 0, 0⟩
/-- numbers of their types -/
def TOk (t : T) : Prop := t.phys < 4294967296 ∧ t.start < 18446744073709551616 ∧ t.fin < 18446744073709551616
def isCpP (n : Nat) : Prop := 1 ≤ n ∧ n < 281474976710656
def standsP (t : T) : Prop := (16 ≤ t.phys ∧ t.phys < 4096) ∧ isCpP t.start ∧ (t.fin = 0 ∨ t.start < t.fin ∧ isCpP t.fin)
instance (n : Nat) : Decidable (isCpP n) := by unfold isCpP; infer_instance
instance (t : T) : Decidable (standsP t) := by unfold standsP; infer_instance
def oneP (t : T) : Prop := t = T.zero ∨ standsP t
instance (t : T) : Decidable (oneP t) := by unfold oneP; infer_instance
theorem zero_one : oneP T.zero := .inl rfl
theorem standsP.not_zero {t : T} (h : standsP t) : ¬ t = T.zero := fun e => by rw [e] at h; have := h.1.1; simp [T.zero] at this
/-- the i-th one -/
def tr (L : List T) (i : Nat) : T := L.getD i T.zero
theorem tr_get {L : List T} {i : Nat} (h : i < L.length) : L[i]? = some (tr L i) := by
  unfold tr
  rw [List.getD_eq_getElem?_getD, List.getElem?_eq_getElem h]
  rfl
theorem tr_elem {L : List T} {i : Nat} (h : i < L.length) : L[i] = tr L i := by
  have := tr_get h
  rw [List.getElem?_eq_getElem h] at this
  simpa using this
theorem tr_out {L : List T} {i : Nat} (h : L.length ≤ i) : tr L i = T.zero := by
  unfold tr
  rw [List.getD_eq_getElem?_getD, List.getElem?_eq_none h]
  rfl
theorem tr_mem {L : List T} {i : Nat} (h : i < L.length) : tr L i ∈ L := List.mem_of_getElem? (tr_get h)
theorem mem_tr {L : List T} {s : T} (h : s ∈ L) : ∃ i, i < L.length ∧ tr L i = s := by
  obtain ⟨i, hi⟩ := List.getElem?_of_mem h
  have hl := (List.getElem?_eq_some_iff.1 hi).1
  rw [tr_get hl] at hi
  exact ⟨i, hl, by simpa using hi⟩
theorem tr_ext {L M : List T} (hl : L.length = M.length) (h : ∀ i, i < L.length → tr L i = tr M i) : L = M := by
  apply List.ext_getElem?
  intro i
  rcases Nat.lt_or_ge i L.length with hi | hi
  · rw [tr_get hi, tr_get (hl ▸ hi), h i hi]
  · rw [List.getElem?_eq_none hi, List.getElem?_eq_none (hl ▸ hi)]
theorem tr_set {L : List T} {i j : Nat} (s : T) (hi : i < L.length) : tr (L.set i s) j = if j = i then s else tr L j := by
  unfold tr
  rw [List.getD_eq_getElem?_getD, List.getD_eq_getElem?_getD, List.getElem?_set]
  by_cases h : i = j
  · subst h; simp [hi]
  · rw [if_neg h, if_neg (fun e => h e.symm)]
theorem tr_take {L : List T} {i k : Nat} (h : i < k) : tr (L.take k) i = tr L i := by
  unfold tr
  rw [List.getD_eq_getElem?_getD, List.getD_eq_getElem?_getD, List.getElem?_take, if_pos h]
theorem tr_drop (L : List T) (i k : Nat) : tr (L.drop k) i = tr L (k + i) := by
  unfold tr
  rw [List.getD_eq_getElem?_getD, List.getD_eq_getElem?_getD, List.getElem?_drop]
theorem tr_map {L : List T} (f : T → T) (hf : f T.zero = T.zero) (i : Nat) : tr (L.map f) i = f (tr L i) := by
  unfold tr
  rw [List.getD_eq_getElem?_getD, List.getD_eq_getElem?_getD, List.getElem?_map]
  cases L[i]? <;> simp [hf]

def AllOk (L : List T) : Prop := ∀ t ∈ L, TOk t
theorem AllOk.at {L : List T} (h : AllOk L) (i : Nat) : TOk (tr L i) := by
  rcases Nat.lt_or_ge i L.length with hi | hi
  · exact h _ (tr_mem hi)
  · rw [tr_out hi]; unfold TOk T.zero; decide
theorem AllOk.take {L : List T} (h : AllOk L) (k : Nat) : AllOk (L.take k) := fun t ht => h t (List.mem_of_mem_take ht)

def AllOne (L : List T) : Prop := ∀ t ∈ L, oneP t
instance (L : List T) : Decidable (AllOne L) := by unfold AllOne; infer_instance
def RightP (L : List T) : Prop := (1 ≤ L.length ∧ L.length ≤ 1860) ∧ tr L 0 = T.zero ∧ AllOne L
instance (L : List T) : Decidable (RightP L) := by unfold RightP; infer_instance
theorem RightP.one {L : List T} (h : RightP L) (i : Nat) : oneP (tr L i) := by
  rcases Nat.lt_or_ge i L.length with hi | hi
  · exact h.2.2 _ (tr_mem hi)
  · rw [tr_out hi]; exact zero_one
theorem RightP.stands {L : List T} (h : RightP L) {i : Nat} (hi : ¬ tr L i = T.zero) : standsP (tr L i) := (h.one i).resolve_left hi
theorem rightP_of {L : List T} (h1 : 1 ≤ L.length) (h2 : L.length ≤ 1860) (h3 : tr L 0 = T.zero) (h4 : ∀ i, i < L.length → oneP (tr L i)) : RightP L :=
  ⟨⟨h1, h2⟩, h3, fun t ht => by obtain ⟨i, hi, rfl⟩ := mem_tr ht; exact h4 i hi⟩

/-! ### those that are not free -/
def usedP (L : List T) (i : Nat) : Prop := ¬ tr L i = T.zero
instance (L : List T) (i : Nat) : Decidable (usedP L i) := by unfold usedP; infer_instance
def cand (L : List T) (k : Nat) : List Nat := (List.range k).filter fun i => decide (usedP L i)
theorem cand_zero (L : List T) : cand L 0 = [] := rfl
theorem cand_succ (L : List T) (k : Nat) : cand L (k + 1) = cand L k ++ if usedP L k then [k] else [] := by
  unfold cand
  rw [List.range_succ, List.filter_append]
  by_cases h : usedP L k <;> simp [h]
theorem cand_mem {L : List T} {k i : Nat} (h : i ∈ cand L k) : i < k ∧ usedP L i := by
  unfold cand at h
  rw [List.mem_filter, List.mem_range] at h
  exact ⟨h.1, of_decide_eq_true h.2⟩
theorem mem_cand {L : List T} {k i : Nat} (h : i < k) (ho : usedP L i) : i ∈ cand L k := by
  unfold cand
  rw [List.mem_filter, List.mem_range]
  exact ⟨h, by simpa using ho⟩
theorem cand_prefix (L : List T) {k n : Nat} (h : k ≤ n) : (cand L n).take (cand L k).length = cand L k := by
  obtain ⟨m, rfl⟩ : ∃ m, n = k + m := ⟨n - k, by omega⟩
  clear h
  induction m with
  | zero => simp
  | succ m ih =>
    rw [← Nat.add_assoc, cand_succ, List.take_append_of_le_length, ih]
    have := congrArg List.length ih
    rw [List.length_take] at this
    omega
theorem cand_at {L : List T} {k n : Nat} (h : k < n) (ho : usedP L k) : (cand L n)[(cand L k).length]? = some k := by
  have h1 := cand_prefix L (show k + 1 ≤ n from h)
  rw [cand_succ, if_pos ho] at h1
  have h2 : ((cand L n).take (cand L k ++ [k]).length)[(cand L k).length]? = (cand L k ++ [k])[(cand L k).length]? := by rw [h1]
  rw [List.getElem?_take, List.length_append, List.length_singleton, if_pos (by omega)] at h2
  rw [h2]
  simp
theorem cand_sorted (L : List T) (k : Nat) : (cand L k).Pairwise (· < ·) := List.Pairwise.filter _ List.pairwise_lt_range
theorem cand_le (L : List T) (k : Nat) : (cand L k).length ≤ k := by
  have := List.length_filter_le (fun i => decide (usedP L i)) (List.range k)
  rw [List.length_range] at this
  exact this
def cnd (L : List T) : List Nat := cand L L.length
def ix (L : List T) (k : Nat) : Nat := (cnd L).getD k 0
theorem ix_get {L : List T} {k : Nat} (h : k < (cnd L).length) : (cnd L)[k] = ix L k := by
  unfold ix
  rw [List.getD_eq_getElem?_getD, List.getElem?_eq_getElem h]
  rfl
theorem ix_mem {L : List T} {k : Nat} (h : k < (cnd L).length) : ix L k ∈ cnd L := by
  rw [← ix_get h]
  exact List.getElem_mem h
theorem ix_ok {L : List T} {k : Nat} (h : k < (cnd L).length) : ix L k < L.length ∧ usedP L (ix L k) := cand_mem (ix_mem h)
theorem ix_lt {L : List T} {j k : Nat} (h : j < k) (hk : k < (cnd L).length) : ix L j < ix L k := by
  rw [← ix_get hk, ← ix_get (show j < (cnd L).length by omega)]
  exact List.pairwise_iff_getElem.1 (cand_sorted L L.length) j k (Nat.lt_trans h hk) hk h
theorem ix_at {L : List T} {k : Nat} (hk : k < L.length) (ho : usedP L k) : ix L (cand L k).length = k ∧ (cand L k).length < (cnd L).length := by
  have h := cand_at (L := L) hk ho
  refine ⟨?_, (List.getElem?_eq_some_iff.1 h).1⟩
  unfold ix cnd
  rw [List.getD_eq_getElem?_getD, h]
  rfl
theorem take_ix {L : List T} {k : Nat} (h : k < (cnd L).length) : (cnd L).take (k + 1) = (cnd L).take k ++ [ix L k] := by
  unfold ix
  rw [List.take_add_one, List.getD_eq_getElem?_getD, List.getElem?_eq_getElem h]
  rfl

/-! ### the lowest free one -/
def LowP (L : List T) (n : Nat) : Prop := 1 ≤ n ∧ n ≤ L.length ∧ (∀ j, 1 ≤ j → j < n → usedP L j) ∧ (n < L.length → tr L n = T.zero)
theorem LowP.unique {L : List T} {n m : Nat} (h : LowP L n) (k : LowP L m) : n = m := by
  rcases Nat.lt_trichotomy n m with hh | hh | hh
  · exact absurd (h.2.2.2 (by have := k.2.1; omega)) (k.2.2.1 n h.1 hh)
  · exact hh
  · exact absurd (k.2.2.2 (by have := h.2.1; omega)) (h.2.2.1 m k.1 hh)
def pre (M : List T) : Nat := (M.takeWhile fun t => decide (¬ t = T.zero)).length
theorem pre_spec : ∀ M : List T, pre M ≤ M.length ∧ (∀ j, j < pre M → ¬ tr M j = T.zero) ∧ (pre M < M.length → tr M (pre M) = T.zero)
  | [] => ⟨Nat.le_refl _, fun j hj => by simp [pre] at hj, fun h => by simp [pre] at h⟩
  | t :: M => by
    obtain ⟨h1, h2, h3⟩ := pre_spec M
    by_cases ht : t = T.zero
    · have e : pre (t :: M) = 0 := by unfold pre; rw [List.takeWhile_cons_of_neg (by simp [ht])]; rfl
      rw [e]
      exact ⟨Nat.zero_le _, fun j hj => by omega, fun _ => ht⟩
    · have e : pre (t :: M) = pre M + 1 := by unfold pre; rw [List.takeWhile_cons_of_pos (by simp [ht])]; rfl
      rw [e]
      refine ⟨by simp; omega, fun j hj => ?_, fun h => ?_⟩
      · cases j with
        | zero => exact ht
        | succ j => exact h2 j (by omega)
      · exact h3 (by simp at h; omega)
def low (L : List T) : Nat := 1 + pre (L.drop 1)
theorem low_spec {L : List T} (h : 1 ≤ L.length) : LowP L (low L) := by
  obtain ⟨h1, h2, h3⟩ := pre_spec (L.drop 1)
  rw [List.length_drop] at h1 h3
  unfold low
  refine ⟨by omega, by omega, fun j hj1 hj2 => ?_, fun hh => ?_⟩
  · have := h2 (j - 1) (by omega)
    rw [tr_drop, show 1 + (j - 1) = j by omega] at this
    exact this
  · have := h3 (by omega)
    rwa [tr_drop] at this
theorem low_eq {L : List T} {n : Nat} (h : LowP L n) : n = low L := h.unique (low_spec (by have := h.1; have := h.2.1; omega))
theorem low_le {L : List T} (h : 1 ≤ L.length) : 1 ≤ low L ∧ low L ≤ L.length := ⟨(low_spec h).1, (low_spec h).2.1⟩
theorem low_free {L : List T} (h : 1 ≤ L.length) : tr L (low L) = T.zero := by
  rcases Nat.lt_or_ge (low L) L.length with hl | hl
  · exact (low_spec h).2.2.2 hl
  · exact tr_out hl
theorem cand_len {L : List T} (h0 : tr L 0 = T.zero) : ∀ k, (∀ j, 1 ≤ j → j ≤ k → usedP L j) → (cand L (k + 1)).length = k
  | 0, _ => by rw [cand_succ, if_neg (fun h => h h0)]; rfl
  | k + 1, h => by
    rw [cand_succ, if_pos (h (k + 1) (by omega) (Nat.le_refl _)), List.length_append, cand_len h0 k (fun j h1 h2 => h j h1 (by omega))]
    rfl
/-- what a search through those that are not free comes to -/
theorem low_of {L : List T} (h0 : tr L 0 = T.zero) (hl : 1 ≤ L.length) {k : Nat} (hk : k ≤ (cnd L).length) (hp : ∀ j, j < k → ix L j = j + 1) (he : k < (cnd L).length → k + 1 < ix L k) : k + 1 = low L := by
  have hu : ∀ j, 1 ≤ j → j ≤ k → usedP L j ∧ j < L.length := fun j h1 h2 => by
    have := ix_ok (L := L) (k := j - 1) (by omega)
    rw [hp (j - 1) (by omega), show j - 1 + 1 = j by omega] at this
    exact ⟨this.2, this.1⟩
  refine low_eq ⟨by omega, ?_, fun j h1 h2 => (hu j h1 (by omega)).1, fun hlt => ?_⟩
  · rcases Nat.eq_zero_or_pos k with rfl | hk0
    · omega
    · have := (hu k hk0 (Nat.le_refl _)).2; omega
  · by_cases hz : tr L (k + 1) = T.zero
    · exact hz
    · have hc := cand_len h0 k (fun j h1 h2 => (hu j h1 h2).1)
      obtain ⟨h1, h2⟩ := ix_at (L := L) hlt hz
      rw [hc] at h1 h2
      have := he h2
      omega
theorem low_next {L : List T} (h0 : tr L 0 = T.zero) {k : Nat} (hk : k < (cnd L).length) (hp : ∀ j, j < k → ix L j = j + 1) (he : ¬ k + 1 < ix L k) : ix L k = k + 1 := by
  have h1 : ¬ ix L k = 0 := fun e => (ix_ok hk).2 (by rw [e]; exact h0)
  rcases Nat.eq_zero_or_pos k with rfl | hk0
  · omega
  · have := ix_lt (L := L) (j := k - 1) (by omega) hk
    rw [hp (k - 1) (by omega)] at this
    omega

/-! ### a table with a place another one -/
def putAt (L : List T) (i : Nat) (t : T) : List T := if i < L.length then L.set i t else L ++ [t]
theorem putAt_length (L : List T) {i : Nat} (hi : i ≤ L.length) (t : T) : (putAt L i t).length = max L.length (i + 1) := by
  unfold putAt
  split <;> simp <;> omega
theorem tr_putAt (L : List T) {i : Nat} (hi : i ≤ L.length) (t : T) (j : Nat) : tr (putAt L i t) j = if j = i then t else tr L j := by
  unfold putAt
  split
  · exact tr_set t (by assumption)
  · have e : i = L.length := by omega
    subst e
    unfold tr
    rw [List.getD_eq_getElem?_getD, List.getD_eq_getElem?_getD, List.getElem?_append]
    by_cases h : j < L.length
    · rw [if_pos h, if_neg (by omega)]
    · rw [if_neg h]
      by_cases h2 : j = L.length
      · subst h2; simp
      · rw [if_neg h2, List.getElem?_eq_none (by simp; omega), List.getElem?_eq_none (by omega)]
theorem putAt_right {L : List T} (h : RightP L) {i : Nat} (h1 : 1 ≤ i) (hi : i ≤ L.length) (h2 : i < 1860) (t : T) : RightP (putAt L i t) ↔ oneP t := by
  have hlen := putAt_length L hi t
  constructor
  · intro hr
    have := hr.one i
    rw [tr_putAt L hi, if_pos rfl] at this
    exact this
  · intro ht
    refine rightP_of (by omega) (by have := h.1; omega) (by rw [tr_putAt L hi, if_neg (by omega)]; exact h.2.1) (fun j hj => ?_)
    rw [tr_putAt L hi]
    split
    · exact ht
    · exact h.one j
theorem putAt_ok {L : List T} (h : AllOk L) {i : Nat} (hi : i ≤ L.length) {t : T} (ht : TOk t) : AllOk (putAt L i t) := fun s hs => by
  obtain ⟨j, hj, rfl⟩ := mem_tr hs
  rw [tr_putAt L hi]
  split
  · exact ht
  · exact h.at j

/-! ### what Begin, Move, End answer -/
def begOk (L : List T) (ph cp : Nat) : Prop := RightP L ∧ ¬ low L = 1860 ∧ standsP ⟨ph, cp, 0⟩
instance (L : List T) (ph cp : Nat) : Decidable (begOk L ph cp) := by unfold begOk; infer_instance
def begV (L : List T) (ph cp : Nat) : List T := if begOk L ph cp then putAt L (low L) ⟨ph, cp, 0⟩ else []
def begI (L : List T) (ph cp : Nat) : Nat := if begOk L ph cp then low L else 0
def begE (L : List T) (ph cp : Nat) : Int := if RightP L then (if low L = 1860 then 81 else if standsP ⟨ph, cp, 0⟩ then 0 else 80) else 80
theorem begE_ok {L : List T} {ph cp : Nat} : begE L ph cp = 0 ↔ begOk L ph cp := by
  unfold begE begOk
  by_cases h1 : RightP L
  · by_cases h2 : low L = 1860
    · simp [h1, h2]
    · by_cases h3 : standsP ⟨ph, cp, 0⟩ <;> simp [h1, h2, h3]
  · simp [h1]
/-- is a number a place that is not free? -/
def hasP (L : List T) (v : Nat) : Prop := v < L.length ∧ usedP L v
instance (L : List T) (v : Nat) : Decidable (hasP L v) := by unfold hasP; infer_instance
theorem hasP_iff {L : List T} {v : Nat} : hasP L v ↔ usedP L v := ⟨fun h => h.2, fun h => ⟨by
  rcases Nat.lt_or_ge v L.length with hi | hi
  · exact hi
  · exact absurd (tr_out hi) h, h⟩⟩
def findE (L : List T) (v : Nat) : Int := if RightP L then (if hasP L v then 0 else 82) else 80
def findT (L : List T) (v : Nat) : T := if RightP L ∧ hasP L v then tr L v else T.zero
def movT (L : List T) (v ph : Nat) : T := ⟨ph, (tr L v).start, (tr L v).fin⟩
def movOk (L : List T) (v ph : Nat) : Prop := RightP L ∧ hasP L v ∧ standsP (movT L v ph)
instance (L : List T) (v ph : Nat) : Decidable (movOk L v ph) := by unfold movOk; infer_instance
def movV (L : List T) (v ph : Nat) : List T := if movOk L v ph then L.set v (movT L v ph) else []
def movE (L : List T) (v ph : Nat) : Int := if RightP L then (if hasP L v then (if standsP (movT L v ph) then 0 else 80) else 82) else 80
/-- what stands at a number that ends -/
def endT (L : List T) (v cp : Nat) : T := if cp = (tr L v).start then T.zero else ⟨(tr L v).phys, (tr L v).start, cp⟩
def endOk (L : List T) (v cp : Nat) : Prop := RightP L ∧ hasP L v ∧ (tr L v).fin = 0 ∧ ¬ cp = 0 ∧ oneP (endT L v cp)
instance (L : List T) (v cp : Nat) : Decidable (endOk L v cp) := by unfold endOk; infer_instance
def endV (L : List T) (v cp : Nat) : List T := if endOk L v cp then L.set v (endT L v cp) else []
def endE (L : List T) (v cp : Nat) : Int := if RightP L then (if hasP L v ∧ (tr L v).fin = 0 then (if ¬ cp = 0 ∧ oneP (endT L v cp) then 0 else 80) else 82) else 80

/-! ### what lives, what is swept -/
def livesP (t : T) (C : List Int) : Prop := ¬ t = T.zero ∧ (t.fin = 0 ∨ ∃ c ∈ C, (t.start : Int) ≤ c ∧ c < (t.fin : Int))
instance (t : T) (C : List Int) : Decidable (livesP t C) := by unfold livesP; infer_instance
def sw (C : List Int) (t : T) : T := if livesP t C then t else T.zero
theorem sw_zero (C : List Int) : sw C T.zero = T.zero := if_neg (fun h => h.1 rfl)
def swp (L : List T) (C : List Int) : List T := L.map (sw C)
theorem swp_length (L : List T) (C : List Int) : (swp L C).length = L.length := List.length_map _
theorem tr_swp (L : List T) (C : List Int) (i : Nat) : tr (swp L C) i = sw C (tr L i) := tr_map _ (sw_zero C) i
def dead (L : List T) (C : List Int) (l : List Nat) : Nat := (l.filter fun i => !decide (livesP (tr L i) C)).length
theorem dead_snoc (L : List T) (C : List Int) (l : List Nat) (i : Nat) : dead L C (l ++ [i]) = dead L C l + if livesP (tr L i) C then 0 else 1 := by
  unfold dead
  rw [List.filter_append, List.length_append]
  by_cases h : livesP (tr L i) C <;> simp [h]
theorem dead_le (L : List T) (C : List Int) (l : List Nat) : dead L C l ≤ l.length := List.length_filter_le _ _
/-- how long a table is without free places at its end -/
def bareOf (l : List Nat) : Nat := l.foldl (fun _ v => v + 1) 1
theorem bareOf_snoc (l : List Nat) (v : Nat) : bareOf (l ++ [v]) = v + 1 := by
  unfold bareOf
  rw [List.foldl_append]
  rfl
def bareN (L : List T) : Nat := bareOf (cnd L)
theorem bareOf_cand (L : List T) : ∀ k, 1 ≤ k → 1 ≤ bareOf (cand L k) ∧ bareOf (cand L k) ≤ k
  | 0, h => by omega
  | k + 1, _ => by
    rw [cand_succ]
    split
    · rw [bareOf_snoc]; omega
    · rw [List.append_nil]
      rcases Nat.eq_zero_or_pos k with rfl | hk
      · exact ⟨Nat.le_refl _, Nat.le_refl _⟩
      · have := bareOf_cand L k hk; omega
theorem bareOf_free (L : List T) (k : Nat) (h : ¬ usedP L k) : bareOf (cand L (k + 1)) = bareOf (cand L k) := by
  rw [cand_succ, if_neg h, List.append_nil]
theorem bareOf_used (L : List T) (k : Nat) (h : usedP L k) : bareOf (cand L (k + 1)) = k + 1 := by
  rw [cand_succ, if_pos h, bareOf_snoc]
theorem bareOf_one (L : List T) : bareOf (cand L 1) = 1 := by
  by_cases h : usedP L 0
  · exact bareOf_used L 0 h
  · exact bareOf_free L 0 h
def bare (L : List T) : List T := L.take (bareN L)
theorem bareN_le {L : List T} (h : 1 ≤ L.length) : 1 ≤ bareN L ∧ bareN L ≤ L.length := bareOf_cand L L.length h
theorem bare_length {L : List T} (h : 1 ≤ L.length) : (bare L).length = bareN L := by
  unfold bare
  rw [List.length_take, Nat.min_eq_left (bareN_le h).2]
/-- what is cut off is free -/
theorem bareOf_behind (L : List T) : ∀ k i, bareOf (cand L k) ≤ i → i < k → tr L i = T.zero
  | 0, i, _, h => by omega
  | k + 1, i, h1, h2 => by
    by_cases hu : usedP L k
    · rw [bareOf_used L k hu] at h1; omega
    · rw [bareOf_free L k hu] at h1
      rcases Nat.lt_or_ge i k with hi | hi
      · exact bareOf_behind L k i h1 hi
      · obtain rfl : i = k := by omega
        exact Classical.byContradiction hu
theorem tr_bare {L : List T} (h : 1 ≤ L.length) (i : Nat) : tr (bare L) i = tr L i := by
  rcases Nat.lt_or_ge i (bareN L) with hi | hi
  · exact tr_take hi
  · rw [tr_out (by rw [bare_length h]; exact hi)]
    rcases Nat.lt_or_ge i L.length with hl | hl
    · exact (bareOf_behind L L.length i hi hl).symm
    · exact (tr_out hl).symm
theorem bare_right {L : List T} (h : RightP L) : RightP (bare L) := by
  have h1 := bareN_le h.1.1
  have h2 := bare_length h.1.1
  exact rightP_of (by omega) (by have := h.1; omega) (by rw [tr_bare h.1.1]; exact h.2.1) (fun i _ => by rw [tr_bare h.1.1]; exact h.one i)
theorem swp_right {L : List T} (h : RightP L) (C : List Int) : RightP (swp L C) := by
  have hl := swp_length L C
  refine rightP_of (by have := h.1; omega) (by have := h.1; omega) (by rw [tr_swp, h.2.1, sw_zero]) (fun i _ => ?_)
  rw [tr_swp]
  unfold sw
  split
  · exact h.one i
  · exact zero_one
def swpV (L : List T) (C : List Int) : List T := if RightP L then bare (swp L C) else []
def swpN (L : List T) (C : List Int) : Nat := if RightP L then dead L C (cnd L) else 0
def swpE (L : List T) : Int := if RightP L then 0 else 80
/-- swept so far -/
def swK (L : List T) (C : List Int) (M : List T) (l : List Nat) : Prop := M.length = L.length ∧ ∀ i, tr M i = if i ∈ l then sw C (tr L i) else tr L i
theorem swK_nil (L : List T) (C : List Int) : swK L C L [] := ⟨rfl, fun i => by simp⟩
theorem swK_live {L : List T} {C : List Int} {M : List T} {l : List Nat} {i : Nat} (h : swK L C M l) (hi : livesP (tr L i) C) : swK L C M (l ++ [i]) := by
  refine ⟨h.1, fun j => ?_⟩
  rw [h.2 j]
  by_cases hj : j ∈ l
  · rw [if_pos hj, if_pos (by simp [hj])]
  · rw [if_neg hj]
    by_cases e : j = i
    · subst e
      rw [if_pos (by simp)]
      unfold sw
      rw [if_pos hi]
    · rw [if_neg (by simp [hj, e])]
theorem swK_dead {L : List T} {C : List Int} {M : List T} {l : List Nat} {i : Nat} (h : swK L C M l) (hl : i < L.length) (hi : ¬ livesP (tr L i) C) : swK L C (M.set i T.zero) (l ++ [i]) := by
  refine ⟨by simp [h.1], fun j => ?_⟩
  rw [tr_set _ (by rw [h.1]; exact hl), h.2 j]
  by_cases e : j = i
  · subst e
    rw [if_pos rfl, if_pos (by simp)]
    unfold sw
    rw [if_neg hi]
  · rw [if_neg e]
    by_cases hj : j ∈ l
    · rw [if_pos hj, if_pos (by simp [hj])]
    · rw [if_neg hj, if_neg (by simp [hj, e])]
theorem swK_all {L : List T} {C : List Int} {M : List T} (h : swK L C M (cnd L)) : M = swp L C := by
  refine tr_ext (by rw [h.1, swp_length]) (fun i hi => ?_)
  rw [h.2 i, tr_swp]
  split
  · rfl
  · rename_i hn
    by_cases hu : usedP L i
    · exact absurd (mem_cand (by rw [h.1] at hi; exact hi) hu) hn
    · have : tr L i = T.zero := Classical.byContradiction hu
      rw [this, sw_zero]
/-- sweeping once more -/
theorem sw_sw (C : List Int) (t : T) : sw C (sw C t) = sw C t := by
  by_cases h : livesP t C
  · have e : sw C t = t := if_pos h
    rw [e, e]
  · have e : sw C t = T.zero := if_neg h
    rw [e, sw_zero]
theorem cnd_bare {L : List T} (h : 1 ≤ L.length) : cnd (bare L) = cnd L := by
  have h1 := bareN_le h
  have hc : ∀ k, cand (bare L) k = cand L k := fun k => by
    refine List.filter_congr (fun i _ => ?_)
    have e : usedP (bare L) i ↔ usedP L i := by unfold usedP; rw [tr_bare h]
    exact decide_eq_decide.2 e
  unfold cnd
  rw [hc, bare_length h]
  have : ∀ m, bareN L + m ≤ L.length → cand L (bareN L + m) = cand L (bareN L) := fun m => by
    induction m with
    | zero => intro _; rfl
    | succ m ih =>
      intro hm
      rw [← Nat.add_assoc, cand_succ, if_neg (fun hu => hu (bareOf_behind L L.length (bareN L + m) (Nat.le_add_right _ _) (by omega))), List.append_nil]
      exact ih (by omega)
  have := this (L.length - bareN L) (by omega)
  rw [show bareN L + (L.length - bareN L) = L.length by omega] at this
  exact this.symm
theorem bare_bare {L : List T} (h : 1 ≤ L.length) : bare (bare L) = bare L := by
  have h1 := bareN_le h
  unfold bare
  have e : bareN (L.take (bareN L)) = bareN L := by
    have := cnd_bare h
    unfold bareN
    exact congrArg bareOf this
  rw [e, List.take_take, Nat.min_self]
theorem swp_bare {L : List T} (h : 1 ≤ L.length) (C : List Int) : swp (bare (swp L C)) C = bare (swp L C) := by
  have hl := swp_length L C
  refine tr_ext (swp_length _ _) (fun i _ => ?_)
  rw [tr_swp, tr_bare (by omega), tr_swp, sw_sw]
theorem dead_none {L : List T} {C : List Int} {l : List Nat} (h : ∀ i ∈ l, livesP (tr L i) C) : dead L C l = 0 := by
  unfold dead
  rw [List.filter_eq_nil_iff.2 (fun i hi => by simp [h i hi])]
  rfl
theorem swept_again {L : List T} (h : RightP L) (C : List Int) : RightP (bare (swp L C)) ∧ swpV (bare (swp L C)) C = bare (swp L C) ∧ swpN (bare (swp L C)) C = 0 := by
  have hl := swp_length L C
  have h1 : 1 ≤ (swp L C).length := by have := h.1; omega
  have hr := bare_right (swp_right h C)
  refine ⟨hr, ?_, ?_⟩
  · unfold swpV
    rw [if_pos hr, swp_bare h.1.1, bare_bare h1]
  · unfold swpN
    rw [if_pos hr]
    refine dead_none (fun i hi => ?_)
    have hu := (cand_mem hi).2
    unfold usedP at hu
    rw [tr_bare h1, tr_swp] at hu ⊢
    by_cases hh : livesP (tr L i) C
    · have e : sw C (tr L i) = tr L i := if_pos hh
      rw [e]; exact hh
    · exact absurd (if_neg hh) hu

/-! ### what Counts answers -/
def segOf (L : List T) (i : Nat) : Nat := (tr L i).phys / 16
def cnt (L : List T) (l : List Nat) (s : Nat) : Nat := (l.filter fun i => decide (segOf L i = s)).length
theorem cnt_snoc (L : List T) (l : List Nat) (i s : Nat) : cnt L (l ++ [i]) s = cnt L l s + if segOf L i = s then 1 else 0 := by
  unfold cnt
  rw [List.filter_append, List.length_append]
  by_cases h : segOf L i = s <;> simp [h]
theorem cnt_le (L : List T) (l : List Nat) (s : Nat) : cnt L l s ≤ l.length := List.length_filter_le _ _
def cntL (L : List T) (l : List Nat) (n : Nat) : List Int := (List.range n).map fun s => (cnt L l s : Int)
theorem cntL_length (L : List T) (l : List Nat) (n : Nat) : (cntL L l n).length = n := by unfold cntL; simp
theorem cntL_get {L : List T} {l : List Nat} {n s : Nat} (h : s < n) : (cntL L l n)[s]? = some (cnt L l s : Int) := by
  unfold cntL
  rw [List.getElem?_map, List.getElem?_range h]
  rfl
theorem cntL_nil (L : List T) (n : Nat) : cntL L [] n = List.replicate n 0 := by
  unfold cntL cnt
  apply List.ext_getElem
  · simp
  · intro i h1 h2; simp
theorem cntL_snoc {L : List T} {l : List Nat} {n i : Nat} (h : segOf L i < n) : cntL L (l ++ [i]) n = (cntL L l n).set (segOf L i) (cnt L l (segOf L i) + 1 : Int) := by
  apply List.ext_getElem?
  intro s
  rw [List.getElem?_set]
  rcases Nat.lt_or_ge s n with hs | hs
  · rw [cntL_get hs, cnt_snoc]
    by_cases e : segOf L i = s
    · subst e
      rw [if_pos rfl, if_pos rfl, if_pos (by rw [cntL_length]; exact h)]
      simp
    · rw [if_neg e, if_neg e, cntL_get hs, Nat.add_zero]
  · rw [List.getElem?_eq_none (by rw [cntL_length]; exact hs)]
    by_cases e : segOf L i = s
    · subst e; omega
    · rw [if_neg e, List.getElem?_eq_none (by rw [cntL_length]; exact hs)]
def fitP (L : List T) (l : List Nat) (n : Nat) : Prop := ∀ i ∈ l, segOf L i < n
instance (L : List T) (l : List Nat) (n : Nat) : Decidable (fitP L l n) := by unfold fitP; infer_instance
theorem fit_snoc {L : List T} {l : List Nat} {n i : Nat} (h : fitP L l n) (hi : segOf L i < n) : fitP L (l ++ [i]) n := fun j hj => by
  rcases List.mem_append.1 hj with hj | hj
  · exact h j hj
  · obtain rfl : j = i := by simpa using hj
    exact hi
def cntOk (L : List T) (n : Int) : Prop := RightP L ∧ (1 ≤ n ∧ n ≤ 256) ∧ fitP L (cnd L) n.toNat
instance (L : List T) (n : Int) : Decidable (cntOk L n) := by unfold cntOk; infer_instance
def cntV (L : List T) (n : Int) : List Int := if cntOk L n then cntL L (cnd L) n.toNat else []
def cntE (L : List T) (n : Int) : Int := if cntOk L n then 0 else 80
end Go.Proofs.Ytdniakoedgohkaa.Dat
/- Places of a table in memory: one, and a slice of them; which ones are free, which may stand. -/
namespace Go.Proofs.Ytdniakoedgohkaa.Dat
open Go.RowKit
attribute [local go_sem] Oper.semAt_some
set_option linter.unusedVariables false

def T.cells (s : T) : List Value := [.int .u32 s.phys, .int .u64 s.start, .int .u64 s.fin]
def T.val (s : T) : Value := .agg #[.int .u32 s.phys, .int .u64 s.start, .int .u64 s.fin]
/-- a place's cells -/
def boxO (s : T) : Obj := .cells #[.int .u32 s.phys, .int .u64 s.start, .int .u64 s.fin] 79

/-- a place lies at block b -/
def At (W : World) (b : Nat) (s : T) : Prop := W.heap[b]? = some (.cells #[.int .u32 s.phys, .int .u64 s.start, .int .u64 s.fin] 79 (0, 0))
theorem At.c {W : World} {b : Nat} {s : T} (h : At W b s) : W.cell? ⟨b, 0, none⟩ = some (.int .u32 s.phys) ∧ W.cell? ⟨b, 1, none⟩ = some (.int .u64 s.start) ∧ W.cell? ⟨b, 2, none⟩ = some (.int .u64 s.fin) := by
  unfold At at h
  simp only [World.cell?, h]
  exact ⟨rfl, rfl, rfl⟩
theorem At.f {W : World} {b : Nat} {s : T} (h : At W b s) (i : Nat) : W.frozen? ⟨b, i, none⟩ = false := by
  unfold At at h
  simp [World.frozen?, h]
theorem At.below {W W' : World} {b n : Nat} {s : T} (h : At W b s) (hB : Below n W W') (hb : b < n) : At W' b s := (hB.block b hb).trans h
theorem At.new (w : World) (s : T) : At (w.alloc (boxO s)) w.heap.size s := World.alloc_heap_new w _
theorem At.lt {W : World} {b : Nat} {s : T} (h : At W b s) : b < W.heap.size := (Array.getElem?_eq_some_iff.1 h).1
theorem At.th {W W' : World} {b : Nat} {s : T} (h : At W b s) (hB : Below W.heap.size W W') : At W' b s := h.below hB h.lt
theorem At.of_heap {W W' : World} {b : Nat} {s : T} (h : At W b s) (hb : W'.heap[b]? = W.heap[b]?) : At W' b s := hb.trans h
theorem At.drew {W : World} {b : Nat} {s : T} (h : At W b s) : At W.drew b s := h
/-- a place is laid over another one, part by part -/
theorem At.put3 {W : World} {b : Nat} {s : T} (h : At W b s) (t : T) :
    At (((W.setCell ⟨b, 0, none⟩ (.int .u32 t.phys)).setCell ⟨b, 1, none⟩ (.int .u64 t.start)).setCell ⟨b, 2, none⟩ (.int .u64 t.fin)) b t ∧
    Below b W (((W.setCell ⟨b, 0, none⟩ (.int .u32 t.phys)).setCell ⟨b, 1, none⟩ (.int .u64 t.start)).setCell ⟨b, 2, none⟩ (.int .u64 t.fin)) := by
  unfold At at h
  have h0 := heap_setCell_same W b 0 _ _ (.int .u32 t.phys) h
  have h1 := heap_setCell_same _ b 1 _ _ (.int .u64 t.start) h0
  have h2 := heap_setCell_same _ b 2 _ _ (.int .u64 t.fin) h1
  refine ⟨h2, ?_⟩
  exact (((Below.refl b W).setCell (p := ⟨b, 0, none⟩) (Nat.le_refl _) _).setCell (p := ⟨b, 1, none⟩) (Nat.le_refl _) _).setCell (p := ⟨b, 2, none⟩) (Nat.le_refl _) _
/-- one part alone is laid over -/
theorem At.put_phys {W : World} {b : Nat} {s : T} (h : At W b s) (n : Nat) : At (W.setCell ⟨b, 0, none⟩ (.int .u32 n)) b ⟨n, s.start, s.fin⟩ ∧ Below b W (W.setCell ⟨b, 0, none⟩ (.int .u32 n)) := by
  unfold At at h
  exact ⟨heap_setCell_same W b 0 _ _ (.int .u32 n) h, (Below.refl b W).setCell (p := ⟨b, 0, none⟩) (Nat.le_refl _) _⟩
theorem At.put_fin {W : World} {b : Nat} {s : T} (h : At W b s) (n : Nat) : At (W.setCell ⟨b, 2, none⟩ (.int .u64 n)) b ⟨s.phys, s.start, n⟩ ∧ Below b W (W.setCell ⟨b, 2, none⟩ (.int .u64 n)) := by
  unfold At at h
  exact ⟨heap_setCell_same W b 2 _ _ (.int .u64 n) h, (Below.refl b W).setCell (p := ⟨b, 2, none⟩) (Nat.le_refl _) _⟩
theorem below_al {w W : World} (h : Below w.heap.size w W) (o : Obj) : Below w.heap.size w (W.alloc o) := h.alloc h.size _
theorem below_new (w : World) (o : Obj) : Below w.heap.size w (w.alloc o) := (Below.refl _ _).alloc (Nat.le_refl _) _

/-- a table -/
def Trs (w : World) (v : Value) (L : List T) : Prop := Lies w v L.length 3 (L.flatMap T.cells)
theorem Trs.below {w w' : World} {v : Value} {L : List T} (h : Trs w v L) (hB : Below w.heap.size w w') : Trs w' v L := Lies.below h hB
theorem Trs.nil (w : World) : Trs w (.slice none 0 0) [] := Lies.nil w 3
theorem Trs.parts {w : World} {v : Value} {L : List T} (h : Trs w v L) : ∃ a cap, v = .slice a L.length cap ∧ L.length ≤ cap ∧ cap ≤ 9223372036854775807 := by
  obtain ⟨a, cap, e, _, h1, h2⟩ := Lies.parts h
  exact ⟨a, cap, e, h1, h2⟩
theorem Trs.at {w : World} {v : Value} {L : List T} (h : Trs w v L) {k : Nat} (hk : k < L.length) :
    ∃ b off cap, v = .slice (some ⟨b, off, none⟩) L.length cap ∧ w.cell? ⟨b, off + k * 3, none⟩ = some (.int .u32 (tr L k).phys) ∧ w.cell? ⟨b, off + k * 3 + 1, none⟩ = some (.int .u64 (tr L k).start) ∧ w.cell? ⟨b, off + k * 3 + 2, none⟩ = some (.int .u64 (tr L k).fin) := by
  obtain ⟨a, cap, rfl, _, _, _, h5⟩ := h
  obtain ⟨b, off, rfl, hc⟩ := h5 (by omega)
  have hf := fun j (hj : j < 3) => flat_at T.cells 3 L (fun o _ => rfl) k j (tr L k) (tr_get hk) hj
  refine ⟨b, off, cap, rfl, ?_, ?_, ?_⟩
  · exact hc (k * 3) _ (hf 0 (by omega))
  · have := hc _ _ (hf 1 (by omega)); rwa [← Nat.add_assoc] at this
  · have := hc _ _ (hf 2 (by omega)); rwa [← Nat.add_assoc] at this
/-- the same, of a slice that is known by its parts -/
theorem Trs.get {w : World} {b off n cap : Nat} {L : List T} (hn : L.length = n) (h : Trs w (.slice (some ⟨b, off, none⟩) n cap) L) {k : Nat} (hk : k < n) :
    w.cell? ⟨b, off + k * 3, none⟩ = some (.int .u32 (tr L k).phys) ∧ w.cell? ⟨b, off + k * 3 + 1, none⟩ = some (.int .u64 (tr L k).start) ∧ w.cell? ⟨b, off + k * 3 + 2, none⟩ = some (.int .u64 (tr L k).fin) := by
  obtain ⟨b2, off2, cap2, e, h1⟩ := h.at (hn ▸ hk)
  cases e
  exact h1
/-- the first one -/
theorem Trs.get0 {w : World} {b off n cap : Nat} {L : List T} (hn : L.length = n) (h : Trs w (.slice (some ⟨b, off, none⟩) n cap) L) (hk : 0 < n) :
    w.cell? ⟨b, off, none⟩ = some (.int .u32 (tr L 0).phys) ∧ w.cell? ⟨b, off + 1, none⟩ = some (.int .u64 (tr L 0).start) ∧ w.cell? ⟨b, off + 2, none⟩ = some (.int .u64 (tr L 0).fin) := by
  have := h.get hn hk
  simpa using this
/-- a slice stands where its block does -/
theorem Trs.keep {W W' : World} {v : Value} {L : List T} (h : Trs W v L) (hk : ∀ g o k c, v = .slice (some ⟨g, o, none⟩) k c → 0 < k → W'.heap[g]? = W.heap[g]?) : Trs W' v L := by
  obtain ⟨a, cap, rfl, h2, h3, h4, h5⟩ := h
  refine ⟨a, cap, rfl, h2, h3, h4, fun hn => ?_⟩
  obtain ⟨b, off, rfl, hc⟩ := h5 hn
  refine ⟨b, off, rfl, fun j u hj => ?_⟩
  have he : W'.cell? ⟨b, off + j, none⟩ = W.cell? ⟨b, off + j, none⟩ := World.cell?_of_block (w := W) (hk b off _ _ rfl hn)
  exact he.trans (hc j u hj)
/-- a slice, taken apart: none at all, or an address -/
theorem Trs.open {w : World} {v : Value} {L : List T} (h : Trs w v L) : (∃ a cap, v = .slice a 0 cap ∧ L = []) ∨ ∃ b off cap, v = .slice (some ⟨b, off, none⟩) L.length cap ∧ 0 < L.length ∧ L.length ≤ cap ∧ cap ≤ 9223372036854775807 := by
  obtain ⟨a, cap, rfl, h1, h2⟩ := h.parts
  rcases Nat.eq_zero_or_pos L.length with hz | hz
  · exact .inl ⟨a, cap, by rw [hz], List.eq_nil_of_length_eq_zero hz⟩
  · obtain ⟨b, off, cap2, e, _⟩ := h.at hz
    cases e
    exact .inr ⟨b, off, cap, rfl, hz, h1, h2⟩
theorem Trs.lt {W : World} {b off n cap : Nat} {L : List T} (h : Trs W (.slice (some ⟨b, off, none⟩) n cap) L) (hn : 0 < L.length) : b < W.heap.size := by
  obtain ⟨b2, off2, cap2, e, h1, _⟩ := h.at hn
  cases e
  exact World.block_lt_of_cell? _ _ h1
/-- what stands ahead in a table -/
theorem Trs.cut {w : World} {a : Option Addr} {n cap : Nat} {L : List T} (h : Trs w (.slice a n cap) L) (m : Nat) (hm : m ≤ L.length) : Trs w (.slice a m cap) (L.take m) := by
  obtain ⟨a1, cap1, e, h2, h3, h4, h5⟩ := h
  cases e
  have hl : (L.take m).length = m := by rw [List.length_take]; omega
  have hcells : ∀ (L : List T) (m : Nat), (L.take m).flatMap T.cells = (L.flatMap T.cells).take (m * 3) := fun L => by
    induction L with
    | nil => intro m; simp
    | cons x L ih =>
      intro m
      cases m with
      | zero => simp
      | succ m => rw [List.take_succ_cons, List.flatMap_cons, List.flatMap_cons, ih m, show (m + 1) * 3 = (T.cells x).length + m * 3 by show _ = 3 + _; omega, List.take_length_add_append]
  refine ⟨a, cap, by rw [hl], by omega, h3, by rw [hl, hcells, List.length_take, h4]; omega, fun hn => ?_⟩
  obtain ⟨b, off, e2, hc⟩ := h5 (by omega)
  refine ⟨b, off, e2, fun j u hj => hc j u ?_⟩
  rw [hcells, List.getElem?_take] at hj
  split at hj
  · exact hj
  · cases hj
def cellsL (L : List T) : List Value := L.flatMap T.cells
theorem cellsL_length (L : List T) : (cellsL L).length = L.length * 3 := flat_length T.cells 3 L (fun _ _ => rfl)
theorem cellsL_one (L : List T) : ∀ u ∈ cellsL L, u.oneCell' = true := fun u hu => by
  obtain ⟨s, _, hs⟩ := List.mem_flatMap.1 hu
  simp only [T.cells, List.mem_cons, List.not_mem_nil, or_false] at hs
  rcases hs with rfl | rfl | rfl <;> rfl
theorem cellsL_set (s : T) : ∀ (L : List T) (k : Nat), k < L.length → (((cellsL L).set (k * 3) (.int .u32 s.phys)).set (k * 3 + 1) (.int .u64 s.start)).set (k * 3 + 2) (.int .u64 s.fin) = cellsL (L.set k s)
  | [], _, h => by simp at h
  | x :: L, 0, _ => rfl
  | x :: L, k + 1, h => by
    have ih := cellsL_set s L k (by simpa using h)
    have e : cellsL (x :: L) = .int .u32 x.phys :: .int .u64 x.start :: .int .u64 x.fin :: cellsL L := rfl
    have e2 : cellsL ((x :: L).set (k + 1) s) = .int .u32 x.phys :: .int .u64 x.start :: .int .u64 x.fin :: cellsL (L.set k s) := rfl
    rw [e, e2, show (k + 1) * 3 = k * 3 + 1 + 1 + 1 by omega]
    simp only [List.set_cons_succ]
    rw [← ih]
theorem infoTr : (Try.prog.info? 79).map (fun i => (i.zero, i.size, i.bytes)) = some (some (.agg #[.int .u32 0, .int .u64 0, .int .u64 0]), 3, 24) := by kernel_rfl
/-- a row of one's own, as places -/
theorem Trs.own {w : World} {base : Nat} {v : Value} {L : List T} (h : w.ownsRow base 79 3 v L.length (cellsL L)) : Trs w v L := Lies.own h
/-- the cells of a slice that is not nil, wherever it is laid -/
theorem Trs.news {w : World} {a : Addr} {n cap : Nat} {L : List T} (h : Trs w (.slice (some a) n cap) L) : ∀ j u, (cellsL L)[j]? = some u → w.cell? (a.add j) = some u := fun j u hj => by
  obtain ⟨a', cap', e, _, _, h4, h5⟩ := h
  cases e
  have hl := (List.getElem?_eq_some_iff.1 hj).1
  rw [cellsL_length] at hl
  obtain ⟨b, off, e2, hc⟩ := h5 (by omega)
  cases e2
  rw [add_plain]
  exact hc j u hj
/-- a place is laid into a row of one's own -/
theorem own_set {w : World} {base n cap g k : Nat} {L : List T} (hn : L.length = n) (h : w.ownsRow base 79 3 (.slice (some ⟨g, 0, none⟩) n cap) n (cellsL L)) (hk : k < n) (s : T) :
    (∃ u, w.cell? ⟨g, k * 3, none⟩ = some u) ∧ w.frozen? ⟨g, k * 3, none⟩ = false ∧
    (∃ u, (w.setCell ⟨g, k * 3, none⟩ (.int .u32 s.phys)).cell? ⟨g, k * 3 + 1, none⟩ = some u) ∧ (w.setCell ⟨g, k * 3, none⟩ (.int .u32 s.phys)).frozen? ⟨g, k * 3 + 1, none⟩ = false ∧
    (∃ u, ((w.setCell ⟨g, k * 3, none⟩ (.int .u32 s.phys)).setCell ⟨g, k * 3 + 1, none⟩ (.int .u64 s.start)).cell? ⟨g, k * 3 + 2, none⟩ = some u) ∧ ((w.setCell ⟨g, k * 3, none⟩ (.int .u32 s.phys)).setCell ⟨g, k * 3 + 1, none⟩ (.int .u64 s.start)).frozen? ⟨g, k * 3 + 2, none⟩ = false ∧
    (((w.setCell ⟨g, k * 3, none⟩ (.int .u32 s.phys)).setCell ⟨g, k * 3 + 1, none⟩ (.int .u64 s.start)).setCell ⟨g, k * 3 + 2, none⟩ (.int .u64 s.fin)).ownsRow base 79 3 (.slice (some ⟨g, 0, none⟩) n cap) n (cellsL (L.set k s)) ∧
    Below g w (((w.setCell ⟨g, k * 3, none⟩ (.int .u32 s.phys)).setCell ⟨g, k * 3 + 1, none⟩ (.int .u64 s.start)).setCell ⟨g, k * 3 + 2, none⟩ (.int .u64 s.fin)) := by
  have hl := cellsL_length L
  have h1 := (h.stored (k * 3) (.int .u32 s.phys)).1
  have h2 := (h1.stored (k * 3 + 1) (.int .u64 s.start)).1
  have h3 := (h2.stored (k * 3 + 2) (.int .u64 s.fin)).1
  rw [cellsL_set s L k (by omega)] at h3
  refine ⟨⟨_, (h.cellAt (k * 3) (by omega)).trans (List.getElem?_eq_getElem (by omega))⟩, h.frozenAt _, ⟨_, (h1.cellAt (k * 3 + 1) (by omega)).trans (List.getElem?_eq_getElem (by simp; omega))⟩, h1.frozenAt _, ⟨_, (h2.cellAt (k * 3 + 2) (by omega)).trans (List.getElem?_eq_getElem (by simp; omega))⟩, h2.frozenAt _, h3, ?_⟩
  exact (((Below.refl g w).setCell (p := ⟨g, k * 3, none⟩) (Nat.le_refl _) _).setCell (p := ⟨g, k * 3 + 1, none⟩) (Nat.le_refl _) _).setCell (p := ⟨g, k * 3 + 2, none⟩) (Nat.le_refl _) _
theorem own_open {w : World} {base n : Nat} {v : Value} {xs : List Value} (h : w.ownsRow base 79 3 v n xs) (hn : 0 < n) : ∃ g cap, v = .slice (some ⟨g, 0, none⟩) n cap ∧ base ≤ g ∧ n ≤ cap ∧ cap ≤ 9223372036854775807 := by
  rcases h.2 with ⟨rfl, rfl⟩ | ⟨g, cap, cur, rfl, hb, hg, hn, hm, hs, ht⟩
  · omega
  · exact ⟨g, cap, rfl, hb, hn, by unfold maxLen at hm; omega⟩

/-- what asks answers: only what is new is written -/
def Ans (w : World) (v : Value) (e : Ending) (w' : World) : Prop := e = .returned v ∧ Below w.heap.size w w'
theorem Ans.eq {w w' : World} {e : Ending} {v u : Value} (h : v = u) (k : Ans w v e w') : Ans w u e w' := h ▸ k

theorem eqlT (a b : T) (w : World) : (binOp .eql 79 a.val b.val).run Try.prog w = .ok (.bool (decide (a = b))) w := by
  obtain ⟨l1, b1, s1⟩ := a
  obtain ⟨l2, b2, s2⟩ := b
  have he : (Op.equalIn 10000 79 (.agg #[.int .u32 l1, .int .u64 b1, .int .u64 s1]) (.agg #[.int .u32 l2, .int .u64 b2, .int .u64 s2])).run Try.prog w = .ok (decide ((⟨l1, b1, s1⟩ : T) = ⟨l2, b2, s2⟩)) w := by
    rw [run_equalIn_agg w 9999 79 _ _ (by kernel_rfl) (by kernel_rfl)]
    simp only [T.mk.injEq]
    by_cases h1 : l1 = l2
    · by_cases h2 : b1 = b2
      · by_cases h3 : s1 = s2
        · simp [go_sem, h1, h2, h3]
        · have h3' : ¬ (s1 : Int) = s2 := by omega
          simp [go_sem, h1, h2, h3, h3']
      · have h2' : ¬ (b1 : Int) = b2 := by omega
        simp [go_sem, h1, h2, h2']
    · have h1' : ¬ (l1 : Int) = l2 := by omega
      simp [go_sem, h1, h1']
  unfold T.val
  dsimp only
  rw [run_eql_struct, he]
  rfl
theorem neqT (a b : T) (w : World) : (binOp .neq 79 a.val b.val).run Try.prog w = .ok (.bool (!decide (a = b))) w := by
  have h := eqlT a b w
  unfold T.val at h ⊢
  rw [run_eql_struct] at h
  rw [run_neq_struct]
  revert h
  generalize (Op.equalIn 10000 79 (.agg #[.int .u32 a.phys, .int .u64 a.start, .int .u64 a.fin]) (.agg #[.int .u32 b.phys, .int .u64 b.start, .int .u64 b.fin])).run Try.prog w = r
  intro h
  cases r with
  | ok x w1 =>
    simp only [Result.andThen] at h ⊢
    injection h with h1 h2
    injection h1 with h3
    rw [h3, h2]
  | halt x w1 => simp [Result.andThen] at h
def freeB (t : T) : Bool := decide (t = T.zero)
theorem eqlZ (ph st fi : Nat) (w : World) : (binOp .eql 79 (.agg #[.int .u32 ph, .int .u64 st, .int .u64 fi]) (.agg #[.int .u32 0, .int .u64 0, .int .u64 0])).run Try.prog w = .ok (.bool (freeB ⟨ph, st, fi⟩)) w := eqlT ⟨ph, st, fi⟩ T.zero w
theorem neqZ (ph st fi : Nat) (w : World) : (binOp .neq 79 (.agg #[.int .u32 ph, .int .u64 st, .int .u64 fi]) (.agg #[.int .u32 0, .int .u64 0, .int .u64 0])).run Try.prog w = .ok (.bool (!freeB ⟨ph, st, fi⟩)) w := neqT ⟨ph, st, fi⟩ T.zero w

def cpB (n : Nat) : Bool := decide (isCpP n)
def standsB (t : T) : Bool := decide (standsP t)
def oneB (t : T) : Bool := decide (oneP t)
theorem standsB_split (ph st fi : Nat) : standsB ⟨ph, st, fi⟩ = (decide (16 ≤ ph) && (decide (ph < 4096) && (cpB st && (decide (fi = 0) || (decide (st < fi) && cpB fi))))) := by
  unfold standsB cpB
  rw [Bool.eq_iff_iff, decide_eq_true_iff]
  simp [standsP, and_assoc]
theorem oneB_split (t : T) : oneB t = (freeB t || standsB t) := by
  unfold oneB freeB standsB
  rw [Bool.eq_iff_iff, decide_eq_true_iff]
  simp [oneP]
section
set_option maxRecDepth 100000
theorem isFree_any (t : T) (w : World) : Calls Try.prog 64 #[t.val] w (Ans w (.bool (freeB t))) := by
  obtain ⟨ph, st, fi⟩ := t
  have HB := below_new w (boxO ⟨ph, st, fi⟩)
  have hq := fun W => eqlZ ph st fi W
  unfold T.val
  unfold boxO at HB
  dsimp only at HB ⊢
  obtain ⟨x, hx⟩ : ∃ x, freeB ⟨ph, st, fi⟩ = x := ⟨_, rfl⟩
  rw [hx] at hq ⊢
  clear hx
  go_enter Try.func64, Try.ntmps64
  go_wp2
  go_ret
  exact ⟨rfl, HB⟩
theorem isCp_any (n : Nat) (w : World) : Calls Try.prog 105 #[.int .u64 n] w fun e w' => e = .returned (.bool (cpB n)) ∧ w = w' := by
  by_cases h1 : 1 ≤ n
  · by_cases h2 : n < 281474976710656
    · have HD : Hid (cpB n = true) := by unfold Hid cpB isCpP; simp [*]
      have g1 : (1 : Int) ≤ n := by omega
      have g2 : (n : Int) < 281474976710656 := by omega
      go_enter Try.func105, Try.ntmps105
      go_wp2
      go_ret
      exact ⟨by rw [HD.out]; rfl, rfl⟩
    · have HD : Hid (cpB n = false) := by unfold Hid cpB isCpP; simp [*]
      have g1 : (1 : Int) ≤ n := by omega
      have g2 : ¬ (n : Int) < 281474976710656 := by omega
      go_enter Try.func105, Try.ntmps105
      go_wp2
      go_ret
      exact ⟨by rw [HD.out]; rfl, rfl⟩
  · have HD : Hid (cpB n = false) := by unfold Hid cpB isCpP; simp [*]
    have g1 : ¬ (1 : Int) ≤ n := by omega
    go_enter Try.func105, Try.ntmps105
    go_wp2
    go_ret
    exact ⟨by rw [HD.out]; rfl, rfl⟩
theorem stands_any (t : T) (w : World) : Calls Try.prog 93 #[t.val] w (Ans w (.bool (standsB t))) := by
  obtain ⟨ph, st, fi⟩ := t
  have HB := below_new w (boxO ⟨ph, st, fi⟩)
  have HS := Lib.hid (standsB_split ph st fi)
  unfold T.val
  unfold boxO at HB
  dsimp only at HB ⊢
  have go : ∀ (x : Bool), Hid (standsB ⟨ph, st, fi⟩ = x) → Calls Try.prog 93 #[.agg #[.int .u32 ph, .int .u64 st, .int .u64 fi]] w (Ans w (.bool x)) → Calls Try.prog 93 #[.agg #[.int .u32 ph, .int .u64 st, .int .u64 fi]] w (Ans w (.bool (standsB ⟨ph, st, fi⟩))) := fun x hb hc => by rw [hb.out]; exact hc
  have hc1 := isCp_any st
  have hc2 := isCp_any fi
  obtain ⟨x1, hx1⟩ : ∃ x, cpB st = x := ⟨_, rfl⟩
  obtain ⟨x2, hx2⟩ : ∃ x, cpB fi = x := ⟨_, rfl⟩
  rw [hx1] at hc1 HS
  rw [hx2] at hc2 HS
  by_cases h1 : 16 ≤ ph
  · have g1 : (16 : Int) ≤ ph := by omega
    by_cases h2 : ph < 4096
    · have g2 : (ph : Int) < 4096 := by omega
      cases x1 with
      | true =>
        by_cases h4 : fi = 0
        · have g4 : ((fi : Int) == 0) = true := by simp [h4]
          have HV : Hid (standsB ⟨ph, st, fi⟩ = true) := by unfold Hid; rw [HS.out]; simp [h1, h2, h4]
          refine go true HV ?_
          have HC1 := Lib.hid hc1
          have HC2 := Lib.hid hc2
          clear hc1 hc2 hx1 hx2 go HS HV h1 h2 h4
          go_enter Try.func93, Try.ntmps93
          go_wp2_with (first | (go_at_call 105; (with_reducible refine Calls.mono (HC1.out _) ?_); rintro e w1 ⟨rfl, rfl⟩) | (go_at_call 105; (with_reducible refine Calls.mono (HC2.out _) ?_); rintro e w1 ⟨rfl, rfl⟩))
          go_ret
          exact ⟨rfl, HB⟩
        · have g4 : ((fi : Int) == 0) = false := by simp [h4]
          by_cases h5 : st < fi
          · have g5 : (st : Int) < fi := by omega
            cases x2 with
            | true =>
              have HV : Hid (standsB ⟨ph, st, fi⟩ = true) := by unfold Hid; rw [HS.out]; simp [h1, h2, h4, h5]
              refine go true HV ?_
              have HC1 := Lib.hid hc1
              have HC2 := Lib.hid hc2
              clear hc1 hc2 hx1 hx2 go HS HV h1 h2 h4 h5
              go_enter Try.func93, Try.ntmps93
              go_wp2_with (first | (go_at_call 105; (with_reducible refine Calls.mono (HC1.out _) ?_); rintro e w1 ⟨rfl, rfl⟩) | (go_at_call 105; (with_reducible refine Calls.mono (HC2.out _) ?_); rintro e w1 ⟨rfl, rfl⟩))
              go_ret
              exact ⟨rfl, HB⟩
            | false =>
              have HV : Hid (standsB ⟨ph, st, fi⟩ = false) := by unfold Hid; rw [HS.out]; simp [h1, h2, h4, h5]
              refine go false HV ?_
              have HC1 := Lib.hid hc1
              have HC2 := Lib.hid hc2
              clear hc1 hc2 hx1 hx2 go HS HV h1 h2 h4 h5
              go_enter Try.func93, Try.ntmps93
              go_wp2_with (first | (go_at_call 105; (with_reducible refine Calls.mono (HC1.out _) ?_); rintro e w1 ⟨rfl, rfl⟩) | (go_at_call 105; (with_reducible refine Calls.mono (HC2.out _) ?_); rintro e w1 ⟨rfl, rfl⟩))
              go_ret
              exact ⟨rfl, HB⟩
          · have g5 : ¬ (st : Int) < fi := by omega
            have HV : Hid (standsB ⟨ph, st, fi⟩ = false) := by unfold Hid; rw [HS.out]; simp [h1, h2, h4, h5]
            refine go false HV ?_
            have HC1 := Lib.hid hc1
            have HC2 := Lib.hid hc2
            clear hc1 hc2 hx1 hx2 go HS HV h1 h2 h4 h5
            go_enter Try.func93, Try.ntmps93
            go_wp2_with (first | (go_at_call 105; (with_reducible refine Calls.mono (HC1.out _) ?_); rintro e w1 ⟨rfl, rfl⟩) | (go_at_call 105; (with_reducible refine Calls.mono (HC2.out _) ?_); rintro e w1 ⟨rfl, rfl⟩))
            go_ret
            exact ⟨rfl, HB⟩
      | false =>
        have HV : Hid (standsB ⟨ph, st, fi⟩ = false) := by unfold Hid; rw [HS.out]; simp [h1, h2]
        refine go false HV ?_
        have HC1 := Lib.hid hc1
        have HC2 := Lib.hid hc2
        clear hc1 hc2 hx1 hx2 go HS HV h1 h2
        go_enter Try.func93, Try.ntmps93
        go_wp2_with (first | (go_at_call 105; (with_reducible refine Calls.mono (HC1.out _) ?_); rintro e w1 ⟨rfl, rfl⟩) | (go_at_call 105; (with_reducible refine Calls.mono (HC2.out _) ?_); rintro e w1 ⟨rfl, rfl⟩))
        go_ret
        exact ⟨rfl, HB⟩
    · have g2 : ¬ (ph : Int) < 4096 := by omega
      have HV : Hid (standsB ⟨ph, st, fi⟩ = false) := by unfold Hid; rw [HS.out]; simp [h1, h2]
      refine go false HV ?_
      have HC1 := Lib.hid hc1
      have HC2 := Lib.hid hc2
      clear hc1 hc2 hx1 hx2 go HS HV h1 h2
      go_enter Try.func93, Try.ntmps93
      go_wp2_with (first | (go_at_call 105; (with_reducible refine Calls.mono (HC1.out _) ?_); rintro e w1 ⟨rfl, rfl⟩) | (go_at_call 105; (with_reducible refine Calls.mono (HC2.out _) ?_); rintro e w1 ⟨rfl, rfl⟩))
      go_ret
      exact ⟨rfl, HB⟩
  · have g1 : ¬ (16 : Int) ≤ ph := by omega
    have HV : Hid (standsB ⟨ph, st, fi⟩ = false) := by unfold Hid; rw [HS.out]; simp [h1]
    refine go false HV ?_
    have HC1 := Lib.hid hc1
    have HC2 := Lib.hid hc2
    clear hc1 hc2 hx1 hx2 go HS HV h1
    go_enter Try.func93, Try.ntmps93
    go_wp2_with (first | (go_at_call 105; (with_reducible refine Calls.mono (HC1.out _) ?_); rintro e w1 ⟨rfl, rfl⟩) | (go_at_call 105; (with_reducible refine Calls.mono (HC2.out _) ?_); rintro e w1 ⟨rfl, rfl⟩))
    go_ret
    exact ⟨rfl, HB⟩
theorem isWrong_any (t : T) (w : World) : Calls Try.prog 66 #[t.val] w (Ans w (.bool (!oneB t))) := by
  obtain ⟨ph, st, fi⟩ := t
  have HB := below_new w (boxO ⟨ph, st, fi⟩)
  have hA := At.new w ⟨ph, st, fi⟩
  obtain ⟨c0, c1, c2⟩ := hA.c
  have HX : Hid (∀ W, Below (w.alloc (boxO ⟨ph, st, fi⟩)).heap.size (w.alloc (boxO ⟨ph, st, fi⟩)) W → _) := fun W h => (hA.th h).c
  have HS := Lib.hid (oneB_split ⟨ph, st, fi⟩)
  have hf := fun W => isFree_any ⟨ph, st, fi⟩ W
  have hs := fun W => stands_any ⟨ph, st, fi⟩ W
  obtain ⟨x1, hx1⟩ : ∃ x, freeB ⟨ph, st, fi⟩ = x := ⟨_, rfl⟩
  obtain ⟨x2, hx2⟩ : ∃ x, standsB ⟨ph, st, fi⟩ = x := ⟨_, rfl⟩
  obtain ⟨x3, hx3⟩ : ∃ x, oneB ⟨ph, st, fi⟩ = x := ⟨_, rfl⟩
  rw [hx1] at hf HS
  rw [hx2] at hs HS
  rw [hx3] at HS ⊢
  have HW1 := Lib.hid HB
  unfold T.val at hf hs ⊢
  unfold boxO at HX HW1
  dsimp only at hf hs HX HW1 c0 c1 c2 ⊢
  have HF := Lib.hid hf
  have HT := Lib.hid hs
  clear hA hf hs hx1 hx2 hx3 HB
  cases x1 with
  | true =>
    have e := HS.out
    simp only [Bool.true_or] at e
    subst e
    clear HS
    go_enter Try.func66, Try.ntmps66
    go_wp2_with (first
      | (go_at_call 64; (with_reducible refine Calls.mono (HF.out _) ?_); rintro e w1 ⟨rfl, hB1⟩))
    go_ret
    exact ⟨rfl, below_th HW1.out hB1⟩
  | false =>
    have e := HS.out
    simp only [Bool.false_or] at e
    subst e
    clear HS
    go_enter Try.func66, Try.ntmps66
    go_wp2_with (first
      | (go_at_call 64; (with_reducible refine Calls.mono (HF.out _) ?_); rintro e w1 ⟨rfl, hB1⟩; obtain ⟨d0, d1, d2⟩ := HX.out _ hB1)
      | (go_at_call 93; (with_reducible refine Calls.mono (HT.out _) ?_); rintro e w2 ⟨rfl, hB2⟩))
    go_ret
    exact ⟨rfl, below_th HW1.out (below_th hB1 hB2)⟩
end
end Go.Proofs.Ytdniakoedgohkaa.Dat
/- Right of the program, and what it finds at a number. -/
namespace Go.Proofs.Ytdniakoedgohkaa.Dat
open Go.RowKit
attribute [local go_sem] Oper.semAt_some
set_option linter.unusedVariables false

def oneUpto (L : List T) (k : Nat) : Prop := ∀ j, j < k → oneB (tr L j) = true
theorem all_one {L : List T} : AllOne L ↔ oneUpto L L.length :=
  ⟨fun h j hj => decide_eq_true (h _ (tr_mem hj)), fun h s hs => by obtain ⟨i, hi, rfl⟩ := mem_tr hs; exact of_decide_eq_true (h i hi)⟩
def rightB (L : List T) : Bool := decide (RightP L)
theorem rightB_yes {L : List T} (h : RightP L) : rightB L = true := decide_eq_true h
theorem rightB_no {L : List T} (h : ¬ RightP L) : rightB L = false := decide_eq_false h
section
set_option maxRecDepth 100000
set_option maxHeartbeats 1000000
theorem indexFunc_any (v : Value) (L : List T) (w : World) (hL : Trs w v L) :
    Calls Try.prog 92 #[v, .func (.func 66) #[] #[]] w fun e w' => ∃ i : Int, e = .returned (.int .i64 i) ∧ Hid (0 ≤ i ↔ ¬ AllOne L) ∧ Below w.heap.size w w' := by
  obtain ⟨a, cap, rfl, hn, hm⟩ := hL.parts
  obtain ⟨N, hN⟩ : ∃ N, L.length = N := ⟨_, rfl⟩
  have HA := Lib.hid (all_one (L := L))
  have HL := Lib.hid hL
  rw [hN] at HL HA hn ⊢
  have HN := Lib.hid hN
  have hx := fun s W => isWrong_any s W
  unfold T.val at hx
  have HX := Lib.hid hx
  clear hL hN hx
  obtain ⟨W0, rfl⟩ : ∃ W0 : World, W0 = w := ⟨_, rfl⟩
  go_enter Try.func92, Try.ntmps92
  go_wp2
  go_loopw [5, 8] (fun _ i wr => ∃ k : Nat, k ≤ N ∧ i = .int .i64 (k : Int) ∧ Hid (oneUpto L k) ∧ Below W0.heap.size W0 wr) (fun _ i _ => N - (intOf i).toNat)
  case atStart => exact ⟨0, by omega, rfl, fun j hj => by omega, Below.refl _ _⟩
  case round =>
    obtain ⟨k, hk, rfl, HW, hB⟩ := hrel
    by_cases hlt : k < N
    · obtain ⟨b, off, cap2, e2, c0, c1, c2⟩ := ((HL.out).below hB).at (k := k) (by rw [HN.out]; exact hlt)
      cases e2
      cases h1 : oneB (tr L k) with
      | true =>
        go_wp2_with (go_at_call 66; refine (HX.out (tr L k) _).mono ?_; rintro e w' ⟨rfl, hB1⟩; simp only [h1, Bool.not_true])
        go_roundw
        case rel => exact ⟨k + 1, by omega, by go_num, fun j hj => (by rcases Nat.lt_succ_iff_lt_or_eq.1 hj with h | h; exact HW.out j h; rw [h]; exact h1), below_th hB hB1⟩
        case measure => simp [intOf]; omega
      | false =>
        go_wp2_with (go_at_call 66; refine (HX.out (tr L k) _).mono ?_; rintro e w' ⟨rfl, hB1⟩; simp only [h1, Bool.not_false])
        go_ret
        exact ⟨_, rfl, ⟨fun _ hh => (by have := HA.out.1 hh k hlt; rw [h1] at this; cases this), fun _ => (by omega)⟩, below_th hB hB1⟩
    · obtain rfl : k = N := by omega
      go_wp2
      go_ret
      exact ⟨_, rfl, ⟨fun hh => by omega, fun hh => absurd (HA.out.2 HW.out) hh⟩, hB⟩
theorem containsFunc_any (v : Value) (L : List T) (w : World) (hL : Trs w v L) :
    Calls Try.prog 65 #[v, .func (.func 66) #[] #[]] w (Ans w (.bool (!decide (AllOne L)))) := by
  have hI := indexFunc_any v L w hL
  obtain ⟨a, cap, rfl, hn, hm⟩ := hL.parts
  clear hL
  go_enter Try.func65, Try.ntmps65
  go_wp2_with (go_at_call 92; refine hI.mono ?_; rintro e w' ⟨i, rfl, HI, hB⟩)
  go_ret
  refine ⟨?_, hB⟩
  by_cases h : AllOne L
  · have : ¬ 0 ≤ i := fun hh => HI.out.1 hh h
    rw [decide_eq_true h]
    simp [this]
  · have : 0 ≤ i := HI.out.2 h
    rw [decide_eq_false h]
    simp [this]
theorem right_any (v : Value) (L : List T) (w : World) (hL : Trs w v L) : Calls Try.prog 41 #[v] w (Ans w (.bool (rightB L))) := by
  have go : ∀ (x : Bool), Hid (rightB L = x) → Calls Try.prog 41 #[v] w (Ans w (.bool x)) → Calls Try.prog 41 #[v] w (Ans w (.bool (rightB L))) := fun x hb hc => by rw [hb.out]; exact hc
  by_cases h8 : 1 ≤ L.length
  · obtain ⟨b, off, cap, rfl, c0, c1, c2⟩ := hL.at (k := 0) (by omega)
    simp only [Nat.zero_mul, Nat.add_zero] at c0 c1 c2
    have hC := fun W (h : Below w.heap.size w W) => containsFunc_any _ L W (hL.below h)
    obtain ⟨N, hN⟩ : ∃ N, L.length = N := ⟨_, rfl⟩
    have g8 : (1 : Int) ≤ N := by omega
    by_cases h256 : L.length ≤ 1860
    · have g256 : (N : Int) ≤ 1860 := by omega
      have hf := isFree_any (tr L 0)
      by_cases hs : tr L 0 = T.zero
      · rw [show freeB (tr L 0) = true from decide_eq_true hs] at hf
        unfold T.val at hf
        by_cases ha : AllOne L
        · refine go true (decide_eq_true ⟨⟨h8, h256⟩, hs, ha⟩) ?_
          rw [decide_eq_true ha] at hC
          rw [hN] at hC ⊢
          have HC := Lib.hid hC
          have HF := Lib.hid hf
          clear hL hC go ha hf hs
          go_enter Try.func41, Try.ntmps41
          go_wp2_with (first | (go_at_call 64; (with_reducible refine Calls.mono (HF.out _) ?_); rintro e w1 ⟨rfl, hB1⟩) | (go_at_call 65; (with_reducible refine Calls.mono (HC.out _ hB1) ?_); rintro e w' ⟨rfl, hB⟩))
          go_ret
          exact ⟨rfl, below_th hB1 hB⟩
        · refine go false (decide_eq_false fun hh => ha hh.2.2) ?_
          rw [decide_eq_false ha] at hC
          rw [hN] at hC ⊢
          have HC := Lib.hid hC
          have HF := Lib.hid hf
          clear hL hC go ha hf hs
          go_enter Try.func41, Try.ntmps41
          go_wp2_with (first | (go_at_call 64; (with_reducible refine Calls.mono (HF.out _) ?_); rintro e w1 ⟨rfl, hB1⟩) | (go_at_call 65; (with_reducible refine Calls.mono (HC.out _ hB1) ?_); rintro e w' ⟨rfl, hB⟩))
          go_ret
          exact ⟨rfl, below_th hB1 hB⟩
      · rw [show freeB (tr L 0) = false from decide_eq_false hs] at hf
        unfold T.val at hf
        refine go false (decide_eq_false fun hh => hs hh.2.1) ?_
        rw [hN]
        have HF := Lib.hid hf
        clear hL hC go hf hs
        go_enter Try.func41, Try.ntmps41
        go_wp2_with (go_at_call 64; (with_reducible refine Calls.mono (HF.out _) ?_); rintro e w1 ⟨rfl, hB1⟩)
        go_ret
        exact ⟨rfl, hB1⟩
    · refine go false (decide_eq_false fun hh => h256 hh.1.2) ?_
      have g256 : ¬ (N : Int) ≤ 1860 := by omega
      rw [hN]
      clear hL hC go
      go_enter Try.func41, Try.ntmps41
      go_wp2
      go_ret
      exact ⟨rfl, Below.refl _ _⟩
  · refine go false (decide_eq_false fun hh => h8 hh.1.1) ?_
    obtain ⟨a, cap, rfl, hn, hm⟩ := hL.parts
    have e : L.length = 0 := by omega
    rw [e]
    clear hL go h8 e hn
    go_enter Try.func41, Try.ntmps41
    go_wp2
    go_ret
    exact ⟨rfl, Below.refl _ _⟩

end
end Go.Proofs.Ytdniakoedgohkaa.Dat
