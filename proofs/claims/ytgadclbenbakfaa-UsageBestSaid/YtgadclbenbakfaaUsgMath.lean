/- Plain facts: segments, which ones are clean, which one comes next, which one is chosen. They speak of no program. -/
import Derived.Test.YtgadclbenbakfaaRows
namespace Go.Proofs.Ytgadclbenbakfaa.Usage
set_option linter.unusedVariables false

/-- a segment -/
structure S where
  live : Int
  begun : Nat
  state : Int
theorem S.ext' {a b : S} (h1 : a.live = b.live) (h2 : a.begun = b.begun) (h3 : a.state = b.state) : a = b := by
  cases a; cases b; simp_all
instance : DecidableEq S := fun a b => if h : a.live = b.live ∧ a.begun = b.begun ∧ a.state = b.state then isTrue (S.ext' h.1 h.2.1 h.2.2) else isFalse fun e => h (by rw [e]; exact ⟨rfl, rfl, rfl⟩)
def S.zero : S := ⟨0, 0, 0⟩
def oneP (s : S) : Prop := (0 ≤ s.state ∧ s.state ≤ 2) ∧ 0 ≤ s.live ∧ s.live ≤ 16 ∧ s.begun < 281474976710656
instance (s : S) : Decidable (oneP s) := by unfold oneP; infer_instance
/-- the i-th one -/
def seg (L : List S) (i : Nat) : S := L.getD i S.zero
theorem seg_get {L : List S} {i : Nat} (h : i < L.length) : L[i]? = some (seg L i) := by
  unfold seg
  rw [List.getD_eq_getElem?_getD, List.getElem?_eq_getElem h]
  rfl
theorem seg_mem {L : List S} {i : Nat} (h : i < L.length) : seg L i ∈ L := List.mem_of_getElem? (seg_get h)
theorem mem_seg {L : List S} {s : S} (h : s ∈ L) : ∃ i, i < L.length ∧ seg L i = s := by
  obtain ⟨i, hi⟩ := List.getElem?_of_mem h
  have hl := (List.getElem?_eq_some_iff.1 hi).1
  rw [seg_get hl] at hi
  exact ⟨i, hl, by simpa using hi⟩
theorem seg_ext {L M : List S} (hl : L.length = M.length) (h : ∀ i, i < L.length → seg L i = seg M i) : L = M := by
  apply List.ext_getElem?
  intro i
  rcases Nat.lt_or_ge i L.length with hi | hi
  · rw [seg_get hi, seg_get (hl ▸ hi), h i hi]
  · rw [List.getElem?_eq_none hi, List.getElem?_eq_none (hl ▸ hi)]
theorem seg_set {L : List S} {i j : Nat} (s : S) (hi : i < L.length) : seg (L.set i s) j = if j = i then s else seg L j := by
  unfold seg
  rw [List.getD_eq_getElem?_getD, List.getD_eq_getElem?_getD, List.getElem?_set]
  by_cases h : i = j
  · subst h; simp [hi]
  · rw [if_neg h, if_neg (fun e => h e.symm)]
theorem seg_take {L : List S} {i k : Nat} (h : i < k) : seg (L.take k) i = seg L i := by
  unfold seg
  rw [List.getD_eq_getElem?_getD, List.getD_eq_getElem?_getD, List.getElem?_take, if_pos h]

def RightP (L : List S) : Prop := 8 ≤ L.length ∧ L.length ≤ 256 ∧ (seg L 0).state = 1 ∧ ∀ s ∈ L, oneP s
instance (L : List S) : Decidable (RightP L) := by unfold RightP; infer_instance
theorem RightP.one {L : List S} (h : RightP L) {i : Nat} (hi : i < L.length) : oneP (seg L i) := h.2.2.2 _ (seg_mem hi)

/-! ### clean ones -/
def cleanN (L : List S) : Nat := (L.filter fun s => decide (s.state = 0)).length
theorem cleanN_le (L : List S) : cleanN L ≤ L.length := List.length_filter_le _ _
theorem cleanN_succ {L : List S} {k : Nat} (h : k < L.length) : cleanN (L.take (k + 1)) = cleanN (L.take k) + if (seg L k).state = 0 then 1 else 0 := by
  unfold cleanN
  rw [List.take_add_one, seg_get h, List.filter_append, List.length_append]
  by_cases hs : (seg L k).state = 0 <;> simp [hs]
theorem cleanN_set {L : List S} {i : Nat} (s : S) (hi : i < L.length) (h1 : (seg L i).state = 0) (h2 : ¬ s.state = 0) : cleanN (L.set i s) + 1 = cleanN L := by
  unfold cleanN
  have e1 : L = L.take i ++ seg L i :: L.drop (i + 1) := by
    have := List.drop_eq_getElem_cons hi
    have e2 : L[i] = seg L i := by have := seg_get hi; rw [List.getElem?_eq_getElem hi] at this; simpa using this
    rw [e2] at this
    rw [← this, List.take_append_drop]
  have e3 : L.set i s = L.take i ++ s :: L.drop (i + 1) := by rw [List.set_eq_take_append_cons_drop, if_pos hi]
  rw [e3]
  have e4 : (L.filter fun s => decide (s.state = 0)).length = ((L.take i ++ seg L i :: L.drop (i + 1)).filter fun s => decide (s.state = 0)).length := by rw [← e1]
  rw [e4]
  simp [List.filter_append, h1, h2]
  omega
theorem cleanN_pos {L : List S} (h : 0 < cleanN L) : ∃ i, i < L.length ∧ (seg L i).state = 0 := by
  unfold cleanN at h
  obtain ⟨s, hs⟩ : ∃ s : S, s ∈ L.filter fun s : S => decide (s.state = 0) := List.exists_mem_of_length_pos h
  rw [List.mem_filter] at hs
  obtain ⟨i, hi, rfl⟩ := mem_seg hs.1
  exact ⟨i, hi, of_decide_eq_true hs.2⟩
theorem cleanN_zero {L : List S} (h : cleanN L = 0) {i : Nat} (hi : i < L.length) : ¬ (seg L i).state = 0 := fun hs => by
  have : seg L i ∈ L.filter fun s => decide (s.state = 0) := List.mem_filter.2 ⟨seg_mem hi, by simpa using hs⟩
  have := List.length_pos_of_mem this
  unfold cleanN at h
  omega

/-! ### the next one -/
def way (L : List S) (f k : Nat) : Nat := (f + 1 + k) % L.length
def nextOf (L : List S) (f : Nat) : Option Nat := ((List.range L.length).find? fun k => decide ((seg L (way L f k)).state = 0)).map (way L f)
theorem nextOf_some {L : List S} {f k : Nat} (hk : k < L.length) (h : (seg L (way L f k)).state = 0) (hno : ∀ j, j < k → ¬ (seg L (way L f j)).state = 0) : nextOf L f = some (way L f k) := by
  unfold nextOf
  rw [List.find?_range_eq_some.2 ⟨by simpa using h, by simpa using hk, fun j hj => by simpa using hno j hj⟩]
  rfl
theorem nextOf_none {L : List S} {f : Nat} (hno : ∀ j, j < L.length → ¬ (seg L (way L f j)).state = 0) : nextOf L f = none := by
  unfold nextOf
  rw [List.find?_eq_none.2 (fun j hj => by simpa using hno j (by simpa using hj))]
  rfl
theorem way_lt {L : List S} (f k : Nat) (h : 0 < L.length) : way L f k < L.length := Nat.mod_lt _ h
/-- each place is come by -/
theorem way_all {L : List S} {f i : Nat} (hf : f < L.length) (hi : i < L.length) : ∃ k, k < L.length ∧ way L f k = i := by
  unfold way
  by_cases h : f < i
  · exact ⟨i - f - 1, by omega, by rw [show f + 1 + (i - f - 1) = i by omega]; exact Nat.mod_eq_of_lt hi⟩
  · exact ⟨i + L.length - f - 1, by omega, by rw [show f + 1 + (i + L.length - f - 1) = i + L.length by omega, Nat.add_mod_right]; exact Nat.mod_eq_of_lt hi⟩
theorem least {p : Nat → Prop} (hd : ∀ k, Decidable (p k)) {k : Nat} (h : p k) : ∃ j, j ≤ k ∧ p j ∧ ∀ i, i < j → ¬ p i := by
  induction k using Nat.strongRecOn with
  | _ k ih =>
    by_cases hh : ∃ i, i < k ∧ p i
    · obtain ⟨i, hi, hp⟩ := hh
      obtain ⟨j, h1, h2, h3⟩ := ih i hi hp
      exact ⟨j, by omega, h2, h3⟩
    · exact ⟨k, Nat.le_refl _, h, fun i hi hp => hh ⟨i, hi, hp⟩⟩
theorem next_clean {L : List S} {f : Nat} (hf : f < L.length) (h : 0 < cleanN L) : ∃ i, nextOf L f = some i ∧ i < L.length ∧ (seg L i).state = 0 := by
  obtain ⟨i, hi, hs⟩ := cleanN_pos h
  obtain ⟨k, hk, rfl⟩ := way_all hf hi
  obtain ⟨j, hj, hp, hno⟩ := least (p := fun k => (seg L (way L f k)).state = 0) (fun _ => inferInstance) hs
  exact ⟨way L f j, nextOf_some (by omega) hp hno, way_lt _ _ (by omega), hp⟩
theorem next_no {L : List S} {f : Nat} (hf : f < L.length) (h : cleanN L = 0) : nextOf L f = none :=
  nextOf_none fun j _ => cleanN_zero h (way_lt _ _ (by omega))
/-- what Next answers -/
def nxV (L : List S) (f : Int) : Int := if 0 ≤ f ∧ f < L.length then ((nextOf L f.toNat).getD 0 : Nat) else 0
def nxB (L : List S) (f : Int) : Bool := if 0 ≤ f ∧ f < L.length then (nextOf L f.toNat).isSome else false

/-! ### the chosen one -/
def okS (i : Nat) (s : S) : Prop := ¬ i = 0 ∧ s.state = 1 ∧ ¬ s.live = 16
instance (i : Nat) (s : S) : Decidable (okS i s) := by unfold okS; infer_instance
def cand (L : List S) (k : Nat) : List Nat := (List.range k).filter fun i => decide (okS i (seg L i))
theorem cand_succ (L : List S) (k : Nat) : cand L (k + 1) = cand L k ++ if okS k (seg L k) then [k] else [] := by
  unfold cand
  rw [List.range_succ, List.filter_append]
  by_cases h : okS k (seg L k) <;> simp [h]
theorem cand_mem {L : List S} {k i : Nat} (h : i ∈ cand L k) : i < k ∧ okS i (seg L i) := by
  unfold cand at h
  rw [List.mem_filter, List.mem_range] at h
  exact ⟨h.1, of_decide_eq_true h.2⟩
theorem mem_cand {L : List S} {k i : Nat} (h : i < k) (ho : okS i (seg L i)) : i ∈ cand L k := by
  unfold cand
  rw [List.mem_filter, List.mem_range]
  exact ⟨h, by simpa using ho⟩
/-- those ahead of k are the first ones of all -/
theorem cand_prefix (L : List S) {k n : Nat} (h : k ≤ n) : (cand L n).take (cand L k).length = cand L k := by
  obtain ⟨m, rfl⟩ : ∃ m, n = k + m := ⟨n - k, by omega⟩
  clear h
  induction m with
  | zero => simp
  | succ m ih =>
    rw [← Nat.add_assoc, cand_succ, List.take_append_of_le_length, ih]
    have := congrArg List.length ih
    rw [List.length_take] at this
    omega
theorem cand_length_le (L : List S) {k n : Nat} (h : k ≤ n) : (cand L k).length ≤ (cand L n).length := by
  have := congrArg List.length (cand_prefix L h)
  rw [List.length_take] at this
  omega
theorem cand_at {L : List S} {k n : Nat} (h : k < n) (ho : okS k (seg L k)) : (cand L n)[(cand L k).length]? = some k := by
  have h1 := cand_prefix L (show k + 1 ≤ n from h)
  rw [cand_succ, if_pos ho] at h1
  have h2 : ((cand L n).take (cand L k ++ [k]).length)[(cand L k).length]? = (cand L k ++ [k])[(cand L k).length]? := by rw [h1]
  rw [List.getElem?_take, List.length_append, List.length_singleton, if_pos (by omega)] at h2
  rw [h2]
  simp

/-- what a segment is worth -/
def worth (w : Int) (now : Nat) (s : S) : Nat :=
  if w = 0 then 281474976710656 - s.begun
  else if w = 1 then (16 - s.live).toNat
  else if now ≤ s.begun then 0 else (16 - s.live).toNat * min (now - s.begun) 288230376151711744 / (s.live.toNat + 1)
theorem worth_old (now : Nat) (s : S) : worth 0 now s = 281474976710656 - s.begun := if_pos rfl
theorem worth_few (now : Nat) (s : S) : worth 1 now s = (16 - s.live).toNat := by unfold worth; simp
theorem worth_no {now : Nat} {s : S} (h : now ≤ s.begun) : worth 2 now s = 0 := by unfold worth; simp [h]
theorem worth_yes {now : Nat} {s : S} (h : ¬ now ≤ s.begun) : worth 2 now s = (16 - s.live).toNat * min (now - s.begun) 288230376151711744 / (s.live.toNat + 1) := by unfold worth; simp [h]
def bst (L : List S) (w : Int) (now : Nat) (C : List Nat) : Nat := C.foldl (fun b i => if b = 0 ∨ worth w now (seg L b) < worth w now (seg L i) then i else b) 0
theorem bst_nil (L : List S) (w : Int) (now : Nat) : bst L w now [] = 0 := rfl
theorem bst_snoc (L : List S) (w : Int) (now : Nat) (C : List Nat) (i : Nat) : bst L w now (C ++ [i]) = if bst L w now C = 0 ∨ worth w now (seg L (bst L w now C)) < worth w now (seg L i) then i else bst L w now C := by
  unfold bst
  rw [List.foldl_append]
  rfl
theorem bst_mem (L : List S) (w : Int) (now : Nat) : ∀ n, bst L w now (cand L n) = 0 ∧ cand L n = [] ∨ 0 < bst L w now (cand L n) ∧ bst L w now (cand L n) ∈ cand L n
  | 0 => .inl ⟨rfl, rfl⟩
  | n + 1 => by
    rw [cand_succ]
    have ih := bst_mem L w now n
    by_cases h : okS n (seg L n)
    · rw [if_pos h, bst_snoc]
      have hn : 0 < n := by have := h.1; omega
      split
      · exact .inr ⟨hn, by simp⟩
      · rename_i hh
        rcases ih with ⟨h1, _⟩ | ⟨h1, h2⟩
        · exact absurd (.inl h1) hh
        · exact .inr ⟨h1, by simp [h2]⟩
    · rw [if_neg h, List.append_nil]
      exact ih
theorem bst_lt (L : List S) (w : Int) (now : Nat) (n : Nat) (h : 0 < bst L w now (cand L n)) : bst L w now (cand L n) < n := by
  rcases bst_mem L w now n with ⟨h1, _⟩ | ⟨_, h2⟩
  · omega
  · exact (cand_mem h2).1
theorem bst_max (L : List S) (w : Int) (now : Nat) : ∀ n i, i ∈ cand L n → worth w now (seg L i) ≤ worth w now (seg L (bst L w now (cand L n)))
  | 0, i, h => by simp [cand] at h
  | n + 1, i, h => by
    have ih := bst_max L w now n
    rw [cand_succ] at h ⊢
    by_cases hk : okS n (seg L n)
    · rw [if_pos hk] at h ⊢
      rw [bst_snoc]
      split
      · rename_i hh
        rcases List.mem_append.1 h with h1 | h1
        · rcases hh with h0 | hl
          · rcases bst_mem L w now n with ⟨_, e⟩ | ⟨h2, _⟩
            · rw [e] at h1; cases h1
            · omega
          · have := ih i h1; omega
        · obtain rfl : i = n := by simpa using h1
          exact Nat.le_refl _
      · rename_i hh
        rcases List.mem_append.1 h with h1 | h1
        · exact ih i h1
        · obtain rfl : i = n := by simpa using h1
          omega
    · rw [if_neg hk, List.append_nil] at h ⊢
      exact ih i h
/-- what Choose answers -/
def isWayP (w : Int) : Prop := 0 ≤ w ∧ w ≤ 2
instance (w : Int) : Decidable (isWayP w) := by unfold isWayP; infer_instance
def chV (L : List S) (w : Int) (now : Nat) : Int := if RightP L ∧ isWayP w then (bst L w now (cand L L.length) : Nat) else 0
def chB (L : List S) (w : Int) (now : Nat) : Bool := decide (RightP L ∧ isWayP w ∧ 0 < bst L w now (cand L L.length))
def chE (L : List S) (w : Int) : Int := if RightP L then (if isWayP w then 0 else 2) else 60

/-- what Set answers -/
def setOk (L : List S) (i : Int) (s : S) : Prop := (0 ≤ i ∧ i < L.length) ∧ RightP L ∧ RightP (L.set i.toNat s)
instance (L : List S) (i : Int) (s : S) : Decidable (setOk L i s) := by unfold setOk; infer_instance
def setV (L : List S) (i : Int) (s : S) : List S := if setOk L i s then L.set i.toNat s else []
def setE (L : List S) (i : Int) (s : S) : Int := if 0 ≤ i ∧ i < L.length then (if setOk L i s then 0 else 60) else 2
end Go.Proofs.Ytgadclbenbakfaa.Usage
