/- Several texts in one, each under its own heading. -/
import Derived.Test.YteopcjfakhmifaaPk07
import Derived.StillTailTactics
import Derived.Deep.RegionWith
import Derived.Deep.RegionHeld3
import Derived.BigQuiet
import Derived.Handy
import Derived.Laws.StructEq
import Derived.Laws.AppendOwnNone
import Derived.Deep.RegionLaw
import Derived.Deep.AppendLies
import Derived.Lib.SliceRun
import Derived.Test.YteopcjfakhmifaaPk01
import Derived.Test.YteopcjfakhmifaaPk02
/- Files as contents, as data: how bytes are cut, when contents are a file's, which ones are others, which files are trimmed. They speak of no program. -/
namespace Go.Proofs.Yteopcjfakhmifaa.Vol
open Ino
set_option linter.unusedVariables false
set_option linter.unusedSimpArgs false

theorem ba_ext {a b : ByteArray} (h : a.data.toList = b.data.toList) : a = b := ByteArray.ext (Array.toList_inj.1 h)
theorem len_list (a : ByteArray) : a.data.toList.length = a.size := by simp

/-! ### contents -/
/-- how many contents so many bytes have -/
def nb (n : Nat) : Nat := (n + 507) / 508
theorem bl_nb (n : Nat) : blN n = nb n := by unfold blN nb; split <;> omega
/-- the content i of a file -/
def ch (s : ByteArray) (i : Nat) : ByteArray := s.extract (508 * i) (min s.size (508 * i + 508))
theorem ch_list (s : ByteArray) (i : Nat) : (ch s i).data.toList = (s.data.toList.drop (508 * i)).take 508 := by
  unfold ch
  rw [Lib.extract_data]
  apply List.ext_getElem?
  intro j
  simp only [List.getElem?_take, List.getElem?_drop]
  by_cases h : 508 * i + j < s.size
  · by_cases h2 : j < 508
    · rw [if_pos (by omega), if_pos h2]
    · rw [if_neg (by omega), if_neg h2]
  · have : s.data.toList[508 * i + j]? = none := List.getElem?_eq_none (by rw [len_list]; omega)
    rw [this]
    split <;> split <;> rfl
theorem ch_size (s : ByteArray) (i : Nat) : (ch s i).size = min 508 (s.size - 508 * i) := by
  rw [← len_list, ch_list, List.length_take, List.length_drop, len_list]
theorem ch_le (s : ByteArray) (i : Nat) : (ch s i).size ≤ 508 := by rw [ch_size]; omega
theorem ch_pos {s : ByteArray} {i : Nat} (h : i < nb s.size) : 0 < (ch s i).size := by rw [ch_size]; unfold nb at h; omega
theorem nb_iff (n i : Nat) : i < nb n ↔ 508 * i < n := by unfold nb; omega
/-- the contents of a file -/
def cuts (s : ByteArray) : List ByteArray := (List.range (nb s.size)).map (ch s)
theorem cuts_len (s : ByteArray) : (cuts s).length = nb s.size := by unfold cuts; simp
theorem cuts_at {s : ByteArray} {i : Nat} (h : i < nb s.size) : (cuts s)[i]? = some (ch s i) := by
  unfold cuts
  rw [List.getElem?_map, List.getElem?_range h]
  rfl
/-- the content i of some -/
def tx (L : List ByteArray) (i : Nat) : ByteArray := L.getD i ⟨#[]⟩
theorem tx_get {L : List ByteArray} {i : Nat} (h : i < L.length) : L[i]? = some (tx L i) := by
  unfold tx
  rw [List.getD_eq_getElem?_getD, List.getElem?_eq_getElem h]
  rfl
theorem tx_out {L : List ByteArray} {i : Nat} (h : L.length ≤ i) : tx L i = ⟨#[]⟩ := by
  unfold tx
  rw [List.getD_eq_getElem?_getD, List.getElem?_eq_none h]
  rfl
theorem tx_ext {A B : List ByteArray} (hl : A.length = B.length) (h : ∀ j, j < A.length → tx A j = tx B j) : A = B := by
  apply List.ext_getElem?
  intro i
  rcases Nat.lt_or_ge i A.length with hi | hi
  · rw [tx_get hi, tx_get (by omega), h i hi]
  · rw [List.getElem?_eq_none hi, List.getElem?_eq_none (by omega)]
theorem tx_cuts {s : ByteArray} {i : Nat} (h : i < nb s.size) : tx (cuts s) i = ch s i := by
  have h1 := tx_get (L := cuts s) (i := i) (by rw [cuts_len]; exact h)
  rw [cuts_at h] at h1
  exact (Option.some.inj h1).symm
/-- the first k contents -/
def cutsK (s : ByteArray) (k : Nat) : List ByteArray := (List.range k).map (ch s)
theorem cutsK_succ (s : ByteArray) (k : Nat) : cutsK s (k + 1) = cutsK s k ++ [ch s k] := by unfold cutsK; rw [List.range_succ, List.map_append]; rfl
theorem cutsK_len (s : ByteArray) (k : Nat) : (cutsK s k).length = k := by unfold cutsK; simp
theorem cutsK_all (s : ByteArray) : cutsK s (nb s.size) = cuts s := rfl

/-! ### pasted -/
/-- the first k, one behind the other -/
def jn (L : List ByteArray) : Nat → ByteArray
  | 0 => ⟨#[]⟩
  | k + 1 => jn L k ++ tx L k
theorem jn_succ (L : List ByteArray) (k : Nat) : jn L (k + 1) = jn L k ++ tx L k := rfl
theorem jn_congr {A B : List ByteArray} : ∀ k, (∀ j, j < k → tx A j = tx B j) → jn A k = jn B k
  | 0, _ => rfl
  | k + 1, h => by rw [jn, jn, jn_congr k (fun j hj => h j (by omega)), h k (by omega)]
/-- the content k fits its place among n -/
def fitC (L : List ByteArray) (n k : Nat) : Prop := (tx L k).size ≤ 508 ∧ (k + 1 = n ∨ (tx L k).size = 508)
instance (L : List ByteArray) (n k : Nat) : Decidable (fitC L n k) := by unfold fitC; infer_instance
theorem jn_size {L : List ByteArray} {n : Nat} : ∀ k, k < n → (∀ j, j < k → fitC L n j) → (jn L k).size = 508 * k
  | 0, _, _ => rfl
  | k + 1, h, hf => by
    have h1 := (hf k (by omega)).2
    rw [jn, ByteArray.size_append, jn_size k (by omega) (fun j hj => hf j (by omega))]
    omega
theorem jn_le {L : List ByteArray} {n : Nat} (k : Nat) (hk : k ≤ n) (hf : ∀ j, j < k → fitC L n j) : (jn L k).size ≤ 508 * k := by
  cases k with
  | zero => exact Nat.zero_le _
  | succ k =>
    have h1 := (hf k (by omega)).1
    rw [jn, ByteArray.size_append, jn_size k (by omega) (fun j hj => hf j (by omega))]
    omega
/-- are contents a file's, of a size -/
def pasteP (L : List ByteArray) (n : Nat) : Prop := (n ≤ 200000 ∧ L.length = nb n) ∧ (∀ j, j < L.length → fitC L L.length j) ∧ n ≤ (jn L L.length).size ∧ bareB (jn L L.length) n = true
instance (L : List ByteArray) (n : Nat) : Decidable (pasteP L n) := by unfold pasteP; exact @instDecidableAnd _ _ _ (@instDecidableAnd _ _ (Nat.decidableBallLT _ _) _)
def pasteV (L : List ByteArray) (n : Nat) : ByteArray := if pasteP L n then (jn L L.length).extract 0 n else ⟨#[]⟩
def pasteE (L : List ByteArray) (n : Nat) : Int := if pasteP L n then 0 else 154
theorem jn_cuts (s : ByteArray) : ∀ k, k ≤ nb s.size → (jn (cuts s) k).data.toList = s.data.toList.take (508 * k)
  | 0, _ => rfl
  | k + 1, h => by
    rw [jn, app_list, jn_cuts s k (by omega), tx_cuts (by omega), ch_list, ← List.take_add]
    rfl
theorem jn_all (s : ByteArray) : jn (cuts s) (cuts s).length = s := by
  apply ba_ext
  rw [cuts_len, jn_cuts s _ (Nat.le_refl _), List.take_of_length_le (by rw [len_list]; unfold nb; omega)]
theorem paste_cuts {s : ByteArray} (h : s.size ≤ 200000) : pasteP (cuts s) s.size := by
  refine ⟨⟨h, cuts_len s⟩, fun j hj => ?_, ?_, ?_⟩
  · rw [cuts_len] at hj ⊢
    refine ⟨by rw [tx_cuts hj]; exact ch_le _ _, ?_⟩
    rw [tx_cuts hj, ch_size]
    unfold nb at *
    omega
  · rw [jn_all]; exact Nat.le_refl _
  · rw [jn_all]; exact bareB_end _ _ (Nat.le_refl _)
theorem extract_all (s : ByteArray) : s.extract 0 s.size = s := by
  apply ba_ext
  rw [Lib.extract_data, List.drop_zero, Nat.sub_zero, List.take_of_length_le (by rw [len_list]; omega)]
theorem pasteV_cuts {s : ByteArray} (h : s.size ≤ 200000) : pasteV (cuts s) s.size = s ∧ pasteE (cuts s) s.size = 0 := by
  unfold pasteV pasteE
  rw [if_pos (paste_cuts h), if_pos (paste_cuts h), jn_all, extract_all]
  exact ⟨rfl, rfl⟩

/-! ### which ones are others -/
/-- a content, bytes 0 behind -/
def full (x : ByteArray) : ByteArray := x ++ zeros (508 - x.size)
theorem full_size {x : ByteArray} (h : x.size ≤ 508) : (full x).size = 508 := by unfold full; rw [ByteArray.size_append, zeros_size]; omega
/-- the content i of was stands, and is that of is, bytes 0 behind not counted -/
def stays (was is : ByteArray) (i : Nat) : Prop := i < nb was.size ∧ full (ch was i) = full (ch is i)
instance (was is : ByteArray) (i : Nat) : Decidable (stays was is i) := by unfold stays; infer_instance
/-- the numbers of those among the first k that are others -/
def chgK (was is : ByteArray) (k : Nat) : List Nat := (List.range k).filter (fun i => !decide (stays was is i))
theorem chgK_zero (was is : ByteArray) : chgK was is 0 = [] := rfl
theorem chgK_yes {was is : ByteArray} {k : Nat} (h : stays was is k) : chgK was is (k + 1) = chgK was is k := by
  unfold chgK
  rw [List.range_succ, List.filter_append, List.filter_cons_of_neg (by simp [h]), List.filter_nil, List.append_nil]
theorem chgK_no {was is : ByteArray} {k : Nat} (h : ¬ stays was is k) : chgK was is (k + 1) = chgK was is k ++ [k] := by
  unfold chgK
  rw [List.range_succ, List.filter_append, List.filter_cons_of_pos (by simp [h]), List.filter_nil]
theorem chgK_le (was is : ByteArray) (k : Nat) : (chgK was is k).length ≤ k := by
  have := List.length_filter_le (fun i => !decide (stays was is i)) (List.range k)
  rw [List.length_range] at this
  exact this
/-- the numbers of the contents that are others -/
def chg (was is : ByteArray) : List Nat := chgK was is (nb is.size)
theorem chg_same (s : ByteArray) : chg s s = [] := by
  unfold chg chgK
  rw [List.filter_eq_nil_iff]
  intro i hi
  rw [List.mem_range] at hi
  simp only [Bool.not_eq_true', decide_eq_false_iff_not, Decidable.not_not]
  exact ⟨hi, rfl⟩
/-- the first one among those from k on -/
theorem chg_split (was is : ByteArray) (k : Nat) (hk : k ≤ nb is.size) : ∃ R, chg was is = chgK was is k ++ R ∧ ∀ x ∈ R, k ≤ x := by
  obtain ⟨d, hd⟩ : ∃ d, nb is.size = k + d := ⟨nb is.size - k, by omega⟩
  unfold chg
  rw [hd]
  clear hd hk
  induction d with
  | zero => exact ⟨[], by rw [List.append_nil]; rfl, fun x h => by cases h⟩
  | succ d ih =>
    obtain ⟨R, e, h⟩ := ih
    by_cases hs : stays was is (k + d)
    · exact ⟨R, by rw [← Nat.add_assoc, chgK_yes hs]; exact e, h⟩
    · refine ⟨R ++ [k + d], by rw [← Nat.add_assoc, chgK_no hs, e, List.append_assoc], fun x hx => ?_⟩
      rcases List.mem_append.1 hx with hx | hx
      · exact h x hx
      · rw [List.mem_singleton] at hx; omega
theorem chg_here {was is : ByteArray} {k : Nat} (hk : k < nb is.size) (h : ¬ stays was is k) : ∃ R, chg was is = chgK was is k ++ k :: R := by
  obtain ⟨R, e, _⟩ := chg_split was is (k + 1) hk
  refine ⟨R, ?_⟩
  rw [e, chgK_no h, List.append_assoc]
  rfl
/-- what stands at the place where the first k are told -/
theorem chg_next {was is : ByteArray} {k : Nat} (hk : k < nb is.size) : (chg was is)[(chgK was is k).length]? = some k ↔ ¬ stays was is k := by
  by_cases h : stays was is k
  · obtain ⟨R, e, hR⟩ := chg_split was is (k + 1) hk
    rw [chgK_yes h] at e
    constructor
    · intro he
      rw [e, List.getElem?_append_right (Nat.le_refl _)] at he
      have := hR k (List.mem_of_getElem? he)
      omega
    · intro h2; exact absurd h h2
  · obtain ⟨R, e⟩ := chg_here hk h
    rw [e, List.getElem?_append_right (Nat.le_refl _), Nat.sub_self]
    exact ⟨fun _ => h, fun _ => rfl⟩

/-! ### joined -/
theorem cuts_join {s : ByteArray} (hs : s.size % 508 = 0) (t : ByteArray) : cuts (s ++ t) = cuts s ++ cuts t := by
  obtain ⟨q, hq⟩ : ∃ q, s.size = 508 * q := ⟨s.size / 508, by omega⟩
  have hn : nb (s ++ t).size = q + nb t.size := by rw [ByteArray.size_append, hq]; unfold nb; omega
  have hn1 : nb s.size = q := by rw [hq]; unfold nb; omega
  apply tx_ext
  · rw [List.length_append, cuts_len, cuts_len, cuts_len, hn, hn1]
  · intro j hj
    rw [cuts_len] at hj
    rw [tx_cuts hj]
    rw [hn] at hj
    have hl : s.data.toList.length = 508 * q := by rw [len_list, hq]
    by_cases h : j < q
    · have e1 : tx (cuts s ++ cuts t) j = ch s j := by
        have h1 : (cuts s ++ cuts t)[j]? = some (ch s j) := by rw [List.getElem?_append_left (by rw [cuts_len, hn1]; exact h)]; exact cuts_at (by rw [hn1]; exact h)
        unfold tx
        rw [List.getD_eq_getElem?_getD, h1]
        rfl
      rw [e1]
      apply ba_ext
      rw [ch_list, ch_list, app_list, List.drop_append_of_le_length (by omega), List.take_append_of_le_length (by rw [List.length_drop]; omega)]
    · obtain ⟨i, rfl⟩ : ∃ i, j = q + i := ⟨j - q, by omega⟩
      have e1 : tx (cuts s ++ cuts t) (q + i) = ch t i := by
        have h1 : (cuts s ++ cuts t)[q + i]? = some (ch t i) := by
          rw [List.getElem?_append_right (by rw [cuts_len, hn1]; omega), cuts_len, hn1, Nat.add_sub_cancel_left]
          exact cuts_at (by omega)
        unfold tx
        rw [List.getD_eq_getElem?_getD, h1]
        rfl
      rw [e1]
      apply ba_ext
      rw [ch_list, ch_list, app_list, show 508 * (q + i) = s.data.toList.length + 508 * i by omega, List.drop_append, List.drop_of_length_le (by omega), List.nil_append, Nat.add_sub_cancel_left]

/-! ### one byte -/
/-- a file whose byte a is another one -/
def turn (s : ByteArray) (a : Nat) (c : UInt8) : ByteArray := s.extract 0 a ++ ⟨#[c]⟩ ++ s.extract (a + 1) s.size
theorem turn_list {s : ByteArray} {a : Nat} (h : a < s.size) (c : UInt8) : (turn s a c).data.toList = s.data.toList.set a c := by
  unfold turn
  have hl := len_list s
  rw [app_list, app_list, Lib.extract_data, Lib.extract_data, List.drop_zero, Nat.sub_zero, List.set_eq_take_append_cons_drop, if_pos (by omega), List.append_assoc, List.take_of_length_le (by rw [List.length_drop]; omega : (s.data.toList.drop (a + 1)).length ≤ _)]
  rfl
theorem turn_size {s : ByteArray} {a : Nat} (h : a < s.size) (c : UInt8) : (turn s a c).size = s.size := by
  rw [← len_list, turn_list h, List.length_set, len_list]
theorem full_inj {x y : ByteArray} (h : x.size = y.size) (e : full x = full y) : x = y := by
  unfold full at e
  rw [h] at e
  apply ba_ext
  have := congrArg (fun b : ByteArray => b.data.toList) e
  simp only [app_list] at this
  exact List.append_cancel_right this
theorem stays_same {s t : ByteArray} (h : t.size = s.size) {i : Nat} (hi : i < nb t.size) : stays s t i ↔ ch s i = ch t i := by
  constructor
  · intro h2
    exact full_inj (by rw [ch_size, ch_size, h]) h2.2
  · intro h2
    exact ⟨by rw [← h]; exact hi, by rw [h2]⟩
theorem ch_turn {s : ByteArray} {a : Nat} (h : a < s.size) (c : UInt8) (i : Nat) : ch s i = ch (turn s a c) i ↔ (i = a / 508 → turn s a c = s) := by
  have hl := len_list s
  constructor
  · intro e hi
    apply ba_ext
    rw [turn_list h]
    have e2 := congrArg (fun b : ByteArray => b.data.toList[a - 508 * i]?) e
    simp only [ch_list, turn_list h] at e2
    rw [List.getElem?_take_of_lt (by omega), List.getElem?_take_of_lt (by omega), List.getElem?_drop, List.getElem?_drop, show 508 * i + (a - 508 * i) = a by omega, List.getElem?_set_self (by omega)] at e2
    apply List.ext_getElem?
    intro j
    by_cases hj : a = j
    · subst hj; rw [e2, List.getElem?_set_self (by omega)]
    · rw [List.getElem?_set_ne hj]
  · intro e
    by_cases hi : i = a / 508
    · rw [e hi]
    · apply ba_ext
      rw [ch_list, ch_list, turn_list h]
      apply List.ext_getElem?
      intro j
      simp only [List.getElem?_take, List.getElem?_drop]
      split
      · rw [List.getElem?_set_ne (by omega)]
      · rfl
theorem chg_turn {s : ByteArray} {a : Nat} (h : a < s.size) (c : UInt8) : chg s (turn s a c) = if turn s a c = s then [] else [a / 508] := by
  split
  · rename_i e
    rw [e]
    exact chg_same s
  · rename_i e
    have hs := turn_size h c
    have hst : ∀ i, i < nb s.size → (stays s (turn s a c) i ↔ ¬ i = a / 508) := fun i hi => by
      rw [stays_same hs (by rw [hs]; exact hi), ch_turn h]
      constructor
      · intro h2 h3; exact e (h2 h3)
      · intro h2 h3; exact absurd h3 h2
    have hk : ∀ k, k ≤ nb s.size → chgK s (turn s a c) k = if a / 508 < k then [a / 508] else [] := fun k => by
      induction k with
      | zero => intro _; rw [if_neg (by omega)]; rfl
      | succ k ih =>
        intro hk
        by_cases hx : k = a / 508
        · rw [chgK_no (fun h2 => (hst k (by omega)).1 h2 hx), ih (by omega), if_neg (by omega), if_pos (by omega), hx]
          rfl
        · rw [chgK_yes ((hst k (by omega)).2 hx), ih (by omega)]
          by_cases h3 : a / 508 < k
          · rw [if_pos h3, if_pos (by omega)]
          · rw [if_neg h3, if_neg (by omega)]
    unfold chg
    rw [hs, hk _ (Nat.le_refl _), if_pos ((nb_iff _ _).2 (by omega))]
end Go.Proofs.Yteopcjfakhmifaa.Vol
/- Texts and numbers in slices, as contents and their numbers lie there. -/
namespace Go.Proofs.Yteopcjfakhmifaa.Vol
open Go.RowKit
attribute [local go_sem] Oper.semAt_some
set_option linter.unusedVariables false
set_option linter.unusedSimpArgs false
theorem grown_of_below {W W' : World} (h : Below W.heap.size W W') : W.grownBy W' none := ⟨h.1, h.2, h.3, h.4, fun k hk _ => h.5 k hk⟩
theorem own_below2 {w w' : World} {base n : Nat} {t : TypeId} {sz : Nat} {v : Value} {xs : List Value} (h : w.ownsRow base t sz v n xs) (hB : Below w.heap.size w w') : w'.ownsRow base t sz v n xs :=
  h.kept (grown_of_below hB) (by cases hv : v.ownBlock <;> simp)
theorem below_al {w W : World} (h : Below w.heap.size w W) (o : Obj) : Below w.heap.size w (W.alloc o) := h.alloc h.size _
theorem below_new (w : World) (o : Obj) : Below w.heap.size w (w.alloc o) := (Below.refl _ _).alloc (Nat.le_refl _) _
/-- what asks answers: only what is new is written -/
def Ans (w : World) (v : Value) (e : Ending) (w' : World) : Prop := e = .returned v ∧ Below w.heap.size w w'
theorem Ans.eq {w w' : World} {e : Ending} {v u : Value} (h : v = u) (k : Ans w v e w') : Ans w u e w' := h ▸ k

/-! ### []string -/
/-- they lie in a slice -/
def Strs (w : World) (v : Value) (L : List ByteArray) : Prop := Lies w v L.length 1 (L.map fun (x : ByteArray) => .string x)
theorem Strs.below {w w' : World} {v : Value} {L : List ByteArray} (h : Strs w v L) (hB : Below w.heap.size w w') : Strs w' v L := Lies.below h hB
theorem Strs.nil (w : World) : Strs w (.slice none 0 0) [] := Lies.nil w 1
theorem Strs.parts {w : World} {v : Value} {L : List ByteArray} (h : Strs w v L) : ∃ a cap, v = .slice a L.length cap ∧ L.length ≤ cap ∧ cap ≤ 9223372036854775807 := by
  obtain ⟨a, cap, e, _, h1, h2⟩ := Lies.parts h
  exact ⟨a, cap, e, h1, h2⟩
theorem Strs.at {w : World} {a : Option Addr} {n cap : Nat} {L : List ByteArray} (hn : L.length = n) (h : Strs w (.slice a n cap) L) {k : Nat} (hk : k < n) : ∃ b off, a = some ⟨b, off, none⟩ ∧ ∀ x, x = L.getD k ⟨#[]⟩ → w.cell? ⟨b, off + k, none⟩ = some (.string x) := by
  subst hn
  obtain ⟨b, off, e, hc⟩ := Lies.read h (j := k) (u := (fun (x : ByteArray) => .string x) (L.getD k ⟨#[]⟩)) (by rw [List.getElem?_map, List.getD_eq_getElem?_getD, List.getElem?_eq_getElem hk]; rfl)
  exact ⟨b, off, e, fun x hx => by rw [hx]; exact hc⟩
/-- the same, of a slice that is known by its parts -/
theorem Strs.get {w : World} {b off n cap : Nat} {L : List ByteArray} (hn : L.length = n) (h : Strs w (.slice (some ⟨b, off, none⟩) n cap) L) {k : Nat} (hk : k < n) {x : ByteArray} (hx : x = L.getD k ⟨#[]⟩) : w.cell? ⟨b, off + k, none⟩ = some (.string x) := by
  obtain ⟨b2, off2, e, hc⟩ := h.at hn hk
  cases e
  exact hc x hx
theorem Strs.lt {W : World} {b off n cap : Nat} {L : List ByteArray} (hl : L.length = n) (h : Strs W (.slice (some ⟨b, off, none⟩) n cap) L) (hn : 0 < n) : b < W.heap.size := World.block_lt_of_cell? _ _ (h.get hl hn rfl)
/-- a slice stands where its block does -/
theorem Strs.keep {W W' : World} {v : Value} {L : List ByteArray} (h : Strs W v L) (hk : ∀ g o k c, v = .slice (some ⟨g, o, none⟩) k c → 0 < k → W'.heap[g]? = W.heap[g]?) : Strs W' v L := by
  obtain ⟨a, cap, rfl, h2, h3, h4, h5⟩ := h
  refine ⟨a, cap, rfl, h2, h3, h4, fun hn => ?_⟩
  obtain ⟨b, off, rfl, hc⟩ := h5 hn
  refine ⟨b, off, rfl, fun j u hj => ?_⟩
  have he : W'.cell? ⟨b, off + j, none⟩ = W.cell? ⟨b, off + j, none⟩ := World.cell?_of_block (w := W) (hk b off _ _ rfl hn)
  exact he.trans (hc j u hj)
theorem Strs.cut {w : World} {a : Option Addr} {n cap : Nat} {L : List ByteArray} (hn : L.length = n) (h : Strs w (.slice a n cap) L) (k : Nat) (hk : k ≤ n) : Strs w (.slice a k cap) (L.take k) := by
  subst hn
  obtain ⟨a', cap', e, hc, hm, hlen, hcells⟩ := h
  cases e
  have hl : (L.take k).length = k := by rw [List.length_take]; omega
  unfold Strs
  rw [hl]
  refine ⟨a, cap, rfl, by omega, hm, by simp; omega, fun hp => ?_⟩
  obtain ⟨b, off, e, hc⟩ := hcells (by omega)
  refine ⟨b, off, e, fun j u hj => hc j u ?_⟩
  rw [List.map_take, List.getElem?_take] at hj
  split at hj
  · exact hj
  · cases hj
theorem Strs.own {w : World} {base : Nat} {v : Value} {L : List ByteArray} (h : w.ownsRow base 9 1 v L.length (L.map fun (x : ByteArray) => .string x)) : Strs w v L := Lies.own h
theorem Strs.one {W : World} {b : Nat} {x : ByteArray} {ty : TypeId} (h : W.heap[b]? = some (.cells #[.string x] ty (0, 0))) : Strs W (.slice (some ⟨b, 0, none⟩) 1 1) [x] := by
  refine ⟨_, 1, rfl, Nat.le_refl _, ⟨by unfold maxLen; decide, fun e => by cases e⟩, rfl, fun _ => ⟨b, 0, rfl, fun j u hj => ?_⟩⟩
  rcases j with _ | j
  · cases hj
    simp only [World.cell?, h]
    rfl
  · simp at hj
theorem infoStrs : (Try.prog.info? 9).map (fun i => (i.zero, i.size, i.bytes)) = some (some (.string ⟨#[]⟩), 1, 16) := by kernel_rfl
theorem run_append_strs (w : World) (base : Nat) (v : Value) (n : Nat) (xs : List Value) (hown : w.ownsRow base 9 1 v n xs) (vL : Value) (L : List ByteArray) (hL : Strs w vL L) (h1 : n + L.length ≤ 100000) (hb : base ≤ w.heap.size) :
    ∃ v' w', (Builtin.append_ #[22, 22] 22 #[v, vL]).run Try.prog w = .ok v' w' ∧ w'.ownsRow base 9 1 v' (n + L.length) (xs ++ L.map fun (x : ByteArray) => .string x) ∧ w.grownBy w' v.ownBlock := by
  obtain ⟨i0, hi, hz0, hz1, hz2⟩ := info_parts infoStrs
  obtain ⟨a, cap, rfl, hc1, hc2⟩ := hL.parts
  cases a with
  | none =>
    have hc0 : cap = 0 := Lies.none_cap hL
    have hl0 : L = [] := List.eq_nil_of_length_eq_zero (by omega)
    subst hl0
    subst hc0
    refine ⟨v, w, run_append_owned_none (P := Try.prog) w base 22 22 9 i0 1 Try.underlying22 hi v n xs hown, ?_, ⟨rfl, rfl, rfl, Nat.le_refl _, fun _ _ _ => rfl⟩⟩
    simpa using hown
  | some ad =>
    have hnews : ∀ j u, (L.map fun (x : ByteArray) => .string x)[j]? = some u → w.cell? (ad.add j) = some u := fun j u hj => by
      obtain ⟨a', cap', e, _, _, h4, h5⟩ := hL
      cases e
      have hl := (List.getElem?_eq_some_iff.1 hj).1
      rw [List.length_map] at hl
      obtain ⟨b, off, e2, hc⟩ := h5 (by omega)
      cases e2
      rw [add_plain]
      exact hc j u hj
    obtain ⟨v', w', hr, h2, h3, _⟩ := run_append_own (P := Try.prog) w base 22 22 9 i0 (.string ⟨#[]⟩) 1 16 Try.underlying22 hi hz0 hz1 hz2 rfl (by decide) v n xs hown ad L.length cap (L.map fun (x : ByteArray) => .string x) (by rw [List.length_map, Nat.mul_one]) hnews (fun u hu => by obtain ⟨x, _, rfl⟩ := List.mem_map.1 hu; rfl) (by unfold maxLen; omega) (by omega) hb
    exact ⟨v', w', hr, h2, h3⟩
theorem wp_append_strs {w : World} {o : Oper} {a : Act} {K : Act → World → Prop} {Q : Exit → Act → World → Prop} (s x : Operand)
    (ho : o.op = .call { callee := .builtin .append, args := #[s, x], argTypes := #[22, 22] }) (hty : o.type = 22)
    (base : Nat) (v : Value) (n : Nat) (xs : List Value) (hs : a.eval s = v) (hown : w.ownsRow base 9 1 v n xs) (vL : Value) (L : List ByteArray) (hx : a.eval x = vL) (hL : Strs w vL L) (h1 : n + L.length ≤ 100000) (hb : base ≤ w.heap.size)
    (h : ∀ v' w', w'.ownsRow base 9 1 v' (n + L.length) (xs ++ L.map fun (x : ByteArray) => .string x) → w.grownBy w' v.ownBlock → K (a.put o.dst v') w') : o.wp Try.prog a w K Q := by
  obtain ⟨v', w', hr, h2, h3⟩ := run_append_strs w base v n xs hown vL L hL h1 hb
  unfold Oper.wp execOp
  simp only [ho, hty, resolve, invoke, builtin, Sem.run_bind, Sem.run_pure, Result.andThen_ok, List.map_toArray, List.map_cons, List.map_nil, hs, hx, hr]
  exact h v' w' h2 h3
theorem wpList_append_strs {w : World} {ops : Array Oper} {rest : List Oper} {o : Oper} {a : Act} {Q : Exit → Act → World → Prop} (hgd : o.guard = none) (s x : Operand)
    (ho : o.op = .call { callee := .builtin .append, args := #[s, x], argTypes := #[22, 22] }) (hty : o.type = 22)
    (base : Nat) (v : Value) (n : Nat) (xs : List Value) (hs : a.eval s = v) (hown : w.ownsRow base 9 1 v n xs) (vL : Value) (L : List ByteArray) (hx : a.eval x = vL) (hL : Strs w vL L) (h1 : n + L.length ≤ 100000) (hb : base ≤ w.heap.size)
    (h : ∀ v' w', w'.ownsRow base 9 1 v' (n + L.length) (xs ++ L.map fun (x : ByteArray) => .string x) → w.grownBy w' v.ownBlock → wpList Try.prog ops Q rest (a.put o.dst v') w') : wpList Try.prog ops Q (o :: rest) a w :=
  wpList_plain hgd fun _ hK => wp_append_strs s x ho hty base v n xs hs hown vL L hx hL h1 hb fun v' w' h2 h3 => hK _ _ (h v' w' h2 h3)
theorem step_append_strs {w : World} {ops : Array Oper} {o : Oper} {a : Act} {K : Act → World → Prop} {Q : Exit → Act → World → Prop} {E : Prop} (hgd : o.guard = none) (s x : Operand)
    (ho : o.op = .call { callee := .builtin .append, args := #[s, x], argTypes := #[22, 22] }) (hty : o.type = 22)
    (base : Nat) (v : Value) (n : Nat) (xs : List Value) (hs : a.eval s = v) (hown : w.ownsRow base 9 1 v n xs) (vL : Value) (L : List ByteArray) (hx : a.eval x = vL) (hL : Strs w vL L) (h1 : n + L.length ≤ 100000) (hb : base ≤ w.heap.size)
    (h : ∀ v' w', w'.ownsRow base 9 1 v' (n + L.length) (xs ++ L.map fun (x : ByteArray) => .string x) → w.grownBy w' v.ownBlock → K (a.put o.dst v') w') :
    if Region.wanted o (yielded ops a.tmps) = true then Oper.wp Try.prog o a w K Q else E := by
  have hw : Region.wanted o (yielded ops a.tmps) = true := by simp [Region.wanted, hgd]
  rw [if_pos hw]
  exact wp_append_strs s x ho hty base v n xs hs hown vL L hx hL h1 hb h
theorem make_strs (n : Nat) (hn : n ≤ 4096) : ∃ X : Array Value, X.size = n * 1 ∧ ∀ W : World, (Instr.makeSlice 22 (.int .i64 0) (.int .i64 (n : Int))).run Try.prog W = .ok (.slice (some ⟨W.heap.size, 0, none⟩) 0 n) (W.alloc (.cells X 9)) := by
  obtain ⟨i0, hi, hz0, hz1, hz2⟩ := info_parts infoStrs
  refine ⟨madeCells (.string ⟨#[]⟩ : Value).cells (n * 1), by rw [size_madeCells], fun W => ?_⟩
  have hr := run_make (P := Try.prog) W 22 9 i0 (.string ⟨#[]⟩) Try.underlying22 hi hz0 .i64 .i64 0 n (Int.le_refl _) (by omega) (by rw [hz2]; omega) (by omega)
  simp only [Int.toNat_zero, Int.toNat_natCast, hz1] at hr
  exact hr

/-! ### []int -/
/-- they lie in a slice -/
def Ints (w : World) (v : Value) (L : List Nat) : Prop := Lies w v L.length 1 (L.map fun (x : Nat) => .int .i64 (x : Int))
theorem Ints.below {w w' : World} {v : Value} {L : List Nat} (h : Ints w v L) (hB : Below w.heap.size w w') : Ints w' v L := Lies.below h hB
theorem Ints.nil (w : World) : Ints w (.slice none 0 0) [] := Lies.nil w 1
theorem Ints.parts {w : World} {v : Value} {L : List Nat} (h : Ints w v L) : ∃ a cap, v = .slice a L.length cap ∧ L.length ≤ cap ∧ cap ≤ 9223372036854775807 := by
  obtain ⟨a, cap, e, _, h1, h2⟩ := Lies.parts h
  exact ⟨a, cap, e, h1, h2⟩
theorem Ints.at {w : World} {a : Option Addr} {n cap : Nat} {L : List Nat} (hn : L.length = n) (h : Ints w (.slice a n cap) L) {k : Nat} (hk : k < n) : ∃ b off, a = some ⟨b, off, none⟩ ∧ ∀ x, x = L.getD k 0 → w.cell? ⟨b, off + k, none⟩ = some (.int .i64 (x : Int)) := by
  subst hn
  obtain ⟨b, off, e, hc⟩ := Lies.read h (j := k) (u := (fun (x : Nat) => .int .i64 (x : Int)) (L.getD k 0)) (by rw [List.getElem?_map, List.getD_eq_getElem?_getD, List.getElem?_eq_getElem hk]; rfl)
  exact ⟨b, off, e, fun x hx => by rw [hx]; exact hc⟩
/-- the same, of a slice that is known by its parts -/
theorem Ints.get {w : World} {b off n cap : Nat} {L : List Nat} (hn : L.length = n) (h : Ints w (.slice (some ⟨b, off, none⟩) n cap) L) {k : Nat} (hk : k < n) {x : Nat} (hx : x = L.getD k 0) : w.cell? ⟨b, off + k, none⟩ = some (.int .i64 (x : Int)) := by
  obtain ⟨b2, off2, e, hc⟩ := h.at hn hk
  cases e
  exact hc x hx
theorem Ints.lt {W : World} {b off n cap : Nat} {L : List Nat} (hl : L.length = n) (h : Ints W (.slice (some ⟨b, off, none⟩) n cap) L) (hn : 0 < n) : b < W.heap.size := World.block_lt_of_cell? _ _ (h.get hl hn rfl)
/-- a slice stands where its block does -/
theorem Ints.keep {W W' : World} {v : Value} {L : List Nat} (h : Ints W v L) (hk : ∀ g o k c, v = .slice (some ⟨g, o, none⟩) k c → 0 < k → W'.heap[g]? = W.heap[g]?) : Ints W' v L := by
  obtain ⟨a, cap, rfl, h2, h3, h4, h5⟩ := h
  refine ⟨a, cap, rfl, h2, h3, h4, fun hn => ?_⟩
  obtain ⟨b, off, rfl, hc⟩ := h5 hn
  refine ⟨b, off, rfl, fun j u hj => ?_⟩
  have he : W'.cell? ⟨b, off + j, none⟩ = W.cell? ⟨b, off + j, none⟩ := World.cell?_of_block (w := W) (hk b off _ _ rfl hn)
  exact he.trans (hc j u hj)
theorem Ints.cut {w : World} {a : Option Addr} {n cap : Nat} {L : List Nat} (hn : L.length = n) (h : Ints w (.slice a n cap) L) (k : Nat) (hk : k ≤ n) : Ints w (.slice a k cap) (L.take k) := by
  subst hn
  obtain ⟨a', cap', e, hc, hm, hlen, hcells⟩ := h
  cases e
  have hl : (L.take k).length = k := by rw [List.length_take]; omega
  unfold Ints
  rw [hl]
  refine ⟨a, cap, rfl, by omega, hm, by simp; omega, fun hp => ?_⟩
  obtain ⟨b, off, e, hc⟩ := hcells (by omega)
  refine ⟨b, off, e, fun j u hj => hc j u ?_⟩
  rw [List.map_take, List.getElem?_take] at hj
  split at hj
  · exact hj
  · cases hj
theorem Ints.own {w : World} {base : Nat} {v : Value} {L : List Nat} (h : w.ownsRow base 3 1 v L.length (L.map fun (x : Nat) => .int .i64 (x : Int))) : Ints w v L := Lies.own h
theorem Ints.one {W : World} {b : Nat} {x : Nat} {ty : TypeId} (h : W.heap[b]? = some (.cells #[.int .i64 (x : Int)] ty (0, 0))) : Ints W (.slice (some ⟨b, 0, none⟩) 1 1) [x] := by
  refine ⟨_, 1, rfl, Nat.le_refl _, ⟨by unfold maxLen; decide, fun e => by cases e⟩, rfl, fun _ => ⟨b, 0, rfl, fun j u hj => ?_⟩⟩
  rcases j with _ | j
  · cases hj
    simp only [World.cell?, h]
    rfl
  · simp at hj
theorem infoInts : (Try.prog.info? 3).map (fun i => (i.zero, i.size, i.bytes)) = some (some (.int .i64 0), 1, 8) := by kernel_rfl
theorem run_append_ints (w : World) (base : Nat) (v : Value) (n : Nat) (xs : List Value) (hown : w.ownsRow base 3 1 v n xs) (vL : Value) (L : List Nat) (hL : Ints w vL L) (h1 : n + L.length ≤ 100000) (hb : base ≤ w.heap.size) :
    ∃ v' w', (Builtin.append_ #[32, 32] 32 #[v, vL]).run Try.prog w = .ok v' w' ∧ w'.ownsRow base 3 1 v' (n + L.length) (xs ++ L.map fun (x : Nat) => .int .i64 (x : Int)) ∧ w.grownBy w' v.ownBlock := by
  obtain ⟨i0, hi, hz0, hz1, hz2⟩ := info_parts infoInts
  obtain ⟨a, cap, rfl, hc1, hc2⟩ := hL.parts
  cases a with
  | none =>
    have hc0 : cap = 0 := Lies.none_cap hL
    have hl0 : L = [] := List.eq_nil_of_length_eq_zero (by omega)
    subst hl0
    subst hc0
    refine ⟨v, w, run_append_owned_none (P := Try.prog) w base 32 32 3 i0 1 Try.underlying32 hi v n xs hown, ?_, ⟨rfl, rfl, rfl, Nat.le_refl _, fun _ _ _ => rfl⟩⟩
    simpa using hown
  | some ad =>
    have hnews : ∀ j u, (L.map fun (x : Nat) => .int .i64 (x : Int))[j]? = some u → w.cell? (ad.add j) = some u := fun j u hj => by
      obtain ⟨a', cap', e, _, _, h4, h5⟩ := hL
      cases e
      have hl := (List.getElem?_eq_some_iff.1 hj).1
      rw [List.length_map] at hl
      obtain ⟨b, off, e2, hc⟩ := h5 (by omega)
      cases e2
      rw [add_plain]
      exact hc j u hj
    obtain ⟨v', w', hr, h2, h3, _⟩ := run_append_own (P := Try.prog) w base 32 32 3 i0 (.int .i64 0) 1 8 Try.underlying32 hi hz0 hz1 hz2 rfl (by decide) v n xs hown ad L.length cap (L.map fun (x : Nat) => .int .i64 (x : Int)) (by rw [List.length_map, Nat.mul_one]) hnews (fun u hu => by obtain ⟨x, _, rfl⟩ := List.mem_map.1 hu; rfl) (by unfold maxLen; omega) (by omega) hb
    exact ⟨v', w', hr, h2, h3⟩
theorem wp_append_ints {w : World} {o : Oper} {a : Act} {K : Act → World → Prop} {Q : Exit → Act → World → Prop} (s x : Operand)
    (ho : o.op = .call { callee := .builtin .append, args := #[s, x], argTypes := #[32, 32] }) (hty : o.type = 32)
    (base : Nat) (v : Value) (n : Nat) (xs : List Value) (hs : a.eval s = v) (hown : w.ownsRow base 3 1 v n xs) (vL : Value) (L : List Nat) (hx : a.eval x = vL) (hL : Ints w vL L) (h1 : n + L.length ≤ 100000) (hb : base ≤ w.heap.size)
    (h : ∀ v' w', w'.ownsRow base 3 1 v' (n + L.length) (xs ++ L.map fun (x : Nat) => .int .i64 (x : Int)) → w.grownBy w' v.ownBlock → K (a.put o.dst v') w') : o.wp Try.prog a w K Q := by
  obtain ⟨v', w', hr, h2, h3⟩ := run_append_ints w base v n xs hown vL L hL h1 hb
  unfold Oper.wp execOp
  simp only [ho, hty, resolve, invoke, builtin, Sem.run_bind, Sem.run_pure, Result.andThen_ok, List.map_toArray, List.map_cons, List.map_nil, hs, hx, hr]
  exact h v' w' h2 h3
theorem wpList_append_ints {w : World} {ops : Array Oper} {rest : List Oper} {o : Oper} {a : Act} {Q : Exit → Act → World → Prop} (hgd : o.guard = none) (s x : Operand)
    (ho : o.op = .call { callee := .builtin .append, args := #[s, x], argTypes := #[32, 32] }) (hty : o.type = 32)
    (base : Nat) (v : Value) (n : Nat) (xs : List Value) (hs : a.eval s = v) (hown : w.ownsRow base 3 1 v n xs) (vL : Value) (L : List Nat) (hx : a.eval x = vL) (hL : Ints w vL L) (h1 : n + L.length ≤ 100000) (hb : base ≤ w.heap.size)
    (h : ∀ v' w', w'.ownsRow base 3 1 v' (n + L.length) (xs ++ L.map fun (x : Nat) => .int .i64 (x : Int)) → w.grownBy w' v.ownBlock → wpList Try.prog ops Q rest (a.put o.dst v') w') : wpList Try.prog ops Q (o :: rest) a w :=
  wpList_plain hgd fun _ hK => wp_append_ints s x ho hty base v n xs hs hown vL L hx hL h1 hb fun v' w' h2 h3 => hK _ _ (h v' w' h2 h3)
theorem step_append_ints {w : World} {ops : Array Oper} {o : Oper} {a : Act} {K : Act → World → Prop} {Q : Exit → Act → World → Prop} {E : Prop} (hgd : o.guard = none) (s x : Operand)
    (ho : o.op = .call { callee := .builtin .append, args := #[s, x], argTypes := #[32, 32] }) (hty : o.type = 32)
    (base : Nat) (v : Value) (n : Nat) (xs : List Value) (hs : a.eval s = v) (hown : w.ownsRow base 3 1 v n xs) (vL : Value) (L : List Nat) (hx : a.eval x = vL) (hL : Ints w vL L) (h1 : n + L.length ≤ 100000) (hb : base ≤ w.heap.size)
    (h : ∀ v' w', w'.ownsRow base 3 1 v' (n + L.length) (xs ++ L.map fun (x : Nat) => .int .i64 (x : Int)) → w.grownBy w' v.ownBlock → K (a.put o.dst v') w') :
    if Region.wanted o (yielded ops a.tmps) = true then Oper.wp Try.prog o a w K Q else E := by
  have hw : Region.wanted o (yielded ops a.tmps) = true := by simp [Region.wanted, hgd]
  rw [if_pos hw]
  exact wp_append_ints s x ho hty base v n xs hs hown vL L hx hL h1 hb h
theorem make_ints (n : Nat) (hn : n ≤ 4096) : ∃ X : Array Value, X.size = n * 1 ∧ ∀ W : World, (Instr.makeSlice 32 (.int .i64 0) (.int .i64 (n : Int))).run Try.prog W = .ok (.slice (some ⟨W.heap.size, 0, none⟩) 0 n) (W.alloc (.cells X 3)) := by
  obtain ⟨i0, hi, hz0, hz1, hz2⟩ := info_parts infoInts
  refine ⟨madeCells (.int .i64 0 : Value).cells (n * 1), by rw [size_madeCells], fun W => ?_⟩
  have hr := run_make (P := Try.prog) W 32 3 i0 (.int .i64 0) Try.underlying32 hi hz0 .i64 .i64 0 n (Int.le_refl _) (by omega) (by rw [hz2]; omega) (by omega)
  simp only [Int.toNat_zero, Int.toNat_natCast, hz1] at hr
  exact hr

end Go.Proofs.Yteopcjfakhmifaa.Vol
