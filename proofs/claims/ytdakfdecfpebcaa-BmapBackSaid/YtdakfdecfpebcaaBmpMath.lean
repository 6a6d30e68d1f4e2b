/- Maps of a file's blocks as data: how many blocks, the ways, the map's blocks as bytes, and that these say the numbers. They speak of no program. -/
import Derived.Test.YtdakfdecfpebcaaInoMath
namespace Go.Proofs.Ytdakfdecfpebcaa.Bmp
open Ino
set_option linter.unusedVariables false
set_option linter.unusedSimpArgs false

/-! ### how many, and the ways -/
def lowN (s : Nat) : Nat := (blN s + 126) / 127
def cntN (s : Nat) : Nat := if 8193532 < s then 0 else if dpN s = 2 then 1 + lowN s else dpN s
theorem bl_max {s : Nat} (h : s ≤ 8193532) : blN s ≤ 16129 := by unfold blN; split <;> omega
theorem low_max {s : Nat} (h : s ≤ 8193532) : lowN s ≤ 127 := by have := bl_max h; unfold lowN; omega
theorem dp_two {s : Nat} (h : dpN s = 2) : 128 ≤ blN s := by
  unfold dpN at h
  split at h
  · omega
  · split at h <;> omega
theorem dp_one {s : Nat} (h : dpN s = 1) : 7 ≤ blN s ∧ blN s ≤ 127 := by
  unfold dpN at h
  split at h
  · omega
  · split at h <;> omega
theorem dp_none {s : Nat} (h : dpN s = 0) : blN s ≤ 6 := by
  unfold dpN at h
  split at h
  · omega
  · split at h <;> omega
theorem cnt_def {s : Nat} (h : s ≤ 8193532) : cntN s = if dpN s = 2 then 1 + lowN s else dpN s := if_neg (by omega)
theorem cnt_mono {a b : Nat} (h : a ≤ b) (hb : b ≤ 8193532) : cntN a ≤ cntN b := by
  have h1 := dp_mono h
  have h2 := bl_mono h
  have h3 := dp_le b
  rw [cnt_def (by omega), cnt_def hb]
  unfold lowN
  by_cases ha : dpN a = 2
  · rw [if_pos ha, if_pos (by omega)]
    omega
  · rw [if_neg ha]
    split <;> omega
def wayOk (s : Nat) (i : Int) : Prop := s ≤ 8193532 ∧ 0 ≤ i ∧ i < blN s
instance (s : Nat) (i : Int) : Decidable (wayOk s i) := by unfold wayOk; infer_instance
def wayL (s : Nat) (i : Int) : List Int := if dpN s = 0 then [i] else if dpN s = 1 then [0, i] else [0, i / 127, i % 127]
def wayV (s : Nat) (i : Int) : List Int := if wayOk s i then wayL s i else []
def wayE (s : Nat) (i : Int) : Int := if wayOk s i then 0 else 130

/-! ### numbers as a block's bytes -/
def Small (l : List Nat) : Prop := ∀ x ∈ l, x < 4294967296
def numsB : List Nat → ByteArray
  | [] => ⟨#[]⟩
  | x :: r => numB x 4 ++ numsB r
theorem bext {a b : ByteArray} (h : a.data.toList = b.data.toList) : a = b := ByteArray.ext (Array.toList_inj.1 h)
theorem lapp (a b : ByteArray) : (a ++ b).data.toList = a.data.toList ++ b.data.toList := by rw [ByteArray.data_append, Array.toList_append]
theorem app_inj {a b x y : ByteArray} (h : a ++ x = b ++ y) (hs : a.size = b.size) : a = b ∧ x = y := by
  have h1 := congrArg (fun z : ByteArray => z.data.toList) h
  simp only [lapp] at h1
  obtain ⟨h2, h3⟩ := List.append_inj h1 (by simpa using hs)
  exact ⟨bext h2, bext h3⟩
theorem numsB_size : ∀ l : List Nat, (numsB l).size = 4 * l.length
  | [] => rfl
  | x :: r => by rw [numsB, ByteArray.size_append, numB_size, numsB_size r, List.length_cons]; omega
theorem numsB_app : ∀ a b : List Nat, numsB (a ++ b) = numsB a ++ numsB b
  | [], b => by
    rw [List.nil_append, numsB]
    exact bext (by rw [lapp]; rfl)
  | x :: r, b => by rw [List.cons_append, numsB, numsB, numsB_app r b, ByteArray.append_assoc]
theorem numsB_inj : ∀ {a b : List Nat}, Small a → Small b → a.length = b.length → numsB a = numsB b → a = b
  | [], [], _, _, _, _ => rfl
  | [], _ :: _, _, _, h, _ => by simp at h
  | _ :: _, [], _, _, h, _ => by simp at h
  | x :: r, y :: t, hx, hy, hl, h => by
    rw [numsB, numsB] at h
    obtain ⟨h1, h2⟩ := app_inj h (by rw [numB_size, numB_size])
    have e4 : (256 : Nat) ^ 4 = 4294967296 := by decide
    have e := numB_inj _ _ 4 (by rw [e4]; exact hx x (List.mem_cons_self ..)) (by rw [e4]; exact hy y (List.mem_cons_self ..)) h1
    rw [e, numsB_inj (fun z hz => hx z (List.mem_cons_of_mem _ hz)) (fun z hz => hy z (List.mem_cons_of_mem _ hz)) (by simpa using hl) h2]
/-- a block of the map -/
def blkB (l : List Nat) : ByteArray := numsB l ++ zeros (508 - 4 * l.length)
theorem blkB_size {l : List Nat} (h : l.length ≤ 127) : (blkB l).size = 508 := by rw [blkB, ByteArray.size_append, numsB_size, zeros_size]; omega
theorem blkB_inj {a b : List Nat} (ha : Small a) (hb : Small b) (hl : a.length = b.length) (h : blkB a = blkB b) : a = b := by
  unfold blkB at h
  obtain ⟨h1, _⟩ := app_inj h (by rw [numsB_size, numsB_size, hl])
  exact numsB_inj ha hb hl h1
/-- the numbers of a block -/
def numsAt (b : ByteArray) : List Nat := (List.range 127).map fun i => takeN b (4 * i) 4
theorem numsAt_length (b : ByteArray) : (numsAt b).length = 127 := by simp [numsAt]
theorem numsAt_small (b : ByteArray) : Small (numsAt b) := fun x hx => by
  obtain ⟨i, _, rfl⟩ := List.mem_map.1 hx
  have := takeN_lt b (4 * i) 4
  rwa [show (256 : Nat) ^ 4 = 4294967296 by decide] at this
theorem nums_upto (b : ByteArray) (h : b.size = 508) : ∀ k, k ≤ 127 → numsB ((List.range k).map fun i => takeN b (4 * i) 4) = b.extract 0 (4 * k)
  | 0, _ => by
    apply bext
    rw [Lib.extract_data]
    simp [numsB]
  | k + 1, hk => by
    have ih := nums_upto b h k (by omega)
    rw [List.range_succ, List.map_append, numsB_app, ih, List.map_cons, List.map_nil, numsB, numsB]
    have e1 := numB_take b (4 * k) 4 (by omega)
    rw [e1]
    apply bext
    rw [lapp, lapp, Lib.extract_data, Lib.extract_data, Lib.extract_data]
    simp only [Nat.sub_zero, List.drop_zero]
    rw [show 4 * k + 4 - 4 * k = 4 by omega, show 4 * (k + 1) = 4 * k + 4 by omega, List.take_add]
    simp
/-- a block says its numbers, and numbers their block -/
theorem nums_block {b : ByteArray} (h : b.size = 508) : blkB (numsAt b) = b := by
  have h1 := nums_upto b h 127 (by omega)
  unfold blkB
  rw [numsAt_length]
  unfold numsAt
  rw [h1]
  apply bext
  rw [lapp, Lib.extract_data]
  have hl : b.data.toList.length = 508 := by rw [Array.length_toList]; exact h
  simp only [Nat.sub_zero, List.drop_zero]
  rw [List.take_of_length_le (by omega)]
  show _ ++ (zeros 0).data.toList = _
  simp [zeros]
theorem zeros_nums (n : Nat) : numsB (List.replicate n 0) = zeros (4 * n) := by
  induction n with
  | zero => rfl
  | succ n ih =>
    rw [List.replicate_succ, numsB, ih]
    apply bext
    rw [lapp]
    have e : (numB 0 4).data.toList = [0, 0, 0, 0] := by decide +kernel
    rw [e]
    simp only [zeros]
    rw [show 4 * (n + 1) = 4 + 4 * n by omega, ← List.replicate_append_replicate]
    rfl
/-- numbers with noughts behind them make the same block -/
theorem blk_pad {l : List Nat} (h : l.length ≤ 127) : blkB (l ++ List.replicate (127 - l.length) 0) = blkB l := by
  unfold blkB
  rw [numsB_app, zeros_nums, List.length_append, List.length_replicate, show 508 - 4 * (l.length + (127 - l.length)) = 0 by omega, show 4 * (127 - l.length) = 508 - 4 * l.length by omega]
  apply bext
  rw [lapp]
  simp [zeros]
theorem nums_of_blk {l : List Nat} (h : l.length ≤ 127) (hs : Small l) : numsAt (blkB l) = l ++ List.replicate (127 - l.length) 0 := by
  refine blkB_inj (numsAt_small _) (fun x hx => ?_) (by rw [numsAt_length, List.length_append, List.length_replicate]; omega) ?_
  · rcases List.mem_append.1 hx with hx | hx
    · exact hs x hx
    · rw [(List.mem_replicate.1 hx).2]; omega
  · rw [nums_block (blkB_size h), blk_pad h]

/-! ### a map -/
def layP (s : Nat) (V I : List Nat) : Prop := s ≤ 8193532 ∧ V.length = blN s ∧ I.length = cntN s ∧ ∀ x ∈ I, ¬ x = 0
instance (s : Nat) (V I : List Nat) : Decidable (layP s V I) := by unfold layP; infer_instance
def sixOf (V : List Nat) : M := ⟨V.getD 0 0, V.getD 1 0, V.getD 2 0, V.getD 3 0, V.getD 4 0, V.getD 5 0⟩
def mapOf (s : Nat) (V I : List Nat) : M := if dpN s = 0 then sixOf V else ⟨I.getD 0 0, 0, 0, 0, 0, 0⟩
/-- the k-th run of 127 numbers -/
def chk (V : List Nat) (k : Nat) : List Nat := (V.drop (127 * k)).take 127
def lowers (V : List Nat) (n : Nat) : List ByteArray := (List.range n).map fun k => blkB (chk V k)
def blocksOf (s : Nat) (V I : List Nat) : List ByteArray := if dpN s = 0 then [] else if dpN s = 1 then [blkB V] else blkB I.tail :: lowers V (lowN s)
theorem lowers_length (V : List Nat) (n : Nat) : (lowers V n).length = n := by simp [lowers]
theorem lowers_succ (V : List Nat) (n : Nat) : lowers V (n + 1) = lowers V n ++ [blkB (chk V n)] := by simp [lowers, List.range_succ]
theorem chk_length (V : List Nat) (k : Nat) : (chk V k).length = min 127 (V.length - 127 * k) := by unfold chk; rw [List.length_take, List.length_drop]
theorem chk_small {V : List Nat} (h : Small V) (k : Nat) : Small (chk V k) := fun x hx => h x (List.mem_of_mem_drop (List.mem_of_mem_take hx))
theorem small_tail {I : List Nat} (h : Small I) : Small I.tail := fun x hx => h x (List.mem_of_mem_tail hx)
theorem blocks_length {s : Nat} {V I : List Nat} (h : layP s V I) : (blocksOf s V I).length = cntN s := by
  have h1 := dp_le s
  rw [cnt_def h.1]
  unfold blocksOf
  by_cases h0 : dpN s = 0
  · rw [if_pos h0, if_neg (by omega), h0]; rfl
  · by_cases h2 : dpN s = 1
    · rw [if_neg h0, if_pos h2, if_neg (by omega), h2]; rfl
    · rw [if_neg h0, if_neg h2, if_pos (by omega), List.length_cons, lowers_length]; omega
theorem six_inj {A B : List Nat} (hl : A.length = B.length) (h6 : A.length ≤ 6) (h : sixOf A = sixOf B) : A = B := by
  unfold sixOf at h
  simp only [M.mk.injEq] at h
  obtain ⟨h0, h1, h2, h3, h4, h5⟩ := h
  apply List.ext_getElem hl
  intro i hi hj
  have e : ∀ {L : List Nat} (hi : i < L.length), L[i] = L.getD i 0 := fun hi => by rw [List.getD_eq_getElem?_getD, List.getElem?_eq_getElem hi]; rfl
  rw [e hi, e hj]
  have h7 : i < 6 := by omega
  match i, h7 with
  | 0, _ => exact h0
  | 1, _ => exact h1
  | 2, _ => exact h2
  | 3, _ => exact h3
  | 4, _ => exact h4
  | 5, _ => exact h5
theorem chk_ext {A B : List Nat} (hl : A.length = B.length) {n : Nat} (hn : A.length ≤ 127 * n) (h : ∀ k, k < n → chk A k = chk B k) : A = B := by
  apply List.ext_getElem?
  intro i
  by_cases hi : i < A.length
  · have hk : i / 127 < n := by omega
    have := congrArg (fun l => l[i % 127]?) (h (i / 127) hk)
    simp only [chk] at this
    rw [List.getElem?_take_of_lt (by omega), List.getElem?_take_of_lt (by omega), List.getElem?_drop, List.getElem?_drop, show 127 * (i / 127) + i % 127 = i by omega] at this
    exact this
  · rw [List.getElem?_eq_none (by omega), List.getElem?_eq_none (by omega)]
theorem lowers_inj {A B : List Nat} (ha : Small A) (hb : Small B) (hl : A.length = B.length) {n : Nat} (hn : A.length ≤ 127 * n) (h : lowers A n = lowers B n) : A = B := by
  refine chk_ext hl hn fun k hk => ?_
  have h1 := congrArg (fun l : List ByteArray => l[k]?) h
  simp only [lowers, List.getElem?_map, List.getElem?_range hk, Option.map_some, Option.some.injEq] at h1
  exact blkB_inj (chk_small ha k) (chk_small hb k) (by rw [chk_length, chk_length, hl]) h1
/-- a map says its numbers and its blocks' -/
theorem lay_inj {s : Nat} {V V' I I' : List Nat} (h : layP s V I) (h' : layP s V' I') (hv : Small V) (hv' : Small V') (hi : Small I) (hi' : Small I') (hm : mapOf s V I = mapOf s V' I') (hb : blocksOf s V I = blocksOf s V' I') : V = V' ∧ I = I' := by
  have hd := dp_le s
  have hlv : V.length = V'.length := by rw [h.2.1, h'.2.1]
  have hli : I.length = I'.length := by rw [h.2.2.1, h'.2.2.1]
  have hc := cnt_def h.1
  by_cases h0 : dpN s = 0
  · unfold mapOf at hm
    rw [if_pos h0, if_pos h0] at hm
    rw [if_neg (by omega), h0] at hc
    refine ⟨six_inj hlv (by rw [h.2.1]; exact dp_none h0) hm, ?_⟩
    rw [List.eq_nil_of_length_eq_zero (l := I) (by rw [h.2.2.1, hc]), List.eq_nil_of_length_eq_zero (l := I') (by rw [h'.2.2.1, hc])]
  · unfold mapOf at hm
    rw [if_neg h0, if_neg h0] at hm
    simp only [M.mk.injEq, and_true] at hm
    by_cases h1 : dpN s = 1
    · unfold blocksOf at hb
      rw [if_neg h0, if_pos h1, if_neg h0, if_pos h1] at hb
      simp only [List.cons.injEq, and_true] at hb
      rw [if_neg (by omega), h1] at hc
      refine ⟨blkB_inj hv hv' hlv hb, ?_⟩
      have l1 : I.length = 1 := by rw [h.2.2.1, hc]
      have l2 : I'.length = 1 := by rw [h'.2.2.1, hc]
      match I, I', l1, l2, hm with
      | [x], [y], _, _, hm => rw [show x = y from hm]
    · unfold blocksOf at hb
      rw [if_neg h0, if_neg h1, if_neg h0, if_neg h1] at hb
      simp only [List.cons.injEq] at hb
      have h2 : dpN s = 2 := by omega
      rw [if_pos h2] at hc
      have hlow : blN s ≤ 127 * lowN s := by unfold lowN; omega
      refine ⟨lowers_inj hv hv' hlv (by rw [h.2.1]; exact hlow) hb.2, ?_⟩
      have ht := blkB_inj (small_tail hi) (small_tail hi') (by rw [List.length_tail, List.length_tail, hli]) hb.1
      match I, I', hli, hm, ht with
      | [], [], _, _, _ => rfl
      | x :: r, y :: t, _, hm, ht =>
        have e1 : x = y := hm
        have e2 : r = t := ht
        rw [e1, e2]
end Go.Proofs.Ytdakfdecfpebcaa.Bmp
