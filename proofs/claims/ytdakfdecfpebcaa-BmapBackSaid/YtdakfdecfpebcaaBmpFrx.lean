/- Blocks and the numbers that they begin with; numbers run by run. They speak of no program but by the words of its block. -/
import Derived.Test.YtdakfdecfpebcaaBmpFro
namespace Go.Proofs.Ytdakfdecfpebcaa.Bmp
open Ino
set_option linter.unusedVariables false
set_option linter.unusedSimpArgs false
theorem bareB_yes {s : ByteArray} {a : Nat} (h : ∀ i, a ≤ i → sb s i = 0) : bareB s a = true := by
  unfold bareB
  rw [List.all_eq_true]
  intro x hx
  obtain ⟨i, hi⟩ := List.mem_iff_getElem?.1 hx
  rw [List.getElem?_drop] at hi
  have := h (a + i) (by omega)
  unfold sb at this
  rw [hi] at this
  have h2 : x.toNat = 0 := this
  have h3 : x = 0 := UInt8.toNat_inj.1 h2
  rw [h3]
  rfl
theorem bareB_sb {s : ByteArray} {a : Nat} (h : bareB s a = true) : ∀ i, a ≤ i → sb s i = 0 := fun i hi => by
  unfold bareB at h
  rw [List.all_eq_true] at h
  unfold sb
  cases hg : s.data.toList[i]? with
  | none => rfl
  | some x =>
    have hm : x ∈ s.data.toList.drop a := List.mem_iff_getElem?.2 ⟨i - a, by rw [List.getElem?_drop, show a + (i - a) = i by omega]; exact hg⟩
    have := h x hm
    have e : x = 0 := by simpa using this
    rw [e]; rfl
theorem takeN_zero {s : ByteArray} {a : Nat} : ∀ k, (∀ i, a ≤ i → sb s i = 0) → takeN s a k = 0
  | 0, _ => rfl
  | k + 1, h => by
    rw [takeN_front, h a (Nat.le_refl _), takeN_zero (a := a + 1) k (fun i hi => h i (by omega))]
theorem front_blk {b : ByteArray} {n : Nat} (hn : n ≤ 127) (h : frontP b n) : blkB (firsts b n) = b := by
  have h1 := nums_block h.1
  have h0 := bareB_sb h.2
  have e : numsAt b = firsts b n ++ List.replicate (127 - n) 0 := by
    rw [← firsts_all]
    apply List.ext_getElem (by rw [firsts_length, List.length_append, firsts_length, List.length_replicate]; omega)
    intro i hi hj
    rw [firsts_length] at hi
    have e1 : ∀ (k : Nat) (hk : i < (firsts b k).length), (firsts b k)[i] = nAt b i := fun k hk => by simp [firsts]
    rw [e1]
    by_cases hin : i < n
    · rw [List.getElem_append_left (by rw [firsts_length]; exact hin), e1]
    · rw [List.getElem_append_right (by rw [firsts_length]; omega), List.getElem_replicate]
      exact takeN_zero 4 (fun j hj => h0 j (by omega))
  rw [e] at h1
  rw [← h1]
  have hl := firsts_length b n
  have hp := blk_pad (l := firsts b n) (by omega)
  rw [hl] at hp
  rw [h1]
  rw [h1] at hp
  exact hp.symm
theorem sb_numsB_end {l : List Nat} (i : Nat) (h : 4 * l.length ≤ i) : sb (blkB l) i = 0 := by
  unfold blkB
  have h1 := sb_right (numsB l) (zeros (508 - 4 * l.length)) (i - 4 * l.length)
  rw [numsB_size, show 4 * l.length + (i - 4 * l.length) = i by omega] at h1
  rw [h1]
  unfold sb zeros
  simp only [List.getElem?_replicate]
  split <;> rfl
theorem blk_front {l : List Nat} (h : l.length ≤ 127) (hs : Small l) : frontP (blkB l) l.length ∧ firsts (blkB l) l.length = l := by
  refine ⟨⟨blkB_size h, bareB_yes fun i hi => sb_numsB_end i hi⟩, ?_⟩
  have h1 := nums_of_blk h hs
  rw [← firsts_all] at h1
  have h2 : firsts (blkB l) l.length = (firsts (blkB l) 127).take l.length := by
    unfold firsts
    rw [← List.map_take, List.take_range, Nat.min_eq_left h]
  rw [h2, h1, List.take_left]
/-- the numbers of n blocks, one behind the other -/
def runs (c : Nat) (L : List ByteArray) (n : Nat) : List Nat := (List.range n).flatMap fun k => firsts (L.getD k ⟨#[]⟩) (chN c k)
theorem runs_succ (c : Nat) (L : List ByteArray) (n : Nat) : runs c L (n + 1) = runs c L n ++ firsts (L.getD n ⟨#[]⟩) (chN c n) := by simp [runs, List.range_succ, List.flatMap_append]
theorem runs_length {c : Nat} {L : List ByteArray} : ∀ n, 127 * n ≤ c + 126 → (runs c L n).length = min c (127 * n)
  | 0, _ => by simp [runs]
  | n + 1, h => by
    rw [runs_succ, List.length_append, runs_length n (by omega), firsts_length]
    unfold chN
    omega
theorem runs_small {c : Nat} {L : List ByteArray} (n : Nat) : Small (runs c L n) := fun x hx => by
  obtain ⟨k, _, hk⟩ := List.mem_flatMap.1 hx
  exact firsts_small _ _ x hk
theorem runs_chk {c : Nat} {L : List ByteArray} : ∀ n, 127 * n ≤ c + 126 → ∀ k, k < n → chk (runs c L n) k = firsts (L.getD k ⟨#[]⟩) (chN c k)
  | 0, _, k, hk => by omega
  | n + 1, h, k, hk => by
    have hl := runs_length (c := c) (L := L) n (by omega)
    rw [runs_succ]
    unfold chk
    by_cases hkn : k = n
    · subst hkn
      have e : (runs c L k).length = 127 * k := by rw [hl]; omega
      have d : (runs c L k).length ≤ 127 * k := by omega
      rw [List.drop_append, List.drop_eq_nil_of_le d, e, Nat.sub_self, List.drop_zero, List.nil_append, List.take_of_length_le (by rw [firsts_length]; unfold chN; omega)]
    · have ih := runs_chk (c := c) (L := L) n (by omega) k (by omega)
      unfold chk at ih
      have e : (runs c L n).length = 127 * n := by rw [hl]; omega
      have d : 127 * k ≤ (runs c L n).length := by omega
      rw [List.drop_append_of_le_length d, List.take_append_of_le_length (by rw [List.length_drop, e]; omega)]
      exact ih
/-- are all these blocks of numbers, as many as there must be? -/
def runsP (c : Nat) (L : List ByteArray) : Prop := ∀ k, k < L.length → frontP (L.getD k ⟨#[]⟩) (chN c k)
theorem runs_lowers {c : Nat} {L : List ByteArray} (hl : L.length = (c + 126) / 127) (h : runsP c L) : lowers (runs c L L.length) L.length = L := by
  apply List.ext_getElem (by rw [lowers_length])
  intro k h1 h2
  simp only [lowers, List.getElem_map, List.getElem_range]
  rw [runs_chk L.length (by omega) k h2]
  have := front_blk (b := L.getD k ⟨#[]⟩) (n := chN c k) (by unfold chN; omega) (h k h2)
  rw [this, List.getD_eq_getElem?_getD, List.getElem?_eq_getElem h2]
  rfl
theorem lowers_runs {V : List Nat} (hs : Small V) {N : Nat} (hN : N = (V.length + 126) / 127) : runsP V.length (lowers V N) ∧ runs V.length (lowers V N) N = V := by
  have hg : ∀ k, k < N → (lowers V N).getD k ⟨#[]⟩ = blkB (chk V k) := fun k hk => by
    rw [List.getD_eq_getElem?_getD, List.getElem?_eq_getElem (by rw [lowers_length]; exact hk)]
    simp [lowers]
  have hc : ∀ k, (chk V k).length = chN V.length k := fun k => chk_length V k
  have h127 : ∀ k, (chk V k).length ≤ 127 := fun k => by rw [chk_length]; omega
  refine ⟨fun k hk => ?_, ?_⟩
  · rw [lowers_length] at hk
    rw [hg k hk, ← hc k]
    exact (blk_front (h127 k) (chk_small hs k)).1
  · have hl := runs_length (c := V.length) (L := lowers V N) N (by omega)
    refine chk_ext (n := N) (by rw [hl]; omega) (by rw [hl]; omega) fun k hk => ?_
    rw [runs_chk N (by omega) k hk, hg k hk, ← hc k]
    exact (blk_front (h127 k) (chk_small hs k)).2
end Go.Proofs.Ytdakfdecfpebcaa.Bmp
