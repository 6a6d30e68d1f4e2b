/- The order of names, byte by byte; lists that rise. They speak of no program. -/
import Derived.Test.YtafbkagoajcmeaaDirMem
namespace Go.Proofs.Ytafbkagoajcmeaa.Dir
set_option linter.unusedVariables false
set_option linter.unusedSimpArgs false

theorem bl_irr : ∀ x : List UInt8, Op.bytesLess x x = false
  | [] => rfl
  | a :: x => by
    have h : ¬ a < a := fun h => absurd (UInt8.lt_iff_toNat_lt.1 h) (Nat.lt_irrefl _)
    simp [Op.bytesLess, h, bl_irr x]
theorem bl_cons {a b : UInt8} {x y : List UInt8} : Op.bytesLess (a :: x) (b :: y) = true ↔ a.toNat < b.toNat ∨ (a = b ∧ Op.bytesLess x y = true) := by
  simp [Op.bytesLess, UInt8.lt_iff_toNat_lt]
theorem bl_trans : ∀ {x y z : List UInt8}, Op.bytesLess x y = true → Op.bytesLess y z = true → Op.bytesLess x z = true
  | _, [], _, h, _ => by simp [Op.bytesLess] at h
  | _, _ :: _, [], _, k => by simp [Op.bytesLess] at k
  | [], _ :: _, _ :: _, _, _ => rfl
  | a :: x, b :: y, c :: z, h, k => by
    rw [bl_cons] at h k ⊢
    rcases h with h | ⟨rfl, h⟩
    · rcases k with k | ⟨rfl, k⟩
      · left; omega
      · left; exact h
    · rcases k with k | ⟨rfl, k⟩
      · left; exact k
      · right; exact ⟨rfl, bl_trans h k⟩
theorem bl_total : ∀ (x y : List UInt8), Op.bytesLess x y = true ∨ x = y ∨ Op.bytesLess y x = true
  | [], [] => .inr (.inl rfl)
  | [], _ :: _ => .inl rfl
  | _ :: _, [] => .inr (.inr rfl)
  | a :: x, b :: y => by
    rw [bl_cons, bl_cons]
    rcases Nat.lt_trichotomy a.toNat b.toNat with h | h | h
    · exact .inl (.inl h)
    · obtain rfl : a = b := UInt8.toNat_inj.1 h
      rcases bl_total x y with k | rfl | k
      · exact .inl (.inr ⟨rfl, k⟩)
      · exact .inr (.inl rfl)
      · exact .inr (.inr (.inr ⟨rfl, k⟩))
    · exact .inr (.inr (.inl h))
/-- does a name stand ahead of another one? -/
def ltB (a b : ByteArray) : Bool := Op.bytesLess a.toList b.toList
theorem ltB_irr (a : ByteArray) : ltB a a = false := bl_irr _
theorem ltB_trans {a b c : ByteArray} (h : ltB a b = true) (k : ltB b c = true) : ltB a c = true := bl_trans h k
theorem ltB_total (a b : ByteArray) : ltB a b = true ∨ a = b ∨ ltB b a = true := by
  rcases bl_total a.toList b.toList with h | h | h
  · exact .inl h
  · exact .inr (.inl (ba_ext (by rw [← Lib.toList_data, ← Lib.toList_data]; exact h)))
  · exact .inr (.inr h)
theorem ltB_asym {a b : ByteArray} (h : ltB a b = true) : ltB b a = false := by
  rw [Bool.eq_false_iff]
  intro k
  have := ltB_trans h k
  rw [ltB_irr] at this
  cases this
/-- names that rise -/
def Up (L : List N) : Prop := L.Pairwise fun a b => ltB a.name b.name = true
theorem Up.get {L : List N} (h : Up L) {i j : Nat} (hij : i < j) (hj : j < L.length) : ltB (nm L i).name (nm L j).name = true := by
  have := List.pairwise_iff_getElem.1 h i j (by omega) hj hij
  rw [nm_elem, nm_elem] at this
  exact this
theorem Up.of {L : List N} (h : ∀ i j, i < j → j < L.length → ltB (nm L i).name (nm L j).name = true) : Up L := by
  refine List.pairwise_iff_getElem.2 fun i j hi hj hij => ?_
  rw [nm_elem, nm_elem]
  exact h i j hij hj
theorem Up.next {L : List N} (h : ∀ i, i + 1 < L.length → ltB (nm L i).name (nm L (i + 1)).name = true) : Up L := by
  refine Up.of fun i j hij => ?_
  induction j with
  | zero => omega
  | succ j ih =>
    intro hj
    by_cases hh : i = j
    · subst hh; exact h i hj
    · exact ltB_trans (ih (by omega) (by omega)) (h j hj)
/-- of the same names one list alone rises -/
theorem Up.unique {L M : List N} (hL : Up L) (hM : Up M) (h : L.Perm M) : L = M := by
  refine List.Perm.eq_of_pairwise (le := fun (a b : N) => ltB a.name b.name = true) (fun a b _ _ h1 h2 => ?_) hL hM h
  have := ltB_asym h1
  rw [h2] at this
  cases this
/-- the same names, in any order, are fine as well -/
theorem Fine.iff {L : List N} : Fine L ↔ (∀ e ∈ L, fineE e) ∧ (L.map (·.name)).Nodup := by
  constructor
  · intro h
    refine ⟨h.mem, ?_⟩
    unfold List.Nodup
    rw [List.pairwise_map]
    refine List.pairwise_iff_getElem.2 fun i j hi hj hij => ?_
    rw [nm_elem, nm_elem]
    intro he
    have := h.2 i j hi hj he
    omega
  · rintro ⟨h1, h2⟩
    refine ⟨fun i hi => h1 _ (nm_mem hi), fun i j hi hj he => ?_⟩
    unfold List.Nodup at h2
    rw [List.pairwise_map] at h2
    have h3 := List.pairwise_iff_getElem.1 h2
    rcases Nat.lt_trichotomy i j with hh | hh | hh
    · exact absurd (by rw [nm_elem, nm_elem]; exact he) (h3 i j hi hj hh)
    · exact hh
    · exact absurd (by rw [nm_elem, nm_elem]; exact he.symm) (h3 j i hj hi hh)
theorem Fine.perm {L M : List N} (h : Fine L) (hp : L.Perm M) : Fine M := by
  rw [Fine.iff] at h ⊢
  exact ⟨fun e he => h.1 e (hp.mem_iff.2 he), (hp.map _).nodup_iff.1 h.2⟩
/-- names that are listed: the same, rising -/
def SortP (L M : List N) : Prop := M.Perm L ∧ Up M
theorem SortP.unique {L M K : List N} (h : SortP L M) (k : SortP L K) : M = K := h.2.unique k.2 (h.1.trans k.1.symm)
end Go.Proofs.Ytafbkagoajcmeaa.Dir
