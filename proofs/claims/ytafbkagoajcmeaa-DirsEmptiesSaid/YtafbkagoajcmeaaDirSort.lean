/- The library's SortFunc of names. -/
import Derived.Shelf.SlSortCmp.NoneTotal
import Derived.Test.YtafbkagoajcmeaaOnly
import Derived.Test.YtafbkagoajcmeaaDirPar
import Derived.Test.YtafbkagoajcmeaaShelf
namespace Go.Proofs.Ytafbkagoajcmeaa.Dir
open Go.RowKit Go.Sort Go.Shelf
attribute [local go_sem] Oper.semAt_some
set_option linter.unusedVariables false
set_option linter.unusedSimpArgs false

instance : Inhabited N := ⟨N.zero⟩
/-- names are compared by their bytes -/
def cfN (x y : N) : Int := Lib.compareBytes x.name.data.toList y.name.data.toList
theorem compare_lt : ∀ a b : List UInt8, decide (Lib.compareBytes a b < 0) = Op.bytesLess a b
  | [], [] => rfl
  | [], _ :: _ => rfl
  | _ :: _, [] => rfl
  | a :: x, b :: y => by
    have ih := compare_lt x y
    rw [Lib.compareBytes, Op.bytesLess, ← ih]
    by_cases h : a < b
    · simp [h]
    · by_cases k : b < a
      · have hne : (a == b) = false := by
          rw [beq_eq_false_iff_ne]
          rintro rfl
          exact h k
        simp [h, k, hne]
      · have he : a = b := by
          rw [UInt8.lt_iff_toNat_lt] at h k
          exact UInt8.toNat_inj.1 (by omega)
        subst he
        simp
theorem lt_cfN (x y : N) : ltOf cfN x y = ltB x.name y.name := by
  unfold ltOf cfN ltB
  rw [compare_lt, Lib.toList_data, Lib.toList_data]
theorem swoN : SWO (ltOf cfN) where
  irrefl x := by rw [lt_cfN]; exact ltB_irr _
  trans x y z h1 h2 := by rw [lt_cfN] at *; exact ltB_trans h1 h2
  ntrans x y z h1 h2 := by
    rw [lt_cfN] at *
    rw [Bool.eq_false_iff]
    intro h
    rcases ltB_total x.name y.name with k | k | k
    · rw [h1] at k; cases k
    · rw [k] at h; rw [h2] at h; cases h
    · have := ltB_trans k h
      rw [h2] at this
      cases this
section
set_option maxRecDepth 100000
set_option maxHeartbeats 4000000
theorem cmp_any (x y : N) (W : World) : Calls Try.prog 28 #[x.val, y.val] W fun e w' => e = .returned (.int .i64 (cfN x y)) ∧ ∃ q os', w' = Sort.grow (W.drewN q) os' := by
  have hcon := fun W' => Shf.Try.strings_Compare x.name y.name W'
  unfold cfN N.val
  generalize Lib.compareBytes x.name.data.toList y.name.data.toList = r at hcon ⊢
  go_enter Try.func28, Try.ntmps28
  go_wp2_with (go_at_call 29; (with_reducible refine Calls.mono (hcon _) ?_); rintro e w' ⟨rfl, rfl⟩)
  go_ret
  exact ⟨rfl, 0, _, by rw [alloc_eq_grow, alloc_eq_grow, grow_grow]; rfl⟩
theorem cmpLays (blk off size : Nat) (w : World) : CmpLays Try.prog 28 #[] N.cells 2 cfN blk off size w := fun _ _ _ _ x y => cmp_any x y _
theorem only_sorted {w : World} {g n cap k : Nat} {os : Array Obj} (d : Array N) : Only (fun i => (Value.slice (some ⟨g, 0, none⟩) k cap).ownBlock = some i) w (sortWorldK N.cells 2 w g 0 n d os) := by
  refine ⟨rfl, rfl, rfl, ?_, fun j hj hne => ?_⟩
  · unfold sortWorldK putRowK
    simp
  · unfold sortWorldK putRowK
    rw [heap_grow_old _ _ (by simpa using hj)]
    have : g ≠ j := fun e => hne (by simp [Value.ownBlock, e])
    simp [putRow, mapBlock, Sort.ahead, Array.getElem?_modify, this]
theorem sort_any (v : Value) (L : List N) (base : Nat) (w : World) (hO : w.ownsRow base 40 2 v L.length (cellsL L)) (hn : L.length ≤ 1000000) :
    Calls Try.prog 27 #[v, .func (.func 28) #[] #[]] w fun e w' => e = .returned (.tuple #[]) ∧ ∃ M, M.Perm L ∧ Rises M ∧ Nms w' v M ∧ Only (fun i => v.ownBlock = some i) w w' := by
  have hNm := Nms.own hO
  rcases hO.2 with ⟨rfl, h0⟩ | ⟨g, cap, cur, rfl, hb, hg, hnc, hm, hcs, ht⟩
  · obtain rfl : L = [] := List.eq_nil_of_length_eq_zero h0
    refine (AnyF.slices_SortFunc_none (P := Try.prog) { Shf.Try.sortF27 with } none 0 _ w).mono ?_
    rintro e w' ⟨rfl, rfl⟩
    exact ⟨rfl, [], List.Perm.refl _, fun i j _ h => absurd h (Nat.not_lt_zero _), hNm, Only.refl _ _⟩
  · have hgl := (Array.getElem?_eq_some_iff.1 hg).1
    have hH : HoldsK N.cells 2 w g 0 L.toArray := by
      intro j hj
      rw [size_flatK] at hj
      have hj2 : j < L.length * 2 := by simpa using hj
      have hk : j / 2 < L.length := by omega
      have hl := cellsL_length L
      refine ⟨?_, by simp [World.frozen?, hg]⟩
      have h1 := hO.cellAt j (by omega)
      rw [Nat.zero_add]
      refine h1.trans ?_
      show _ = some (flatK N.cells 2 L.toArray)[j]!
      rw [get_flatK _ _ _ _ hj]
      have h2 := flat_at N.cells 2 L (fun _ _ => rfl) (j / 2) (j % 2) (nm L (j / 2)) (nm_get hk) (by omega)
      rw [show j / 2 * 2 + j % 2 = j by omega] at h2
      refine h2.trans ?_
      have h3 : L.toArray[j / 2]! = nm L (j / 2) := by
        rw [getElem!_pos _ _ (by simpa using hk)]
        show L[j / 2] = _
        exact nm_elem hk
      rw [h3]
      have h4 : j % 2 < 2 := by omega
      match j % 2, h4 with
      | 0, _ => rfl
      | 1, _ => rfl
    have eg : ∀ args w, (callFunc 28 args).run Try.prog w = .ok (.enter 28 args) w := enters_of Try.func28 (by kernel_rfl) rfl
    have hcon := AnyQ.slices_SortFunc Shf.Try.sortF27 2 Try.isAgg40 Try.sizeOf40 N.cells (fun _ => rfl) (fun x u hu => by simp [N.cells] at hu; rcases hu with rfl | rfl <;> rfl) cfN swoN 28 #[] g 0 cap L.toArray w eg (cmpLays g 0 _ w) hH hgl (by simp; omega)
    have hsz : L.toArray.size = L.length := by simp
    rw [hsz] at hcon
    refine Calls.mono hcon ?_
    rintro e w' ⟨rfl, d', n, os, hp, hsd, rfl⟩
    obtain ⟨p1, p2, p3⟩ := hp
    rw [hsz] at p1
    have hH2 : HoldsK N.cells 2 (sortWorldK N.cells 2 w g 0 n d' os) g 0 d' := by
      unfold sortWorldK
      exact holdsK_grow _ _ _ _ _ _ _ (by unfold putRowK; simpa using hgl) (holdsK_putRowK _ _ _ _ _ _ _ (holdsK_ahead _ _ w n g 0 _ hH) (by rw [p1, hsz]))
    have hnmd : ∀ i, i < L.length → nm d'.toList i = d'[i]! := fun i hi => by
      rw [getElem!_pos d' i (by omega), ← nm_elem (by simpa using (by omega : i < d'.size))]
      simp
    refine ⟨rfl, d'.toList, ?_, ?_, ?_, only_sorted d'⟩
    · rw [show d'.extract 0 L.length = d' by rw [← p1]; simp, show L.toArray.extract 0 L.length = L.toArray by rw [← hsz]; simp] at p3
      simpa using p3
    · intro i j hij hj
      have hj2 : j < L.length := by simpa [p1] using hj
      have := hsd i j (Nat.zero_le _) hij hj2
      rw [lt_cfN] at this
      rw [hnmd i (by omega), hnmd j hj2]
      exact this
    · obtain ⟨a2, cap2, e2, h2, h3, h4, h5⟩ := hNm
      have hl2 : d'.toList.length = L.length := by simpa using p1
      refine ⟨a2, cap2, by rw [hl2]; exact e2, by rw [hl2]; exact h2, h3, by rw [flat_length N.cells 2 d'.toList (fun _ _ => rfl)], fun hp0 => ?_⟩
      cases e2
      refine ⟨g, 0, rfl, fun j u hju => ?_⟩
      have hjl := (List.getElem?_eq_some_iff.1 hju).1
      rw [flat_length N.cells 2 d'.toList (fun _ _ => rfl)] at hjl
      have hk : j / 2 < L.length := by omega
      have hc := (hH2.cell (i := j / 2) (c := j % 2) (by omega) (by omega)).1
      rw [Nat.zero_add, show j / 2 * 2 + j % 2 = j by omega] at hc
      rw [Nat.zero_add]
      refine hc.trans ?_
      have h6 := flat_at N.cells 2 d'.toList (fun _ _ => rfl) (j / 2) (j % 2) (nm d'.toList (j / 2)) (nm_get (by omega)) (by omega)
      rw [show j / 2 * 2 + j % 2 = j by omega, hju, hnmd _ hk] at h6
      rw [h6]
      have h7 : j % 2 < 2 := by omega
      match j % 2, h7 with
      | 0, _ => rfl
      | 1, _ => rfl
end
end Go.Proofs.Ytafbkagoajcmeaa.Dir
