/- Several texts in one, each under its own heading. -/
import Derived.RangeFuncNested
import Derived.RangeFuncWrites
import Derived.Deep.OwnRows
import Derived.Deep.DeepFit
import Derived.Test.YteopcjfakhmifaaPk03
import Derived.Maps.AppendAt
import Derived.WalkSpells
/- Put answers the lowest bytes of its number, and an error where the width is none or the number has more bytes. -/
namespace Go.Proofs.Yteopcjfakhmifaa
open Go.RowKit Go.Shelf
attribute [local go_sem] Oper.semAt_some
set_option linter.unusedVariables false

theorem wide_scope {n : Nat} {P : Program} {c : Code} {Q : Exit → Act → World → Prop} {a : Act} {w : World} (h : c.wpIn Fence.wide n P (Exit.noGoto Q) a w) : (Code.scope c).wpIn Fence.wide n P Q a w := wpIn_wide.2 (wp_scope_straight (wpIn_wide.1 h))
theorem wide_label {n l : Nat} {P : Program} {Q : Exit → Act → World → Prop} {a : Act} {w : World} (h : Q .normal a w) : (Code.label l).wpIn Fence.wide n P Q a w := wpIn_wide.2 (wp_label h)

/-- a block of cells lies as it lay, where a block that is no cells has turned -/
theorem kept_block {A B : World} {row : Option Nat} {b : Nat} {c : Array Value} {t : TypeId} {fr : Nat × Nat} (h : A.heap[b]? = some (.cells c t fr)) (hg : A.grownBy B row) (hr : ∀ r, row = some r → ∃ o : Obj, A.heap[r]? = some o ∧ o.isCells = false) : B.heap[b]? = A.heap[b]? :=
  hg.block b (Array.getElem?_eq_some_iff.1 h).1 (fun e => by obtain ⟨o, ho, hc⟩ := hr b e.symm; rw [h] at ho; cases ho; cases hc)
theorem rowIs_kept {A B : World} {row : Option Nat} {b n : Nat} {t : TypeId} {f : Nat → Value} (h : A.rowIs b t n f) (hg : A.grownBy B row) (hr : ∀ r, row = some r → ∃ o : Obj, A.heap[r]? = some o ∧ o.isCells = false) : B.rowIs b t n f := by
  have h' := h
  obtain ⟨c, hb, _⟩ := h
  exact h'.of_block (kept_block hb hg hr)
theorem boxed_kept {A B : World} {row : Option Nat} {b : Nat} {t : TypeId} {v : Value} (h : Boxed A b t v) (hg : A.grownBy B row) (hr : ∀ r, row = some r → ∃ o : Obj, A.heap[r]? = some o ∧ o.isCells = false) : Boxed B b t v :=
  (kept_block h hg hr).trans h
theorem boxed_setOther {A : World} {b : Nat} {t : TypeId} {v u : Value} {p : Addr} (h : Boxed A b t v) (hp : b ≠ p.block) : Boxed (A.setCell p u) b t v := (Below.heap_setCell _ _ _ _ hp).trans h

/-- a Go int's bytes in out's row -/
def outF (n : Nat) (pre : List Nat) (i : Nat) : Value := .int .u8 (if i ∈ pre then nbyte n i else 0)

theorem ret_se {s t : ByteArray} {k : IntKind} {a b : Int} (h : s = t) (h2 : a = b) : Ending.returned (.tuple #[.string t, .int k b]) = .returned (.tuple #[.string s, .int k a]) := by rw [h, h2]

theorem infoByte : (Try.prog.info? 5).map (fun i => (i.zero, i.size, i.bytes)) = some (some (.int .u8 0), 1, 1) := by kernel_rfl

set_option maxRecDepth 100000 in
theorem isWidth_yes (wd : Int) (w : World) (h1 : 1 ≤ wd) (h2 : wd ≤ 8) : Calls Try.prog 86 #[.int .i64 wd] w fun e w' => e = .returned (.bool true) ∧ w = w' := by
  go_enter Try.func86, Try.ntmps86
  go_wp2
  go_ret
  exact ⟨rfl, rfl⟩

set_option maxRecDepth 100000 in
theorem isWidth_no (wd : Int) (w : World) (h : wd < 1 ∨ 8 < wd) : Calls Try.prog 86 #[.int .i64 wd] w fun e w' => e = .returned (.bool false) ∧ w = w' := by
  rcases h with h | h
  · have h1 : ¬ 1 ≤ wd := by omega
    go_enter Try.func86, Try.ntmps86
    go_wp2
    go_ret
    exact ⟨rfl, rfl⟩
  · have h1 : 1 ≤ wd := by omega
    have h2 : ¬ wd ≤ 8 := by omega
    go_enter Try.func86, Try.ntmps86
    go_wp2
    go_ret
    exact ⟨rfl, rfl⟩

set_option maxRecDepth 100000 in
set_option maxHeartbeats 400000 in
theorem put_nowidth (n wd : Int) (w : World) (h : wd < 1 ∨ 8 < wd) : Calls Try.prog 84 #[.int .u64 n, .int .i64 wd] w fun e w' => e = .returned (.tuple #[.string ⟨#[]⟩, .int .i64 2]) ∧ Below w.heap.size w w' := by
  have H := Lib.hid h
  clear h
  go_enter Try.func84, Try.ntmps84
  go_wp2
  go_step3
  go_wp2_with (go_at_call 86; refine (isWidth_no _ _ H.out).mono ?_; rintro e w' ⟨rfl, rfl⟩)
  rw [Exit.noGoto_ret]
  go_ret2
  exact ⟨rfl, (Below.refl _ _).alloc (Nat.le_refl _) _⟩

set_option maxRecDepth 100000 in
set_option maxHeartbeats 400000 in
theorem put_in (n k : Nat) (w : World) (hn : n < 256 ^ 8) (h1 : 1 ≤ k) (h2 : k ≤ 8) :
    CallsIn Fence.wide 9 Try.prog 84 #[.int .u64 n, .int .i64 k] w fun e w' => e = .returned (.tuple #[.string (putS n k), .int .i64 (putE n k)]) ∧ Below w.heap.size w w' := by
  have hmk := fun W : World => run_make_row' (P := Try.prog) 57 5 (.int .u8 0) 1 Try.underlying57 infoByte rfl .i64 .i64 k (by omega) (by omega) W
  have hfn : ∀ f, Fence.wide.fn f := fun _ => trivial
  refine callsIn_of_wp_marks Try.func84 rfl trivial ?_ rfl
  simp only [Try.ntmps84, List.size_toArray, List.length_cons, List.length_nil, Nat.reduceAdd, Nat.reduceSub, Array.replicate_succ, Array.replicate_zero, List.push_toArray, List.append_toArray, List.nil_append, List.cons_append]
  gi_wp2
  apply wide_scope
  gi_wp2_with (first | (gi_at_call 86; refine (callsIn_wide.2 (isWidth_yes _ _ (by omega) (by omega))).mono ?_; rintro e w' ⟨rfl, rfl⟩) | (gi_at_call 87; refine (bytesOf_in Fence.wide _ trivial rfl _ _).mono ?_; rintro e w' ⟨rfl, rfl⟩))
  apply wide_label
  gi_wp2_with (gi_at_call 87; refine (bytesOf_in Fence.wide _ trivial rfl _ _).mono ?_; rintro e w' ⟨rfl, rfl⟩)
  obtain ⟨W0, hW0⟩ : ∃ W0, ((((w.alloc (.cells #[.int .i64 k] 3)).alloc (.cells (madeCells #[.int .u8 0] k) 5)).alloc (.cells #[.slice (some ⟨w.heap.size + 1, 0, none⟩) k k] 57)).alloc (.cells #[.bool true] 4)).alloc (.cells #[.int .u64 n] 36) = W0 := ⟨_, rfl⟩
  have hs0 : W0.heap.size = w.heap.size + 5 := by rw [← hW0]; simp
  have hB0 : Boxed W0 w.heap.size 3 (.int .i64 k) := by rw [← hW0]; exact ((((Boxed.new _ _ _).alloc _).alloc _).alloc _).alloc _
  have hrow0 : W0.rowIs (w.heap.size + 1) 5 k (fun _ => .int .u8 0) := by
    rw [← hW0]
    have := World.rowIs_made (w.alloc (.cells #[.int .i64 k] 3)) (.int .u8 0) k 5
    rw [World.size_alloc] at this
    exact ((this.alloc _).alloc _).alloc _
  have hB2 : Boxed W0 (w.heap.size + 1 + 1) 57 (.slice (some ⟨w.heap.size + 1, 0, none⟩) k k) := by
    rw [← hW0]
    have := Boxed.new ((w.alloc (.cells #[.int .i64 k] 3)).alloc (.cells (madeCells #[.int .u8 0] k) 5)) 57 (.slice (some ⟨w.heap.size + 1, 0, none⟩) k k)
    simp only [World.size_alloc] at this
    exact (this.alloc _).alloc _
  have hB3 : Boxed W0 (w.heap.size + 1 + 1 + 1) 4 (.bool true) := by
    rw [← hW0]
    have := Boxed.new (((w.alloc (.cells #[.int .i64 k] 3)).alloc (.cells (madeCells #[.int .u8 0] k) 5)).alloc (.cells #[.slice (some ⟨w.heap.size + 1, 0, none⟩) k k] 57)) 4 (.bool true)
    simp only [World.size_alloc] at this
    exact this.alloc _
  have hB4 : Boxed W0 (w.heap.size + 1 + 1 + 1 + 1) 36 (.int .u64 n) := by
    rw [← hW0]
    have := Boxed.new ((((w.alloc (.cells #[.int .i64 k] 3)).alloc (.cells (madeCells #[.int .u8 0] k) 5)).alloc (.cells #[.slice (some ⟨w.heap.size + 1, 0, none⟩) k k] 57)).alloc (.cells #[.bool true] 4)) 36 (.int .u64 n)
    simp only [World.size_alloc] at this
    exact this
  have hBW : Below w.heap.size w W0 := by
    rw [← hW0]
    exact (((((Below.refl _ w).alloc (Nat.le_refl _) _).alloc (by simp) _).alloc (by simp; omega) _).alloc (by simp; omega) _).alloc (by simp; omega) _
  rw [hW0]
  refine wpIn_rangeFunc_ownF rfl (by decide) (gf := 90) (lb := #[.pointer (some ⟨w.heap.size + 1 + 1 + 1 + 1, 0, none⟩)]) rfl trivial (enters_of Try.func90 (by kernel_rfl) rfl)
    (bytesOf_stops Fence.wide _ trivial rfl (by decide) (w.heap.size + 1 + 1 + 1 + 1) n W0 (by omega) hB4.cell) sameK_t (sameK_b (by simp; omega)) (Below.refl _ _) (fun _ => rfl)
    (fun pre W => (W.rowIs (w.heap.size + 1) 5 k (outF n pre) ∧ Boxed W w.heap.size 3 (.int .i64 k) ∧ Boxed W (w.heap.size + 1 + 1) 57 (.slice (some ⟨w.heap.size + 1, 0, none⟩) k k) ∧ Boxed W (w.heap.size + 1 + 1 + 1) 4 (.bool true) ∧ (∀ j, j ∈ pre → k ≤ j → nbyte n j = 0)) ∧ Below w.heap.size w W)
    (fun c pre W => (c = .exit 0 ∧ Boxed W (w.heap.size + 1 + 1 + 1) 4 (.bool false) ∧ (∃ j, j ∈ pre ∧ k ≤ j ∧ nbyte n j ≠ 0)) ∧ Below w.heap.size w W)
    (OwnFrom.and (Own.from (fun s A B row hs hg hr => ⟨rowIs_kept hs.1 hg hr, boxed_kept hs.2.1 hg hr, boxed_kept hs.2.2.1 hg hr, boxed_kept hs.2.2.2.1 hg hr, hs.2.2.2.2⟩) _) (ownFrom_below (Nat.le_refl _) (by omega)))
    (fun c => OwnFrom.and (Own.from (fun s A B row hs hg hr => ⟨hs.1, boxed_kept hs.2.1 hg hr, hs.2.2⟩) _) (ownFrom_below (Nat.le_refl _) (by omega)))
    ⟨⟨hrow0.congr (fun i hi => by simp [outF]), hB0, hB2, hB3, by simp⟩, hBW⟩
    (fun x => { tmps := #[.int .u64 n, .int .i64 k, undef, .pointer (some ⟨w.heap.size, 0, none⟩), .string ⟨#[]⟩, .int .i64 0, .pointer (some ⟨w.heap.size + 1 + 1, 0, none⟩), .pointer (some ⟨w.heap.size + 1 + 1 + 1, 0, none⟩), .int .i64 (x : Int), .int .u8 ((n : Int) / 2 ^ (8 * x) % 256), .int .i64 k, .bool true, .bool false, .int .i64 k, .slice (some ⟨w.heap.size + 1, 0, none⟩) k k, .int .u64 n, .func (.func 90) #[] #[.pointer (some ⟨w.heap.size + 1 + 1 + 1 + 1, 0, none⟩)], .int .i64 (x : Int), .int .u8 ((n : Int) / 2 ^ (8 * x) % 256), undef, undef, undef, undef, undef, undef, undef, undef, undef, undef, undef, undef, undef, undef, undef], defers := [] }) ?assign ?body ?done ?stop
  case assign =>
    intro l x W K hK
    gi_wp2
    exact hK
  case body =>
    rintro l pre x W ⟨⟨hrow, hb0, hb2, hb3, hz⟩, hB⟩ _
    have c0 := hb0.cell
    have c2 := hb2.cell
    have c3 := hb3.cell
    have f3 := hb3.frozen
    by_cases hx : x < k
    · have cr := hrow.cell hx
      have fr := hrow.frozen x
      gi_wp2
      refine ⟨KeepsOthers.setCell _ _ _, Same.setCell _ (by simp) _, ⟨?_, boxed_setOther hb0 (by simp), boxed_setOther hb2 (by simp), boxed_setOther hb3 (by simp; omega), ?_⟩, hB.setCell (p := ⟨w.heap.size + 1, x, none⟩) (by simp) _⟩
      · refine (hrow.set x _).congr (fun i hi => ?_)
        by_cases hix : i = x
        · subst hix
          simp [outF, nbyte]
        · simp [outF, hix]
      · intro j hj hkj
        rcases List.mem_append.1 hj with h | h
        · exact hz j h hkj
        · simp at h; omega
    · have hx' : ¬ ((x : Int) < (k : Int)) := by omega
      have hrow' : W.rowIs (w.heap.size + 1) 5 k (outF n (pre ++ [x])) := hrow.congr (fun i hi => by
        have : i ≠ x := by omega
        simp [outF, this])
      by_cases hz0 : nbyte n x = 0
      · have HZ := Lib.hid hz0
        have hb1 : ((n : Int) / 2 ^ (8 * x) % 256 != 0) = false := by have := hz0; unfold nbyte at this; simp [this]
        clear hz0
        gi_wp2
        refine ⟨KeepsOthers.refl _, Same.refl _ _, ⟨hrow', hb0, hb2, hb3, ?_⟩, hB⟩
        intro j hj hkj
        rcases List.mem_append.1 hj with h | h
        · exact hz j h hkj
        · simp at h; subst h; exact HZ.out
      · have HZ := Lib.hid hz0
        have hb1 : ((n : Int) / 2 ^ (8 * x) % 256 != 0) = true := by have := hz0; unfold nbyte at this; simp [this]
        clear hz0
        gi_wp2
        exact ⟨KeepsOthers.setCell _ _ _, ⟨rfl, hb3.set _, x, by simp, by omega, HZ.out⟩, hB.setCell (p := ⟨w.heap.size + 1 + 1 + 1, 0, none⟩) (by simp; omega) _⟩
  case done =>
    rintro D xs W hD rfl ⟨⟨hrow, hb0, hb2, hb3, hz⟩, hB⟩ hK
    have c2 := hb2.cell
    have c3 := hb3.cell
    have hcv := run_convert_bytes_arg (P := Try.prog) W 57 5 Try.underlying57 Try.underlying5 (w.heap.size + 1) 0 k k (numL n k) (numL_length n k) (fun i hi => by
      rw [Nat.zero_add, hrow.cell hi]
      have : i ∈ List.range 8 := by simp; omega
      simp [outF, numL, this, hi]) 9 Try.underlying9
    have hok : putOk n (k : Int) := ⟨by omega, by omega, by
      rw [Int.toNat_natCast]
      refine small_of_high n k (8 - k) ?_ fun j h1 h2 => hz j (by simp; omega) h1
      rw [show k + (8 - k) = 8 from by omega]
      exact hn⟩
    have HS : Hid (putS n (k : Int) = strOfNums (numL n k)) := by rw [putS_yes hok, Int.toNat_natCast]; rfl
    have HE := Lib.hid (putE_yes hok)
    clear hok hz
    gi_wp2
    refine ⟨by simp, .inl ⟨_, _, rfl, run_takeDeferred hK, ?_⟩⟩
    exact ⟨_, results_tmp2 rfl _ _ _, by rw [HS.out, HE.out]; rfl, hB.trans (belowK_b (w := w) (Nat.le_refl _) W D _ _ (by omega) hK rfl rfl)⟩
  case stop =>
    rintro D c pre W hD ⟨kk, hkk, rfl⟩ ⟨⟨rfl, hb3, j, hj, hkj, hnz⟩, hB⟩ hK
    have c3 := hb3.cell
    have hno : ¬ putOk n (k : Int) := fun h => hnz (high_zero n k (by have := h.2.2; rwa [Int.toNat_natCast] at this) j hkj)
    have HS := Lib.hid (putS_no hno)
    have HE := Lib.hid (putE_no hno)
    clear hno hnz
    gi_wp2
    refine ⟨by simp, .inl ⟨_, _, rfl, run_takeDeferred hK, ?_⟩⟩
    exact ⟨_, results_tmp2 rfl _ _ _, by rw [HS.out, HE.out]; rfl, hB.trans (belowK_b (w := w) (Nat.le_refl _) W D _ _ (by omega) hK rfl rfl)⟩

/-- Put, whatever its number and width -/
theorem put_any (n : Nat) (wd : Int) (w : World) (hn : n < 256 ^ 8) :
    Calls Try.prog 84 #[.int .u64 n, .int .i64 wd] w fun e w' => e = .returned (.tuple #[.string (putS n wd), .int .i64 (putE n wd)]) ∧ Below w.heap.size w w' := by
  by_cases h : 1 ≤ wd ∧ wd ≤ 8
  · obtain ⟨k, rfl⟩ := Int.eq_ofNat_of_zero_le (show 0 ≤ wd by omega)
    exact callsIn_wide.1 (put_in n k w hn (by omega) (by omega))
  · refine (put_nowidth n wd w (by omega)).mono fun e w' ⟨he, hb⟩ => ⟨?_, hb⟩
    have hno : ¬ putOk n wd := fun hh => h ⟨hh.1, hh.2.1⟩
    rw [he]
    exact ret_se (putS_no hno) (putE_no hno)

end Go.Proofs.Yteopcjfakhmifaa
/- The document's own answers on numbers as bytes: Bytes and Put of the reference package. -/
namespace Go.Proofs.Yteopcjfakhmifaa
open Go.RowKit Go.Shelf
set_option linter.unusedVariables false

theorem numL_succ (n j : Nat) : numL n (j + 1) = numL n j ++ [nbyte n j] := by simp [numL, List.range_succ]
theorem shift_eight (n j : Nat) : (n : Int) / 2 ^ (8 * j) / 2 ^ 8 = (n : Int) / 2 ^ (8 * (j + 1)) := by
  rw [Int.ediv_ediv_of_nonneg (Int.pow_nonneg (by decide)), ← Int.pow_add, Nat.mul_succ]
theorem shift_range (n j : Nat) (hn : n < 256 ^ 8) : 0 ≤ (n : Int) / 2 ^ (8 * j) ∧ (n : Int) / 2 ^ (8 * j) ≤ 18446744073709551615 := by
  have e : (2 : Int) ^ (8 * j) = ((256 ^ j : Nat) : Int) := by
    rw [show (256 : Nat) = 2 ^ 8 from rfl, ← Nat.pow_mul]
    simp
  rw [e, ← Int.natCast_ediv]
  have h := Nat.div_le_self n (256 ^ j)
  generalize n / 256 ^ j = q at *
  have e8 : 256 ^ 8 = 18446744073709551616 := by decide
  omega

set_option maxRecDepth 100000 in
set_option maxHeartbeats 400000 in
theorem bytes_ref (n k : Nat) (w : World) (hn : n < 256 ^ 8) (h1 : 1 ≤ k) (h2 : k ≤ 8) :
    Calls Try.prog 75 #[.int .u64 n, .int .i64 k] w fun e w' => e = .returned (.string (numB n k)) ∧ Below w.heap.size w w' := by
  obtain ⟨i0, hi, hz0, hz1, hz2⟩ := info_parts infoByte
  go_enter Try.func75, Try.ntmps75
  go_wp2
  go_loopw [0, 5, 6] (fun nv v i wr => ∃ (j : Nat) (m : Int), j ≤ k ∧ i = .int .i64 j ∧ nv = .int .u64 m ∧ Hid (m = (n : Int) / 2 ^ (8 * j)) ∧ wr.ownsRow w.heap.size 5 1 v j ((numL n j).map (Value.int .u8)) ∧ Below w.heap.size w wr)
    (fun _ _ i _ => k - (intOf i).toNat)
  case atStart => exact ⟨0, (n : Int), Nat.zero_le _, rfl, rfl, by simp [Hid], World.ownsRow_nil _ _ _ _, Below.refl _ _⟩
  case round =>
    obtain ⟨j, m, hj, rfl, rfl, HM, hown, hB⟩ := hrel
    have hsz := hB.size
    have hm : 0 ≤ m ∧ m ≤ 18446744073709551615 := by rw [HM.out]; exact shift_range n j hn
    by_cases hlt : j < k
    · go_wp2_with (at_builtin; go_must (refine wpList_append_own _ rfl _ _ 57 rfl w.heap.size 5 i0 (.int .u8 0) 1 1 Try.underlying57 hi hz0 hz1 hz2 rfl (by decide) _ _ _ rfl (hown.alloc _) ⟨wr.heap.size, 0, none⟩ 1 1 [.int .u8 (m % 256)] rfl rfl (cell_one_new _ _ _) (by simp [Value.oneCell']) (by unfold maxLen; omega) (by omega) (by simp; omega) ?_; intro v' w1 hown' hgrow _))
      have HO : Hid (w1.ownsRow w.heap.size 5 1 v' (j + 1) ((numL n (j + 1)).map (Value.int .u8))) := by
        rw [numL_succ, List.map_append]
        have e : m % 256 = nbyte n j := by rw [HM.out]; rfl
        rw [e] at hown'
        exact hown'
      obtain ⟨g', cap', rfl⟩ := ownsRow_succ hown'
      have HB : Below w.heap.size w w1 := (hB.alloc hB.size _).grown hgrow (by simp; omega) (fun r e => (hown.lt r e).1)
      have HM2 : Hid (m / 256 = (n : Int) / 2 ^ (8 * (j + 1))) := by rw [HM.out]; exact shift_eight n j
      clear hown hown' hgrow
      go_wp2
      go_roundw
      case rel => exact ⟨j + 1, m / 256, by omega, by go_num, rfl, HM2, HO, HB⟩
      case measure => simp [intOf]; omega
    · obtain rfl : j = k := by omega
      obtain ⟨k', rfl⟩ : ∃ k', j = k' + 1 := ⟨j - 1, by omega⟩
      obtain ⟨g, cap, rfl⟩ := ownsRow_succ hown
      have hcv := run_convert_bytes_arg (P := Try.prog) wr 57 5 Try.underlying57 Try.underlying5 g 0 (k' + 1) cap (numL n (k' + 1)) (numL_length n (k' + 1)) (fun i hi => by
        rw [Nat.zero_add, hown.cellAt i (by omega)]
        simp [numL, hi]) 9 Try.underlying9
      go_wp2
      go_ret
      exact ⟨rfl, hB⟩

theorem eight : (256 : Nat) ^ 8 = 18446744073709551616 := by decide
theorem pow_int (k : Nat) : (2 : Int) ^ (8 * k) = ((256 ^ k : Nat) : Int) := by
  rw [show (256 : Nat) = 2 ^ 8 from rfl, ← Nat.pow_mul]
  simp
theorem fits_iff (n k : Nat) : ((n : Int) / 2 ^ (8 * k) = 0) ↔ n < 256 ^ k := by
  rw [pow_int, ← Int.natCast_ediv]
  have h := Nat.div_eq_zero_iff (a := n) (b := 256 ^ k)
  have hp : 256 ^ k ≠ 0 := Nat.pos_iff_ne_zero.1 (Nat.pow_pos (by decide))
  generalize 256 ^ k = q at *
  omega

end Go.Proofs.Yteopcjfakhmifaa
