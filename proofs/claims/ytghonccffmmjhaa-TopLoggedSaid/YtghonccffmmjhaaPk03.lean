/- Several texts in one, each under its own heading. -/
import Derived.WalkKit
import Derived.Lib.BufferWrite
import Derived.Lib.UnsafeStr
import Derived.Lib.BufferRead
import Derived.Deep.OwnRows
import Derived.Deep.DeepFit
import Derived.WalkSpells
import Derived.Shelf.Abstract
import Derived.Shelf.RegionOpen
import Derived.Test.YtghonccffmmjhaaPk02
/- A disk as plain data: the blocks of the last flush, the loose writes, how many operations, where the power goes; and what each call makes of it. -/
namespace Go.Proofs.Ytghonccffmmjhaa.Disk
set_option linter.unusedVariables false

/-- blocks, behind writes -/
def settle (B : List ByteArray) (L : List (Nat × ByteArray)) : List ByteArray := L.foldl (fun b w => b.set w.1 w.2) B
theorem settle_length (B : List ByteArray) (L : List (Nat × ByteArray)) : (settle B L).length = B.length := by
  induction L generalizing B with
  | nil => rfl
  | cons w L ih => show (settle (B.set w.1 w.2) L).length = _; rw [ih, List.length_set]
theorem settle_snoc (B : List ByteArray) (L : List (Nat × ByteArray)) (at0 : Nat) (s : ByteArray) : settle B (L ++ [(at0, s)]) = (settle B L).set at0 s := by simp [settle]
theorem settle_take (B : List ByteArray) (L : List (Nat × ByteArray)) (k : Nat) (w : Nat × ByteArray) (h : L[k]? = some w) : settle B (L.take (k + 1)) = (settle B (L.take k)).set w.1 w.2 := by
  rw [List.take_add_one, h]; exact settle_snoc _ _ _ _
/-- the last write at a place is what stands there -/
theorem settle_last (B : List ByteArray) (L : List (Nat × ByteArray)) (at0 k : Nat) (s : ByteArray) (hat : at0 < B.length) (hk : L[k]? = some (at0, s)) (hn : ∀ j x, k < j → L[j]? = some x → x.1 ≠ at0) : (settle B L)[at0]? = some s := by
  have key : ∀ (n : Nat), k < n → (settle B (L.take n))[at0]? = some s := by
    intro n
    induction n with
    | zero => intro h; omega
    | succ n ih =>
      intro h
      rcases Nat.lt_or_ge n L.length with hl | hl
      · rw [settle_take B L n L[n] (by simp)]
        rcases Nat.lt_or_ge k n with h2 | h2
        · rw [List.getElem?_set_ne (hn n _ h2 (by simp))]
          exact ih h2
        · obtain rfl : n = k := by omega
          have : L[n] = (at0, s) := by
            rw [List.getElem?_eq_getElem hl] at hk
            exact Option.some.inj hk
          rw [this]
          rw [List.getElem?_set_self (by rw [settle_length]; exact hat)]
      · have := (List.getElem?_eq_some_iff.1 hk).1
        rw [List.take_of_length_le (by omega)] at ih ⊢
        exact ih (by omega)
  have := key L.length (List.getElem?_eq_some_iff.1 hk).1
  rwa [List.take_length] at this
theorem settle_not (B : List ByteArray) (L : List (Nat × ByteArray)) (at0 : Nat) (hn : ∀ x ∈ L, x.1 ≠ at0) : (settle B L)[at0]? = B[at0]? := by
  induction L generalizing B with
  | nil => rfl
  | cons w L ih =>
    show (settle (B.set w.1 w.2) L)[at0]? = _
    rw [ih _ (fun x hx => hn x (List.mem_cons_of_mem _ hx)), List.getElem?_set_ne (hn w (by simp))]
theorem settle_sizes (B : List ByteArray) (L : List (Nat × ByteArray)) (n : Nat) (hB : ∀ s ∈ B, s.size = n) (hL : ∀ x ∈ L, x.2.size = n) : ∀ s ∈ settle B L, s.size = n := by
  induction L generalizing B with
  | nil => exact hB
  | cons w L ih =>
    refine ih (B.set w.1 w.2) (fun s hs => ?_) (fun x hx => hL x (List.mem_cons_of_mem _ hx))
    rcases List.mem_or_eq_of_mem_set hs with h | rfl
    · exact hB s h
    · exact hL w (by simp)
/-- what is written twice alike -/
theorem settle_flushed (B : List ByteArray) (L : List (Nat × ByteArray)) : settle (settle B L) [] = settle B L := rfl

structure D where
  B : List ByteArray
  L : List (Nat × ByteArray)
  ops : Nat
  cut : Int

namespace D
def now (d : D) : List ByteArray := settle d.B d.L
def off (d : D) : Prop := 0 ≤ d.cut ∧ d.cut ≤ d.ops
instance (d : D) : Decidable d.off := by unfold off; infer_instance
structure Ok (d : D) : Prop where
  lo : 0 < d.B.length
  hi : d.B.length ≤ 4096
  at_ : ∀ x ∈ d.L, x.1 < d.B.length
  sizes : ∀ s ∈ d.B, s.size = 512
  lsizes : ∀ x ∈ d.L, x.2.size = 512
  few : d.L.length ≤ d.ops
  cut1 : -9223372036854775808 ≤ d.cut
  cut2 : d.cut ≤ 9223372036854775807
theorem now_length (d : D) : d.now.length = d.B.length := settle_length _ _
theorem Ok.now_sizes {d : D} (h : d.Ok) : ∀ s ∈ d.now, s.size = 512 := settle_sizes _ _ _ h.sizes h.lsizes
/-- a fresh one of these blocks -/
def of (B : List ByteArray) : D := ⟨B, [], 0, -1⟩
theorem of_ok {B : List ByteArray} (h1 : 0 < B.length) (h2 : B.length ≤ 4096) (h3 : ∀ s ∈ B, s.size = 512) : (of B).Ok := ⟨h1, h2, by simp [of], h3, by simp [of], by simp [of], by simp [of], by simp [of]⟩
def written (d : D) (at0 : Nat) (s : ByteArray) : D := ⟨d.B, d.L ++ [(at0, s)], d.ops + 1, d.cut⟩
theorem Ok.written {d : D} (h : d.Ok) {at0 : Nat} {s : ByteArray} (h1 : at0 < d.B.length) (h2 : s.size = 512) : (d.written at0 s).Ok :=
  ⟨h.lo, h.hi, fun x hx => by
    rcases List.mem_append.1 hx with hx | hx
    · exact h.at_ x hx
    · simp at hx; subst hx; exact h1, h.sizes, fun x hx => by
    rcases List.mem_append.1 hx with hx | hx
    · exact h.lsizes x hx
    · simp at hx; subst hx; exact h2, by have := h.few; simp [D.written]; omega, h.cut1, h.cut2⟩
theorem written_now (d : D) (at0 : Nat) (s : ByteArray) : (d.written at0 s).now = d.now.set at0 s := settle_snoc _ _ _ _
def flushed (d : D) : D := ⟨d.now, [], d.ops + 1, d.cut⟩
theorem Ok.flushed {d : D} (h : d.Ok) : d.flushed.Ok :=
  ⟨by show 0 < d.now.length; rw [now_length]; exact h.lo, by show d.now.length ≤ 4096; rw [now_length]; exact h.hi, by simp [D.flushed], h.now_sizes, by simp [D.flushed], by simp [D.flushed], h.cut1, h.cut2⟩
def cutAt (d : D) (n : Int) : D := ⟨d.B, d.L, d.ops, n⟩
theorem Ok.cutAt {d : D} (h : d.Ok) {n : Int} (h1 : -9223372036854775808 ≤ n) (h2 : n ≤ 9223372036854775807) : (d.cutAt n).Ok := ⟨h.lo, h.hi, h.at_, h.sizes, h.lsizes, h.few, h1, h2⟩
end D

/-- the first sector of one, the second of the other -/
def torn (new old : ByteArray) : ByteArray := new.extract 0 256 ++ old.extract 256 old.size
theorem torn_size {new old : ByteArray} (h1 : new.size = 512) (h2 : old.size = 512) : (torn new old).size = 512 := by
  simp [torn, h1, h2]
/-- does the k-th loose write stay? -/
def stays (keep : Nat) (k : Nat) : Prop := keep / 2 ^ (k % 64) % 2 = 1
instance (keep k : Nat) : Decidable (stays keep k) := by unfold stays; infer_instance
/-- a crash's first k writes -/
def crashTo (B : List ByteArray) (L : List (Nat × ByteArray)) (keep : Nat) (t : Int) : Nat → List ByteArray
  | 0 => B
  | k + 1 =>
    let b := crashTo B L keep t k
    match L[k]? with
    | none => b
    | some w => if (k : Int) = t then b.set w.1 (torn w.2 (b.getD w.1 ByteArray.empty)) else if stays keep k then b.set w.1 w.2 else b
def crash (B : List ByteArray) (L : List (Nat × ByteArray)) (keep : Nat) (t : Int) : List ByteArray := crashTo B L keep t L.length
theorem crashTo_length (B : List ByteArray) (L : List (Nat × ByteArray)) (keep : Nat) (t : Int) (k : Nat) : (crashTo B L keep t k).length = B.length := by
  induction k with
  | zero => rfl
  | succ k ih =>
    unfold crashTo
    dsimp only
    cases h : L[k]? with
    | none => exact ih
    | some w =>
      dsimp only
      split
      · rw [List.length_set]; exact ih
      · split
        · rw [List.length_set]; exact ih
        · exact ih
theorem crashTo_torn (B : List ByteArray) (L : List (Nat × ByteArray)) (keep : Nat) (t : Int) (k : Nat) (w : Nat × ByteArray) (h : L[k]? = some w) (ht : (k : Int) = t) : crashTo B L keep t (k + 1) = (crashTo B L keep t k).set w.1 (torn w.2 ((crashTo B L keep t k).getD w.1 ByteArray.empty)) := by
  rw [crashTo]; simp only [h, ht, if_true]
theorem crashTo_kept (B : List ByteArray) (L : List (Nat × ByteArray)) (keep : Nat) (t : Int) (k : Nat) (w : Nat × ByteArray) (h : L[k]? = some w) (ht : ¬ (k : Int) = t) (hs : stays keep k) : crashTo B L keep t (k + 1) = (crashTo B L keep t k).set w.1 w.2 := by
  rw [crashTo]; simp only [h, ht, hs, if_true, if_false]
theorem crashTo_lost (B : List ByteArray) (L : List (Nat × ByteArray)) (keep : Nat) (t : Int) (k : Nat) (ht : ¬ (k : Int) = t) (hs : ¬ stays keep k) : crashTo B L keep t (k + 1) = crashTo B L keep t k := by
  rw [crashTo]
  cases h : L[k]? with
  | none => rfl
  | some w => simp only [ht, hs, if_false]
theorem crashTo_sizes (B : List ByteArray) (L : List (Nat × ByteArray)) (keep : Nat) (t : Int) (k : Nat) (hB : ∀ s ∈ B, s.size = 512) (hL : ∀ x ∈ L, x.2.size = 512) (ha : ∀ x ∈ L, x.1 < B.length) : ∀ s ∈ crashTo B L keep t k, s.size = 512 := by
  induction k with
  | zero => exact hB
  | succ k ih =>
    cases h : L[k]? with
    | none =>
      intro s hs
      rw [crashTo] at hs
      simp only [h] at hs
      exact ih s hs
    | some w =>
      have hm := List.mem_of_getElem? h
      have hl : w.1 < (crashTo B L keep t k).length := by rw [crashTo_length]; exact ha w hm
      by_cases ht : (k : Int) = t
      · rw [crashTo_torn B L keep t k w h ht]
        intro s hs
        rcases List.mem_or_eq_of_mem_set hs with h2 | rfl
        · exact ih s h2
        · refine torn_size (hL w hm) (ih _ ?_)
          rw [List.getD_eq_getElem?_getD, List.getElem?_eq_getElem hl]
          exact List.getElem_mem _
      · by_cases hs : stays keep k
        · rw [crashTo_kept B L keep t k w h ht hs]
          intro s hs
          rcases List.mem_or_eq_of_mem_set hs with h2 | rfl
          · exact ih s h2
          · exact hL w hm
        · rw [crashTo_lost B L keep t k ht hs]
          exact ih
theorem crash_nil (B : List ByteArray) (keep : Nat) (t : Int) : crash B [] keep t = B := rfl
/-- all that is loose kept, nothing torn -/
theorem crash_all (B : List ByteArray) (L : List (Nat × ByteArray)) (keep : Nat) (hk : ∀ k, stays keep k) : crash B L keep (-1) = settle B L := by
  have : ∀ n, n ≤ L.length → crashTo B L keep (-1) n = settle B (L.take n) := by
    intro n
    induction n with
    | zero => intro _; rfl
    | succ n ih =>
      intro hn
      have h : L[n]? = some L[n] := List.getElem?_eq_getElem (by omega)
      rw [crashTo_kept B L keep (-1) n _ h (by omega) (hk n), settle_take B L n _ h, ih (by omega)]
  have h2 := this L.length (Nat.le_refl _)
  rwa [List.take_length] at h2
namespace D
def crashed (d : D) (keep : Nat) (t : Int) : D := of (crash d.B d.L keep t)
theorem Ok.crashed {d : D} (h : d.Ok) (keep : Nat) (t : Int) : (d.crashed keep t).Ok :=
  of_ok (by unfold crash; rw [crashTo_length]; exact h.lo) (by unfold crash; rw [crashTo_length]; exact h.hi) (crashTo_sizes _ _ _ _ _ h.sizes h.lsizes h.at_)
end D
end Go.Proofs.Ytghonccffmmjhaa.Disk
/- Texts of the program's package disk: a text with bytes 0 behind it, up to a block, is that; a text's clone is the text; and the reference's block likewise. -/
namespace Go.Proofs.Ytghonccffmmjhaa.Disk
open Go.RowKit Go.Shelf
set_option linter.unusedVariables false

theorem infoByte : (Try.prog.info? 5).map (fun i => (i.zero, i.size, i.bytes)) = some (some (.int .u8 0), 1, 1) := by kernel_rfl
theorem infoSize : (Try.prog.info? 5).map (·.size) = some 1 := by kernel_rfl
def zeros (n : Nat) : ByteArray := ⟨(List.replicate n 0).toArray⟩
theorem zeros_size (n : Nat) : (zeros n).size = n := by simp [zeros, ByteArray.size]
/-- a text, with bytes 0 behind it up to a block -/
def fit (s : ByteArray) : ByteArray := s ++ zeros (512 - s.size)
theorem fit_size (s : ByteArray) (h : s.size ≤ 512) : (fit s).size = 512 := by simp [fit, zeros_size]; omega

/-- bytes as integers -/
def bytesOfL (l : List UInt8) : List Int := l.map fun b => (b.toNat : Int)
theorem bytesOfL_length (l : List UInt8) : (bytesOfL l).length = l.length := by simp [bytesOfL]
theorem strOf_bytesOfL (l : List UInt8) : strOfNums (bytesOfL l) = ⟨l.toArray⟩ := by
  unfold strOfNums bytesOfL
  congr 1
  rw [List.map_map]
  congr 1
  conv => rhs; rw [← List.map_id l]
  apply List.map_congr_left
  intro b _
  simp
theorem madeCells_rep (v : Value) (n : Nat) : (madeCells #[v] n).toList = List.replicate n v := by
  apply List.ext_getElem
  · rw [Array.length_toList, size_madeCells, List.length_replicate]
  · intro i h1 h2
    simp [madeCells, Nat.mod_one]

/-- n bytes 0, as a text -/
theorem conv_zeros (W : World) (g n : Nat) (h : W.rowIs g 5 n (fun _ => .int .u8 0)) (cap : Nat) :
    (convert 106 9 (.slice (some ⟨g, 0, none⟩) n cap)).run Try.prog W = .ok (.string (zeros n)) W := by
  have h1 := run_convert_bytes_arg (P := Try.prog) W 106 5 Try.underlying106 Try.underlying5 g 0 n cap (List.replicate n 0) (by simp) (fun i hi => by
    rw [Nat.zero_add, h.cell hi]
    simp [List.getD, hi]) 9 Try.underlying9
  rw [h1]
  simp [strOfNums, zeros]

set_option maxRecDepth 100000 in
set_option maxHeartbeats 400000 in
theorem fitted_any (s : ByteArray) (w : World) (h1 : s.size ≤ 512) :
    Calls Try.prog 34 #[.string s] w fun e w' => e = .returned (.string (fit s)) ∧ Below w.heap.size w w' := by
  obtain ⟨k, hk⟩ : ∃ k, k = 512 := ⟨_, rfl⟩
  have h2 : k ≤ 65536 := by omega
  rw [← hk] at h1
  obtain ⟨M, hM⟩ : ∃ M, M = madeCells #[Value.int .u8 0] k := ⟨_, rfl⟩
  have hMs : M.size = k := by rw [hM, size_madeCells]
  have hmk : ∀ W : World, (Instr.makeSlice 106 (.int .i64 (k : Int)) (.int .i64 (k : Int))).run Try.prog W = .ok (.slice (some ⟨W.heap.size, 0, none⟩) k k) (W.alloc (.cells M 5)) := fun W => by
    rw [hM]
    exact run_make_row' (P := Try.prog) 106 5 (.int .u8 0) 1 Try.underlying106 infoByte rfl .i64 .i64 k (by omega) (by omega) W
  have hcp := Lib.run_copy_row_string (P := Try.prog) (w.alloc (.cells M 5)) 106 9 3 5 w.heap.size 0 k k s M 5 Try.underlying106 infoSize (World.alloc_heap_new w _) h1 (by omega)
  obtain ⟨Y, hY⟩ : ∃ Y, Y = (M.toList.take 0 ++ Lib.byteCells s.data.toList ++ M.toList.drop (0 + s.size)).toArray := ⟨_, rfl⟩
  rw [← hY] at hcp
  have hYl : Y.toList = (bytesOfL (s.data.toList ++ List.replicate (k - s.size) 0)).map (Value.int .u8) := by
    have hsz : s.data.toList.length = s.size := by simp
    rw [hY, hM, List.toList_toArray]
    simp [bytesOfL, Lib.byteCells, madeCells_rep, List.drop_replicate]
  have hYs : Y.size = k := by
    have hsz : s.data.toList.length = s.size := by simp
    rw [← Array.length_toList, hYl, List.length_map, bytesOfL_length, List.length_append, List.length_replicate, hsz]
    omega
  have hgY : ((w.alloc (.cells M 5)).setRow w.heap.size Y).heap[w.heap.size]? = some (.cells Y 5 (0, 0)) := setRow_heap _ _ M _ 5 (0, 0) (World.alloc_heap_new w _)
  have hLn : (bytesOfL (s.data.toList ++ List.replicate (k - s.size) 0)).length = k := by
    have := congrArg List.length hYl
    rw [Array.length_toList, List.length_map, hYs] at this
    exact this.symm
  have hcv := run_convert_bytes_arg (P := Try.prog) ((w.alloc (.cells M 5)).setRow w.heap.size Y) 106 5 Try.underlying106 Try.underlying5 w.heap.size 0 k k (bytesOfL (s.data.toList ++ List.replicate (k - s.size) 0)) hLn (fun i hi => by
    have hx : Y.toList[i]? = some (.int .u8 ((bytesOfL (s.data.toList ++ List.replicate (k - s.size) 0)).getD i 0)) := by
      have hl : i < (bytesOfL (s.data.toList ++ List.replicate (k - s.size) 0)).length := by
        have := congrArg List.length hYl
        rw [Array.length_toList, List.length_map, hYs] at this
        omega
      rw [hYl, List.getElem?_map, List.getElem?_eq_getElem hl, List.getD_eq_getElem?_getD, List.getElem?_eq_getElem hl]
      rfl
    rw [Nat.zero_add]
    simp only [World.cell?, hgY]
    rw [Array.getElem?_toList] at hx
    exact hx) 9 Try.underlying9
  rw [strOf_bytesOfL] at hcv
  have HB : Below w.heap.size w ((w.alloc (.cells M 5)).setRow w.heap.size Y) := ((Below.refl _ w).alloc (Nat.le_refl _) _).trans ⟨rfl, rfl, rfl, by simp, fun k hk => setRow_other _ _ _ _ (by omega)⟩
  have HC : Hid (s ++ zeros (k - s.size) = ⟨(s.data.toList ++ List.replicate (k - s.size) 0).toArray⟩) := by
    apply ByteArray.ext
    apply Array.toList_inj.1
    simp [zeros]
  clear hYl hYs hgY hY hM hMs hLn
  subst hk
  have hmk2 : ∀ W : World, (Instr.makeSlice 106 (.int .i64 512) (.int .i64 512)).run Try.prog W = .ok (.slice (some ⟨W.heap.size, 0, none⟩) 512 512) (W.alloc (.cells M 5)) := hmk
  clear hmk
  go_enter Try.func34, Try.ntmps34
  go_wp2
  go_ret
  exact ⟨by rw [fit, HC.out]; rfl, HB⟩


/-! ### a text's clone -/
set_option maxRecDepth 100000 in
set_option maxHeartbeats 400000 in
theorem clone_in (s : ByteArray) (w : World) (hs : s.size ≤ 281474976710656) :
    Calls Try.prog 68 #[.string s] w fun e w' => e = .returned (.string s) ∧ Below w.heap.size w w' := by
  by_cases h0 : s.size = 0
  · obtain rfl : s = ⟨#[]⟩ := by
      apply ByteArray.ext
      exact Array.eq_empty_of_size_eq_zero h0
    go_enter Try.func68, Try.ntmps68
    go_wp2
    go_ret
    exact ⟨rfl, Below.refl _ _⟩
  · obtain ⟨M, hM⟩ : ∃ M, M = madeCells #[Value.int .u8 0] s.size := ⟨_, rfl⟩
    have hMs : M.size = s.size := by rw [hM, size_madeCells]
    have hmk : ∀ W : World, (Instr.makeSlice 106 (.int .i64 (s.size : Int)) (.int .i64 (s.size : Int))).run Try.prog W = .ok (.slice (some ⟨W.heap.size, 0, none⟩) s.size s.size) (W.alloc (.cells M 5)) := fun W => by
      rw [hM]
      exact run_make_row' (P := Try.prog) 106 5 (.int .u8 0) 1 Try.underlying106 infoByte rfl .i64 .i64 s.size (by omega) (by omega) W
    have hcp := Lib.run_copy_row_string (P := Try.prog) (w.alloc (.cells M 5)) 106 9 3 5 w.heap.size 0 s.size s.size s M 5 Try.underlying106 infoSize (World.alloc_heap_new w _) (Nat.le_refl _) (by omega)
    obtain ⟨Y, hY⟩ : ∃ Y, Y = (M.toList.take 0 ++ Lib.byteCells s.data.toList ++ M.toList.drop (0 + s.size)).toArray := ⟨_, rfl⟩
    rw [← hY] at hcp
    have hYl : Y.toList = Lib.byteCells s.data.toList := by
      rw [hY, List.toList_toArray, List.take_zero, List.nil_append, List.drop_of_length_le (by rw [Array.length_toList]; omega), List.append_nil]
    have hYs : Y.size = s.size := by rw [← Array.length_toList, hYl, Lib.byteCells_length, ← Lib.size_eq]
    have hgY : ((w.alloc (.cells M 5)).setRow w.heap.size Y).heap[w.heap.size]? = some (.cells Y 5 (0, 0)) := setRow_heap _ _ M _ 5 (0, 0) (World.alloc_heap_new w _)
    have hne : s.data.toList ≠ [] := fun e => h0 (by rw [Lib.size_eq, e]; rfl)
    have hUS := Lib.run_unsafeString_row (P := Try.prog) ((w.alloc (.cells M 5)).setRow w.heap.size Y) 128 3 9 5 Try.underlying128 (by kernel_rfl) w.heap.size Y.size (by unfold World.shape?; rw [hgY]) s.data.toList hne (by rw [← Lib.size_eq]; omega) (by rw [← Lib.size_eq]; omega)
      (fun j x hx => Lib.cells_of_row hgY Y.size j _ (by rw [List.take_of_length_le (by rw [Array.length_toList]; exact Nat.le_refl _), hYl]; simp [Lib.byteCells, hx]))
    rw [← Lib.size_eq] at hUS
    have HB : Below w.heap.size w ((w.alloc (.cells M 5)).setRow w.heap.size Y) := ((Below.refl _ w).alloc (Nat.le_refl _) _).trans ⟨rfl, rfl, rfl, by simp, fun k hk => setRow_other _ _ _ _ (by omega)⟩
    clear hY hM
    go_enter Try.func68, Try.ntmps68
    go_wp2
    go_ret
    exact ⟨rfl, Lib.below_freeze HB (p := ⟨w.heap.size, 0, none⟩) (Nat.le_refl _) _⟩

set_option maxRecDepth 100000 in
set_option maxHeartbeats 400000 in
theorem clone_any (s : ByteArray) (w : World) (hs : s.size ≤ 281474976710656) :
    Calls Try.prog 54 #[.string s] w fun e w' => e = .returned (.string s) ∧ Below w.heap.size w w' := by
  go_enter Try.func54, Try.ntmps54
  go_wp2_with (go_at_call 68; refine (clone_in _ _ hs).mono ?_; rintro e w' ⟨rfl, hB⟩)
  go_ret
  exact ⟨rfl, hB⟩

end Go.Proofs.Ytghonccffmmjhaa.Disk
