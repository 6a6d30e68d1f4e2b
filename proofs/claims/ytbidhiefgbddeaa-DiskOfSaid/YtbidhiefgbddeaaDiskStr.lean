/- Texts of the program's package disk: a text with bytes 0 behind it, up to a block, is that; a text's clone is the text; and the reference's block likewise. -/
import Derived.Lib.BufferWrite
import Derived.Lib.UnsafeStr
import Derived.Lib.BufferRead
import Derived.Deep.OwnRows
import Derived.Deep.DeepFit
import Derived.WalkSpells
import Derived.Shelf.Abstract
import Derived.Shelf.RegionOpen
import Derived.Test.YtbidhiefgbddeaaRow
import Derived.Test.YtbidhiefgbddeaaDiskMath
namespace Go.Proofs.Ytbidhiefgbddeaa.Disk
open Go.RowKit Go.Shelf
set_option linter.unusedVariables false

theorem infoByte : (Try.prog.info? 5).map (fun i => (i.zero, i.size, i.bytes)) = some (some (.int .u8 0), 1, 1) := by kernel_rfl
theorem infoSize : (Try.prog.info? 5).map (·.size) = some 1 := by kernel_rfl
def zeros (n : Nat) : ByteArray := ⟨(List.replicate n 0).toArray⟩
theorem zeros_size (n : Nat) : (zeros n).size = n := by simp [zeros, ByteArray.size]
/-- a text, with bytes 0 behind it up to a block -/
def fit (s : ByteArray) : ByteArray := s ++ zeros (512 - s.size)
theorem fit_size (s : ByteArray) (h : s.size ≤ 512) : (fit s).size = 512 := by simp [fit, zeros_size]; omega

/-- bytes as integers -/
def bytesOfL (l : List UInt8) : List Int := l.map fun b => (b.toNat : Int)
theorem bytesOfL_length (l : List UInt8) : (bytesOfL l).length = l.length := by simp [bytesOfL]
theorem strOf_bytesOfL (l : List UInt8) : strOfNums (bytesOfL l) = ⟨l.toArray⟩ := by
  unfold strOfNums bytesOfL
  congr 1
  rw [List.map_map]
  congr 1
  conv => rhs; rw [← List.map_id l]
  apply List.map_congr_left
  intro b _
  simp
theorem madeCells_rep (v : Value) (n : Nat) : (madeCells #[v] n).toList = List.replicate n v := by
  apply List.ext_getElem
  · rw [Array.length_toList, size_madeCells, List.length_replicate]
  · intro i h1 h2
    simp [madeCells, Nat.mod_one]

/-- n bytes 0, as a text -/
theorem conv_zeros (W : World) (g n : Nat) (h : W.rowIs g 5 n (fun _ => .int .u8 0)) (cap : Nat) :
    (convert 61 9 (.slice (some ⟨g, 0, none⟩) n cap)).run Try.prog W = .ok (.string (zeros n)) W := by
  have h1 := run_convert_bytes_arg (P := Try.prog) W 61 5 Try.underlying61 Try.underlying5 g 0 n cap (List.replicate n 0) (by simp) (fun i hi => by
    rw [Nat.zero_add, h.cell hi]
    simp [List.getD, hi]) 9 Try.underlying9
  rw [h1]
  simp [strOfNums, zeros]

set_option maxRecDepth 100000 in
set_option maxHeartbeats 400000 in
theorem fitted_any (s : ByteArray) (w : World) (h1 : s.size ≤ 512) :
    Calls Try.prog 31 #[.string s] w fun e w' => e = .returned (.string (fit s)) ∧ Below w.heap.size w w' := by
  obtain ⟨k, hk⟩ : ∃ k, k = 512 := ⟨_, rfl⟩
  have h2 : k ≤ 65536 := by omega
  rw [← hk] at h1
  obtain ⟨M, hM⟩ : ∃ M, M = madeCells #[Value.int .u8 0] k := ⟨_, rfl⟩
  have hMs : M.size = k := by rw [hM, size_madeCells]
  have hmk : ∀ W : World, (Instr.makeSlice 61 (.int .i64 (k : Int)) (.int .i64 (k : Int))).run Try.prog W = .ok (.slice (some ⟨W.heap.size, 0, none⟩) k k) (W.alloc (.cells M 5)) := fun W => by
    rw [hM]
    exact run_make_row' (P := Try.prog) 61 5 (.int .u8 0) 1 Try.underlying61 infoByte rfl .i64 .i64 k (by omega) (by omega) W
  have hcp := Lib.run_copy_row_string (P := Try.prog) (w.alloc (.cells M 5)) 61 9 3 5 w.heap.size 0 k k s M 5 Try.underlying61 infoSize (World.alloc_heap_new w _) h1 (by omega)
  obtain ⟨Y, hY⟩ : ∃ Y, Y = (M.toList.take 0 ++ Lib.byteCells s.data.toList ++ M.toList.drop (0 + s.size)).toArray := ⟨_, rfl⟩
  rw [← hY] at hcp
  have hYl : Y.toList = (bytesOfL (s.data.toList ++ List.replicate (k - s.size) 0)).map (Value.int .u8) := by
    have hsz : s.data.toList.length = s.size := by simp
    rw [hY, hM, List.toList_toArray]
    simp [bytesOfL, Lib.byteCells, madeCells_rep, List.drop_replicate]
  have hYs : Y.size = k := by
    have hsz : s.data.toList.length = s.size := by simp
    rw [← Array.length_toList, hYl, List.length_map, bytesOfL_length, List.length_append, List.length_replicate, hsz]
    omega
  have hgY : ((w.alloc (.cells M 5)).setRow w.heap.size Y).heap[w.heap.size]? = some (.cells Y 5 (0, 0)) := setRow_heap _ _ M _ 5 (0, 0) (World.alloc_heap_new w _)
  have hLn : (bytesOfL (s.data.toList ++ List.replicate (k - s.size) 0)).length = k := by
    have := congrArg List.length hYl
    rw [Array.length_toList, List.length_map, hYs] at this
    exact this.symm
  have hcv := run_convert_bytes_arg (P := Try.prog) ((w.alloc (.cells M 5)).setRow w.heap.size Y) 61 5 Try.underlying61 Try.underlying5 w.heap.size 0 k k (bytesOfL (s.data.toList ++ List.replicate (k - s.size) 0)) hLn (fun i hi => by
    have hx : Y.toList[i]? = some (.int .u8 ((bytesOfL (s.data.toList ++ List.replicate (k - s.size) 0)).getD i 0)) := by
      have hl : i < (bytesOfL (s.data.toList ++ List.replicate (k - s.size) 0)).length := by
        have := congrArg List.length hYl
        rw [Array.length_toList, List.length_map, hYs] at this
        omega
      rw [hYl, List.getElem?_map, List.getElem?_eq_getElem hl, List.getD_eq_getElem?_getD, List.getElem?_eq_getElem hl]
      rfl
    rw [Nat.zero_add]
    simp only [World.cell?, hgY]
    rw [Array.getElem?_toList] at hx
    exact hx) 9 Try.underlying9
  rw [strOf_bytesOfL] at hcv
  have HB : Below w.heap.size w ((w.alloc (.cells M 5)).setRow w.heap.size Y) := ((Below.refl _ w).alloc (Nat.le_refl _) _).trans ⟨rfl, rfl, rfl, by simp, fun k hk => setRow_other _ _ _ _ (by omega)⟩
  have HC : Hid (s ++ zeros (k - s.size) = ⟨(s.data.toList ++ List.replicate (k - s.size) 0).toArray⟩) := by
    apply ByteArray.ext
    apply Array.toList_inj.1
    simp [zeros]
  clear hYl hYs hgY hY hM hMs hLn
  subst hk
  have hmk2 : ∀ W : World, (Instr.makeSlice 61 (.int .i64 512) (.int .i64 512)).run Try.prog W = .ok (.slice (some ⟨W.heap.size, 0, none⟩) 512 512) (W.alloc (.cells M 5)) := hmk
  clear hmk
  go_enter Try.func31, Try.ntmps31
  go_wp2
  go_ret
  exact ⟨by rw [fit, HC.out]; rfl, HB⟩


set_option maxRecDepth 100000 in
set_option maxHeartbeats 400000 in
theorem block_any (s : ByteArray) (w : World) (h1 : s.size ≤ 512) :
    Calls Try.prog 43 #[.string s] w fun e w' => e = .returned (.string (fit s)) ∧ Below w.heap.size w w' := by
  have ec : (512 : Int) - (s.size : Int) = ((512 - s.size : Nat) : Int) := by omega
  have hmk : ∀ W : World, (Instr.makeSlice 61 (.int .i64 ((512 : Int) - (s.size : Int))) (.int .i64 ((512 : Int) - (s.size : Int)))).run Try.prog W = .ok (.slice (some ⟨W.heap.size, 0, none⟩) (512 - s.size) (512 - s.size)) (W.alloc (.cells (madeCells #[.int .u8 0] (512 - s.size)) 5)) := fun W => by
    rw [ec]
    exact run_make_row' (P := Try.prog) 61 5 (.int .u8 0) 1 Try.underlying61 infoByte rfl .i64 .i64 (512 - s.size) (by omega) (by omega) W
  have hcv := conv_zeros _ _ _ (World.rowIs_made w (.int .u8 0) (512 - s.size) 5) (512 - s.size)
  have hcat : s.size + (zeros (512 - s.size)).size ≤ 9223372036854775807 := by rw [zeros_size]; omega
  have hadd := fun W => run_string_add_sum (P := Try.prog) (w := W) s (zeros (512 - s.size)) hcat
  clear ec
  go_enter Try.func43, Try.ntmps43
  go_wp2
  go_ret
  exact ⟨rfl, (Below.refl _ _).alloc (Nat.le_refl _) _⟩

/-! ### a text's clone -/
set_option maxRecDepth 100000 in
set_option maxHeartbeats 400000 in
theorem clone_in (s : ByteArray) (w : World) (hs : s.size ≤ 281474976710656) :
    Calls Try.prog 51 #[.string s] w fun e w' => e = .returned (.string s) ∧ Below w.heap.size w w' := by
  by_cases h0 : s.size = 0
  · obtain rfl : s = ⟨#[]⟩ := by
      apply ByteArray.ext
      exact Array.eq_empty_of_size_eq_zero h0
    go_enter Try.func51, Try.ntmps51
    go_wp2
    go_ret
    exact ⟨rfl, Below.refl _ _⟩
  · obtain ⟨M, hM⟩ : ∃ M, M = madeCells #[Value.int .u8 0] s.size := ⟨_, rfl⟩
    have hMs : M.size = s.size := by rw [hM, size_madeCells]
    have hmk : ∀ W : World, (Instr.makeSlice 61 (.int .i64 (s.size : Int)) (.int .i64 (s.size : Int))).run Try.prog W = .ok (.slice (some ⟨W.heap.size, 0, none⟩) s.size s.size) (W.alloc (.cells M 5)) := fun W => by
      rw [hM]
      exact run_make_row' (P := Try.prog) 61 5 (.int .u8 0) 1 Try.underlying61 infoByte rfl .i64 .i64 s.size (by omega) (by omega) W
    have hcp := Lib.run_copy_row_string (P := Try.prog) (w.alloc (.cells M 5)) 61 9 3 5 w.heap.size 0 s.size s.size s M 5 Try.underlying61 infoSize (World.alloc_heap_new w _) (Nat.le_refl _) (by omega)
    obtain ⟨Y, hY⟩ : ∃ Y, Y = (M.toList.take 0 ++ Lib.byteCells s.data.toList ++ M.toList.drop (0 + s.size)).toArray := ⟨_, rfl⟩
    rw [← hY] at hcp
    have hYl : Y.toList = Lib.byteCells s.data.toList := by
      rw [hY, List.toList_toArray, List.take_zero, List.nil_append, List.drop_of_length_le (by rw [Array.length_toList]; omega), List.append_nil]
    have hYs : Y.size = s.size := by rw [← Array.length_toList, hYl, Lib.byteCells_length, ← Lib.size_eq]
    have hgY : ((w.alloc (.cells M 5)).setRow w.heap.size Y).heap[w.heap.size]? = some (.cells Y 5 (0, 0)) := setRow_heap _ _ M _ 5 (0, 0) (World.alloc_heap_new w _)
    have hne : s.data.toList ≠ [] := fun e => h0 (by rw [Lib.size_eq, e]; rfl)
    have hUS := Lib.run_unsafeString_row (P := Try.prog) ((w.alloc (.cells M 5)).setRow w.heap.size Y) 92 3 9 5 Try.underlying92 (by kernel_rfl) w.heap.size Y.size (by unfold World.shape?; rw [hgY]) s.data.toList hne (by rw [← Lib.size_eq]; omega) (by rw [← Lib.size_eq]; omega)
      (fun j x hx => Lib.cells_of_row hgY Y.size j _ (by rw [List.take_of_length_le (by rw [Array.length_toList]; exact Nat.le_refl _), hYl]; simp [Lib.byteCells, hx]))
    rw [← Lib.size_eq] at hUS
    have HB : Below w.heap.size w ((w.alloc (.cells M 5)).setRow w.heap.size Y) := ((Below.refl _ w).alloc (Nat.le_refl _) _).trans ⟨rfl, rfl, rfl, by simp, fun k hk => setRow_other _ _ _ _ (by omega)⟩
    clear hY hM
    go_enter Try.func51, Try.ntmps51
    go_wp2
    go_ret
    exact ⟨rfl, Lib.below_freeze HB (p := ⟨w.heap.size, 0, none⟩) (Nat.le_refl _) _⟩

set_option maxRecDepth 100000 in
set_option maxHeartbeats 400000 in
theorem clone_any (s : ByteArray) (w : World) (hs : s.size ≤ 281474976710656) :
    Calls Try.prog 39 #[.string s] w fun e w' => e = .returned (.string s) ∧ Below w.heap.size w w' := by
  go_enter Try.func39, Try.ntmps39
  go_wp2_with (go_at_call 51; refine (clone_in _ _ hs).mono ?_; rintro e w' ⟨rfl, hB⟩)
  go_ret
  exact ⟨rfl, hB⟩

end Go.Proofs.Ytbidhiefgbddeaa.Disk
