/- Several texts in one, each under its own heading. -/
import Derived.Lib.BufferWrite
import Derived.Lib.UnsafeStr
import Derived.Lib.BufferRead
import Derived.Test.YteopcjfakhmifaaPk05
/- Fit answers its text with bytes 0 behind it; a text's clone is the text; TakeText answers the text that stands behind its length. -/
namespace Go.Proofs.Yteopcjfakhmifaa
open Go.RowKit Go.Shelf
set_option linter.unusedVariables false

theorem infoSize : (Try.prog.info? 5).map (·.size) = some 1 := by kernel_rfl

/-! ### fitted bytes -/
def fitOk (s : ByteArray) (size : Int) : Prop := (s.size : Int) ≤ size ∧ size ≤ 65536
instance (s : ByteArray) (size : Int) : Decidable (fitOk s size) := by unfold fitOk; infer_instance
def zeros (n : Nat) : ByteArray := ⟨(List.replicate n 0).toArray⟩
theorem zeros_size (n : Nat) : (zeros n).size = n := by simp [zeros, ByteArray.size]
/-- what Fit answers -/
def fitS (s : ByteArray) (size : Int) : ByteArray := if fitOk s size then s ++ zeros (size.toNat - s.size) else ⟨#[]⟩
def fitE (s : ByteArray) (size : Int) : Int := if fitOk s size then 0 else 2
theorem fitS_yes {s : ByteArray} {size : Int} (h : fitOk s size) : fitS s size = s ++ zeros (size.toNat - s.size) := if_pos h
theorem fitS_no {s : ByteArray} {size : Int} (h : ¬ fitOk s size) : fitS s size = ⟨#[]⟩ := if_neg h
theorem fitE_yes {s : ByteArray} {size : Int} (h : fitOk s size) : fitE s size = 0 := if_pos h
theorem fitE_no {s : ByteArray} {size : Int} (h : ¬ fitOk s size) : fitE s size = 2 := if_neg h

set_option maxRecDepth 100000 in
set_option maxHeartbeats 400000 in
theorem fit_no (s : ByteArray) (size : Int) (w : World) (hs : s.size ≤ 281474976710656) (h : ¬ fitOk s size) :
    Calls Try.prog 63 #[.string s, .int .i64 size] w fun e w' => e = .returned (.tuple #[.string (fitS s size), .int .i64 (fitE s size)]) ∧ Below w.heap.size w w' := by
  have HS := Lib.hid (fitS_no h)
  have HE := Lib.hid (fitE_no h)
  by_cases h1 : (s.size : Int) > size
  · clear h
    go_enter Try.func63, Try.ntmps63
    go_wp2
    go_ret2
    exact ⟨ret_se HS.out HE.out, Below.refl _ _⟩
  · have h2 : size > 65536 := by unfold fitOk at h; omega
    clear h
    go_enter Try.func63, Try.ntmps63
    go_wp2
    go_ret2
    exact ⟨ret_se HS.out HE.out, Below.refl _ _⟩

/-- bytes as integers -/
def bytesOfL (l : List UInt8) : List Int := l.map fun b => (b.toNat : Int)
theorem bytesOfL_length (l : List UInt8) : (bytesOfL l).length = l.length := by simp [bytesOfL]
theorem strOf_bytesOfL (l : List UInt8) : strOfNums (bytesOfL l) = ⟨l.toArray⟩ := by
  unfold strOfNums bytesOfL
  congr 1
  rw [List.map_map]
  congr 1
  conv => rhs; rw [← List.map_id l]
  apply List.map_congr_left
  intro b _
  simp
theorem madeCells_rep (v : Value) (n : Nat) : (madeCells #[v] n).toList = List.replicate n v := by
  apply List.ext_getElem
  · rw [Array.length_toList, size_madeCells, List.length_replicate]
  · intro i h1 h2
    simp [madeCells, Nat.mod_one]

/-- n bytes 0, as a text -/
theorem conv_zeros (W : World) (g n : Nat) (h : W.rowIs g 5 n (fun _ => .int .u8 0)) (cap : Nat) :
    (convert 57 9 (.slice (some ⟨g, 0, none⟩) n cap)).run Try.prog W = .ok (.string (zeros n)) W := by
  have h1 := run_convert_bytes_arg (P := Try.prog) W 57 5 Try.underlying57 Try.underlying5 g 0 n cap (List.replicate n 0) (by simp) (fun i hi => by
    rw [Nat.zero_add, h.cell hi]
    simp [List.getD, hi]) 9 Try.underlying9
  rw [h1]
  simp [strOfNums, zeros]

set_option maxRecDepth 100000 in
set_option maxHeartbeats 400000 in
theorem fit_yes (s : ByteArray) (k : Nat) (w : World) (h1 : s.size ≤ k) (h2 : k ≤ 65536) :
    Calls Try.prog 63 #[.string s, .int .i64 k] w fun e w' => e = .returned (.tuple #[.string (s ++ zeros (k - s.size)), .int .i64 0]) ∧ Below w.heap.size w w' := by
  obtain ⟨M, hM⟩ : ∃ M, M = madeCells #[Value.int .u8 0] k := ⟨_, rfl⟩
  have hMs : M.size = k := by rw [hM, size_madeCells]
  have hmk : ∀ W : World, (Instr.makeSlice 57 (.int .i64 (k : Int)) (.int .i64 (k : Int))).run Try.prog W = .ok (.slice (some ⟨W.heap.size, 0, none⟩) k k) (W.alloc (.cells M 5)) := fun W => by
    rw [hM]
    exact run_make_row' (P := Try.prog) 57 5 (.int .u8 0) 1 Try.underlying57 infoByte rfl .i64 .i64 k (by omega) (by omega) W
  have hcp := Lib.run_copy_row_string (P := Try.prog) (w.alloc (.cells M 5)) 57 9 3 5 w.heap.size 0 k k s M 5 Try.underlying57 infoSize (World.alloc_heap_new w _) h1 (by omega)
  obtain ⟨Y, hY⟩ : ∃ Y, Y = (M.toList.take 0 ++ Lib.byteCells s.data.toList ++ M.toList.drop (0 + s.size)).toArray := ⟨_, rfl⟩
  rw [← hY] at hcp
  have hYl : Y.toList = (bytesOfL (s.data.toList ++ List.replicate (k - s.size) 0)).map (Value.int .u8) := by
    have hsz : s.data.toList.length = s.size := by simp
    rw [hY, hM, List.toList_toArray]
    simp [bytesOfL, Lib.byteCells, madeCells_rep, List.drop_replicate]
  have hYs : Y.size = k := by
    have hsz : s.data.toList.length = s.size := by simp
    rw [← Array.length_toList, hYl, List.length_map, bytesOfL_length, List.length_append, List.length_replicate, hsz]
    omega
  have hgY : ((w.alloc (.cells M 5)).setRow w.heap.size Y).heap[w.heap.size]? = some (.cells Y 5 (0, 0)) := setRow_heap _ _ M _ 5 (0, 0) (World.alloc_heap_new w _)
  have hLn : (bytesOfL (s.data.toList ++ List.replicate (k - s.size) 0)).length = k := by
    have := congrArg List.length hYl
    rw [Array.length_toList, List.length_map, hYs] at this
    exact this.symm
  have hcv := run_convert_bytes_arg (P := Try.prog) ((w.alloc (.cells M 5)).setRow w.heap.size Y) 57 5 Try.underlying57 Try.underlying5 w.heap.size 0 k k (bytesOfL (s.data.toList ++ List.replicate (k - s.size) 0)) hLn (fun i hi => by
    have hx : Y.toList[i]? = some (.int .u8 ((bytesOfL (s.data.toList ++ List.replicate (k - s.size) 0)).getD i 0)) := by
      have hl : i < (bytesOfL (s.data.toList ++ List.replicate (k - s.size) 0)).length := by
        have := congrArg List.length hYl
        rw [Array.length_toList, List.length_map, hYs] at this
        omega
      rw [hYl, List.getElem?_map, List.getElem?_eq_getElem hl, List.getD_eq_getElem?_getD, List.getElem?_eq_getElem hl]
      rfl
    rw [Nat.zero_add]
    simp only [World.cell?, hgY]
    rw [Array.getElem?_toList] at hx
    exact hx) 9 Try.underlying9
  rw [strOf_bytesOfL] at hcv
  have HB : Below w.heap.size w ((w.alloc (.cells M 5)).setRow w.heap.size Y) := ((Below.refl _ w).alloc (Nat.le_refl _) _).trans ⟨rfl, rfl, rfl, by simp, fun k hk => setRow_other _ _ _ _ (by omega)⟩
  have HC : Hid (s ++ zeros (k - s.size) = ⟨(s.data.toList ++ List.replicate (k - s.size) 0).toArray⟩) := by
    apply ByteArray.ext
    apply Array.toList_inj.1
    simp [zeros]
  clear hYl hYs hgY hY hM hMs hLn
  go_enter Try.func63, Try.ntmps63
  go_wp2
  go_ret2
  exact ⟨ret_se HC.out rfl, HB⟩

theorem fit_any (s : ByteArray) (size : Int) (w : World) (hs : s.size ≤ 281474976710656) :
    Calls Try.prog 63 #[.string s, .int .i64 size] w fun e w' => e = .returned (.tuple #[.string (fitS s size), .int .i64 (fitE s size)]) ∧ Below w.heap.size w w' := by
  by_cases h : fitOk s size
  · have h' := h
    obtain ⟨h1, h2⟩ := h'
    obtain ⟨k, rfl⟩ := Int.eq_ofNat_of_zero_le (show 0 ≤ size by omega)
    refine (fit_yes s k w (by omega) (by omega)).mono fun e w' ⟨he, hb⟩ => ⟨?_, hb⟩
    rw [he]
    exact ret_se (by rw [fitS_yes h, Int.toNat_natCast]) (fitE_yes h)
  · exact fit_no s size w hs h

/-! ### a text's clone -/
set_option maxRecDepth 100000 in
set_option maxHeartbeats 400000 in
theorem clone_in (s : ByteArray) (w : World) (hs : s.size ≤ 281474976710656) :
    Calls Try.prog 58 #[.string s] w fun e w' => e = .returned (.string s) ∧ Below w.heap.size w w' := by
  by_cases h0 : s.size = 0
  · obtain rfl : s = ⟨#[]⟩ := by
      apply ByteArray.ext
      exact Array.eq_empty_of_size_eq_zero h0
    go_enter Try.func58, Try.ntmps58
    go_wp2
    go_ret
    exact ⟨rfl, Below.refl _ _⟩
  · obtain ⟨M, hM⟩ : ∃ M, M = madeCells #[Value.int .u8 0] s.size := ⟨_, rfl⟩
    have hMs : M.size = s.size := by rw [hM, size_madeCells]
    have hmk : ∀ W : World, (Instr.makeSlice 57 (.int .i64 (s.size : Int)) (.int .i64 (s.size : Int))).run Try.prog W = .ok (.slice (some ⟨W.heap.size, 0, none⟩) s.size s.size) (W.alloc (.cells M 5)) := fun W => by
      rw [hM]
      exact run_make_row' (P := Try.prog) 57 5 (.int .u8 0) 1 Try.underlying57 infoByte rfl .i64 .i64 s.size (by omega) (by omega) W
    have hcp := Lib.run_copy_row_string (P := Try.prog) (w.alloc (.cells M 5)) 57 9 3 5 w.heap.size 0 s.size s.size s M 5 Try.underlying57 infoSize (World.alloc_heap_new w _) (Nat.le_refl _) (by omega)
    obtain ⟨Y, hY⟩ : ∃ Y, Y = (M.toList.take 0 ++ Lib.byteCells s.data.toList ++ M.toList.drop (0 + s.size)).toArray := ⟨_, rfl⟩
    rw [← hY] at hcp
    have hYl : Y.toList = Lib.byteCells s.data.toList := by
      rw [hY, List.toList_toArray, List.take_zero, List.nil_append, List.drop_of_length_le (by rw [Array.length_toList]; omega), List.append_nil]
    have hYs : Y.size = s.size := by rw [← Array.length_toList, hYl, Lib.byteCells_length, ← Lib.size_eq]
    have hgY : ((w.alloc (.cells M 5)).setRow w.heap.size Y).heap[w.heap.size]? = some (.cells Y 5 (0, 0)) := setRow_heap _ _ M _ 5 (0, 0) (World.alloc_heap_new w _)
    have hne : s.data.toList ≠ [] := fun e => h0 (by rw [Lib.size_eq, e]; rfl)
    have hUS := Lib.run_unsafeString_row (P := Try.prog) ((w.alloc (.cells M 5)).setRow w.heap.size Y) 90 3 9 5 Try.underlying90 (by kernel_rfl) w.heap.size Y.size (by unfold World.shape?; rw [hgY]) s.data.toList hne (by rw [← Lib.size_eq]; omega) (by rw [← Lib.size_eq]; omega)
      (fun j x hx => Lib.cells_of_row hgY Y.size j _ (by rw [List.take_of_length_le (by rw [Array.length_toList]; exact Nat.le_refl _), hYl]; simp [Lib.byteCells, hx]))
    rw [← Lib.size_eq] at hUS
    have HB : Below w.heap.size w ((w.alloc (.cells M 5)).setRow w.heap.size Y) := ((Below.refl _ w).alloc (Nat.le_refl _) _).trans ⟨rfl, rfl, rfl, by simp, fun k hk => setRow_other _ _ _ _ (by omega)⟩
    clear hY hM
    go_enter Try.func58, Try.ntmps58
    go_wp2
    go_ret
    exact ⟨rfl, Lib.below_freeze HB (p := ⟨w.heap.size, 0, none⟩) (Nat.le_refl _) _⟩

set_option maxRecDepth 100000 in
set_option maxHeartbeats 400000 in
theorem clone_any (s : ByteArray) (w : World) (hs : s.size ≤ 281474976710656) :
    Calls Try.prog 40 #[.string s] w fun e w' => e = .returned (.string s) ∧ Below w.heap.size w w' := by
  go_enter Try.func40, Try.ntmps40
  go_wp2_with (go_at_call 58; refine (clone_in _ _ hs).mono ?_; rintro e w' ⟨rfl, hB⟩)
  go_ret
  exact ⟨rfl, hB⟩

end Go.Proofs.Yteopcjfakhmifaa
/- TakeText answers the text that stands behind its length, and the place behind it. -/
namespace Go.Proofs.Yteopcjfakhmifaa
open Go.RowKit Go.Shelf
set_option linter.unusedVariables false

/-- do a text's bytes stand there? -/
def tokOk (s : ByteArray) (at0 : Int) : Prop := takeOk s at0 2 ∧ at0.toNat + 2 + takeN s at0.toNat 2 ≤ s.size
instance (s : ByteArray) (at0 : Int) : Decidable (tokOk s at0) := by unfold tokOk; infer_instance
/-- what TakeText answers -/
def tokS (s : ByteArray) (at0 : Int) : ByteArray := if tokOk s at0 then s.extract (at0.toNat + 2) (at0.toNat + 2 + takeN s at0.toNat 2) else ⟨#[]⟩
def tokI (s : ByteArray) (at0 : Int) : Int := if tokOk s at0 then ((at0.toNat + 2 + takeN s at0.toNat 2 : Nat) : Int) else 0
def tokE (s : ByteArray) (at0 : Int) : Int := if tokOk s at0 then 0 else 2
theorem tokS_no {s : ByteArray} {at0 : Int} (h : ¬ tokOk s at0) : tokS s at0 = ⟨#[]⟩ := if_neg h
theorem tokI_no {s : ByteArray} {at0 : Int} (h : ¬ tokOk s at0) : tokI s at0 = 0 := if_neg h
theorem tokE_no {s : ByteArray} {at0 : Int} (h : ¬ tokOk s at0) : tokE s at0 = 2 := if_neg h
theorem tokS_yes {s : ByteArray} {a : Nat} (h : tokOk s (a : Int)) : tokS s (a : Int) = s.extract (a + 2) (a + 2 + takeN s a 2) := (if_pos h).trans (by rw [Int.toNat_natCast])
theorem tokI_yes {s : ByteArray} {a : Nat} (h : tokOk s (a : Int)) : tokI s (a : Int) = ((a + 2 + takeN s a 2 : Nat) : Int) := (if_pos h).trans (by rw [Int.toNat_natCast])
theorem tokE_yes {s : ByteArray} {at0 : Int} (h : tokOk s at0) : tokE s at0 = 0 := if_pos h
theorem ret_sie {s t : ByteArray} {j k : IntKind} {x y a b : Int} (h : s = t) (h1 : x = y) (h2 : a = b) : Ending.returned (.tuple #[.string t, .int j y, .int k b]) = .returned (.tuple #[.string s, .int j x, .int k a]) := by rw [h, h1, h2]
theorem takeN_two (s : ByteArray) (a : Nat) : takeN s a 2 ≤ 65535 := by
  have := takeN_lt s a 2
  rw [show (256 : Nat) ^ 2 = 65536 from rfl] at this
  omega

/-! ### the statements' head -/
theorem put_258 : putS 258 3 = ⟨#[2, 1, 0]⟩ ∧ putE 258 3 = 0 := by decide +kernel
theorem text_ab : textS ⟨#[97, 98]⟩ = ⟨#[2, 0, 97, 98]⟩ ∧ textE ⟨#[97, 98]⟩ = 0 := by decide +kernel

end Go.Proofs.Yteopcjfakhmifaa
