/- Contents and their blocks, of the program and of the document; room. -/
import Derived.Lib.BufferWrite
import Derived.Lib.UnsafeStr
import Derived.Lib.BufferRead
import Derived.Deep.OwnRows
import Derived.Deep.DeepFit
import Derived.WalkSpells
import Derived.Shelf.Abstract
import Derived.Shelf.RegionOpen
import Derived.Test.YtblejaimafdhpaaRecMem
namespace Go.Proofs.Ytblejaimafdhpaa.Record
open Go.RowKit Go.Shelf
set_option linter.unusedVariables false

/-! ### a text's clone -/
set_option maxRecDepth 100000 in
set_option maxHeartbeats 400000 in
theorem clone_in (s : ByteArray) (w : World) (hs : s.size ≤ 281474976710656) :
    Calls Try.prog 44 #[.string s] w fun e w' => e = .returned (.string s) ∧ Below w.heap.size w w' := by
  by_cases h0 : s.size = 0
  · obtain rfl : s = ⟨#[]⟩ := by
      apply ByteArray.ext
      exact Array.eq_empty_of_size_eq_zero h0
    go_enter Try.func44, Try.ntmps44
    go_wp2
    go_ret
    exact ⟨rfl, Below.refl _ _⟩
  · obtain ⟨M, hM⟩ : ∃ M, M = madeCells #[Value.int .u8 0] s.size := ⟨_, rfl⟩
    have hMs : M.size = s.size := by rw [hM, size_madeCells]
    have hmk : ∀ W : World, (Instr.makeSlice 49 (.int .i64 (s.size : Int)) (.int .i64 (s.size : Int))).run Try.prog W = .ok (.slice (some ⟨W.heap.size, 0, none⟩) s.size s.size) (W.alloc (.cells M 5)) := fun W => by
      rw [hM]
      exact run_make_row' (P := Try.prog) 49 5 (.int .u8 0) 1 Try.underlying49 infoByte rfl .i64 .i64 s.size (by omega) (by omega) W
    have hcp := Lib.run_copy_row_string (P := Try.prog) (w.alloc (.cells M 5)) 49 9 3 5 w.heap.size 0 s.size s.size s M 5 Try.underlying49 infoSize (World.alloc_heap_new w _) (Nat.le_refl _) (by omega)
    obtain ⟨Y, hY⟩ : ∃ Y, Y = (M.toList.take 0 ++ Lib.byteCells s.data.toList ++ M.toList.drop (0 + s.size)).toArray := ⟨_, rfl⟩
    rw [← hY] at hcp
    have hYl : Y.toList = Lib.byteCells s.data.toList := by
      rw [hY, List.toList_toArray, List.take_zero, List.nil_append, List.drop_of_length_le (by rw [Array.length_toList]; omega), List.append_nil]
    have hYs : Y.size = s.size := by rw [← Array.length_toList, hYl, Lib.byteCells_length, ← Lib.size_eq]
    have hgY : ((w.alloc (.cells M 5)).setRow w.heap.size Y).heap[w.heap.size]? = some (.cells Y 5 (0, 0)) := setRow_heap _ _ M _ 5 (0, 0) (World.alloc_heap_new w _)
    have hne : s.data.toList ≠ [] := fun e => h0 (by rw [Lib.size_eq, e]; rfl)
    have hUS := Lib.run_unsafeString_row (P := Try.prog) ((w.alloc (.cells M 5)).setRow w.heap.size Y) 71 3 9 5 Try.underlying71 (by kernel_rfl) w.heap.size Y.size (by unfold World.shape?; rw [hgY]) s.data.toList hne (by rw [← Lib.size_eq]; omega) (by rw [← Lib.size_eq]; omega)
      (fun j x hx => Lib.cells_of_row hgY Y.size j _ (by rw [List.take_of_length_le (by rw [Array.length_toList]; exact Nat.le_refl _), hYl]; simp [Lib.byteCells, hx]))
    rw [← Lib.size_eq] at hUS
    have HB : Below w.heap.size w ((w.alloc (.cells M 5)).setRow w.heap.size Y) := ((Below.refl _ w).alloc (Nat.le_refl _) _).trans ⟨rfl, rfl, rfl, by simp, fun k hk => setRow_other _ _ _ _ (by omega)⟩
    clear hY hM
    go_enter Try.func44, Try.ntmps44
    go_wp2
    go_ret
    exact ⟨rfl, Lib.below_freeze HB (p := ⟨w.heap.size, 0, none⟩) (Nat.le_refl _) _⟩

set_option maxRecDepth 100000 in
set_option maxHeartbeats 400000 in
theorem clone_any (s : ByteArray) (w : World) (hs : s.size ≤ 281474976710656) :
    Calls Try.prog 36 #[.string s] w fun e w' => e = .returned (.string s) ∧ Below w.heap.size w w' := by
  go_enter Try.func36, Try.ntmps36
  go_wp2_with (go_at_call 44; refine (clone_in _ _ hs).mono ?_; rintro e w' ⟨rfl, hB⟩)
  go_ret
  exact ⟨rfl, hB⟩


theorem pm_list : pm.toList = [80, 0, 0, 0] := by first | rfl | decide | (rw [Lib.toList_data]; rfl)
def preP (b : ByteArray) : Prop := 4 ≤ b.size ∧ b.extract 0 4 = pm
instance (b : ByteArray) : Decidable (preP b) := by unfold preP; infer_instance
section
set_option maxRecDepth 100000
set_option maxHeartbeats 1000000
theorem hasPrefix_any (b : ByteArray) (w : World) (hs : b.size ≤ 281474976710656) : Calls Try.prog 50 #[.string b, .string ⟨#[80, 0, 0, 0]⟩] w fun e w' => e = .returned (.bool (decide (preP b))) ∧ w = w' := by
  by_cases h4 : 4 ≤ b.size
  · have g4 : (4 : Int) ≤ b.size := by omega
    by_cases hp : b.extract 0 4 = pm
    · have HD : Hid (decide (preP b) = true) := decide_eq_true ⟨h4, hp⟩
      have hc := beq_yes hp
      rw [pm_list] at hc
      clear hp
      go_enter Try.func50, Try.ntmps50
      go_wp2
      go_ret
      exact ⟨by rw [HD.out]; rfl, rfl⟩
    · have HD : Hid (decide (preP b) = false) := decide_eq_false fun hh => hp hh.2
      have hc := beq_no hp
      rw [pm_list] at hc
      clear hp
      go_enter Try.func50, Try.ntmps50
      go_wp2
      go_ret
      exact ⟨by rw [HD.out]; rfl, rfl⟩
  · have g4 : ¬ (4 : Int) ≤ b.size := by omega
    have HD : Hid (decide (preP b) = false) := decide_eq_false fun hh => h4 hh.1
    go_enter Try.func50, Try.ntmps50
    go_wp2
    go_ret
    exact ⟨by rw [HD.out]; rfl, rfl⟩
theorem cutPrefix_yes (b : ByteArray) (w : World) (hs : b.size ≤ 281474976710656) (h : preP b) : Calls Try.prog 35 #[.string b, .string ⟨#[80, 0, 0, 0]⟩] w fun e w' => e = .returned (.tuple #[.string (b.extract 4 b.size), .bool true]) ∧ w = w' := by
  have hp := hasPrefix_any b w hs
  rw [decide_eq_true h] at hp
  have h4 := h.1
  have g4 : (4 : Int) ≤ b.size := by omega
  have hin : Calls Try.prog 43 #[.string b, .string ⟨#[80, 0, 0, 0]⟩] w fun e w' => e = .returned (.tuple #[.string (b.extract 4 b.size), .bool true]) ∧ w = w' := by
    clear h
    go_enter Try.func43, Try.ntmps43
    go_wp2_with (go_at_call 50; refine hp.mono ?_; rintro e w' ⟨rfl, rfl⟩)
    go_ret2
    exact ⟨rfl, rfl⟩
  clear hp h g4 h4
  go_enter Try.func35, Try.ntmps35
  go_wp2_with (go_at_call 43; refine hin.mono ?_; rintro e w' ⟨rfl, rfl⟩)
  go_ret2
  exact ⟨rfl, rfl⟩
theorem cutPrefix_no (b : ByteArray) (w : World) (hs : b.size ≤ 281474976710656) (h : ¬ preP b) : Calls Try.prog 35 #[.string b, .string ⟨#[80, 0, 0, 0]⟩] w fun e w' => e = .returned (.tuple #[.string b, .bool false]) ∧ w = w' := by
  have hp := hasPrefix_any b w hs
  rw [decide_eq_false h] at hp
  have hin : Calls Try.prog 43 #[.string b, .string ⟨#[80, 0, 0, 0]⟩] w fun e w' => e = .returned (.tuple #[.string b, .bool false]) ∧ w = w' := by
    clear h
    go_enter Try.func43, Try.ntmps43
    go_wp2_with (go_at_call 50; refine hp.mono ?_; rintro e w' ⟨rfl, rfl⟩)
    go_ret2
    exact ⟨rfl, rfl⟩
  clear hp h
  go_enter Try.func35, Try.ntmps35
  go_wp2_with (go_at_call 43; refine hin.mono ?_; rintro e w' ⟨rfl, rfl⟩)
  go_ret2
  exact ⟨rfl, rfl⟩

theorem unwrap_any (b : ByteArray) (w : World) (hs : b.size ≤ 281474976710656) : Calls Try.prog 19 #[.string b] w fun e w' => e = .returned (.tuple #[.string (unwS b), .int .i64 (unwE b)]) ∧ Below w.heap.size w w' := by
  by_cases h : preP b
  · have hc := cutPrefix_yes b w hs h
    by_cases h5 : b.size = 512
    · have hok : unwOk b := ⟨h5, h.2⟩
      have HS := Lib.hid (unwS_yes hok)
      have HE := Lib.hid (unwE_yes hok)
      have hz : (b.extract 4 b.size).size = 508 := by rw [ByteArray.size_extract]; omega
      have hq : (((b.extract 4 b.size).size : Int) != 508) = false := by simp [hz]
      have hcl := fun W => clone_any (b.extract 4 b.size) W (by omega)
      obtain ⟨c, hcc⟩ : ∃ c, b.extract 4 b.size = c := ⟨_, rfl⟩
      rw [hcc] at hc HS hz hq
      simp only [hcc] at hcl
      clear h hok h5 hcc
      go_enter Try.func19, Try.ntmps19
      go_wp2_with (first | (go_at_call 35; refine hc.mono ?_; rintro e w' ⟨rfl, rfl⟩) | (go_at_call 36; refine (hcl _).mono ?_; rintro e w' ⟨rfl, hB⟩))
      go_ret2
      exact ⟨ret_se HS.out HE.out, hB⟩
    · have hno : ¬ unwOk b := fun hh => h5 hh.1
      have HS := Lib.hid (unwS_no hno)
      have HE := Lib.hid (unwE_no hno)
      have hz : ¬ (b.extract 4 b.size).size = 508 := by have := h.1; rw [ByteArray.size_extract]; omega
      have hq : (((b.extract 4 b.size).size : Int) != 508) = true := by simp; omega
      obtain ⟨c, hcc⟩ : ∃ c, b.extract 4 b.size = c := ⟨_, rfl⟩
      rw [hcc] at hc hz hq
      clear h hno h5 hcc
      go_enter Try.func19, Try.ntmps19
      go_wp2_with (go_at_call 35; refine hc.mono ?_; rintro e w' ⟨rfl, rfl⟩)
      go_ret2
      exact ⟨ret_se HS.out HE.out, Below.refl _ _⟩
  · have hc := cutPrefix_no b w hs h
    have hno : ¬ unwOk b := fun hh => h ⟨by have := hh.1; omega, hh.2⟩
    have HS := Lib.hid (unwS_no hno)
    have HE := Lib.hid (unwE_no hno)
    clear h hno
    go_enter Try.func19, Try.ntmps19
    go_wp2_with (go_at_call 35; refine hc.mono ?_; rintro e w' ⟨rfl, rfl⟩)
    go_ret2
    exact ⟨ret_se HS.out HE.out, Below.refl _ _⟩
theorem unwrap_ref (b : ByteArray) (w : World) (hs : b.size ≤ 281474976710656) : Calls Try.prog 20 #[.string b] w fun e w' => e = .returned (.tuple #[.string (unwS b), .int .i64 (unwE b)]) ∧ w = w' := by
  by_cases h5 : b.size = 512
  · have hq : ((b.size : Int) != 512) = false := by simp; omega
    have g4 : (4 : Int) ≤ b.size := by omega
    have n4 : 4 ≤ b.size := by omega
    by_cases hp : b.extract 0 4 = pm
    · have hok : unwOk b := ⟨h5, hp⟩
      have HS := Lib.hid (unwS_yes hok)
      have HE := Lib.hid (unwE_yes hok)
      have hc := beq_yes hp
      rw [pm_list] at hc
      clear hp hok h5
      go_enter Try.func20, Try.ntmps20
      go_wp2
      go_ret2
      exact ⟨ret_se HS.out HE.out, rfl⟩
    · have hno : ¬ unwOk b := fun hh => hp hh.2
      have HS := Lib.hid (unwS_no hno)
      have HE := Lib.hid (unwE_no hno)
      have hc := beq_no hp
      rw [pm_list] at hc
      clear hp hno h5
      go_enter Try.func20, Try.ntmps20
      go_wp2
      go_ret2
      exact ⟨ret_se HS.out HE.out, rfl⟩
  · have hno : ¬ unwOk b := fun hh => h5 hh.1
    have HS := Lib.hid (unwS_no hno)
    have HE := Lib.hid (unwE_no hno)
    have hq : ((b.size : Int) != 512) = true := by simp; omega
    clear hno h5
    go_enter Try.func20, Try.ntmps20
    go_wp2
    go_ret2
    exact ⟨ret_se HS.out HE.out, rfl⟩

theorem wrap_any (c : ByteArray) (w : World) (hs : c.size ≤ 281474976710656) : Calls Try.prog 17 #[.string c] w fun e w' => e = .returned (.tuple #[.string (wrapS c), .int .i64 (wrapE c)]) ∧ Below w.heap.size w w' := by
  by_cases h : c.size ≤ 508
  · have HS := Lib.hid (wrapS_yes h)
    have HE := Lib.hid (wrapE_yes h)
    have g : ¬ (508 : Int) < c.size := by omega
    have hz : (pm ++ c).size = 4 + c.size := by rw [ByteArray.size_append]; rfl
    have hok : fitOk (pm ++ c) 512 := ⟨by rw [hz]; omega, by decide⟩
    have hf := fun W => fit_any (pm ++ c) 512 W (by rw [hz]; omega)
    have hfe : fitS (pm ++ c) 512 = wrapB c := by rw [fitS_yes hok, hz, wrapB, show (512 : Int).toNat - (4 + c.size) = 508 - c.size by omega]
    rw [hfe, fitE_yes hok] at hf
    have hadd := fun W => run_string_add_sum (P := Try.prog) (w := W) pm c (by rw [show pm.size = 4 from rfl]; omega)
    obtain ⟨x, hx⟩ : ∃ x, wrapB c = x := ⟨_, rfl⟩
    rw [hx] at HS hf
    unfold pm at hf hadd
    clear h hok hfe hx hz
    go_enter Try.func17, Try.ntmps17
    go_wp2_with (go_at_call 26; refine (hf _).mono ?_; rintro e w' ⟨rfl, hB⟩)
    go_ret2
    exact ⟨ret_se HS.out HE.out, hB⟩
  · have HS := Lib.hid (wrapS_no h)
    have HE := Lib.hid (wrapE_no h)
    have g : (508 : Int) < c.size := by omega
    clear h
    go_enter Try.func17, Try.ntmps17
    go_wp2
    go_ret2
    exact ⟨ret_se HS.out HE.out, Below.refl _ _⟩
theorem wrap_ref (c : ByteArray) (w : World) (hs : c.size ≤ 281474976710656) : Calls Try.prog 18 #[.string c] w fun e w' => e = .returned (.tuple #[.string (wrapS c), .int .i64 (wrapE c)]) ∧ Below w.heap.size w w' := by
  by_cases h : c.size ≤ 508
  · have HS := Lib.hid (wrapS_yes h)
    have HE := Lib.hid (wrapE_yes h)
    have g : ¬ (508 : Int) < c.size := by omega
    have ec : (508 : Int) - (c.size : Int) = ((508 - c.size : Nat) : Int) := by omega
    have hmk : ∀ W : World, (Instr.makeSlice 49 (.int .i64 ((508 : Int) - (c.size : Int))) (.int .i64 ((508 : Int) - (c.size : Int)))).run Try.prog W = .ok (.slice (some ⟨W.heap.size, 0, none⟩) (508 - c.size) (508 - c.size)) (W.alloc (.cells (madeCells #[.int .u8 0] (508 - c.size)) 5)) := fun W => by
      rw [ec]
      exact run_make_row' (P := Try.prog) 49 5 (.int .u8 0) 1 Try.underlying49 infoByte rfl .i64 .i64 (508 - c.size) (by omega) (by omega) W
    have hcv := conv_zeros _ _ _ (World.rowIs_made w (.int .u8 0) (508 - c.size) 5) (508 - c.size)
    have hadd := fun W => run_string_add_sum (P := Try.prog) (w := W) pm c (by rw [show pm.size = 4 from rfl]; omega)
    have hadd2 := fun W => run_string_add_sum (P := Try.prog) (w := W) (pm ++ c) (zeros (508 - c.size)) (by rw [ByteArray.size_append, zeros_size, show pm.size = 4 from rfl]; omega)
    unfold wrapB at HS
    unfold pm at hadd hadd2 HS
    clear ec
    go_enter Try.func18, Try.ntmps18
    go_wp2
    go_ret2
    exact ⟨ret_se HS.out HE.out, (Below.refl _ _).alloc (Nat.le_refl _) _⟩
  · have HS := Lib.hid (wrapS_no h)
    have HE := Lib.hid (wrapE_no h)
    have g : (508 : Int) < c.size := by omega
    clear h
    go_enter Try.func18, Try.ntmps18
    go_wp2
    go_ret2
    exact ⟨ret_se HS.out HE.out, Below.refl _ _⟩

theorem room_any (n : Int) (w : World) (h1 : -9223372036854775808 ≤ n) (h2 : n ≤ 9223372036854775807) : Calls Try.prog 21 #[.int .i64 n] w fun e w' => e = .returned (.int .i64 (roomV n)) ∧ w = w' := by
  by_cases h : n < 0
  · have HV := Lib.hid (roomV_neg h)
    go_enter Try.func21, Try.ntmps21
    go_wp2
    go_ret
    exact ⟨by rw [HV.out]; rfl, rfl⟩
  · have HV := Lib.hid (roomV_pos h)
    have ht : n.tmod 16 = n % 16 := Int.tmod_eq_emod_of_nonneg (by omega)
    have hw : IntKind.i64.wrap (15 - n % 16) = 15 - n % 16 := by rw [IntKind.wrap_i64]; omega
    go_enter Try.func21, Try.ntmps21
    go_wp2
    go_ret
    exact ⟨by rw [HV.out]; rfl, rfl⟩
theorem room_ref (n : Int) (w : World) (h1 : -9223372036854775808 ≤ n) (h2 : n ≤ 9223372036854775807) : Calls Try.prog 22 #[.int .i64 n] w fun e w' => e = .returned (.int .i64 (roomV n)) ∧ w = w' := by
  by_cases h : n < 0
  · have HV := Lib.hid (roomV_neg h)
    go_enter Try.func22, Try.ntmps22
    go_wp2
    go_ret
    exact ⟨by rw [HV.out]; rfl, rfl⟩
  · have HV := Lib.hid (roomV_pos h)
    have ht : n.tmod 16 = n % 16 := Int.tmod_eq_emod_of_nonneg (by omega)
    have hw : IntKind.i64.wrap (15 - n % 16) = 15 - n % 16 := by rw [IntKind.wrap_i64]; omega
    go_enter Try.func22, Try.ntmps22
    go_wp2
    go_ret
    exact ⟨by rw [HV.out]; rfl, rfl⟩
end
end Go.Proofs.Ytblejaimafdhpaa.Record
