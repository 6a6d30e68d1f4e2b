/- Several texts in one, each under its own heading. -/
import Derived.Test.YtghonccffmmjhaaPk18
import Derived.Lib.BufferWrite
import Derived.Lib.UnsafeStr
import Derived.Lib.BufferRead
import Derived.Deep.OwnRows
import Derived.Deep.DeepFit
import Derived.WalkSpells
import Derived.Shelf.Abstract
import Derived.Shelf.RegionOpen
import Derived.Test.YtghonccffmmjhaaPk15
/- Decode of the program, of a record's block. -/
namespace Go.Proofs.Ytghonccffmmjhaa.Record
open Go.RowKit Go.Shelf
attribute [local go_sem] Oper.semAt_some
set_option linter.unusedVariables false

section
set_option maxRecDepth 100000
theorem ents_drew {W : World} {v : Value} {L : List E} (h : Ents W v L) : Ents W.drew v L := h
set_option maxHeartbeats 2000000 in
theorem decode_right (b : ByteArray) (w : World) (hs : b.size = 512) (h : RightP (decR b)) (hu : (encB (decR b)).extract 0 256 = b.extract 0 256) : Calls Try.prog 75 #[.string b] w (DecPostN b w) := by
  have hok : decOk b := ⟨hs, h, hu⟩
  have hV := decV_yes hok
  have HE := Lib.hid (decE_yes hok)
  clear hok
  unfold decR at hV
  have hq : ((b.size : Int) != 512) = false := by simp; omega
  have T1 := Lib.hid (fun W => rtake_any b 1 6 W (by omega) (by omega) (by omega) (by omega))
  have T2 := Lib.hid (fun W => rtake_any b 7 6 W (by omega) (by omega) (by omega) (by omega))
  have T3 := Lib.hid (fun W => rtake_any b 13 1 W (by omega) (by omega) (by omega) (by omega))
  have T4 := Lib.hid (fun W => rtake_any b 14 2 W (by omega) (by omega) (by omega) (by omega))
  have T5 := Lib.hid (fun W => rtake_any b 16 1 W (by omega) (by omega) (by omega) (by omega))
  have hE := fun W v (hv : Ents W v (decR b).l) => encode_any (decR b) v W hv (decR_ok b)
  have e1 : (256 : Nat) ^ 1 = 256 := by decide
  have e2 : (256 : Nat) ^ 2 = 65536 := by decide
  have l4 := takeN_lt b 14 2
  have l5 := takeN_lt b 16 1
  rw [e2] at l4
  rw [e1] at l5
  have TE := Lib.hid (fun W => takeEntries_any b (takeN b 16 1) W hs (by omega))
  unfold Ans at hE
  rw [encS_yes h, encE_yes h] at hE
  have hsz := encB_size h
  obtain ⟨EE, hEe⟩ : ∃ EE, encB (decR b) = EE := ⟨_, rfl⟩
  simp only [hEe] at hE hsz hu
  clear hEe
  have hcmp := beq_yes hu
  have r1 : (256 : Int) ≤ (EE.size : Int) := by omega
  have r2 : (256 : Int) ≤ (b.size : Int) := by omega
  have r3 : 256 ≤ EE.size := by omega
  have r4 : 256 ≤ b.size := by omega
  clear h hu hsz
  unfold R.val decR at hE
  dsimp only at hE
  obtain ⟨x1, hx1⟩ : ∃ x, takeN b 1 6 = x := ⟨_, rfl⟩
  obtain ⟨x2, hx2⟩ : ∃ x, takeN b 7 6 = x := ⟨_, rfl⟩
  obtain ⟨x3, hx3⟩ : ∃ x, takeN b 13 1 = x := ⟨_, rfl⟩
  obtain ⟨x4, hx4⟩ : ∃ x, takeN b 14 2 = x := ⟨_, rfl⟩
  obtain ⟨x5, hx5⟩ : ∃ x, takeN b 16 1 = x := ⟨_, rfl⟩
  obtain ⟨L, hLL⟩ : ∃ L, entsAt b x5 = L := ⟨_, rfl⟩
  simp only [hx1, hx2, hx3, hx4, hx5, hLL] at T1 T2 T3 T4 T5 TE hE l4 l5 hV
  obtain ⟨en, hen⟩ : ∃ x, decide (x3 = 1) = x := ⟨_, rfl⟩
  obtain ⟨sy, hsy⟩ : ∃ x, decide (x3 = 2) = x := ⟨_, rfl⟩
  have u1 : ((x3 : Int) == 1) = en := by rw [← hen, Bool.eq_iff_iff, decide_eq_true_iff]; simp; omega
  have u2 : ((x3 : Int) == 2) = sy := by rw [← hsy, Bool.eq_iff_iff, decide_eq_true_iff]; simp; omega
  simp only [hen, hsy] at hE hV
  unfold TakePost at TE
  simp only [hLL] at TE
  have v4 : IntKind.i64.wrap (x4 : Int) = x4 := by rw [IntKind.wrap_i64]; omega
  have v5 : IntKind.i64.wrap (x5 : Int) = x5 := by rw [IntKind.wrap_i64]; omega
  have HEE := Lib.hid hE
  clear hx1 hx2 hx3 hx4 hx5 hs l4 l5 e1 e2 hE hen hsy hLL
  have HV := Lib.hid hV
  clear hV
  go_enter Try.func75, Try.ntmps75
  go_wp2_with (first
    | (go_at_call 81; with_reducible refine Calls.mono (T1.out _) ?_; rintro e w1 ⟨rfl, hB1⟩)
    | (go_at_call 81; with_reducible refine Calls.mono (T2.out _) ?_; rintro e w2 ⟨rfl, hB2⟩)
    | (go_at_call 81; with_reducible refine Calls.mono (T3.out _) ?_; rintro e w3 ⟨rfl, hB3⟩)
    | (go_at_call 81; with_reducible refine Calls.mono (T4.out _) ?_; rintro e w4 ⟨rfl, hB4⟩)
    | (go_at_call 81; with_reducible refine Calls.mono (T5.out _) ?_; rintro e w5 ⟨rfl, hB5⟩)
    | (go_at_call 82; (with_reducible refine Calls.mono (TE.out _) ?_); rintro e w6 ⟨v, rfl, hL6, hNV, hB6⟩; obtain ⟨ap, cp, rfl, hp1, hp2⟩ := hL6.parts; have HNV := Lib.hid hNV; have hL7 := Lib.hid (hL6.below (below_new w6 (boxR ⟨x1, x2, en, sy, (x4 : Int), L⟩ (.slice ap L.length cp)))); unfold boxR at hL7; clear hL6 hNV)
    | (go_at_call 42; with_reducible refine Calls.mono (HEE.out _ _ hL7.out) ?_; rintro e w7 ⟨rfl, hB7⟩))
  have hBw6 : Below w.heap.size w w6 := below_th (below_th (below_th (below_th (below_th (below_th (below_new w _) hB3) hB1) hB2) hB4) hB5) hB6
  have hA7 : RAt w7 w.heap.size R.none (.slice none 0 0) := (((((((RAt.new w R.none (.slice none 0 0)).th hB3).th hB1).th hB2).th hB4).th hB5).th hB6).th (below_th (below_new _ _) hB7)
  have hD7 : RAt w7 w6.heap.size ⟨x1, x2, en, sy, (x4 : Int), L⟩ (.slice ap L.length cp) := (RAt.new w6 _ _).th hB7
  have hBw7 : Below w.heap.size w w7 := below_th (below_al hBw6 _) hB7
  have hL8 : Ents w7 (.slice ap L.length cp) L := (hL7.out).below hB7
  obtain ⟨a0, a1, a2, a3, a4, a5⟩ := hA7.c
  obtain ⟨d0, d1, d2, d3, d4, d5⟩ := hD7.c
  have f0 := hA7.f 0
  have f1 := hA7.f 1
  have f2 := hA7.f 2
  have f3 := hA7.f 3
  have f4 := hA7.f 4
  have f5 := hA7.f 5
  obtain ⟨k0, k1, k2, k3, k4, k5, hAp, hBp⟩ := hA7.put6 ⟨x1, x2, en, sy, (x4 : Int), L⟩ (.slice ap L.length cp)
  dsimp only [R.none] at a0 a1 a2 a3 a4 a5 d0 d1 d2 d3 d4 d5 k0 k1 k2 k3 k4 k5 hBp
  have HNW : Hid (NewV w.heap.size (.slice ap L.length cp)) := NewV.mono HNV.out (by have h2 := hB3.size; have h3 := hB1.size; have h4 := hB2.size; have h5 := hB4.size; have h6 := hB5.size; rw [World.size_alloc] at h2; omega)
  have HL9 : Hid (Ents _ (.slice ap L.length cp) L) := hL8.keep fun g o k c he _ => put6_other w7 w.heap.size (.int .u64 x1) (.int .u64 x2) (.bool en) (.bool sy) (.int .i64 (x4 : Int)) (.slice ap L.length cp) g (by have h1 := HNV.out g o k c he; have h2 := hB3.size; have h3 := hB1.size; have h4 := hB2.size; have h5 := hB4.size; have h6 := hB5.size; rw [World.size_alloc] at h2; omega)
  go_region
  go_wp2
  all_goals
    refine bodyPost_ret (results_rec rfl _ _ rfl hAp.drew) rfl ?_
    exact dec_end HV.out HE.out (ents_drew HL9.out) (hBw7.trans hBp).drew HNW.out

theorem decode_new (b : ByteArray) (w : World) (hs : b.size ≤ 281474976710656) : Calls Try.prog 75 #[.string b] w (DecPostN b w) := by
  by_cases h1 : b.size = 512
  · by_cases h2 : RightP (decR b)
    · by_cases h3 : (encB (decR b)).extract 0 256 = b.extract 0 256
      · exact decode_right b w h1 h2 h3
      · exact decode_unlike b w h1 h2 h3
    · exact decode_wrong b w h1 h2
  · exact decode_size b w hs h1
theorem decode_any (b : ByteArray) (w : World) (hs : b.size ≤ 281474976710656) : Calls Try.prog 75 #[.string b] w (DecPost b w) := (decode_new b w hs).mono fun _ _ h => h.old
end
end Go.Proofs.Ytghonccffmmjhaa.Record
/- Contents and their blocks, of the program and of the document; room. -/
namespace Go.Proofs.Ytghonccffmmjhaa.Record
open Go.RowKit Go.Shelf
set_option linter.unusedVariables false

/-! ### a text's clone -/
set_option maxRecDepth 100000 in
set_option maxHeartbeats 400000 in
theorem clone_in (s : ByteArray) (w : World) (hs : s.size ≤ 281474976710656) :
    Calls Try.prog 68 #[.string s] w fun e w' => e = .returned (.string s) ∧ Below w.heap.size w w' := by
  by_cases h0 : s.size = 0
  · obtain rfl : s = ⟨#[]⟩ := by
      apply ByteArray.ext
      exact Array.eq_empty_of_size_eq_zero h0
    go_enter Try.func68, Try.ntmps68
    go_wp2
    go_ret
    exact ⟨rfl, Below.refl _ _⟩
  · obtain ⟨M, hM⟩ : ∃ M, M = madeCells #[Value.int .u8 0] s.size := ⟨_, rfl⟩
    have hMs : M.size = s.size := by rw [hM, size_madeCells]
    have hmk : ∀ W : World, (Instr.makeSlice 106 (.int .i64 (s.size : Int)) (.int .i64 (s.size : Int))).run Try.prog W = .ok (.slice (some ⟨W.heap.size, 0, none⟩) s.size s.size) (W.alloc (.cells M 5)) := fun W => by
      rw [hM]
      exact run_make_row' (P := Try.prog) 106 5 (.int .u8 0) 1 Try.underlying106 infoByte rfl .i64 .i64 s.size (by omega) (by omega) W
    have hcp := Lib.run_copy_row_string (P := Try.prog) (w.alloc (.cells M 5)) 106 9 3 5 w.heap.size 0 s.size s.size s M 5 Try.underlying106 infoSize (World.alloc_heap_new w _) (Nat.le_refl _) (by omega)
    obtain ⟨Y, hY⟩ : ∃ Y, Y = (M.toList.take 0 ++ Lib.byteCells s.data.toList ++ M.toList.drop (0 + s.size)).toArray := ⟨_, rfl⟩
    rw [← hY] at hcp
    have hYl : Y.toList = Lib.byteCells s.data.toList := by
      rw [hY, List.toList_toArray, List.take_zero, List.nil_append, List.drop_of_length_le (by rw [Array.length_toList]; omega), List.append_nil]
    have hYs : Y.size = s.size := by rw [← Array.length_toList, hYl, Lib.byteCells_length, ← Lib.size_eq]
    have hgY : ((w.alloc (.cells M 5)).setRow w.heap.size Y).heap[w.heap.size]? = some (.cells Y 5 (0, 0)) := setRow_heap _ _ M _ 5 (0, 0) (World.alloc_heap_new w _)
    have hne : s.data.toList ≠ [] := fun e => h0 (by rw [Lib.size_eq, e]; rfl)
    have hUS := Lib.run_unsafeString_row (P := Try.prog) ((w.alloc (.cells M 5)).setRow w.heap.size Y) 128 3 9 5 Try.underlying128 (by kernel_rfl) w.heap.size Y.size (by unfold World.shape?; rw [hgY]) s.data.toList hne (by rw [← Lib.size_eq]; omega) (by rw [← Lib.size_eq]; omega)
      (fun j x hx => Lib.cells_of_row hgY Y.size j _ (by rw [List.take_of_length_le (by rw [Array.length_toList]; exact Nat.le_refl _), hYl]; simp [Lib.byteCells, hx]))
    rw [← Lib.size_eq] at hUS
    have HB : Below w.heap.size w ((w.alloc (.cells M 5)).setRow w.heap.size Y) := ((Below.refl _ w).alloc (Nat.le_refl _) _).trans ⟨rfl, rfl, rfl, by simp, fun k hk => setRow_other _ _ _ _ (by omega)⟩
    clear hY hM
    go_enter Try.func68, Try.ntmps68
    go_wp2
    go_ret
    exact ⟨rfl, Lib.below_freeze HB (p := ⟨w.heap.size, 0, none⟩) (Nat.le_refl _) _⟩

set_option maxRecDepth 100000 in
set_option maxHeartbeats 400000 in
theorem clone_any (s : ByteArray) (w : World) (hs : s.size ≤ 281474976710656) :
    Calls Try.prog 54 #[.string s] w fun e w' => e = .returned (.string s) ∧ Below w.heap.size w w' := by
  go_enter Try.func54, Try.ntmps54
  go_wp2_with (go_at_call 68; refine (clone_in _ _ hs).mono ?_; rintro e w' ⟨rfl, hB⟩)
  go_ret
  exact ⟨rfl, hB⟩


theorem pm_list : pm.toList = [80, 0, 0, 0] := by first | rfl | decide | (rw [Lib.toList_data]; rfl)
def preP (b : ByteArray) : Prop := 4 ≤ b.size ∧ b.extract 0 4 = pm
instance (b : ByteArray) : Decidable (preP b) := by unfold preP; infer_instance
section
set_option maxRecDepth 100000
set_option maxHeartbeats 1000000
theorem hasPrefix_any (b : ByteArray) (w : World) (hs : b.size ≤ 281474976710656) : Calls Try.prog 77 #[.string b, .string ⟨#[80, 0, 0, 0]⟩] w fun e w' => e = .returned (.bool (decide (preP b))) ∧ w = w' := by
  by_cases h4 : 4 ≤ b.size
  · have g4 : (4 : Int) ≤ b.size := by omega
    by_cases hp : b.extract 0 4 = pm
    · have HD : Hid (decide (preP b) = true) := decide_eq_true ⟨h4, hp⟩
      have hc := beq_yes hp
      rw [pm_list] at hc
      clear hp
      go_enter Try.func77, Try.ntmps77
      go_wp2
      go_ret
      exact ⟨by rw [HD.out]; rfl, rfl⟩
    · have HD : Hid (decide (preP b) = false) := decide_eq_false fun hh => hp hh.2
      have hc := beq_no hp
      rw [pm_list] at hc
      clear hp
      go_enter Try.func77, Try.ntmps77
      go_wp2
      go_ret
      exact ⟨by rw [HD.out]; rfl, rfl⟩
  · have g4 : ¬ (4 : Int) ≤ b.size := by omega
    have HD : Hid (decide (preP b) = false) := decide_eq_false fun hh => h4 hh.1
    go_enter Try.func77, Try.ntmps77
    go_wp2
    go_ret
    exact ⟨by rw [HD.out]; rfl, rfl⟩
theorem cutPrefix_yes (b : ByteArray) (w : World) (hs : b.size ≤ 281474976710656) (h : preP b) : Calls Try.prog 57 #[.string b, .string ⟨#[80, 0, 0, 0]⟩] w fun e w' => e = .returned (.tuple #[.string (b.extract 4 b.size), .bool true]) ∧ w = w' := by
  have hp := hasPrefix_any b w hs
  rw [decide_eq_true h] at hp
  have h4 := h.1
  have g4 : (4 : Int) ≤ b.size := by omega
  have hin : Calls Try.prog 69 #[.string b, .string ⟨#[80, 0, 0, 0]⟩] w fun e w' => e = .returned (.tuple #[.string (b.extract 4 b.size), .bool true]) ∧ w = w' := by
    clear h
    go_enter Try.func69, Try.ntmps69
    go_wp2_with (go_at_call 77; refine hp.mono ?_; rintro e w' ⟨rfl, rfl⟩)
    go_ret2
    exact ⟨rfl, rfl⟩
  clear hp h g4 h4
  go_enter Try.func57, Try.ntmps57
  go_wp2_with (go_at_call 69; refine hin.mono ?_; rintro e w' ⟨rfl, rfl⟩)
  go_ret2
  exact ⟨rfl, rfl⟩
theorem cutPrefix_no (b : ByteArray) (w : World) (hs : b.size ≤ 281474976710656) (h : ¬ preP b) : Calls Try.prog 57 #[.string b, .string ⟨#[80, 0, 0, 0]⟩] w fun e w' => e = .returned (.tuple #[.string b, .bool false]) ∧ w = w' := by
  have hp := hasPrefix_any b w hs
  rw [decide_eq_false h] at hp
  have hin : Calls Try.prog 69 #[.string b, .string ⟨#[80, 0, 0, 0]⟩] w fun e w' => e = .returned (.tuple #[.string b, .bool false]) ∧ w = w' := by
    clear h
    go_enter Try.func69, Try.ntmps69
    go_wp2_with (go_at_call 77; refine hp.mono ?_; rintro e w' ⟨rfl, rfl⟩)
    go_ret2
    exact ⟨rfl, rfl⟩
  clear hp h
  go_enter Try.func57, Try.ntmps57
  go_wp2_with (go_at_call 69; refine hin.mono ?_; rintro e w' ⟨rfl, rfl⟩)
  go_ret2
  exact ⟨rfl, rfl⟩

theorem unwrap_any (b : ByteArray) (w : World) (hs : b.size ≤ 281474976710656) : Calls Try.prog 29 #[.string b] w fun e w' => e = .returned (.tuple #[.string (unwS b), .int .i64 (unwE b)]) ∧ Below w.heap.size w w' := by
  by_cases h : preP b
  · have hc := cutPrefix_yes b w hs h
    by_cases h5 : b.size = 512
    · have hok : unwOk b := ⟨h5, h.2⟩
      have HS := Lib.hid (unwS_yes hok)
      have HE := Lib.hid (unwE_yes hok)
      have hz : (b.extract 4 b.size).size = 508 := by rw [ByteArray.size_extract]; omega
      have hq : (((b.extract 4 b.size).size : Int) != 508) = false := by simp [hz]
      have hcl := fun W => clone_any (b.extract 4 b.size) W (by omega)
      obtain ⟨c, hcc⟩ : ∃ c, b.extract 4 b.size = c := ⟨_, rfl⟩
      rw [hcc] at hc HS hz hq
      simp only [hcc] at hcl
      clear h hok h5 hcc
      go_enter Try.func29, Try.ntmps29
      go_wp2_with (first | (go_at_call 57; refine hc.mono ?_; rintro e w' ⟨rfl, rfl⟩) | (go_at_call 54; refine (hcl _).mono ?_; rintro e w' ⟨rfl, hB⟩))
      go_ret2
      exact ⟨ret_se HS.out HE.out, hB⟩
    · have hno : ¬ unwOk b := fun hh => h5 hh.1
      have HS := Lib.hid (unwS_no hno)
      have HE := Lib.hid (unwE_no hno)
      have hz : ¬ (b.extract 4 b.size).size = 508 := by have := h.1; rw [ByteArray.size_extract]; omega
      have hq : (((b.extract 4 b.size).size : Int) != 508) = true := by simp; omega
      obtain ⟨c, hcc⟩ : ∃ c, b.extract 4 b.size = c := ⟨_, rfl⟩
      rw [hcc] at hc hz hq
      clear h hno h5 hcc
      go_enter Try.func29, Try.ntmps29
      go_wp2_with (go_at_call 57; refine hc.mono ?_; rintro e w' ⟨rfl, rfl⟩)
      go_ret2
      exact ⟨ret_se HS.out HE.out, Below.refl _ _⟩
  · have hc := cutPrefix_no b w hs h
    have hno : ¬ unwOk b := fun hh => h ⟨by have := hh.1; omega, hh.2⟩
    have HS := Lib.hid (unwS_no hno)
    have HE := Lib.hid (unwE_no hno)
    clear h hno
    go_enter Try.func29, Try.ntmps29
    go_wp2_with (go_at_call 57; refine hc.mono ?_; rintro e w' ⟨rfl, rfl⟩)
    go_ret2
    exact ⟨ret_se HS.out HE.out, Below.refl _ _⟩
theorem wrap_any (c : ByteArray) (w : World) (hs : c.size ≤ 281474976710656) : Calls Try.prog 55 #[.string c] w fun e w' => e = .returned (.tuple #[.string (wrapS c), .int .i64 (wrapE c)]) ∧ Below w.heap.size w w' := by
  by_cases h : c.size ≤ 508
  · have HS := Lib.hid (wrapS_yes h)
    have HE := Lib.hid (wrapE_yes h)
    have g : ¬ (508 : Int) < c.size := by omega
    have hz : (pm ++ c).size = 4 + c.size := by rw [ByteArray.size_append]; rfl
    have hok : fitOk (pm ++ c) 512 := ⟨by rw [hz]; omega, by decide⟩
    have hf := fun W => fit_any (pm ++ c) 512 W (by rw [hz]; omega)
    have hfe : fitS (pm ++ c) 512 = wrapB c := by rw [fitS_yes hok, hz, wrapB, show (512 : Int).toNat - (4 + c.size) = 508 - c.size by omega]
    rw [hfe, fitE_yes hok] at hf
    have hadd := fun W => run_string_add_sum (P := Try.prog) (w := W) pm c (by rw [show pm.size = 4 from rfl]; omega)
    obtain ⟨x, hx⟩ : ∃ x, wrapB c = x := ⟨_, rfl⟩
    rw [hx] at HS hf
    unfold pm at hf hadd
    clear h hok hfe hx hz
    go_enter Try.func55, Try.ntmps55
    go_wp2_with (go_at_call 62; refine (hf _).mono ?_; rintro e w' ⟨rfl, hB⟩)
    go_ret2
    exact ⟨ret_se HS.out HE.out, hB⟩
  · have HS := Lib.hid (wrapS_no h)
    have HE := Lib.hid (wrapE_no h)
    have g : (508 : Int) < c.size := by omega
    clear h
    go_enter Try.func55, Try.ntmps55
    go_wp2
    go_ret2
    exact ⟨ret_se HS.out HE.out, Below.refl _ _⟩
theorem room_any (n : Int) (w : World) (h1 : -9223372036854775808 ≤ n) (h2 : n ≤ 9223372036854775807) : Calls Try.prog 40 #[.int .i64 n] w fun e w' => e = .returned (.int .i64 (roomV n)) ∧ w = w' := by
  by_cases h : n < 0
  · have HV := Lib.hid (roomV_neg h)
    go_enter Try.func40, Try.ntmps40
    go_wp2
    go_ret
    exact ⟨by rw [HV.out]; rfl, rfl⟩
  · have HV := Lib.hid (roomV_pos h)
    have ht : n.tmod 16 = n % 16 := Int.tmod_eq_emod_of_nonneg (by omega)
    have hw : IntKind.i64.wrap (15 - n % 16) = 15 - n % 16 := by rw [IntKind.wrap_i64]; omega
    go_enter Try.func40, Try.ntmps40
    go_wp2
    go_ret
    exact ⟨by rw [HV.out]; rfl, rfl⟩
end
end Go.Proofs.Ytghonccffmmjhaa.Record
