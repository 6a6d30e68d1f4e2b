/- Several texts in one, each under its own heading. -/
import Derived.Test.YtkipkcmcolomcaaGreatPk02
import Derived.Lib.BufferWrite
import Derived.Lib.UnsafeStr
import Derived.Lib.BufferRead
import Derived.Lib.Strings
/- The document's own Take. -/
namespace Go.Proofs.YtkipkcmcolomcaaGreat
open Go.RowKit Go.Shelf
set_option linter.unusedVariables false

set_option maxRecDepth 100000 in
set_option maxHeartbeats 400000 in
theorem take_ref_yes (s : ByteArray) (a k : Nat) (w : World) (hs : s.size ≤ 281474976710656) (h1 : 1 ≤ k) (h2 : k ≤ 8) (hk : a + k ≤ s.size) :
    Calls Tryz.prog 128 #[.string s, .int .i64 a, .int .i64 k] w fun e w' => e = .returned (.tuple #[.int .u64 (takeN s a k), .int .i64 0]) ∧ w = w' := by
  have hc1 : ¬ ((a : Int) > (s.size : Int)) := by omega
  have hc2 : ¬ ((s.size : Int) - a < k) := by omega
  go_enter Tryz.func128, Tryz.ntmps128
  go_wp2
  go_loop [8, 9] (fun n i => ∃ (j : Nat) (t : Nat), j ≤ k ∧ i = .int .i64 ((j : Int) - 1) ∧ n = .int .u64 t ∧ Hid (t = takeN s (a + j) (k - j))) (fun _ i => (intOf i + 1).toNat)
  case atStart => exact ⟨k, 0, Nat.le_refl _, rfl, rfl, by unfold Hid; rw [Nat.sub_self]; rfl⟩
  case round =>
    obtain ⟨j, t, hj, rfl, rfl, HT⟩ := hrel
    cases j with
    | zero =>
      go_wp2
      go_ret2
      have e : t = takeN s a k := by have := HT.out; rwa [Nat.add_zero, Nat.sub_zero] at this
      rw [← e]
      exact ⟨rfl, rfl⟩
    | succ q =>
      have hq : a + q < s.size := by omega
      have e3 : ∀ h : a + q < s.size, (((s[a + q]'h).toNat : Nat) : Int) = sbyte s (a + q) := fun h => by
        have : s.data.toList[a + q]? = some (s[a + q]'h) := Go.Proofs.byte_at s (a + q) h
        simp [sbyte, this]
      have HL : Hid (bits BinOp.or IntKind.u64 (IntKind.u64.wrap ((t : Int) * 256)) (IntKind.u64.wrap (sbyte s (a + q))) = ((takeN s (a + q) (k - q) : Nat) : Int)) := by
        have ht : t < 256 ^ (k - (q + 1)) := by rw [HT.out]; exact takeN_lt _ _ _
        have hw : IntKind.u64.wrap (sbyte s (a + q)) = ((sb s (a + q) : Nat) : Int) := by
          have := sb_lt s (a + q)
          rw [sbyte_eq, IntKind.wrap_u64]; omega
        unfold Hid
        rw [hw, or_low _ _ _ ht (sb_lt _ _) (by omega), show k - q = (k - (q + 1)) + 1 from by omega, takeN_front, HT.out]
        rfl
      go_wp2
      go_round
      case rel => exact ⟨q, takeN s (a + q) (k - q), by omega, rfl, by rw [HL.out], rfl⟩
      case measure => simp [intOf]

set_option maxRecDepth 100000 in
set_option maxHeartbeats 400000 in
/-- the reference's Take, whatever its text, place and width -/
theorem take_ref (s : ByteArray) (at0 wd : Int) (w : World) (hs : s.size ≤ 281474976710656) (hat : at0 ≤ 9223372036854775807) :
    Calls Tryz.prog 128 #[.string s, .int .i64 at0, .int .i64 wd] w fun e w' => e = .returned (.tuple #[.int .u64 (takeV s at0 wd), .int .i64 (takeE s at0 wd)]) ∧ w = w' := by
  by_cases h : takeOk s at0 wd
  · have h' := h
    obtain ⟨h1, h2, h3, h4⟩ := h'
    obtain ⟨k, rfl⟩ := Int.eq_ofNat_of_zero_le (show 0 ≤ wd by omega)
    obtain ⟨a, rfl⟩ := Int.eq_ofNat_of_zero_le h3
    refine (take_ref_yes s a k w hs (by omega) (by omega) (by omega)).mono fun e w' ⟨he, hb⟩ => ⟨?_, hb⟩
    rw [he]
    exact ret_ve (by rw [takeV_yes h, Int.toNat_natCast, Int.toNat_natCast]) (takeE_yes h)
  · have HV := Lib.hid (takeV_no h)
    have HE := Lib.hid (takeE_no h)
    have h0 : wd < 1 ∨ (1 ≤ wd ∧ 8 < wd) ∨ (1 ≤ wd ∧ wd ≤ 8 ∧ at0 < 0) ∨ (1 ≤ wd ∧ wd ≤ 8 ∧ 0 ≤ at0 ∧ (s.size : Int) < at0) ∨ (1 ≤ wd ∧ wd ≤ 8 ∧ 0 ≤ at0 ∧ at0 ≤ (s.size : Int) ∧ (s.size : Int) - at0 < wd) := by
      unfold takeOk hasP at h
      omega
    clear h
    rcases h0 with h | ⟨h1, h⟩ | ⟨h1, h2, h⟩ | ⟨h1, h2, h3, h⟩ | ⟨h1, h2, h3, h4, h⟩
    all_goals
      go_enter Tryz.func128, Tryz.ntmps128
      go_wp2
      go_ret2
      exact ⟨ret_ve HV.out HE.out, rfl⟩

/-! ### a text behind its length -/

def textOk (s : ByteArray) : Prop := s.size ≤ 65535
instance (s : ByteArray) : Decidable (textOk s) := by unfold textOk; infer_instance
/-- what Text answers -/
def textS (s : ByteArray) : ByteArray := if textOk s then numB s.size 2 ++ s else ⟨#[]⟩
def textE (s : ByteArray) : Int := if textOk s then 0 else 2
theorem textS_yes {s : ByteArray} (h : textOk s) : textS s = numB s.size 2 ++ s := if_pos h
theorem textS_no {s : ByteArray} (h : ¬ textOk s) : textS s = ⟨#[]⟩ := if_neg h
theorem textE_yes {s : ByteArray} (h : textOk s) : textE s = 0 := if_pos h
theorem textE_no {s : ByteArray} (h : ¬ textOk s) : textE s = 2 := if_neg h
theorem textOk_put (s : ByteArray) : putOk s.size 2 ↔ textOk s := by
  unfold putOk textOk
  rw [show (2 : Int).toNat = 2 from rfl, show (256 : Nat) ^ 2 = 65536 from rfl]
  omega

set_option maxRecDepth 100000 in
set_option maxHeartbeats 400000 in
theorem text_any (s : ByteArray) (w : World) (hs : s.size ≤ 281474976710656) :
    Calls Tryz.prog 181 #[.string s] w fun e w' => e = .returned (.tuple #[.string (textS s), .int .i64 (textE s)]) ∧ Below w.heap.size w w' := by
  have hn : Hid (s.size < 256 ^ 8) := by unfold Hid; rw [eight]; omega
  by_cases h : textOk s
  · have hp := (textOk_put s).2 h
    have HS := Lib.hid (textS_yes h)
    have HE := Lib.hid (textE_yes h)
    have e1 := putS_yes hp
    have e2 := putE_yes hp
    have hcat : (numB s.size 2).size + s.size ≤ 9223372036854775807 := by rw [numB_size]; omega
    have hadd := fun W => run_string_add_sum (P := Tryz.prog) (w := W) (numB s.size 2) s hcat
    have hput := fun W : World => (put_any s.size 2 W hn.out).mono (R' := fun e w' => e = .returned (.tuple #[.string (numB s.size 2), .int .i64 0]) ∧ Below W.heap.size W w') fun e w' ⟨he, hb⟩ => ⟨by rw [he, e1, e2]; rfl, hb⟩
    have HP := Lib.hid hput
    clear h hp e1 e2 hput
    go_enter Tryz.func181, Tryz.ntmps181
    go_wp2_with (go_at_call 180; refine Calls.mono (HP.out _) ?_; rintro e w' ⟨rfl, hB⟩)
    go_ret2
    exact ⟨ret_se HS.out HE.out, hB⟩
  · have hp : ¬ putOk s.size 2 := fun hh => h ((textOk_put s).1 hh)
    have HS := Lib.hid (textS_no h)
    have HE := Lib.hid (textE_no h)
    have e1 := putS_no hp
    have e2 := putE_no hp
    have hput := fun W : World => (put_any s.size 2 W hn.out).mono (R' := fun e w' => e = .returned (.tuple #[.string ⟨#[]⟩, .int .i64 2]) ∧ Below W.heap.size W w') fun e w' ⟨he, hb⟩ => ⟨by rw [he, e1, e2], hb⟩
    have HP := Lib.hid hput
    clear h hp e1 e2 hput
    go_enter Tryz.func181, Tryz.ntmps181
    go_wp2_with (go_at_call 180; refine Calls.mono (HP.out _) ?_; rintro e w' ⟨rfl, hB⟩)
    go_ret2
    exact ⟨ret_se HS.out HE.out, hB⟩

/-! ### all bytes from there on -/

/-- are all bytes from a on 0? -/
def bareB (s : ByteArray) (a : Nat) : Bool := (s.data.toList.drop a).all (· == 0)
theorem bareB_end (s : ByteArray) (a : Nat) (h : s.size ≤ a) : bareB s a = true := by
  unfold bareB
  rw [List.drop_of_length_le (by simpa using h)]
  rfl
theorem bareB_step (s : ByteArray) (a : Nat) (h : a < s.size) : bareB s a = ((sb s a == 0) && bareB s (a + 1)) := by
  unfold bareB sb
  have hl : a < s.data.toList.length := by simpa using h
  rw [List.drop_eq_getElem_cons hl, List.all_cons, List.getElem?_eq_getElem hl]
  congr 1
  rw [Bool.eq_iff_iff]
  simp only [Option.getD_some, beq_iff_eq]
  constructor
  · intro h0
    rw [h0]
    rfl
  · intro h0
    exact UInt8.toNat_inj.1 h0

end Go.Proofs.YtkipkcmcolomcaaGreat
/- Fit answers its text with bytes 0 behind it; a text's clone is the text; TakeText answers the text that stands behind its length. -/
namespace Go.Proofs.YtkipkcmcolomcaaGreat
open Go.RowKit Go.Shelf
set_option linter.unusedVariables false

theorem infoSize : (Tryz.prog.info? 5).map (·.size) = some 1 := by kernel_rfl

/-! ### fitted bytes -/
def fitOk (s : ByteArray) (size : Int) : Prop := (s.size : Int) ≤ size ∧ size ≤ 65536
instance (s : ByteArray) (size : Int) : Decidable (fitOk s size) := by unfold fitOk; infer_instance
def zeros (n : Nat) : ByteArray := ⟨(List.replicate n 0).toArray⟩
theorem zeros_size (n : Nat) : (zeros n).size = n := by simp [zeros, ByteArray.size]
/-- what Fit answers -/
def fitS (s : ByteArray) (size : Int) : ByteArray := if fitOk s size then s ++ zeros (size.toNat - s.size) else ⟨#[]⟩
def fitE (s : ByteArray) (size : Int) : Int := if fitOk s size then 0 else 2
theorem fitS_yes {s : ByteArray} {size : Int} (h : fitOk s size) : fitS s size = s ++ zeros (size.toNat - s.size) := if_pos h
theorem fitS_no {s : ByteArray} {size : Int} (h : ¬ fitOk s size) : fitS s size = ⟨#[]⟩ := if_neg h
theorem fitE_yes {s : ByteArray} {size : Int} (h : fitOk s size) : fitE s size = 0 := if_pos h
theorem fitE_no {s : ByteArray} {size : Int} (h : ¬ fitOk s size) : fitE s size = 2 := if_neg h

/-- bytes as integers -/
def bytesOfL (l : List UInt8) : List Int := l.map fun b => (b.toNat : Int)
theorem bytesOfL_length (l : List UInt8) : (bytesOfL l).length = l.length := by simp [bytesOfL]
theorem strOf_bytesOfL (l : List UInt8) : strOfNums (bytesOfL l) = ⟨l.toArray⟩ := by
  unfold strOfNums bytesOfL
  congr 1
  rw [List.map_map]
  congr 1
  conv => rhs; rw [← List.map_id l]
  apply List.map_congr_left
  intro b _
  simp
theorem madeCells_rep (v : Value) (n : Nat) : (madeCells #[v] n).toList = List.replicate n v := by
  apply List.ext_getElem
  · rw [Array.length_toList, size_madeCells, List.length_replicate]
  · intro i h1 h2
    simp [madeCells, Nat.mod_one]

/-- n bytes 0, as a text -/
theorem conv_zeros (W : World) (g n : Nat) (h : W.rowIs g 5 n (fun _ => .int .u8 0)) (cap : Nat) :
    (convert 44 9 (.slice (some ⟨g, 0, none⟩) n cap)).run Tryz.prog W = .ok (.string (zeros n)) W := by
  have h1 := run_convert_bytes_arg (P := Tryz.prog) W 44 5 Tryz.underlying44 Tryz.underlying5 g 0 n cap (List.replicate n 0) (by simp) (fun i hi => by
    rw [Nat.zero_add, h.cell hi]
    simp [List.getD, hi]) 9 Tryz.underlying9
  rw [h1]
  simp [strOfNums, zeros]

/-! ### a text's clone -/
set_option maxRecDepth 100000 in
set_option maxHeartbeats 400000 in
theorem clone_in (s : ByteArray) (w : World) (hs : s.size ≤ 281474976710656) :
    Calls Tryz.prog 81 #[.string s] w fun e w' => e = .returned (.string s) ∧ Below w.heap.size w w' := by
  by_cases h0 : s.size = 0
  · obtain rfl : s = ⟨#[]⟩ := by
      apply ByteArray.ext
      exact Array.eq_empty_of_size_eq_zero h0
    go_enter Tryz.func81, Tryz.ntmps81
    go_wp2
    go_ret
    exact ⟨rfl, Below.refl _ _⟩
  · obtain ⟨M, hM⟩ : ∃ M, M = madeCells #[Value.int .u8 0] s.size := ⟨_, rfl⟩
    have hMs : M.size = s.size := by rw [hM, size_madeCells]
    have hmk : ∀ W : World, (Instr.makeSlice 44 (.int .i64 (s.size : Int)) (.int .i64 (s.size : Int))).run Tryz.prog W = .ok (.slice (some ⟨W.heap.size, 0, none⟩) s.size s.size) (W.alloc (.cells M 5)) := fun W => by
      rw [hM]
      exact run_make_row' (P := Tryz.prog) 44 5 (.int .u8 0) 1 Tryz.underlying44 infoByte rfl .i64 .i64 s.size (by omega) (by omega) W
    have hcp := Lib.run_copy_row_string (P := Tryz.prog) (w.alloc (.cells M 5)) 44 9 3 5 w.heap.size 0 s.size s.size s M 5 Tryz.underlying44 infoSize (World.alloc_heap_new w _) (Nat.le_refl _) (by omega)
    obtain ⟨Y, hY⟩ : ∃ Y, Y = (M.toList.take 0 ++ Lib.byteCells s.data.toList ++ M.toList.drop (0 + s.size)).toArray := ⟨_, rfl⟩
    rw [← hY] at hcp
    have hYl : Y.toList = Lib.byteCells s.data.toList := by
      rw [hY, List.toList_toArray, List.take_zero, List.nil_append, List.drop_of_length_le (by rw [Array.length_toList]; omega), List.append_nil]
    have hYs : Y.size = s.size := by rw [← Array.length_toList, hYl, Lib.byteCells_length, ← Lib.size_eq]
    have hgY : ((w.alloc (.cells M 5)).setRow w.heap.size Y).heap[w.heap.size]? = some (.cells Y 5 (0, 0)) := setRow_heap _ _ M _ 5 (0, 0) (World.alloc_heap_new w _)
    have hne : s.data.toList ≠ [] := fun e => h0 (by rw [Lib.size_eq, e]; rfl)
    have hUS := Lib.run_unsafeString_row (P := Tryz.prog) ((w.alloc (.cells M 5)).setRow w.heap.size Y) 154 3 9 5 Tryz.underlying154 (by kernel_rfl) w.heap.size Y.size (by unfold World.shape?; rw [hgY]) s.data.toList hne (by rw [← Lib.size_eq]; omega) (by rw [← Lib.size_eq]; omega)
      (fun j x hx => Lib.cells_of_row hgY Y.size j _ (by rw [List.take_of_length_le (by rw [Array.length_toList]; exact Nat.le_refl _), hYl]; simp [Lib.byteCells, hx]))
    rw [← Lib.size_eq] at hUS
    have HB : Below w.heap.size w ((w.alloc (.cells M 5)).setRow w.heap.size Y) := ((Below.refl _ w).alloc (Nat.le_refl _) _).trans ⟨rfl, rfl, rfl, by simp, fun k hk => setRow_other _ _ _ _ (by omega)⟩
    clear hY hM
    go_enter Tryz.func81, Tryz.ntmps81
    go_wp2
    go_ret
    exact ⟨rfl, Lib.below_freeze HB (p := ⟨w.heap.size, 0, none⟩) (Nat.le_refl _) _⟩

set_option maxRecDepth 100000 in
set_option maxHeartbeats 400000 in
theorem clone_any (s : ByteArray) (w : World) (hs : s.size ≤ 281474976710656) :
    Calls Tryz.prog 47 #[.string s] w fun e w' => e = .returned (.string s) ∧ Below w.heap.size w w' := by
  go_enter Tryz.func47, Tryz.ntmps47
  go_wp2_with (go_at_call 81; refine (clone_in _ _ hs).mono ?_; rintro e w' ⟨rfl, hB⟩)
  go_ret
  exact ⟨rfl, hB⟩

end Go.Proofs.YtkipkcmcolomcaaGreat
/- TakeText answers the text that stands behind its length, and the place behind it. -/
namespace Go.Proofs.YtkipkcmcolomcaaGreat
open Go.RowKit Go.Shelf
set_option linter.unusedVariables false

/-- do a text's bytes stand there? -/
def tokOk (s : ByteArray) (at0 : Int) : Prop := takeOk s at0 2 ∧ at0.toNat + 2 + takeN s at0.toNat 2 ≤ s.size
instance (s : ByteArray) (at0 : Int) : Decidable (tokOk s at0) := by unfold tokOk; infer_instance
/-- what TakeText answers -/
def tokS (s : ByteArray) (at0 : Int) : ByteArray := if tokOk s at0 then s.extract (at0.toNat + 2) (at0.toNat + 2 + takeN s at0.toNat 2) else ⟨#[]⟩
def tokI (s : ByteArray) (at0 : Int) : Int := if tokOk s at0 then ((at0.toNat + 2 + takeN s at0.toNat 2 : Nat) : Int) else 0
def tokE (s : ByteArray) (at0 : Int) : Int := if tokOk s at0 then 0 else 2
theorem tokS_no {s : ByteArray} {at0 : Int} (h : ¬ tokOk s at0) : tokS s at0 = ⟨#[]⟩ := if_neg h
theorem tokI_no {s : ByteArray} {at0 : Int} (h : ¬ tokOk s at0) : tokI s at0 = 0 := if_neg h
theorem tokE_no {s : ByteArray} {at0 : Int} (h : ¬ tokOk s at0) : tokE s at0 = 2 := if_neg h
theorem tokS_yes {s : ByteArray} {a : Nat} (h : tokOk s (a : Int)) : tokS s (a : Int) = s.extract (a + 2) (a + 2 + takeN s a 2) := (if_pos h).trans (by rw [Int.toNat_natCast])
theorem tokI_yes {s : ByteArray} {a : Nat} (h : tokOk s (a : Int)) : tokI s (a : Int) = ((a + 2 + takeN s a 2 : Nat) : Int) := (if_pos h).trans (by rw [Int.toNat_natCast])
theorem tokE_yes {s : ByteArray} {at0 : Int} (h : tokOk s at0) : tokE s at0 = 0 := if_pos h
theorem ret_sie {s t : ByteArray} {j k : IntKind} {x y a b : Int} (h : s = t) (h1 : x = y) (h2 : a = b) : Ending.returned (.tuple #[.string t, .int j y, .int k b]) = .returned (.tuple #[.string s, .int j x, .int k a]) := by rw [h, h1, h2]
theorem takeN_two (s : ByteArray) (a : Nat) : takeN s a 2 ≤ 65535 := by
  have := takeN_lt s a 2
  rw [show (256 : Nat) ^ 2 = 65536 from rfl] at this
  omega

set_option maxRecDepth 100000 in
set_option maxHeartbeats 400000 in
theorem tok_any (s : ByteArray) (at0 : Int) (w : World) (hs : s.size ≤ 281474976710656) (hat : at0 ≤ 9223372036854775807) :
    Calls Tryz.prog 145 #[.string s, .int .i64 at0] w fun e w' => e = .returned (.tuple #[.string (tokS s at0), .int .i64 (tokI s at0), .int .i64 (tokE s at0)]) ∧ Below w.heap.size w w' := by
  have hsm : s.size ≤ maxLen := by unfold maxLen; omega
  by_cases ht : takeOk s at0 2
  · have ht' := ht
    obtain ⟨_, _, h3, h4⟩ := ht'
    obtain ⟨a, rfl⟩ := Int.eq_ofNat_of_zero_le h3
    obtain ⟨N, hN⟩ : ∃ N, takeN s a 2 = N := ⟨_, rfl⟩
    have hN2 := takeN_two s a
    rw [hN] at hN2
    have HP := Lib.hid (fun W : World => (take_any s (a : Int) 2 W hs hat).mono (R' := fun e w' => e = .returned (.tuple #[.int .u64 (N : Int), .int .i64 0]) ∧ Below W.heap.size W w') fun e w' ⟨he, hb⟩ => ⟨by rw [he, takeV_yes ht, takeE_yes ht, Int.toNat_natCast, show (2 : Int).toNat = 2 from rfl, hN], hb⟩)
    by_cases hh : a + 2 + N ≤ s.size
    · have hok : tokOk s (a : Int) := ⟨ht, by rw [Int.toNat_natCast, hN]; exact hh⟩
      have HS := Lib.hid (tokS_yes hok)
      have HI := Lib.hid (tokI_yes hok)
      have HE := Lib.hid (tokE_yes hok)
      rw [hN] at HS HI
      have hhas : Hid (hasP s ((a : Int) + 2) (N : Int)) := ⟨by omega, by omega⟩
      have hex : (s.extract (a + 2) (a + 2 + N)).size ≤ 281474976710656 := by rw [ByteArray.size_extract]; omega
      clear ht hok hN h4
      go_enter Tryz.func145, Tryz.ntmps145
      go_wp2_with (first | (go_at_call 144; refine Calls.mono (HP.out _) ?_; rintro e w1 ⟨rfl, hB1⟩) | (go_at_call 173; refine (has_yes _ _ _ _ hsm hhas.out (by omega)).mono ?_; rintro e w' ⟨rfl, rfl⟩) | (go_at_call 47; refine (clone_any _ _ hex).mono ?_; rintro e w2 ⟨rfl, hB2⟩))
      go_ret3
      exact ⟨ret_sie HS.out (by rw [HI.out]; omega) HE.out, hB1.trans (hB2.mono hB1.size)⟩
    · have hno : ¬ tokOk s (a : Int) := fun h => hh (by have := h.2; rwa [Int.toNat_natCast, hN] at this)
      have HS := Lib.hid (tokS_no hno)
      have HI := Lib.hid (tokI_no hno)
      have HE := Lib.hid (tokE_no hno)
      have hhas : Hid (¬ hasP s ((a : Int) + 2) (N : Int)) := fun h => by have := h.2; omega
      clear ht hno hN
      go_enter Tryz.func145, Tryz.ntmps145
      go_wp2_with (first | (go_at_call 144; refine Calls.mono (HP.out _) ?_; rintro e w1 ⟨rfl, hB1⟩) | (go_at_call 173; refine (has_no _ _ _ _ hsm hhas.out (by omega)).mono ?_; rintro e w' ⟨rfl, rfl⟩))
      go_ret3
      exact ⟨ret_sie HS.out HI.out HE.out, hB1⟩
  · have hno : ¬ tokOk s at0 := fun h => ht h.1
    have HS := Lib.hid (tokS_no hno)
    have HI := Lib.hid (tokI_no hno)
    have HE := Lib.hid (tokE_no hno)
    have HP := Lib.hid (fun W : World => (take_any s at0 2 W hs hat).mono (R' := fun e w' => e = .returned (.tuple #[.int .u64 0, .int .i64 2]) ∧ Below W.heap.size W w') fun e w' ⟨he, hb⟩ => ⟨by rw [he, takeV_no ht, takeE_no ht], hb⟩)
    clear ht hno
    go_enter Tryz.func145, Tryz.ntmps145
    go_wp2_with (go_at_call 144; refine Calls.mono (HP.out _) ?_; rintro e w1 ⟨rfl, hB1⟩)
    go_ret3
    exact ⟨ret_sie HS.out HI.out HE.out, hB1⟩

set_option maxRecDepth 100000 in
set_option maxHeartbeats 400000 in
theorem tok_ref (s : ByteArray) (at0 : Int) (w : World) (hs : s.size ≤ 281474976710656) (hat : at0 ≤ 9223372036854775807) (hlo : -9223372036854775808 ≤ at0) :
    Calls Tryz.prog 129 #[.string s, .int .i64 at0] w fun e w' => e = .returned (.tuple #[.string (tokS s at0), .int .i64 (tokI s at0), .int .i64 (tokE s at0)]) ∧ w = w' := by
  by_cases ht : takeOk s at0 2
  · have ht' := ht
    obtain ⟨_, _, h3, h4⟩ := ht'
    obtain ⟨a, rfl⟩ := Int.eq_ofNat_of_zero_le h3
    obtain ⟨N, hN⟩ : ∃ N, takeN s a 2 = N := ⟨_, rfl⟩
    have hN2 := takeN_two s a
    rw [hN] at hN2
    have HP := Lib.hid (fun W : World => (take_ref s (a : Int) 2 W hs hat).mono (R' := fun e w' => e = .returned (.tuple #[.int .u64 (N : Int), .int .i64 0]) ∧ W = w') fun e w' ⟨he, hb⟩ => ⟨by rw [he, takeV_yes ht, takeE_yes ht, Int.toNat_natCast, show (2 : Int).toNat = 2 from rfl, hN], hb⟩)
    by_cases hh : a + 2 + N ≤ s.size
    · have hok : tokOk s (a : Int) := ⟨ht, by rw [Int.toNat_natCast, hN]; exact hh⟩
      have HS := Lib.hid (tokS_yes hok)
      have HI := Lib.hid (tokI_yes hok)
      have HE := Lib.hid (tokE_yes hok)
      rw [hN] at HS HI
      clear ht hok hN h4
      go_enter Tryz.func129, Tryz.ntmps129
      go_wp2_with (go_at_call 128; refine Calls.mono (HP.out _) ?_; rintro e w1 ⟨rfl, rfl⟩)
      go_ret3
      exact ⟨ret_sie HS.out (by rw [HI.out]; omega) HE.out, rfl⟩
    · have hno : ¬ tokOk s (a : Int) := fun h => hh (by have := h.2; rwa [Int.toNat_natCast, hN] at this)
      have HS := Lib.hid (tokS_no hno)
      have HI := Lib.hid (tokI_no hno)
      have HE := Lib.hid (tokE_no hno)
      clear ht hno hN
      go_enter Tryz.func129, Tryz.ntmps129
      go_wp2_with (go_at_call 128; refine Calls.mono (HP.out _) ?_; rintro e w1 ⟨rfl, rfl⟩)
      go_ret3
      exact ⟨ret_sie HS.out HI.out HE.out, rfl⟩
  · have hno : ¬ tokOk s at0 := fun h => ht h.1
    have HS := Lib.hid (tokS_no hno)
    have HI := Lib.hid (tokI_no hno)
    have HE := Lib.hid (tokE_no hno)
    have HP := Lib.hid (fun W : World => (take_ref s at0 2 W hs hat).mono (R' := fun e w' => e = .returned (.tuple #[.int .u64 0, .int .i64 2]) ∧ W = w') fun e w' ⟨he, hb⟩ => ⟨by rw [he, takeV_no ht, takeE_no ht], hb⟩)
    clear ht hno
    go_enter Tryz.func129, Tryz.ntmps129
    go_wp2_with (go_at_call 128; refine Calls.mono (HP.out _) ?_; rintro e w1 ⟨rfl, rfl⟩)
    go_ret3
    exact ⟨ret_sie HS.out HI.out HE.out, rfl⟩

/-! ### the statements' head -/
theorem put_258 : putS 258 3 = ⟨#[2, 1, 0]⟩ ∧ putE 258 3 = 0 := by decide +kernel
theorem text_ab : textS ⟨#[97, 98]⟩ = ⟨#[2, 0, 97, 98]⟩ ∧ textE ⟨#[97, 98]⟩ = 0 := by decide +kernel

end Go.Proofs.YtkipkcmcolomcaaGreat
/- Plain facts: numbers and texts come back from their bytes. They speak of no program. -/
namespace Go.Proofs.YtkipkcmcolomcaaGreat

theorem app_list (s t : ByteArray) : (s ++ t).data.toList = s.data.toList ++ t.data.toList := by simp
theorem sb_left (s t : ByteArray) (i : Nat) (h : i < s.size) : sb (s ++ t) i = sb s i := by
  unfold sb
  rw [app_list, List.getElem?_append_left (by simpa using h)]
theorem sb_right (s t : ByteArray) (i : Nat) : sb (s ++ t) (s.size + i) = sb t i := by
  unfold sb
  rw [app_list, List.getElem?_append_right (by simp)]
  simp
theorem takeN_congr (s t : ByteArray) (a b : Nat) : ∀ k, (∀ i, i < k → sb s (a + i) = sb t (b + i)) → takeN s a k = takeN t b k
  | 0, _ => rfl
  | k + 1, h => by rw [takeN, takeN, takeN_congr s t a b k (fun i hi => h i (by omega)), h k (by omega)]
theorem sb_numB (n k i : Nat) (h : i < k) : sb (numB n k) i = n / 256 ^ i % 256 := by
  unfold sb numB
  rw [strOfNums_data, numL, List.map_map, List.getElem?_map, List.getElem?_eq_getElem (by simpa using h)]
  simp only [Option.map_some, Option.getD_some, Function.comp, List.getElem_range]
  rw [nbyte_nat, Int.toNat_natCast]
  simp
theorem takeN_numB (n k : Nat) : ∀ j, j ≤ k → takeN (numB n k) 0 j = n % 256 ^ j
  | 0, _ => by simp [takeN, Nat.mod_one]
  | j + 1, h => by
    rw [takeN, takeN_numB n k j (by omega), Nat.zero_add, sb_numB n k j (by omega), Nat.pow_succ, Nat.mod_mul, Nat.mul_comm]
theorem takeN_back (s : ByteArray) (n k : Nat) (h : n < 256 ^ k) : takeN (s ++ numB n k) s.size k = n := by
  rw [takeN_congr (s ++ numB n k) (numB n k) s.size 0 k (fun i _ => by rw [sb_right, Nat.zero_add]), takeN_numB n k k (Nat.le_refl _), Nat.mod_eq_of_lt h]
theorem takeN_byte (s : ByteArray) (a : Nat) : ∀ (k i : Nat), i < k → takeN s a k / 256 ^ i % 256 = sb s (a + i)
  | k + 1, i, h => by
    rw [takeN]
    by_cases hik : i = k
    · subst hik
      rw [Nat.add_mul_div_right _ _ (Nat.pow_pos (by decide)), Nat.div_eq_of_lt (takeN_lt s a i), Nat.zero_add, Nat.mod_eq_of_lt (sb_lt s _)]
    · have hlt : i < k := by omega
      obtain ⟨d, rfl⟩ : ∃ d, k = i + (d + 1) := ⟨k - i - 1, by omega⟩
      have e : sb s (a + (i + (d + 1))) * 256 ^ (i + (d + 1)) = (sb s (a + (i + (d + 1))) * 256 ^ d * 256) * 256 ^ i := by
        rw [Nat.pow_add, Nat.pow_succ, Nat.mul_comm (256 ^ i), Nat.mul_assoc, Nat.mul_assoc, Nat.mul_assoc]
      rw [e, Nat.add_mul_div_right _ _ (Nat.pow_pos (by decide)), Nat.add_mul_mod_self_right]
      exact takeN_byte s a (i + (d + 1)) i hlt
theorem list_sb (s : ByteArray) (i : Nat) (h : i < s.data.toList.length) : s.data.toList[i] = UInt8.ofNat (sb s i) := by
  unfold sb
  rw [List.getElem?_eq_getElem h]
  simp
theorem numB_take (s : ByteArray) (a k : Nat) (h : a + k ≤ s.size) : numB (takeN s a k) k = s.extract a (a + k) := by
  apply ByteArray.ext
  apply Array.toList_inj.1
  have hl : s.data.toList.length = s.size := by simp
  rw [Lib.extract_data, show a + k - a = k from by omega]
  apply List.ext_getElem
  · rw [numB, strOfNums_data, List.length_map, numL_length, List.length_take, List.length_drop]
    omega
  · intro i h1 h2
    have hi : i < k := by rw [numB, strOfNums_data, List.length_map, numL_length] at h1; exact h1
    rw [List.getElem_take, List.getElem_drop, list_sb s (a + i) (by omega), ← takeN_byte s a k i hi]
    simp only [numB, strOfNums_data, numL, List.map_map, List.getElem_map, Function.comp, List.getElem_range]
    rw [nbyte_nat, Int.toNat_natCast]
theorem numB_inj (n m k : Nat) (hn : n < 256 ^ k) (hm : m < 256 ^ k) (h : numB n k = numB m k) : n = m := by
  have h1 := takeN_numB n k k (Nat.le_refl _)
  have h2 := takeN_numB m k k (Nat.le_refl _)
  rw [h, h2, Nat.mod_eq_of_lt hn, Nat.mod_eq_of_lt hm] at h1
  exact h1.symm
theorem numB_wider (n k : Nat) (h : n < 256 ^ k) : numB n (k + 1) = numB n k ++ ⟨#[0]⟩ := by
  apply ByteArray.ext
  apply Array.toList_inj.1
  rw [app_list]
  simp only [numB, strOfNums_data, numL, List.range_succ, List.map_append, List.map_cons, List.map_nil]
  rw [high_zero n k h k (Nat.le_refl _)]
  simp
theorem app_right_inj (a s t : ByteArray) (h : a ++ s = a ++ t) : s = t := by
  apply ByteArray.ext
  apply Array.toList_inj.1
  have := congrArg (fun x : ByteArray => x.data.toList) h
  simp only [app_list] at this
  exact List.append_cancel_left this
theorem extract_app (a s : ByteArray) : (a ++ s).extract a.size (a.size + s.size) = s := by
  apply ByteArray.ext
  apply Array.toList_inj.1
  have ha : a.data.toList.length = a.size := by simp
  have hs : s.data.toList.length = s.size := by simp
  rw [Lib.extract_data, app_list, ← ha, List.drop_left, List.take_of_length_le (by omega)]
theorem extract_left (a s : ByteArray) : (a ++ s).extract 0 a.size = a := by
  apply ByteArray.ext
  apply Array.toList_inj.1
  have ha : a.data.toList.length = a.size := by simp
  rw [Lib.extract_data, app_list, ← ha, List.drop_zero, Nat.sub_zero, List.take_left]
theorem app_assoc (a b c : ByteArray) : a ++ (b ++ c) = (a ++ b) ++ c := by
  apply ByteArray.ext
  apply Array.toList_inj.1
  simp only [app_list, List.append_assoc]

/-! ### what was put is taken -/
theorem take_put {s : ByteArray} {n : Nat} {wd : Int} (h : putOk n wd) : takeE (s ++ putS n wd) s.size wd = 0 ∧ takeV (s ++ putS n wd) s.size wd = (n : Int) ∧ (putS n wd).size = wd.toNat := by
  have h' := h
  obtain ⟨h1, h2, h3⟩ := h'
  rw [putS_yes h]
  have hok : takeOk (s ++ numB n wd.toNat) s.size wd := ⟨h1, h2, by omega, by rw [ByteArray.size_append, numB_size]; omega⟩
  refine ⟨takeE_yes hok, ?_, numB_size _ _⟩
  rw [takeV_yes hok, Int.toNat_natCast, takeN_back s n _ h3]
theorem tok_text {s t : ByteArray} (h : textOk t) : tokE (s ++ textS t) s.size = 0 ∧ tokS (s ++ textS t) s.size = t ∧ tokI (s ++ textS t) s.size = (s.size : Int) + ((textS t).size : Int) := by
  have hlt : t.size < 256 ^ 2 := by unfold textOk at h; rw [show (256 : Nat) ^ 2 = 65536 from rfl]; omega
  rw [textS_yes h, app_assoc]
  have hN : takeN (s ++ numB t.size 2 ++ t) s.size 2 = t.size := by
    have hsz : (s ++ numB t.size 2).size = s.size + 2 := by rw [ByteArray.size_append, numB_size]
    rw [takeN_congr (s ++ numB t.size 2 ++ t) (s ++ numB t.size 2) s.size s.size 2 (fun i hi => sb_left _ _ _ (by omega)), takeN_back s t.size 2 hlt]
  have hsz : (s ++ numB t.size 2 ++ t).size = s.size + 2 + t.size := by rw [ByteArray.size_append, ByteArray.size_append, numB_size]
  have hok : tokOk (s ++ numB t.size 2 ++ t) s.size := ⟨⟨by decide, by decide, by omega, by rw [hsz]; omega⟩, by rw [Int.toNat_natCast, hN, hsz]; omega⟩
  refine ⟨tokE_yes hok, ?_, ?_⟩
  · rw [tokS_yes hok, hN]
    have := extract_app (s ++ numB t.size 2) t
    rw [ByteArray.size_append, numB_size] at this
    exact this
  · rw [tokI_yes hok, hN, ByteArray.size_append, numB_size]
    omega
theorem put_take {s : ByteArray} {at0 wd : Int} (h : takeOk s at0 wd) : ∃ a k : Nat, at0 = a ∧ wd = k ∧ 1 ≤ k ∧ k ≤ 8 ∧ a + k ≤ s.size ∧ takeV s at0 wd = ((takeN s a k : Nat) : Int) ∧ takeN s a k < 256 ^ 8 ∧ putE (takeN s a k) wd = 0 ∧ putS (takeN s a k) wd = s.extract a (a + k) ∧ (s.extract a (a + k)).size = k := by
  have h' := h
  obtain ⟨h1, h2, h3, h4⟩ := h'
  obtain ⟨k, rfl⟩ := Int.eq_ofNat_of_zero_le (show 0 ≤ wd by omega)
  obtain ⟨a, rfl⟩ := Int.eq_ofNat_of_zero_le h3
  have hlt := takeN_lt s a k
  have hok : putOk (takeN s a k) (k : Int) := ⟨h1, h2, by rw [Int.toNat_natCast]; exact hlt⟩
  refine ⟨a, k, rfl, rfl, by omega, by omega, by omega, ?_, Nat.lt_of_lt_of_le hlt (Nat.pow_le_pow_right (by decide) (by omega)), putE_yes hok, ?_, ?_⟩
  · rw [takeV_yes h, Int.toNat_natCast, Int.toNat_natCast]
  · rw [putS_yes hok, Int.toNat_natCast, numB_take s a k (by omega)]
  · rw [ByteArray.size_extract]
    omega

/-! ### what is fitted, what is bare -/
theorem zeros_none : zeros 0 = ⟨#[]⟩ := rfl
theorem app_none (s : ByteArray) : s ++ (⟨#[]⟩ : ByteArray) = s := by
  apply ByteArray.ext
  apply Array.toList_inj.1
  rw [app_list]
  simp
theorem fit_again {s : ByteArray} {size : Int} (h : fitOk s size) : fitE (fitS s size) size = 0 ∧ fitS (fitS s size) size = fitS s size ∧ ((fitS s size).size : Int) = size ∧ bareB (fitS s size) s.size = true ∧ (fitS s size).extract 0 s.size = s ∧ s.size ≤ (fitS s size).size := by
  have h' := h
  obtain ⟨h1, h2⟩ := h'
  obtain ⟨k, rfl⟩ := Int.eq_ofNat_of_zero_le (show 0 ≤ size by omega)
  have hsz : (fitS s (k : Int)).size = k := by rw [fitS_yes h, ByteArray.size_append, zeros_size, Int.toNat_natCast]; omega
  have hok : fitOk (fitS s (k : Int)) k := ⟨by rw [hsz]; omega, h2⟩
  refine ⟨fitE_yes hok, ?_, by rw [hsz], ?_, ?_, by rw [hsz]; omega⟩
  · rw [fitS_yes hok, hsz, Int.toNat_natCast, Nat.sub_self, zeros_none, app_none]
  · rw [fitS_yes h]
    unfold bareB
    rw [app_list, List.drop_append_of_le_length (by simp), List.drop_of_length_le (by simp)]
    simp [zeros]
  · rw [fitS_yes h, extract_left]
theorem bare_app (s t : ByteArray) : bareB (s ++ t) 0 = (bareB s 0 && bareB t 0) := by
  unfold bareB
  rw [List.drop_zero, List.drop_zero, List.drop_zero, app_list, List.all_append]

end Go.Proofs.YtkipkcmcolomcaaGreat
