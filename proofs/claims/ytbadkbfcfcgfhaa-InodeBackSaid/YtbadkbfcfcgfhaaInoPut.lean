/- Inodes of a block: what is put. -/
import Derived.Test.YtbadkbfcfcgfhaaInoGet
namespace Go.Proofs.Ytbadkbfcfcgfhaa.Ino
open Go.RowKit Go.Shelf
attribute [local go_sem] Oper.semAt_some
set_option linter.unusedVariables false
set_option linter.unusedSimpArgs false
section
set_option maxRecDepth 100000
set_option maxHeartbeats 8000000
theorem put_no (c : ByteArray) (k : Int) (n : I) (w : World) (hc : c.size ≤ 281474976710656) (h : ¬ hasP c k) : Calls Try.prog 21 #[.string c, .int .i64 k, n.val] w (Ans w (.tuple #[.string (putV c k n), .int .i64 (putEr c k n)])) := by
  have HV : Hid (putV c k n = ⟨#[]⟩ ∧ putEr c k n = 2) := ⟨putV_no (.inl h), putEr_no h⟩
  have HB := Lib.hid (below_new w (boxO n))
  unfold boxO at HB
  unfold I.val
  have hH := fun W => has_any c k W hc
  rw [decide_eq_false h] at hH
  clear h hc
  go_enter Try.func21, Try.ntmps21
  go_wp2_with (go_at_call 33; refine (hH _).mono ?_; rintro e w1 ⟨rfl, rfl⟩)
  go_ret2
  exact ⟨by rw [HV.out.1, HV.out.2]; rfl, HB.out⟩
theorem put_wrong (c : ByteArray) (k : Nat) (n : I) (hn : IOk n) (w : World) (h : hasP c k) (hr : ¬ RightP n) : Calls Try.prog 21 #[.string c, .int .i64 k, n.val] w (Ans w (.tuple #[.string (putV c k n), .int .i64 (putEr c k n)])) := by
  have hc : c.size ≤ 281474976710656 := by have := h.1; omega
  have HV : Hid (putV c k n = ⟨#[]⟩ ∧ putEr c k n = 100) := ⟨putV_no (.inr hr), by rw [putEr_yes h, encE_no hr]⟩
  have hH := fun W => has_any c k W hc
  rw [decide_eq_true h] at hH
  have hE := fun W => encode_any n hn W
  rw [encS_no hr, encE_no hr] at hE
  have HB := Lib.hid (below_new w (boxO n))
  obtain ⟨h1, _, h3⟩ := h
  have q1 : ((c.size : Int) != 508) = false := by simp; omega
  have q2 : ¬ (k : Int) < 0 := by omega
  have q3 : ¬ (12 : Int) ≤ (k : Int) := by omega
  unfold boxO at HB
  unfold I.val at hE ⊢
  have HE := Lib.hid hE
  clear hE h1 h3 hc hr hn
  go_enter Try.func21, Try.ntmps21
  go_wp2_with (first
    | (go_at_call 33; refine (hH _).mono ?_; rintro e w1 ⟨rfl, rfl⟩)
    | (go_at_call 9; (with_reducible refine Calls.mono (HE.out _) ?_); rintro e w2 ⟨rfl, hB2⟩))
  go_ret2
  exact ⟨by rw [HV.out.1, HV.out.2]; rfl, below_th HB.out hB2⟩
theorem put_yes (c : ByteArray) (k : Nat) (n : I) (hn : IOk n) (w : World) (h : hasP c k) (hr : RightP n) : Calls Try.prog 21 #[.string c, .int .i64 k, n.val] w (Ans w (.tuple #[.string (putV c k n), .int .i64 (putEr c k n)])) := by
  have hc : c.size ≤ 281474976710656 := by have := h.1; omega
  have HV : Hid (putV c k n = c.extract 0 (k * 42) ++ bytes n ++ c.extract (k * 42 + 42) c.size ∧ putEr c k n = 0) := ⟨by rw [putV_yes h hr, Int.toNat_natCast]; rfl, by rw [putEr_yes h, encE_yes hr]⟩
  have hH := fun W => has_any c k W hc
  rw [decide_eq_true h] at hH
  have hE := fun W => encode_any n hn W
  rw [encS_yes hr, encE_yes hr] at hE
  have HB := Lib.hid (below_new w (boxO n))
  obtain ⟨h1, _, h3⟩ := h
  have hk : k < 12 := by omega
  have w1 : IntKind.i64.wrap ((k : Int) * 42) = (k : Int) * 42 := by rw [IntKind.wrap_i64]; omega
  obtain ⟨p, hp⟩ : ∃ p, k * 42 = p := ⟨_, rfl⟩
  have hpp : (k : Int) * 42 = (p : Int) := by omega
  have w2 : IntKind.i64.wrap ((p : Int) + 42) = (p : Int) + 42 := by rw [IntKind.wrap_i64]; omega
  have r1 : (p : Int) + 42 ≤ (c.size : Int) := by omega
  have r2 : p + 42 ≤ c.size := by omega
  have r3 : (p : Int) ≤ (c.size : Int) := by omega
  have r4 : p ≤ c.size := by omega
  have q1 : ((c.size : Int) != 508) = false := by simp; omega
  have q2 : ¬ (k : Int) < 0 := by omega
  have q3 : ¬ (12 : Int) ≤ (k : Int) := by omega
  obtain ⟨E, hEe⟩ : ∃ E, bytes n = E := ⟨_, rfl⟩
  have hz : E.size = 42 := by rw [← hEe, bytes_size]
  rw [hp, hEe] at HV
  rw [hEe] at hE
  have hadd1 := fun W => run_string_add_sum (P := Try.prog) (w := W) (c.extract 0 p) E (by rw [ByteArray.size_extract]; omega)
  have hadd2 := fun W => run_string_add_sum (P := Try.prog) (w := W) (c.extract 0 p ++ E) (c.extract (p + 42) c.size) (by simp only [ByteArray.size_append, ByteArray.size_extract]; omega)
  unfold boxO at HB
  unfold I.val at hE ⊢
  have HE := Lib.hid hE
  clear hE h1 h3 hc hr hn hp hEe hk hz
  go_enter Try.func21, Try.ntmps21
  go_wp2_with (first
    | (go_at_call 33; refine (hH _).mono ?_; rintro e w1 ⟨rfl, rfl⟩)
    | (go_at_call 9; (with_reducible refine Calls.mono (HE.out _) ?_); rintro e w2 ⟨rfl, hB2⟩))
  go_region
  go_wp2
  all_goals
    go_ret2
    exact ⟨by rw [HV.out.1, HV.out.2]; rfl, (below_th HB.out hB2).drew⟩
theorem put_any (c : ByteArray) (k : Int) (n : I) (hn : IOk n) (w : World) (hc : c.size ≤ 281474976710656) : Calls Try.prog 21 #[.string c, .int .i64 k, n.val] w (Ans w (.tuple #[.string (putV c k n), .int .i64 (putEr c k n)])) := by
  by_cases h : hasP c k
  · obtain ⟨j, rfl⟩ := Int.eq_ofNat_of_zero_le h.2.1
    by_cases hr : RightP n
    · exact put_yes c j n hn w h hr
    · exact put_wrong c j n hn w h hr
  · exact put_no c k n w hc h
theorem R.put_no (c : ByteArray) (k : Int) (n : I) (w : World) (hc : c.size ≤ 281474976710656) (h : ¬ hasP c k) : Calls Try.prog 22 #[.string c, .int .i64 k, n.val] w (Ans w (.tuple #[.string (putV c k n), .int .i64 (putEr c k n)])) := by
  have HV : Hid (putV c k n = ⟨#[]⟩ ∧ putEr c k n = 2) := ⟨putV_no (.inl h), putEr_no h⟩
  have HB := Lib.hid (below_new w (boxO n))
  unfold boxO at HB
  unfold I.val
  by_cases h1 : c.size = 508
  · have q1 : ((c.size : Int) != 508) = false := by simp; omega
    by_cases h2 : k < 0
    · clear h hc h1
      go_enter Try.func22, Try.ntmps22
      go_wp2
      go_ret2
      exact ⟨by rw [HV.out.1, HV.out.2]; rfl, HB.out⟩
    · have h3 : 12 ≤ k := Int.not_lt.1 (fun hh => h ⟨h1, by omega, hh⟩)
      clear h hc h1
      go_enter Try.func22, Try.ntmps22
      go_wp2
      go_ret2
      exact ⟨by rw [HV.out.1, HV.out.2]; rfl, HB.out⟩
  · have q1 : ((c.size : Int) != 508) = true := by simp; omega
    clear h hc h1
    go_enter Try.func22, Try.ntmps22
    go_wp2
    go_ret2
    exact ⟨by rw [HV.out.1, HV.out.2]; rfl, HB.out⟩
theorem R.put_wrong (c : ByteArray) (k : Nat) (n : I) (hn : IOk n) (w : World) (h : hasP c k) (hr : ¬ RightP n) : Calls Try.prog 22 #[.string c, .int .i64 k, n.val] w (Ans w (.tuple #[.string (putV c k n), .int .i64 (putEr c k n)])) := by
  have hc : c.size ≤ 281474976710656 := by have := h.1; omega
  have HV : Hid (putV c k n = ⟨#[]⟩ ∧ putEr c k n = 100) := ⟨putV_no (.inr hr), by rw [putEr_yes h, encE_no hr]⟩
  have hE := fun W => R.encode_any n hn W
  rw [encS_no hr, encE_no hr] at hE
  have HB := Lib.hid (below_new w (boxO n))
  obtain ⟨h1, _, h3⟩ := h
  have q1 : ((c.size : Int) != 508) = false := by simp; omega
  have q2 : ¬ (k : Int) < 0 := by omega
  have q3 : ¬ (12 : Int) ≤ (k : Int) := by omega
  unfold boxO at HB
  unfold I.val at hE ⊢
  have HE := Lib.hid hE
  clear hE h1 h3 hc hr hn
  go_enter Try.func22, Try.ntmps22
  go_wp2_with (first
    | fail
    | (go_at_call 10; (with_reducible refine Calls.mono (HE.out _) ?_); rintro e w2 ⟨rfl, hB2⟩))
  go_ret2
  exact ⟨by rw [HV.out.1, HV.out.2]; rfl, below_th HB.out hB2⟩
theorem R.put_yes (c : ByteArray) (k : Nat) (n : I) (hn : IOk n) (w : World) (h : hasP c k) (hr : RightP n) : Calls Try.prog 22 #[.string c, .int .i64 k, n.val] w (Ans w (.tuple #[.string (putV c k n), .int .i64 (putEr c k n)])) := by
  have hc : c.size ≤ 281474976710656 := by have := h.1; omega
  have HV : Hid (putV c k n = c.extract 0 (k * 42) ++ bytes n ++ c.extract (k * 42 + 42) c.size ∧ putEr c k n = 0) := ⟨by rw [putV_yes h hr, Int.toNat_natCast]; rfl, by rw [putEr_yes h, encE_yes hr]⟩
  have hE := fun W => R.encode_any n hn W
  rw [encS_yes hr, encE_yes hr] at hE
  have HB := Lib.hid (below_new w (boxO n))
  obtain ⟨h1, _, h3⟩ := h
  have hk : k < 12 := by omega
  have w1 : IntKind.i64.wrap ((k : Int) * 42) = (k : Int) * 42 := by rw [IntKind.wrap_i64]; omega
  obtain ⟨p, hp⟩ : ∃ p, k * 42 = p := ⟨_, rfl⟩
  have hpp : (k : Int) * 42 = (p : Int) := by omega
  have w2 : IntKind.i64.wrap ((p : Int) + 42) = (p : Int) + 42 := by rw [IntKind.wrap_i64]; omega
  have r1 : (p : Int) + 42 ≤ (c.size : Int) := by omega
  have r2 : p + 42 ≤ c.size := by omega
  have r3 : (p : Int) ≤ (c.size : Int) := by omega
  have r4 : p ≤ c.size := by omega
  have q1 : ((c.size : Int) != 508) = false := by simp; omega
  have q2 : ¬ (k : Int) < 0 := by omega
  have q3 : ¬ (12 : Int) ≤ (k : Int) := by omega
  obtain ⟨E, hEe⟩ : ∃ E, bytes n = E := ⟨_, rfl⟩
  have hz : E.size = 42 := by rw [← hEe, bytes_size]
  rw [hp, hEe] at HV
  rw [hEe] at hE
  have hadd1 := fun W => run_string_add_sum (P := Try.prog) (w := W) (c.extract 0 p) E (by rw [ByteArray.size_extract]; omega)
  have hadd2 := fun W => run_string_add_sum (P := Try.prog) (w := W) (c.extract 0 p ++ E) (c.extract (p + 42) c.size) (by simp only [ByteArray.size_append, ByteArray.size_extract]; omega)
  unfold boxO at HB
  unfold I.val at hE ⊢
  have HE := Lib.hid hE
  clear hE h1 h3 hc hr hn hp hEe hk hz
  go_enter Try.func22, Try.ntmps22
  go_wp2_with (first
    | fail
    | (go_at_call 10; (with_reducible refine Calls.mono (HE.out _) ?_); rintro e w2 ⟨rfl, hB2⟩))
  go_region
  go_wp2
  all_goals
    go_ret2
    exact ⟨by rw [HV.out.1, HV.out.2]; rfl, (below_th HB.out hB2).drew⟩
theorem R.put_any (c : ByteArray) (k : Int) (n : I) (hn : IOk n) (w : World) (hc : c.size ≤ 281474976710656) : Calls Try.prog 22 #[.string c, .int .i64 k, n.val] w (Ans w (.tuple #[.string (putV c k n), .int .i64 (putEr c k n)])) := by
  by_cases h : hasP c k
  · obtain ⟨j, rfl⟩ := Int.eq_ofNat_of_zero_le h.2.1
    by_cases hr : RightP n
    · exact R.put_yes c j n hn w h hr
    · exact R.put_wrong c j n hn w h hr
  · exact R.put_no c k n w hc h
end
end Go.Proofs.Ytbadkbfcfcgfhaa.Ino
