/- VolTurns, walked, given what the program answers. -/
import Derived.Deep.Cut
import Derived.Deep.DeepCutAuto
import Derived.Test.YteopcjfakhmifaaPk26
import Derived.Test.YteopcjfakhmifaaPk01
namespace Go.Proofs.Yteopcjfakhmifaa.Vol
open Go.RowKit
attribute [local go_sem] Oper.semAt_some
set_option linter.unusedVariables false
set_option linter.unusedSimpArgs false
theorem lit8 {n : Int} (h : (Lit.int .u8 n).wf = true) : ∃ k : Nat, n = (k : Int) ∧ k < 256 := by
  have h1 : IntKind.u8.min = 0 := rfl
  have h2 : IntKind.u8.max = 255 := rfl
  simp only [Lit.wf, Bool.and_eq_true, decide_eq_true_eq] at h
  exact ⟨n.toNat, by omega, by omega⟩
theorem lit64 {n : Int} (h : (Lit.int .i64 n).wf = true) : -9223372036854775808 ≤ n ∧ n ≤ 9223372036854775807 := by
  have h1 : IntKind.i64.min = -9223372036854775808 := rfl
  have h2 : IntKind.i64.max = 9223372036854775807 := rfl
  simp only [Lit.wf, Bool.and_eq_true, decide_eq_true_eq] at h
  omega
/-- one byte, as a text -/
theorem conv_one (W : World) (g : Nat) (c : Nat) (h : W.cell? ⟨g, 0, none⟩ = some (.int .u8 (c : Int))) : (convert 57 9 (.slice (some ⟨g, 0, none⟩) 1 1)).run Try.prog W = .ok (.string ⟨#[UInt8.ofNat c]⟩) W := by
  have h1 := run_convert_bytes_arg (P := Try.prog) W 57 5 Try.underlying57 Try.underlying5 g 0 1 1 [(c : Int)] rfl (fun i hi => by
    obtain rfl : i = 0 := by omega
    exact h) 9 Try.underlying9
  rw [h1]
  simp [strOfNums]
section
set_option maxRecDepth 100000
set_option maxHeartbeats 2000000
theorem VolTurns_given (G : Given) (s : ByteArray) (at' c : Int) (w : World) (z0 : s.size ≤ 140737488351232) (w1 : (Lit.int .i64 at').wf = true) (w2 : (Lit.int .u8 c).wf = true) :
    Calls Try.prog 9 #[.string s, .int .i64 at', .int .u8 c] w fun e w' => e = .returned (.bool true) ∧ Below w.heap.size w w' := by
  obtain ⟨c, rfl, hc⟩ := lit8 w2
  have h64 := lit64 w1
  have HSH := Lib.hid (fun W => shown_any G W)
  have HC0 := Lib.hid (fun W => cutl_any s W (Nat.le_trans z0 (by decide)))
  obtain ⟨y, hy⟩ : ∃ x, hd s = x := ⟨_, rfl⟩
  have hys : y.size ≤ 10000 := by have := hd_size s; rw [hy] at this; exact this
  rw [hy] at HC0
  clear hy z0 w1 w2
  by_cases h1 : at' < 0
  · go_enter Try.func9, Try.ntmps9
    go_wp2_with (first
      | (go_at_call 10; (with_reducible refine Calls.mono (HSH.out _) ?_); rintro e w1 ⟨rfl, hB1⟩; have HB1 := Lib.hid hB1; clear hB1)
      | (go_at_call 11; (with_reducible refine Calls.mono (HC0.out _) ?_); rintro e w2 ⟨rfl, rfl⟩))
    go_ret
    exact ⟨rfl, HB1.out⟩
  · obtain ⟨a, rfl⟩ := Int.eq_ofNat_of_zero_le (by omega : 0 ≤ at')
    by_cases h2 : y.size ≤ a
    · have g2 : decide ((a : Int) ≥ (y.size : Int)) = true := decide_eq_true (by omega)
      have g3 : (y.size : Int) ≤ (a : Int) := by omega
      go_enter Try.func9, Try.ntmps9
      go_wp2_with (first
        | (go_at_call 10; (with_reducible refine Calls.mono (HSH.out _) ?_); rintro e w1 ⟨rfl, hB1⟩; have HB1 := Lib.hid hB1; clear hB1)
        | (go_at_call 11; (with_reducible refine Calls.mono (HC0.out _) ?_); rintro e w2 ⟨rfl, rfl⟩))
      go_ret
      exact ⟨rfl, HB1.out⟩
    · have hay : a < y.size := by omega
      have g2 : decide ((a : Int) ≥ (y.size : Int)) = false := decide_eq_false (by omega)
      have g3 : ¬ (y.size : Int) ≤ (a : Int) := by omega
      have g4 : (a : Int) ≤ (y.size : Int) := by omega
      have g5 : IntKind.i64.wrap ((a : Int) + 1) = (a : Int) + 1 := by rw [IntKind.wrap_i64]; omega
      have g6 : (a : Int) + 1 ≤ (y.size : Int) := by omega
      have g7 : a + 1 ≤ y.size := by omega
      obtain ⟨q, hq⟩ : ∃ q, a / 508 = q := ⟨_, rfl⟩
      have hqe : (a : Int) / 508 = (q : Int) := by omega
      have hqt : (a : Int).tdiv 508 = (q : Int) := by rw [Int.tdiv_eq_ediv_of_nonneg (by omega)]; exact hqe
      have hqw : IntKind.i64.wrap (q : Int) = (q : Int) := by rw [IntKind.wrap_i64]; omega
      obtain ⟨t, ht⟩ : ∃ t, turn y a (UInt8.ofNat c) = t := ⟨_, rfl⟩
      have hts : t.size = y.size := by rw [← ht]; exact turn_size hay _
      have HCH : Hid (chg y t = if t = y then [] else [q]) := by unfold Hid; rw [← ht, ← hq]; exact chg_turn hay _
      have HX := Lib.hid (fun W => G.changed y t W (by omega) (by omega))
      obtain ⟨A1, hA1⟩ : ∃ x, y.extract 0 a = x := ⟨_, rfl⟩
      obtain ⟨A3, hA3⟩ : ∃ x, y.extract (a + 1) y.size = x := ⟨_, rfl⟩
      have ht2 : A1 ++ ⟨#[UInt8.ofNat c]⟩ ++ A3 = t := by rw [← hA1, ← hA3, ← ht]; rfl
      have s1 : A1.size ≤ 10000 := by rw [← hA1, ByteArray.size_extract]; omega
      have s3 : A3.size ≤ 10000 := by rw [← hA3, ByteArray.size_extract]; omega
      obtain ⟨O, hO⟩ : ∃ O, Obj.cells #[Value.int .u8 (c : Int)] 5 = O := ⟨_, rfl⟩
      have HCV : Hid (∀ W : World, (convert 57 9 (.slice (some ⟨W.heap.size, 0, none⟩) 1 1)).run Try.prog (W.alloc O).drew = .ok (.string ⟨#[UInt8.ofNat c]⟩) (W.alloc O).drew) := fun W => by rw [← hO]; exact conv_one _ _ c (by
        have hh := World.alloc_heap_new W (.cells #[Value.int .u8 (c : Int)] 5)
        show (W.alloc (.cells #[Value.int .u8 (c : Int)] 5)).cell? ⟨W.heap.size, 0, none⟩ = _
        simp only [World.cell?, hh]
        rfl)
      obtain ⟨x1, hx1⟩ : ∃ x : ByteArray, ⟨#[UInt8.ofNat c]⟩ = x := ⟨_, rfl⟩
      rw [hx1] at HCV ht2
      have sx : x1.size = 1 := by rw [← hx1]; rfl
      have hadd1 := fun W => run_string_add_sum (P := Try.prog) (w := W) A1 x1 (by omega)
      have hadd2 := fun W => run_string_add_sum (P := Try.prog) (w := W) (A1 ++ x1) A3 (by rw [ByteArray.size_append]; omega)
      rw [ht2] at hadd2
      clear ht hq
      go_enter Try.func9, Try.ntmps9
      go_upto_region 5 with (first
        | (go_at_call 10; (with_reducible refine Calls.mono (HSH.out _) ?_); rintro e w1 ⟨rfl, hB1⟩; have HB1 := Lib.hid hB1; have hcv := HCV.out w1; clear hB1)
        | (go_at_call 11; (with_reducible refine Calls.mono (HC0.out _) ?_); rintro e w2 ⟨rfl, rfl⟩))
      go_region
      have HBO := Lib.hid (show Below w.heap.size w (w1.alloc O).drew from below_drew (below_al HB1.out O))
      by_cases hty : t = y
      · subst hty
        have HE : Hid (chg t t = []) := by unfold Hid; rw [HCH.out, if_pos rfl]
        have hsq : (t.toList == t.toList) = true := by simp
        go_wp2_with (first
          | (go_at_call 18; (with_reducible refine Calls.mono (HX.out _) ?_); rintro e w4 ⟨v4, rfl, hS4, hB4⟩; rw [HE.out] at hS4; obtain ⟨a4, cap4, rfl, m3, m4⟩ := hS4.parts; have HB4 := Lib.hid (below_th HBO.out hB4); clear hS4 hB4))
        go_ret
        exact ⟨rfl, HB4.out⟩
      · have HE : Hid (chg y t = [q]) := by unfold Hid; rw [HCH.out, if_neg hty]
        have hsq := str_ne hty
        have hqq : ((q : Int) == (q : Int)) = true := by simp
        go_wp2_with (first
          | (go_at_call 18; (with_reducible refine Calls.mono (HX.out _) ?_); rintro e w4 ⟨v4, rfl, hS4, hB4⟩; rw [HE.out] at hS4; obtain ⟨a4, cap4, rfl, m3, m4⟩ := hS4.parts; obtain ⟨b4, off4, e4, r4⟩ := hS4.at (n := 1) rfl (k := 0) (by omega); cases e4; have c4 : w4.cell? ⟨b4, off4, none⟩ = some (.int .i64 (q : Int)) := r4 q rfl; have HB4 := Lib.hid (below_th HBO.out hB4); clear hS4 hB4 r4))
        go_ret
        exact ⟨rfl, HB4.out⟩
end
end Go.Proofs.Yteopcjfakhmifaa.Vol
