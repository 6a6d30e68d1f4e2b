/- InodeSizes, walked. -/
import Derived.Test.YtbadkbfcfcgfhaaInoArgs
namespace Go.Proofs.Ytbadkbfcfcgfhaa.Ino
open Go.RowKit Go.Shelf
attribute [local go_sem] Oper.semAt_some
set_option linter.unusedVariables false
set_option linter.unusedSimpArgs false
section
set_option maxRecDepth 100000
set_option maxHeartbeats 4000000
theorem sizes_nat (a b : Nat) (w : World) (wa : a < 4294967296) (wb : b < 4294967296) : Calls Try.prog 6 #[.int .u32 a, .int .u32 b] w fun e w' => e = .returned (.bool true) ∧ Below w.heap.size w w' := by
  have B1 := Lib.hid (fun W => blocks_any a W wa)
  have B2 := Lib.hid (fun W => blocks_any b W wb)
  have D1 := Lib.hid (fun W => depth_any a W wa)
  have D2 := Lib.hid (fun W => depth_any b W wb)
  have hr := bl_room a
  have hl := bl_le a wa
  have hd := dp_le a
  have hm : a ≤ b → blN a ≤ blN b ∧ dpN a ≤ dpN b := fun h => ⟨bl_mono h, dp_mono h⟩
  obtain ⟨x, hx⟩ : ∃ x, blN a = x := ⟨_, rfl⟩
  obtain ⟨y, hy⟩ : ∃ y, blN b = y := ⟨_, rfl⟩
  obtain ⟨u, hu⟩ : ∃ u, dpN a = u := ⟨_, rfl⟩
  obtain ⟨v, hv⟩ : ∃ v, dpN b = v := ⟨_, rfl⟩
  rw [hx] at B1 hr hl hm
  rw [hy] at B2 hm
  rw [hu] at D1 hd hm
  rw [hv] at D2 hm
  have hw : IntKind.u64.wrap (x : Int) = x := by rw [IntKind.wrap_u64]; omega
  obtain ⟨z, hz⟩ : ∃ z, x * 508 = z := ⟨_, rfl⟩
  have hz1 : (x : Int) * 508 = (z : Int) := by omega
  rw [hz] at hr
  obtain ⟨hr1, hr2⟩ := hr
  have hw2 : IntKind.u64.wrap (z : Int) = z := by rw [IntKind.wrap_u64]; omega
  have hw3 : IntKind.u64.wrap (a : Int) = a := by rw [IntKind.wrap_u64]; omega
  have hw4 : IntKind.u64.wrap ((a : Int) + 508) = (a : Int) + 508 := by rw [IntKind.wrap_u64]; omega
  have g1 : (a : Int) ≤ (z : Int) := by omega
  have g2 : (z : Int) < (a : Int) + 508 := by omega
  have g3 : (0 : Int) ≤ (u : Int) := by omega
  have g4 : (u : Int) ≤ 2 := by omega
  by_cases hab : b < a
  · have hab2 : (b : Int) < (a : Int) := by omega
    clear hx hy hu hv hz hm hr1 hr2 hl wa wb
    go_enter Try.func6, Try.ntmps6
    go_wp2_with (first
      | (go_at_call 8; refine (shown_any _).mono ?_; rintro e w1 ⟨rfl, hB1⟩)
      | (go_at_call 15; (with_reducible refine Calls.mono (B1.out _) ?_); rintro e w3 ⟨rfl, rfl⟩)
      | (go_at_call 15; (with_reducible refine Calls.mono (B2.out _) ?_); rintro e w3 ⟨rfl, rfl⟩)
      | (go_at_call 17; (with_reducible refine Calls.mono (D1.out _) ?_); rintro e w3 ⟨rfl, rfl⟩))
    go_ret
    exact ⟨rfl, hB1⟩
  · have hab2 : ¬ (b : Int) < (a : Int) := by omega
    obtain ⟨m1, m2⟩ := hm (by omega)
    have g5 : (x : Int) ≤ (y : Int) := by omega
    have g6 : (u : Int) ≤ (v : Int) := by omega
    clear hx hy hu hv hz hm hr1 hr2 hl wa wb
    go_enter Try.func6, Try.ntmps6
    go_wp2_with (first
      | (go_at_call 8; refine (shown_any _).mono ?_; rintro e w1 ⟨rfl, hB1⟩)
      | (go_at_call 15; (with_reducible refine Calls.mono (B1.out _) ?_); rintro e w3 ⟨rfl, rfl⟩)
      | (go_at_call 15; (with_reducible refine Calls.mono (B2.out _) ?_); rintro e w3 ⟨rfl, rfl⟩)
      | (go_at_call 17; (with_reducible refine Calls.mono (D1.out _) ?_); rintro e w3 ⟨rfl, rfl⟩)
      | (go_at_call 17; (with_reducible refine Calls.mono (D2.out _) ?_); rintro e w3 ⟨rfl, rfl⟩))
    go_ret
    exact ⟨rfl, hB1⟩
theorem InodeSizes_walk (a b : Int) (w : World) (w0 : (Lit.int .u32 a).wf = true) (w1 : (Lit.int .u32 b).wf = true) : Calls Try.prog 6 #[.int .u32 a, .int .u32 b] w fun e w' => e = .returned (.bool true) ∧ Below w.heap.size w w' := by
  have k0 := bounds32 w0
  have k1 := bounds32 w1
  obtain ⟨a, rfl⟩ := Int.eq_ofNat_of_zero_le k0.1
  obtain ⟨b, rfl⟩ := Int.eq_ofNat_of_zero_le k1.1
  exact sizes_nat a b w (by omega) (by omega)
end
end Go.Proofs.Ytbadkbfcfcgfhaa.Ino
