/- SuperPlaces, walked. -/
import Derived.OpenShut
import Derived.Test.YtmknjnmbdnlkpaaSupLaw
namespace Go.Proofs.Ytmknjnmbdnlkpaa.Super
open Go.RowKit Go.Shelf
attribute [local go_sem] Oper.semAt_some
set_option linter.unusedVariables false

section
set_option maxRecDepth 100000
set_option maxHeartbeats 1000000
theorem SuperPlaces_walk (a0 : Int) (w : World) (w0 : (Lit.int .u64 a0).wf = true) : Calls Try.prog 7 #[.int .u64 a0] w fun e w' => e = .returned (.bool true) ∧ Below w.heap.size w w' := by
  have b0 := bounds_u64 w0
  obtain ⟨n, rfl⟩ := Int.eq_ofNat_of_zero_le b0.1
  have hw1 : IntKind.u64.wrap ((n : Int) + 1) = (((n + 1) % 18446744073709551616 : Nat) : Int) := by rw [IntKind.wrap_u64]; omega
  have hw2 : IntKind.u64.wrap ((n : Int) + 2) = (((n + 2) % 18446744073709551616 : Nat) : Int) := by rw [IntKind.wrap_u64]; omega
  obtain ⟨m, hm⟩ : ∃ m, (n + 1) % 18446744073709551616 = m := ⟨_, rfl⟩
  obtain ⟨k, hk⟩ : ∃ k, (n + 2) % 18446744073709551616 = k := ⟨_, rfl⟩
  have hm2 : m % 2 = (n + 1) % 2 := by omega
  have hk2 : k % 2 = n % 2 := by omega
  rw [hm] at hw1
  rw [hk] at hw2
  clear hm hk w0 b0
  by_cases h : n % 2 = 1
  · have P1 := Lib.hid (fun W => place_odd n W h)
    have P2 := Lib.hid (fun W => place_even m W (by omega))
    have P3 := Lib.hid (fun W => place_odd k W (by omega))
    clear h hm2 hk2
    go_enter Try.func7, Try.ntmps7
    go_wp2_with (first
      | (go_at_call 8; refine (shown_any _).mono ?_; rintro e u1 ⟨rfl, hB1⟩)
      | (go_at_call 17; with_reducible refine Calls.mono (P1.out _) ?_; rintro e u2 ⟨rfl, rfl⟩)
      | (go_at_call 17; with_reducible refine Calls.mono (P2.out _) ?_; rintro e u2 ⟨rfl, rfl⟩)
      | (go_at_call 17; with_reducible refine Calls.mono (P3.out _) ?_; rintro e u2 ⟨rfl, rfl⟩))
    go_ret
    exact ⟨rfl, hB1⟩
  · have P1 := Lib.hid (fun W => place_even n W (by omega))
    have P2 := Lib.hid (fun W => place_odd m W (by omega))
    have P3 := Lib.hid (fun W => place_even k W (by omega))
    clear h hm2 hk2
    go_enter Try.func7, Try.ntmps7
    go_wp2_with (first
      | (go_at_call 8; refine (shown_any _).mono ?_; rintro e u1 ⟨rfl, hB1⟩)
      | (go_at_call 17; with_reducible refine Calls.mono (P1.out _) ?_; rintro e u2 ⟨rfl, rfl⟩)
      | (go_at_call 17; with_reducible refine Calls.mono (P2.out _) ?_; rintro e u2 ⟨rfl, rfl⟩)
      | (go_at_call 17; with_reducible refine Calls.mono (P3.out _) ?_; rintro e u2 ⟨rfl, rfl⟩))
    go_ret
    exact ⟨rfl, hB1⟩
end
end Go.Proofs.Ytmknjnmbdnlkpaa.Super
