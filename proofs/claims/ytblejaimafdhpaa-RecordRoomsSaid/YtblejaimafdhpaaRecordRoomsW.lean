/- RecordRooms, walked. -/
import Derived.OpenShut
import Derived.Test.YtblejaimafdhpaaRecShown
namespace Go.Proofs.Ytblejaimafdhpaa.Record
open Go.RowKit Go.Shelf
attribute [local go_sem] Oper.semAt_some
set_option linter.unusedVariables false

section
set_option maxRecDepth 100000
set_option maxHeartbeats 2000000
theorem RecordRooms_walk (a0 : Int) (w : World) (w0 : (Lit.int .i64 a0).wf = true) : Calls Try.prog 8 #[.int .i64 a0] w fun e w' => e = .returned (.bool true) ∧ Below w.heap.size w w' := by
  have h1 : IntKind.i64.min = -9223372036854775808 := rfl
  have h2 : IntKind.i64.max = 9223372036854775807 := rfl
  have b0 : -9223372036854775808 ≤ a0 ∧ a0 ≤ 9223372036854775807 := by
    simp only [Lit.wf, Bool.and_eq_true, decide_eq_true_eq] at w0
    omega
  have HSH := Lib.hid (fun W => shown_any W)
  unfold Ans at HSH
  clear h1 h2 w0
  by_cases hneg : a0 < 0
  · have hR := room_any a0
    rw [roomV_neg hneg] at hR
    have HR := Lib.hid (fun W => hR W b0.1 b0.2)
    have q1 : ¬ (0 : Int) < a0 := by omega
    clear hR
    go_enter Try.func8, Try.ntmps8
    go_wp2_with (first
      | (go_at_call 9; refine (HSH.out _).mono ?_; rintro e u1 ⟨rfl, hB1⟩)
      | (go_at_call 21; with_reducible refine Calls.mono (HR.out _) ?_; rintro e u2 ⟨rfl, rfl⟩))
    go_ret
    exact ⟨rfl, hB1⟩
  · by_cases hbig : a0 > 1099511627776
    · have q1 : (0 : Int) < a0 := by omega
      go_enter Try.func8, Try.ntmps8
      go_wp2_with (go_at_call 9; refine (HSH.out _).mono ?_; rintro e u1 ⟨rfl, hB1⟩)
      go_ret
      exact ⟨rfl, hB1⟩
    · have hw1 : IntKind.i64.wrap (a0 + 1) = a0 + 1 := by rw [IntKind.wrap_i64]; omega
      have hw2 : IntKind.i64.wrap (a0 + 16) = a0 + 16 := by rw [IntKind.wrap_i64]; omega
      have hR1 := room_any a0
      have hR2 := room_any (a0 + 1)
      have hR3 := room_any (a0 + 16)
      rw [roomV_pos hneg] at hR1
      rw [roomV_pos (by omega)] at hR2 hR3
      have e3 : (a0 + 16) % 16 = a0 % 16 := by omega
      rw [e3] at hR3
      have HR1 := Lib.hid (fun W => hR1 W (by omega) (by omega))
      have HR2 := Lib.hid (fun W => hR2 W (by omega) (by omega))
      have HR3 := Lib.hid (fun W => hR3 W (by omega) (by omega))
      obtain ⟨n, hn⟩ : ∃ n, 15 - a0 % 16 = n := ⟨_, rfl⟩
      obtain ⟨m, hm⟩ : ∃ m, 15 - (a0 + 1) % 16 = m := ⟨_, rfl⟩
      have f1 : 0 ≤ n ∧ n < 16 := by omega
      have f2 : (n = 0 ∧ m = 15) ∨ (0 < n ∧ m = n - 1) := by omega
      rw [hn] at HR1 HR3
      rw [hm] at HR2
      obtain ⟨f0, f00⟩ := f1
      clear hR1 hR2 hR3 hn hm e3
      rcases f2 with ⟨rfl, rfl⟩ | ⟨f3, rfl⟩
      · go_enter Try.func8, Try.ntmps8
        go_wp2_with (first
          | (go_at_call 9; refine (HSH.out _).mono ?_; rintro e u1 ⟨rfl, hB1⟩)
          | (go_at_call 21; with_reducible refine Calls.mono (HR1.out _) ?_; rintro e u2 ⟨rfl, rfl⟩)
          | (go_at_call 21; with_reducible refine Calls.mono (HR2.out _) ?_; rintro e u2 ⟨rfl, rfl⟩)
          | (go_at_call 21; with_reducible refine Calls.mono (HR3.out _) ?_; rintro e u2 ⟨rfl, rfl⟩))
        go_ret
        exact ⟨rfl, hB1⟩
      · have q0 : (n == 0) = false := by simp; omega
        have hw3 : IntKind.i64.wrap (n - 1) = n - 1 := by rw [IntKind.wrap_i64]; omega
        go_enter Try.func8, Try.ntmps8
        go_wp2_with (first
          | (go_at_call 9; refine (HSH.out _).mono ?_; rintro e u1 ⟨rfl, hB1⟩)
          | (go_at_call 21; with_reducible refine Calls.mono (HR1.out _) ?_; rintro e u2 ⟨rfl, rfl⟩)
          | (go_at_call 21; with_reducible refine Calls.mono (HR2.out _) ?_; rintro e u2 ⟨rfl, rfl⟩)
          | (go_at_call 21; with_reducible refine Calls.mono (HR3.out _) ?_; rintro e u2 ⟨rfl, rfl⟩))
        go_ret
        exact ⟨rfl, hB1⟩
end
end Go.Proofs.Ytblejaimafdhpaa.Record
