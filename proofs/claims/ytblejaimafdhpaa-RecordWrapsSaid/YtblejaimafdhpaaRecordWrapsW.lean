/- RecordWraps, walked. -/
import Derived.OpenShut
import Derived.Test.YtblejaimafdhpaaRecShown
namespace Go.Proofs.Ytblejaimafdhpaa.Record
open Go.RowKit Go.Shelf
attribute [local go_sem] Oper.semAt_some
set_option linter.unusedVariables false

section
set_option maxRecDepth 100000
set_option maxHeartbeats 2000000
theorem RecordWraps_walk (a0 : ByteArray) (a1 : ByteArray) (a2 : Int) (w : World) (z0 : a0.size ≤ 140737488351232) (z1 : a1.size ≤ 140737488351232) (w2 : (Lit.int .i64 a2).wf = true) : Calls Try.prog 4 #[.string a0, .string a1, .int .i64 a2] w fun e w' => e = .returned (.bool true) ∧ Below w.heap.size w w' := by
  have h1 : IntKind.i64.min = -9223372036854775808 := rfl
  have h2 : IntKind.i64.max = 9223372036854775807 := rfl
  have b2 : -9223372036854775808 ≤ a2 ∧ a2 ≤ 9223372036854775807 := by
    simp only [Lit.wf, Bool.and_eq_true, decide_eq_true_eq] at w2
    omega
  have HSH := Lib.hid (fun W => shown_any W)
  unfold Ans at HSH
  have HW := Lib.hid (fun W => wrap_any a0 W (by omega))
  have HWR := Lib.hid (fun W => wrap_ref a0 W (by omega))
  have HU := Lib.hid (fun W => unwrap_any a1 W (by omega))
  have HUR := Lib.hid (fun W => unwrap_ref a1 W (by omega))
  have HR := Lib.hid (fun W => room_any a2 W b2.1 b2.2)
  have HRR := Lib.hid (fun W => room_ref a2 W b2.1 b2.2)
  obtain ⟨x, hx⟩ : ∃ x, wrapS a0 = x := ⟨_, rfl⟩
  obtain ⟨y, hy⟩ : ∃ y, wrapE a0 = y := ⟨_, rfl⟩
  obtain ⟨s, hs⟩ : ∃ s, unwS a1 = s := ⟨_, rfl⟩
  obtain ⟨t, ht⟩ : ∃ t, unwE a1 = t := ⟨_, rfl⟩
  obtain ⟨r, hr⟩ : ∃ r, roomV a2 = r := ⟨_, rfl⟩
  simp only [hx, hy, hs, ht, hr] at HW HWR HU HUR HR HRR
  clear h1 h2 w2 b2 hx hy hs ht hr
  go_enter Try.func4, Try.ntmps4
  go_wp2_with (first
    | (go_at_call 9; refine (HSH.out _).mono ?_; rintro e u1 ⟨rfl, hB1⟩; have hb := hB1)
    | (go_at_call 17; refine (HW.out _).mono ?_; rintro e u1 ⟨rfl, hB1⟩; have hb := below_th hb hB1)
    | (go_at_call 18; refine (HWR.out _).mono ?_; rintro e u1 ⟨rfl, hB1⟩; have hb := below_th hb hB1)
    | (go_at_call 19; refine (HU.out _).mono ?_; rintro e u1 ⟨rfl, hB1⟩; have hb := below_th hb hB1)
    | (go_at_call 20; refine (HUR.out _).mono ?_; rintro e u1 ⟨rfl, rfl⟩)
    | (go_at_call 21; refine (HR.out _).mono ?_; rintro e u2 ⟨rfl, rfl⟩)
    | (go_at_call 22; refine (HRR.out _).mono ?_; rintro e u2 ⟨rfl, rfl⟩))
  go_ret
  exact ⟨rfl, hb⟩
end
end Go.Proofs.Ytblejaimafdhpaa.Record
