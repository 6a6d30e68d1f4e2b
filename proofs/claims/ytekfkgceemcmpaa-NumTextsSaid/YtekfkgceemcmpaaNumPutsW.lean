/- The walk of NumPuts: it answers true. -/
import Derived.Test.YtekfkgceemcmpaaNumTok
import Derived.OpenShut
namespace Go.Proofs.Ytekfkgceemcmpaa
open Go.RowKit Go.Shelf
set_option linter.unusedVariables false

theorem u64_bound {n : Nat} (h : (Lit.int .u64 (n : Int)).wf = true) : n < 256 ^ 8 := by
  have := bounds_u64 h
  rw [eight]
  omega

set_option maxRecDepth 100000 in
set_option maxHeartbeats 400000 in
theorem NumPuts_walk (a0 : Int) (a1 : Int) (a2 : ByteArray) (a3 : Int) (w0 : (Lit.int .u64 a0).wf = true) (w1 : (Lit.int .i64 a1).wf = true) (z2 : a2.size ≤ 140737488351232) (w3 : (Lit.int .i64 a3).wf = true) (w : World) :
    Calls Try.prog 3 #[.int .u64 a0, .int .i64 a1, .string a2, .int .i64 a3] w fun e w' => e = .returned (.bool true) ∧ Below w.heap.size w w' := by
  have b0 := bounds_u64 w0
  have b3 := bounds_i64 w3
  obtain ⟨n, rfl⟩ := Int.eq_ofNat_of_zero_le b0.1
  have hn := Lib.hid (u64_bound w0)
  have hs : a2.size ≤ 281474976710656 := by omega
  go_enter Try.func3, Try.ntmps3
  go_wp2_with (first | (go_at_call 10; refine (shown_any _).mono ?_; rintro e u1 ⟨rfl, hB1⟩) | (go_at_call 11; refine (put_any _ _ _ hn.out).mono ?_; rintro e u2 ⟨rfl, hB2⟩) | (go_at_call 12; refine (put_ref _ _ _ hn.out).mono ?_; rintro e u3 ⟨rfl, hB3⟩) | (go_at_call 13; refine (take_any _ _ _ _ hs b3.2).mono ?_; rintro e u4 ⟨rfl, hB4⟩) | (go_at_call 14; refine (take_ref _ _ _ _ hs b3.2).mono ?_; rintro e u5 ⟨rfl, rfl⟩))
  go_ret
  have h2 := hB1.trans (hB2.mono hB1.size)
  have h3 := h2.trans (hB3.mono h2.size)
  exact ⟨rfl, h3.trans (hB4.mono h3.size)⟩

end Go.Proofs.Ytekfkgceemcmpaa
