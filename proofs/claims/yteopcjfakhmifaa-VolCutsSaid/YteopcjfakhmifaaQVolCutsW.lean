/- VolCuts, walked, given what the program answers. -/
import Derived.Test.YteopcjfakhmifaaPk26
import Derived.Test.YteopcjfakhmifaaPk01
namespace Go.Proofs.Yteopcjfakhmifaa.Vol
open Go.RowKit
attribute [local go_sem] Oper.semAt_some
set_option linter.unusedVariables false
set_option linter.unusedSimpArgs false
theorem lit32 {n : Int} (h : (Lit.int .u32 n).wf = true) : ∃ k : Nat, n = (k : Int) ∧ k < 4294967296 := by
  have h1 : IntKind.u32.min = 0 := rfl
  have h2 : IntKind.u32.max = 4294967295 := rfl
  simp only [Lit.wf, Bool.and_eq_true, decide_eq_true_eq] at h
  exact ⟨n.toNat, by omega, by omega⟩
section
set_option maxRecDepth 100000
set_option maxHeartbeats 2000000
theorem VolCuts_given (G : Given) (was is : ByteArray) (v : Value) (C : List ByteArray) (n : Int) (w : World) (z0 : was.size ≤ 140737488351232) (z1 : is.size ≤ 140737488351232) (hL : Lies w v C.length 1 (C.map .string)) (wL : ∀ s ∈ C, s.size ≤ maxLen) (w3 : (Lit.int .u32 n).wf = true) :
    Calls Try.prog 3 #[.string was, .string is, v, .int .u32 n] w fun e w' => e = .returned (.bool true) ∧ Below w.heap.size w w' := by
  obtain ⟨n, rfl, hn⟩ := lit32 w3
  have hS : Strs w v C := hL
  obtain ⟨a, cap, rfl, m1, m2⟩ := hS.parts
  obtain ⟨N, hN⟩ : ∃ N, C.length = N := ⟨_, rfl⟩
  rw [hN] at hS m1 ⊢
  obtain ⟨m, hm⟩ : ∃ m, min N 30 = m := ⟨_, rfl⟩
  have hmI : min (N : Int) 30 = (m : Int) := by omega
  have hmN : (m : Int) ≤ (N : Int) := by omega
  have hmc : (m : Int) ≤ (cap : Int) := by omega
  have HS := Lib.hid (hS.cut hN m (by omega))
  obtain ⟨D, hD⟩ : ∃ D, C.take m = D := ⟨_, rfl⟩
  have hDl : D.length = m := by rw [← hD, List.length_take]; omega
  have hDs : ∀ i, i < D.length → (tx D i).size ≤ 9223372036854775807 := fun i hi => by
    have h1 := tx_get hi
    rw [← hD] at h1
    have h2 := wL _ (List.mem_of_mem_take (List.mem_of_getElem? h1))
    unfold maxLen at h2
    rw [← hD]
    omega
  rw [hD] at HS
  have HP := Lib.hid (fun W (h : Strs W (.slice a m cap) D) => G.paste _ D n W h hn (by omega) hDs)
  have HP2 := Lib.hid (fun W (h : Strs W (.slice a m cap) D) => R.paste_any _ D n W h hn (by omega) hDs)
  obtain ⟨PV, hPV⟩ : ∃ x, pasteV D n = x := ⟨_, rfl⟩
  obtain ⟨PE, hPE⟩ : ∃ x, pasteE D n = x := ⟨_, rfl⟩
  rw [hPV, hPE] at HP HP2
  have HSH := Lib.hid (fun W => shown_any G W)
  have HC0 := Lib.hid (fun W => cutl_any was W (Nat.le_trans z0 (by decide)))
  have HC1 := Lib.hid (fun W => cutl_any is W (Nat.le_trans z1 (by decide)))
  obtain ⟨x, hx⟩ : ∃ x, hd was = x := ⟨_, rfl⟩
  obtain ⟨y, hy⟩ : ∃ y, hd is = y := ⟨_, rfl⟩
  have hxs : x.size ≤ 100000 := by have := hd_size was; rw [hx] at this; omega
  have hys : y.size ≤ 100000 := by have := hd_size is; rw [hy] at this; omega
  rw [hx] at HC0
  rw [hy] at HC1
  have HT := Lib.hid (fun W => G.cut y W hys)
  have HT2 := Lib.hid (fun W => R.cut_any y W hys)
  have HX := Lib.hid (fun W => G.changed x y W hxs hys)
  have HX2 := Lib.hid (fun W => R.changed_any x y W hxs hys)
  obtain ⟨CU, hCU⟩ : ∃ l, cuts y = l := ⟨_, rfl⟩
  obtain ⟨CH, hCH⟩ : ∃ l, chg x y = l := ⟨_, rfl⟩
  have HST : Hid (∀ (u v : Value) (W : World), Strs W u CU → Strs W v CU → Calls Try.prog 14 #[u, v] W (Ans W (.bool true))) := fun u v W h1 h2 => by
    have h := R.texts_any u v CU CU W h1 h2
    rw [decide_eq_true rfl] at h
    exact h
  have HSI : Hid (∀ (u v : Value) (W : World), Ints W u CH → Ints W v CH → Calls Try.prog 17 #[u, v] W (Ans W (.bool true))) := fun u v W h1 h2 => by
    have h := R.ints_any u v CH CH W h1 h2
    rw [decide_eq_true rfl] at h
    exact h
  have HCU := Lib.hid hCU
  have HCH := Lib.hid hCH
  have hsq : (PV.toList == PV.toList) = true := by simp
  clear hS hL wL hN hm hD hDl hDs hPV hPE hx hy hxs hys hCU hCH hn z0 z1 w3
  go_enter Try.func3, Try.ntmps3
  go_wp2_with (first
    | (go_at_call 10; (with_reducible refine Calls.mono (HSH.out _) ?_); rintro e w1 ⟨rfl, hB1⟩; have HB1 := Lib.hid hB1; have HS1 := Lib.hid (HS.out.below hB1); clear hB1)
    | (go_at_call 11; (with_reducible refine Calls.mono (HC0.out _) ?_); rintro e w2 ⟨rfl, rfl⟩)
    | (go_at_call 11; (with_reducible refine Calls.mono (HC1.out _) ?_); rintro e w2 ⟨rfl, rfl⟩)
    | (go_at_call 12; (with_reducible refine Calls.mono (HP.out _ HS1.out) ?_); rintro e w3 ⟨rfl, hB3⟩; have HS3 := Lib.hid (HS1.out.below hB3); have HB3 := Lib.hid (below_th HB1.out hB3); clear hB3)
    | (go_at_call 13; (with_reducible refine Calls.mono (HP2.out _ HS3.out) ?_); rintro e w4 ⟨rfl, hB4⟩; have HB4 := Lib.hid (below_th HB3.out hB4); clear hB4)
    | (go_at_call 15; (with_reducible refine Calls.mono (HT.out _) ?_); rintro e w5 ⟨v5, rfl, hV5, hB5⟩; rw [HCU.out] at hV5; have HV5 := Lib.hid hV5; have HB5 := Lib.hid (below_th HB4.out hB5); clear hV5 hB5)
    | (go_at_call 16; (with_reducible refine Calls.mono (HT2.out _) ?_); rintro e w6 ⟨v6, rfl, hV6, hB6⟩; rw [HCU.out] at hV6; have HV6 := Lib.hid hV6; have HV56 := Lib.hid (HV5.out.below hB6); have HB6 := Lib.hid (below_th HB5.out hB6); clear hV6 hB6)
    | (go_at_call 14; (with_reducible refine Calls.mono (HST.out _ _ _ HV56.out HV6.out) ?_); rintro e w7 ⟨rfl, hB7⟩; have HB7 := Lib.hid (below_th HB6.out hB7); clear hB7)
    | (go_at_call 18; (with_reducible refine Calls.mono (HX.out _) ?_); rintro e w8 ⟨v8, rfl, hV8, hB8⟩; rw [HCH.out] at hV8; have HV8 := Lib.hid hV8; have HB8 := Lib.hid (below_th HB7.out hB8); clear hV8 hB8)
    | (go_at_call 19; (with_reducible refine Calls.mono (HX2.out _) ?_); rintro e w9 ⟨v9, rfl, hV9, hB9⟩; rw [HCH.out] at hV9; have HV9 := Lib.hid hV9; have HV89 := Lib.hid (HV8.out.below hB9); have HB9 := Lib.hid (below_th HB8.out hB9); clear hV9 hB9)
    | (go_at_call 17; (with_reducible refine Calls.mono (HSI.out _ _ _ HV89.out HV9.out) ?_); rintro e w10 ⟨rfl, hB10⟩; have HB10 := Lib.hid (below_th HB9.out hB10); clear hB10))
  go_ret
  exact ⟨rfl, HB10.out⟩
end
end Go.Proofs.Yteopcjfakhmifaa.Vol
