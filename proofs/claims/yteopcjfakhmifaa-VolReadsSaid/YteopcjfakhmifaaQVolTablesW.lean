/- VolTables, walked, given what the program answers. -/
import Derived.Test.YteopcjfakhmifaaPk26
import Derived.Test.YteopcjfakhmifaaPk01
namespace Go.Proofs.Yteopcjfakhmifaa.Vol
open Go.RowKit
open Ino (I M IOk)
attribute [local go_sem] Oper.semAt_some
set_option linter.unusedVariables false
set_option linter.unusedSimpArgs false
theorem ok_take {L : List I} (h : ∀ x ∈ L, IOk x) (m i : Nat) : IOk (ino (L.take m) i) := by
  by_cases hi : i < (L.take m).length
  · exact h _ (List.mem_of_mem_take (List.mem_of_getElem? (ino_get hi)))
  · have : ino (L.take m) i = I.zero := by unfold ino; rw [List.getD_eq_getElem?_getD, List.getElem?_eq_none (by omega)]; rfl
    rw [this]
    exact IOk.zero
section
set_option maxRecDepth 100000
set_option maxHeartbeats 2000000
theorem VolTables_given (G : Given) (v : Value) (L : List I) (u : Value) (C : List ByteArray) (w : World) (hL : Inos w v L) (wL : ∀ x ∈ L, IOk x) (hC : Lies w u C.length 1 (C.map .string)) (wC : ∀ s ∈ C, s.size ≤ maxLen) :
    Calls Try.prog 5 #[v, u] w fun e w' => e = .returned (.bool true) ∧ Below w.heap.size w w' := by
  have hS : Strs w u C := hC
  obtain ⟨a, cap, rfl, m1, m2⟩ := hS.parts
  obtain ⟨N, hN⟩ : ∃ N, C.length = N := ⟨_, rfl⟩
  rw [hN] at hS m1 ⊢
  obtain ⟨m, hm⟩ : ∃ m, min N 30 = m := ⟨_, rfl⟩
  have hmI : min (N : Int) 30 = (m : Int) := by omega
  have hmN : (m : Int) ≤ (N : Int) := by omega
  have hmc : (m : Int) ≤ (cap : Int) := by omega
  have HS := Lib.hid (hS.cut hN m (by omega))
  obtain ⟨D, hD⟩ : ∃ D, C.take m = D := ⟨_, rfl⟩
  have hDl : D.length = m := by rw [← hD, List.length_take]; omega
  have hDs : ∀ i, i < D.length → (tx D i).size ≤ 9223372036854775807 := fun i hi => by
    have h1 := tx_get hi
    rw [← hD] at h1
    have h2 := wC _ (List.mem_of_mem_take (List.mem_of_getElem? h1))
    unfold maxLen at h2
    rw [← hD]
    omega
  rw [hD] at HS
  obtain ⟨a2, cap2, rfl, q1, q2⟩ := hL.parts
  obtain ⟨N2, hN2⟩ : ∃ N, L.length = N := ⟨_, rfl⟩
  rw [hN2] at hL q1 ⊢
  obtain ⟨k, hk⟩ : ∃ m, min N2 250 = m := ⟨_, rfl⟩
  have hkI : min (N2 : Int) 250 = (k : Int) := by omega
  have hkN : (k : Int) ≤ (N2 : Int) := by omega
  have hkc : (k : Int) ≤ (cap2 : Int) := by omega
  have HI := Lib.hid (hL.cut hN2 k (by omega))
  obtain ⟨E, hE⟩ : ∃ E, L.take k = E := ⟨_, rfl⟩
  have hEl : E.length = k := by rw [← hE, List.length_take]; omega
  have hEo : ∀ i, IOk (ino E i) := fun i => by rw [← hE]; exact ok_take wL k i
  rw [hE] at HI
  have HT := Lib.hid (fun W (h : Inos W (.slice a2 k cap2) E) => G.table _ E W h hEo (by omega))
  have HT2 := Lib.hid (fun W (h : Inos W (.slice a2 k cap2) E) => R.table_any _ E W h hEo (by omega))
  have HJ := Lib.hid (fun W (h : Strs W (.slice a m cap) D) => G.inos _ D W h (by omega) hDs)
  have HJ2 := Lib.hid (fun W (h : Strs W (.slice a m cap) D) => R.inos_any _ D W h (by omega) hDs)
  unfold TabPost at HT HT2
  unfold InosPost at HJ HJ2
  obtain ⟨TV, hTV⟩ : ∃ x, tabV E = x := ⟨_, rfl⟩
  obtain ⟨TE, hTE⟩ : ∃ x, tabE E = x := ⟨_, rfl⟩
  obtain ⟨JV, hJV⟩ : ∃ x, inosV D = x := ⟨_, rfl⟩
  obtain ⟨JE, hJE⟩ : ∃ x, inosE D = x := ⟨_, rfl⟩
  rw [hTV, hTE] at HT HT2
  rw [hJV, hJE] at HJ HJ2
  have HSH := Lib.hid (fun W => shown_any G W)
  have HST : Hid (∀ (u v : Value) (W : World), Strs W u TV → Strs W v TV → Calls Try.prog 14 #[u, v] W (Ans W (.bool true))) := fun u v W h1 h2 => by
    have h := R.texts_any u v TV TV W h1 h2
    rw [decide_eq_true rfl] at h
    exact h
  have HSN : Hid (∀ (u v : Value) (W : World), Inos W u JV → Inos W v JV → Calls Try.prog 31 #[u, v] W (Ans W (.bool true))) := fun u v W h1 h2 => by
    have h := R.inodes_any u v JV JV W h1 h2
    rw [decide_eq_true rfl] at h
    exact h
  clear hS hL hC wL wC hN hN2 hm hk hD hDl hDs hE hEl hEo hTV hTE hJV hJE
  go_enter Try.func5, Try.ntmps5
  go_wp2_with (first
    | (go_at_call 10; (with_reducible refine Calls.mono (HSH.out _) ?_); rintro e w1 ⟨rfl, hB1⟩; have HB1 := Lib.hid hB1; have HS1 := Lib.hid (HS.out.below hB1); have HI1 := Lib.hid (HI.out.below hB1); clear hB1)
    | (go_at_call 27; (with_reducible refine Calls.mono (HT.out _ HI1.out) ?_); rintro e w2 ⟨v2, rfl, hV2, hB2⟩; have HV2 := Lib.hid hV2; have HS2 := Lib.hid (HS1.out.below hB2); have HI2 := Lib.hid (HI1.out.below hB2); have HB2 := Lib.hid (below_th HB1.out hB2); clear hB2 hV2)
    | (go_at_call 28; (with_reducible refine Calls.mono (HT2.out _ HI2.out) ?_); rintro e w3 ⟨v3, rfl, hV3, hB3⟩; have HV3 := Lib.hid hV3; have HV23 := Lib.hid (HV2.out.below hB3); have HS3 := Lib.hid (HS2.out.below hB3); have HB3 := Lib.hid (below_th HB2.out hB3); clear hB3 hV3)
    | (go_at_call 29; (with_reducible refine Calls.mono (HJ.out _ HS3.out) ?_); rintro e w4 ⟨v4, rfl, hV4, hB4⟩; have HV4 := Lib.hid hV4; have HV24 := Lib.hid (HV23.out.below hB4); have HV34 := Lib.hid (HV3.out.below hB4); have HS4 := Lib.hid (HS3.out.below hB4); have HB4 := Lib.hid (below_th HB3.out hB4); clear hB4 hV4)
    | (go_at_call 30; (with_reducible refine Calls.mono (HJ2.out _ HS4.out) ?_); rintro e w5 ⟨v5, rfl, hV5, hB5⟩; have HV5 := Lib.hid hV5; have HV25 := Lib.hid (HV24.out.below hB5); have HV35 := Lib.hid (HV34.out.below hB5); have HV45 := Lib.hid (HV4.out.below hB5); have HB5 := Lib.hid (below_th HB4.out hB5); clear hB5 hV5)
    | (go_at_call 14; (with_reducible refine Calls.mono (HST.out _ _ _ HV25.out HV35.out) ?_); rintro e w6 ⟨rfl, hB6⟩; have HV46 := Lib.hid (HV45.out.below hB6); have HV56 := Lib.hid (HV5.out.below hB6); have HB6 := Lib.hid (below_th HB5.out hB6); clear hB6)
    | (go_at_call 31; (with_reducible refine Calls.mono (HSN.out _ _ _ HV46.out HV56.out) ?_); rintro e w7 ⟨rfl, hB7⟩; have HB7 := Lib.hid (below_th HB6.out hB7); clear hB7))
  go_ret
  exact ⟨rfl, HB7.out⟩
end
end Go.Proofs.Yteopcjfakhmifaa.Vol
