/- DirsEmpties, walked. -/
import Derived.Test.YtafbkagoajcmeaaDirsListsW
namespace Go.Proofs.Ytafbkagoajcmeaa.Dir
open Go.RowKit
set_option linter.unusedVariables false
set_option linter.unusedSimpArgs false
/-- one listed name dropped: the others stay -/
theorem empties_step {r : ByteArray} {R M : List N} {k : Nat} (hD : DirP r R) (hp : R.Perm (M.drop k)) (hk : k < M.length) :
    ∃ R2 t, findE R (nm M k).name = 0 ∧ dropV R (nm M k).name = t ∧ DirP t R2 ∧ R2.Perm (M.drop (k + 1)) ∧ t.size + 6 + (nm M k).name.size = r.size := by
  have hd : M.drop k = nm M k :: M.drop (k + 1) := by
    rw [List.drop_eq_getElem_cons hk, nm_elem hk]
  rw [hd] at hp
  obtain ⟨j, hj, e⟩ := mem_nm (hp.mem_iff.2 (List.mem_cons_self ..))
  obtain ⟨h1, _⟩ := found_at hD.1 hj (s := (nm M k).name) (v := (nm M k).ino) e
  have hx : idx R (nm M k).name = j := idx_eq hD.1 hj (by rw [e])
  have hV : dropV R (nm M k).name = bytesL (R.eraseIdx j) := by
    unfold dropV
    rw [if_pos h1, hx]
  obtain ⟨e1, e2⟩ := erase_split hj
  have hpr : R.Perm (nm M k :: R.eraseIdx j) := by
    rw [e2, ← e]
    have : R.Perm (nm R j :: (R.take j ++ R.drop (j + 1))) := by
      conv => lhs; rw [e1]
      exact List.perm_middle
    exact this
  have hsz := erase_size hj
  rw [e, hD.2.1] at hsz
  exact ⟨R.eraseIdx j, _, h1, hV, hD.erase hj, (hpr.symm.trans hp).cons_inv, hsz⟩
section
attribute [local go_sem] Oper.semAt_some
set_option maxRecDepth 100000
set_option maxHeartbeats 8000000
theorem DirsEmpties_walk (s : ByteArray) (w : World) (z0 : s.size ≤ 140737488351232) : Calls Try.prog 8 #[.string s] w fun e w' => e = .returned (.bool true) ∧ Below w.heap.size w w' := by
  obtain ⟨K, hK⟩ : ∃ K, min s.size 3000 = K := ⟨_, rfl⟩
  have hk1 : (min (s.size : Int) 3000) = (K : Int) := by omega
  have hk2 : (K : Int) ≤ (s.size : Int) := by omega
  have hk3 : K ≤ s.size := by omega
  obtain ⟨c, hc⟩ : ∃ c, s.extract 0 K = c := ⟨_, rfl⟩
  have hcz : c.size ≤ 3000 := by rw [← hc, ByteArray.size_extract]; omega
  obtain ⟨D, hD⟩ := DirO.ex c
  have hL := Lib.hid (fun W => list_any c D W (by omega) hD)
  clear hK
  cases D with
  | none =>
    unfold ListPost at hL
    clear hcz hD z0
    go_enter Try.func8, Try.ntmps8
    go_wp2_with (first
      | (go_at_call 9; refine (shown_any _).mono ?_; rintro e w1 ⟨rfl, hB1⟩)
      | (go_at_call 11; (with_reducible refine Calls.mono (hL.out _) ?_); rintro e w3 ⟨rfl, hB3⟩))
    go_ret
    exact ⟨rfl, below_th hB1 hB3⟩
  | some L =>
    unfold ListPost at hL
    have HFA : Hid (∀ M, SortP L M → M.length ≤ 3333 ∧ L.Perm (M.drop 0)) := fun M hM => ⟨by rw [hM.1.length_eq]; exact DirP.len hD, hM.1.symm⟩
    have HD := Lib.hid hD
    clear hcz hD z0
    obtain ⟨W0, rfl⟩ : ∃ W0 : World, W0 = w := ⟨_, rfl⟩
    go_enter Try.func8, Try.ntmps8
    go_wp2_with (first
      | (go_at_call 9; refine (shown_any _).mono ?_; rintro e w1 ⟨rfl, hB1⟩)
      | (go_at_call 11; (with_reducible refine Calls.mono (hL.out _) ?_); rintro e w3 ⟨v, M, rfl, hM, hN, hB3⟩; have HM := Lib.hid (HFA.out M hM); obtain ⟨av, cap, ev, hc1, hc2⟩ := hN.parts; have HN := Lib.hid hN; have HB3 := Lib.hid (below_th hB1 hB3); obtain ⟨n, hn⟩ : ∃ n, M.length = n := ⟨_, rfl⟩; have HLN := Lib.hid hn; rw [hn] at ev hc1 HM; subst ev; clear hM hN hn hB1 hB3))
    obtain ⟨hnl, hP0⟩ := HM.out
    have HP0 := Lib.hid hP0
    clear hP0 HM HFA
    go_loopw [0, 6] (fun r i wr => ∃ (k : Nat) (R : List N) (t : ByteArray), k ≤ n ∧ i = .int .i64 (k : Int) ∧ r = .string t ∧ Hid (DirP t R) ∧ Hid (R.Perm (M.drop k)) ∧ Hid (Below w3.heap.size w3 wr)) (fun _ i _ => n - (intOf i).toNat)
    case atStart => exact ⟨0, L, _, by omega, rfl, rfl, HD.out, HP0.out, Below.refl _ _⟩
    case round =>
      obtain ⟨k, R, t, hk, rfl, rfl, HDR, HPR, HBk⟩ := hrel
      by_cases hlt : k < n
      · obtain ⟨R2, t2, f1, f2, hD2, hP2, hsz⟩ := empties_step HDR.out HPR.out (by rw [HLN.out]; exact hlt)
        have hs := HDR.out.2.2
        have h1 := HN.out.at (k := k) (by rw [HLN.out]; exact hlt)
        rw [HLN.out] at h1
        obtain ⟨b1, o1, c1, e1, _, _⟩ := h1
        cases e1
        have hrd := fun (W : World) (h : Below wr.heap.size wr W) => ((HN.out.below HBk.out).below h).get HLN.out hlt
        unfold Reads at hrd
        obtain ⟨x, hx⟩ : ∃ x, nm M k = x := ⟨_, rfl⟩
        rw [hx] at f1 f2 hsz
        simp only [hx] at hrd
        obtain ⟨xn, xi⟩ := x
        dsimp only at f1 f2 hsz hrd
        have hDr := fun W => drop_any t xn (some R) W (by omega) (by omega) HDR.out
        simp only [dropVo, findEo, f1, f2] at hDr
        have HDr := Lib.hid hDr
        have HRD := Lib.hid hrd
        have HD2 := Lib.hid hD2
        have HP2 := Lib.hid hP2
        obtain ⟨r0, r1⟩ := hrd wr (Below.refl _ _)
        have hw1 : IntKind.i64.wrap ((t.size : Int) - 6) = (t2.size : Int) + (xn.size : Int) := by rw [IntKind.wrap_i64] <;> omega
        have hw2 : IntKind.i64.wrap ((t2.size : Int) + (xn.size : Int) - (xn.size : Int)) = (t2.size : Int) := by rw [IntKind.wrap_i64] <;> omega
        have hw3 : IntKind.i64.wrap (t2.size : Int) = (t2.size : Int) := by rw [IntKind.wrap_i64]; omega
        have hw4 : (t2.size : Int) + (xn.size : Int) - (xn.size : Int) = (t2.size : Int) := by omega
        clear hDr hrd hD2 hP2 hx f1 f2 hs hsz
        have hkn : (k : Int) < (n : Int) := by omega
        go_wp2_with (go_at_call 22; (with_reducible refine Calls.mono (HDr.out _) ?_); rintro e w4 ⟨rfl, hB4⟩; obtain ⟨q0, q1⟩ := HRD.out _ hB4)
        go_roundw
        case rel => exact ⟨k + 1, R2, t2, by omega, by go_num, rfl, HD2.out, HP2.out, below_th HBk.out hB4⟩
        case measure => simp [intOf]; omega
      · obtain rfl : k = n := by omega
        have hr : R = [] := by
          have h := HPR.out.length_eq
          rw [List.length_drop, HLN.out] at h
          exact List.eq_nil_of_length_eq_zero (by omega)
        have ht : t = ⟨#[]⟩ := by
          have h := HDR.out.2.1
          rw [hr] at h
          exact h.symm
        subst ht
        clear hr
        go_wp2
        go_ret
        exact ⟨rfl, below_th HB3.out HBk.out⟩
end
end Go.Proofs.Ytafbkagoajcmeaa.Dir
