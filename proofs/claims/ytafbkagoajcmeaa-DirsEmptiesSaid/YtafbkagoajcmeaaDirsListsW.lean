/- DirsLists, walked. -/
import Derived.Test.YtafbkagoajcmeaaDirsMovesW
namespace Go.Proofs.Ytafbkagoajcmeaa.Dir
open Go.RowKit
set_option linter.unusedVariables false
set_option linter.unusedSimpArgs false
theorem bytesL_perm {L M : List N} (h : L.Perm M) : (bytesL L).size = (bytesL M).size := by
  induction h with
  | nil => rfl
  | cons x _ ih => simp only [bytesL, ByteArray.size_append, ih]
  | swap x y l => simp only [bytesL, ByteArray.size_append]; omega
  | trans _ _ h1 h2 => exact h1.trans h2
/-- the bytes that the first k names take -/
def zk (M : List N) (k : Nat) : Nat := (bytesL (M.take k)).size
theorem zk_zero (M : List N) : zk M 0 = 0 := rfl
theorem zk_next {M : List N} {k : Nat} (h : k < M.length) : zk M (k + 1) = zk M k + 6 + (nm M k).name.size := by
  unfold zk
  rw [take_snoc h, bytesL_snoc, ByteArray.size_append, ent_size]
  omega
theorem zk_all (M : List N) : zk M M.length = (bytesL M).size := by unfold zk; rw [List.take_length]
theorem zk_le (M : List N) (k : Nat) : zk M k ≤ (bytesL M).size := by
  have h : bytesL M = bytesL (M.take k) ++ bytesL (M.drop k) := by rw [← bytesL_app, List.take_append_drop]
  unfold zk
  rw [h, ByteArray.size_append]
  omega
/-- what the law asks of the listed names -/
theorem lists_facts {c : ByteArray} {L M : List N} (hD : DirP c L) (hM : SortP L M) :
    (∀ k, k < M.length → findE L (nm M k).name = 0 ∧ findV L (nm M k).name = (nm M k).ino) ∧ (∀ k, k < M.length → (nm M k).name.size ≤ 59) ∧
    (∀ k, k + 1 < M.length → ltB (nm M k).name (nm M (k + 1)).name = true) ∧ zk M M.length = c.size ∧ (∀ k, zk M k ≤ 20000) ∧ M.length ≤ 3333 := by
  have hsz : (bytesL M).size = c.size := by rw [← hD.2.1]; exact bytesL_perm hM.1
  refine ⟨fun k hk => ?_, fun k hk => ?_, fun k hk => hM.2.get (by omega) hk, by rw [zk_all, hsz], fun k => ?_, by rw [hM.1.length_eq]; exact hD.len⟩
  · obtain ⟨j, hj, e⟩ := mem_nm (hM.1.mem_iff.1 (nm_mem hk))
    exact found_at hD.1 hj e
  · exact ((hD.1.perm hM.1.symm).1 k hk).1.2.1
  · have h1 := zk_le M k
    have h2 := hD.2.2
    omega
theorem str_geq (t : TypeId) (a b : ByteArray) : binOp .geq t (.string a) (.string b) = pure (.bool !(Op.bytesLess a.toList b.toList)) := by simp [binOp, Op.stringOp]
section
attribute [local go_sem] Oper.semAt_some str_geq
set_option maxRecDepth 100000
set_option maxHeartbeats 8000000
theorem DirsLists_walk (s : ByteArray) (w : World) (z0 : s.size ≤ 140737488351232) : Calls Try.prog 6 #[.string s] w fun e w' => e = .returned (.bool true) ∧ Below w.heap.size w w' := by
  have hcut := Lib.hid (fun W => cut_any s W (by omega))
  have hcz := cutB_size s
  obtain ⟨c, hc⟩ : ∃ c, cutB s = c := ⟨_, rfl⟩
  rw [hc] at hcz
  rw [hc] at hcut
  clear hc
  obtain ⟨D, hD⟩ := DirO.ex c
  have hL := Lib.hid (fun W => list_any c D W (by omega) hD)
  cases D with
  | none =>
    unfold ListPost at hL
    have hR := Lib.hid (fun W => right_any c none W (by omega) hD)
    unfold rightO at hR
    clear hcz hD z0
    go_enter Try.func6, Try.ntmps6
    go_wp2_with (first
      | (go_at_call 9; refine (shown_any _).mono ?_; rintro e w1 ⟨rfl, hB1⟩)
      | (go_at_call 10; (with_reducible refine Calls.mono (hcut.out _) ?_); rintro e w2 ⟨rfl, rfl⟩)
      | (go_at_call 11; (with_reducible refine Calls.mono (hL.out _) ?_); rintro e w3 ⟨rfl, hB3⟩)
      | (go_at_call 15; (with_reducible refine Calls.mono (hR.out _) ?_); rintro e w4 ⟨rfl, hB4⟩))
    go_ret
    exact ⟨rfl, below_th (below_th hB1 hB3) hB4⟩
  | some L =>
    unfold ListPost at hL
    have HFA : Hid (∀ M, SortP L M → (∀ k, k < M.length → (∀ W, Calls Try.prog 18 #[.string c, .string (nm M k).name] W (Ans W (.tuple #[.int .u32 (nm M k).ino, .int .i64 0])))) ∧ (∀ k, k < M.length → (nm M k).name.size ≤ 59) ∧
        (∀ k, k + 1 < M.length → ltB (nm M k).name (nm M (k + 1)).name = true) ∧ zk M M.length = c.size ∧ (∀ k, zk M k ≤ 20000) ∧ M.length ≤ 3333) := fun M hM => by
      obtain ⟨h1, h2, h3, h4, h5, h7⟩ := lists_facts hD hM
      refine ⟨fun k hk W => ?_, h2, h3, h4, h5, h7⟩
      have h6 := h2 k hk
      have h := find_any c (nm M k).name (some L) W (by omega) (by omega) hD
      simp only [findVo, findEo, (h1 k hk).1, (h1 k hk).2] at h
      exact h
    clear hcz hD z0
    obtain ⟨W0, rfl⟩ : ∃ W0 : World, W0 = w := ⟨_, rfl⟩
    go_enter Try.func6, Try.ntmps6
    go_wp2_with (first
      | (go_at_call 9; refine (shown_any _).mono ?_; rintro e w1 ⟨rfl, hB1⟩)
      | (go_at_call 10; (with_reducible refine Calls.mono (hcut.out _) ?_); rintro e w2 ⟨rfl, rfl⟩)
      | (go_at_call 11; (with_reducible refine Calls.mono (hL.out _) ?_); rintro e w3 ⟨v, M, rfl, hM, hN, hB3⟩; have HM := Lib.hid (HFA.out M hM); obtain ⟨av, cap, ev, hc1, hc2⟩ := hN.parts; have HN := Lib.hid hN; have HB3 := Lib.hid (below_th hB1 hB3); obtain ⟨n, hn⟩ : ∃ n, M.length = n := ⟨_, rfl⟩; have HLN := Lib.hid hn; rw [hn] at ev hc1 HM; subst ev; clear hM hN hn hB1 hB3))
    obtain ⟨hF, hS59, hUp, hZn, hZ, hnl⟩ := HM.out
    have HF := Lib.hid hF
    have HS59 := Lib.hid hS59
    have HUp := Lib.hid hUp
    have HZn := Lib.hid hZn
    have HZ := Lib.hid hZ
    clear hF hS59 hUp hZn hZ HM HFA
    go_loopw [6, 7] (fun sz i wr => ∃ k : Nat, k ≤ n ∧ i = .int .i64 (k : Int) ∧ sz = .int .i64 (zk M k : Nat) ∧ Hid (Below w3.heap.size w3 wr)) (fun _ i _ => n - (intOf i).toNat)
    case atStart => exact ⟨0, by omega, rfl, rfl, Below.refl _ _⟩
    case round =>
      obtain ⟨k, hk, rfl, rfl, HBk⟩ := hrel
      by_cases hlt : k < n
      · have hFi := HF.out k hlt
        have hs := HS59.out k hlt
        have hz1 := zk_next (M := M) (k := k) (by rw [HLN.out]; exact hlt)
        have hz2 := HZ.out k
        have h1 := HN.out.at (k := k) (by rw [HLN.out]; exact hlt)
        rw [HLN.out] at h1
        obtain ⟨b1, o1, c1, e1, _, _⟩ := h1
        cases e1
        have hrd := fun (W : World) (h : Below wr.heap.size wr W) => ((HN.out.below HBk.out).below h).get HLN.out hlt
        unfold Reads at hrd
        by_cases hk0 : k = 0
        · have hk1 : decide (0 < k) = false := decide_eq_false (by omega)
          have hk2 : decide ((0 : Int) < (k : Int)) = false := decide_eq_false (by omega)
          obtain ⟨x, hx⟩ : ∃ x, nm M k = x := ⟨_, rfl⟩
          rw [hx] at hFi hs hz1
          simp only [hx] at hrd
          obtain ⟨xn, xi⟩ := x
          dsimp only at hFi hs hz1 hrd
          generalize zk M k = zz at *
          have HFi := Lib.hid hFi
          have HRD := Lib.hid hrd
          obtain ⟨r0, r1⟩ := hrd wr (Below.refl _ _)
          have HZZ := Lib.hid hz1
          have hw1 : IntKind.i64.wrap (((zz : Int) + 6)) = ((zz + 6 : Nat) : Int) := by rw [IntKind.wrap_i64] <;> omega
          have HKK := Lib.hid hk0
          clear hFi hrd hx hz1 hk0
          have hkn : (k : Int) < (n : Int) := by omega
          go_wp2_with (go_at_call 18; (with_reducible refine Calls.mono (HFi.out _) ?_); rintro e w4 ⟨rfl, hB4⟩; obtain ⟨q0, q1⟩ := HRD.out _ hB4)
          go_quiet (fail)
          go_wp2
          go_roundw
          case rel =>
            refine ⟨k + 1, by omega, by go_num, ?_, below_drewN (below_th HBk.out hB4) _⟩
            rw [HZZ.out]
            go_num
          case measure => simp [intOf]; omega
        · obtain ⟨m, hm⟩ : ∃ m, m + 1 = k := ⟨k - 1, by omega⟩
          have hup := HUp.out m (by rw [hm]; exact hlt)
          have hlm : m < n := by omega
          have hrm := fun (W : World) (h : Below wr.heap.size wr W) => ((HN.out.below HBk.out).below h).get HLN.out hlm
          unfold Reads at hrm
          rw [hm] at hup
          obtain ⟨y, hy⟩ : ∃ y, nm M m = y := ⟨_, rfl⟩
          rw [hy] at hup
          simp only [hy] at hrm
          obtain ⟨yn, yi⟩ := y
          have hm1 : (m : Int) < (n : Int) := by omega
          have hwk : IntKind.i64.wrap ((k : Int) - 1) = (m : Int) := by rw [IntKind.wrap_i64] <;> omega
          have hk1 : decide (0 < k) = true := decide_eq_true (by omega)
          have hk2 : decide ((0 : Int) < (k : Int)) = true := decide_eq_true (by omega)
          obtain ⟨x, hx⟩ : ∃ x, nm M k = x := ⟨_, rfl⟩
          rw [hx] at hFi hs hz1 hup
          simp only [hx] at hrd
          obtain ⟨xn, xi⟩ := x
          dsimp only at hFi hs hz1 hrd hup hrm
          unfold ltB at hup
          generalize zk M k = zz at *
          have HFi := Lib.hid hFi
          have HRD := Lib.hid hrd
          have HRM := Lib.hid hrm
          have HM2 := Lib.hid hm
          obtain ⟨r0, r1⟩ := hrd wr (Below.refl _ _)
          have HZZ := Lib.hid hz1
          have hw1 : IntKind.i64.wrap (((zz : Int) + 6)) = ((zz + 6 : Nat) : Int) := by rw [IntKind.wrap_i64] <;> omega
          have HKK := Lib.hid hk0
          clear hFi hrd hx hz1 hk0 hrm hm hy hlm
          have hkn : (k : Int) < (n : Int) := by omega
          go_wp2_with (go_at_call 18; (with_reducible refine Calls.mono (HFi.out _) ?_); rintro e w4 ⟨rfl, hB4⟩; obtain ⟨q0, q1⟩ := HRD.out _ hB4; obtain ⟨q2, q3⟩ := HRM.out _ hB4)
          go_quiet (fail)
          go_wp2
          go_roundw
          case rel =>
            refine ⟨k + 1, by omega, by go_num, ?_, below_drewN (below_th HBk.out hB4) _⟩
            rw [HZZ.out]
            go_num
          case measure => simp [intOf]; omega
      · obtain rfl : k = n := by omega
        have hz := HZn.out
        rw [hz]
        clear hz
        go_wp2
        go_ret
        exact ⟨rfl, below_th HB3.out HBk.out⟩
end
end Go.Proofs.Ytafbkagoajcmeaa.Dir
