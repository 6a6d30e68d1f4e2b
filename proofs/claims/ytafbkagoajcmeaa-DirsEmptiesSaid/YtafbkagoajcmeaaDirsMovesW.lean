/- DirsMoves, walked. -/
import Derived.Test.YtafbkagoajcmeaaDirsKeepsW
namespace Go.Proofs.Ytafbkagoajcmeaa.Dir
open Go.RowKit
set_option linter.unusedVariables false
set_option linter.unusedSimpArgs false
theorem DirO.is {s : ByteArray} {D : Option (List N)} {L : List N} (h : DirO s D) (k : DirP s L) : D = some L := by
  cases D with
  | none => exact absurd ⟨L, k⟩ h
  | some M => rw [DirP.unique h k]
theorem addVo_size {c a : ByteArray} {n : Nat} {D : Option (List N)} (h : DirO c D) (hn : n < 4294967296) : (addVo D a n).size ≤ 20000 := by
  by_cases h0 : addEo D a n = 0
  · cases D with
    | none => exact absurd h0 (by show ¬ (110 : Int) = 0; omega)
    | some L => obtain ⟨A, _, hA, _⟩ := keeps_facts h hn h0; exact hA.2.2
  · rw [R.addVo_not h0]; decide
theorem found_at {Z : List N} (hF : Fine Z) {i : Nat} (hi : i < Z.length) {s : ByteArray} {v : Nat} (h : nm Z i = ⟨s, v⟩) : findE Z s = 0 ∧ findV Z s = v := by
  have hx : idx Z s = i := idx_eq hF hi (by rw [h])
  have hp : nameP s := by
    have := (hF.1 i hi).1
    rw [h] at this
    exact this
  have hE : findE Z s = 0 := find_zero.2 ⟨hp, by omega⟩
  refine ⟨hE, ?_⟩
  unfold findV
  rw [if_pos hE, hx, h]
theorem added_size {c s : ByteArray} {L A : List N} {e : N} (h : DirP c L) (hA : DirP s A) (he : A = L ++ [e]) : s.size = c.size + 6 + e.name.size := by
  rw [← hA.2.1, he, bytesL_snoc, ByteArray.size_append, ent_size, h.2.1]
  omega
/-- what the law asks of two names added in either order -/
theorem moves_facts {c a b : ByteArray} {n m : Nat} {L A B : List N} (hD : DirP c L) (hn : n < 4294967296) (hm : m < 4294967296)
    (hA : A = L ++ [⟨a, n⟩]) (hB : B = L ++ [⟨b, m⟩]) (DA : DirP (addV L a n) A) (DB : DirP (addV L b m) B)
    (k1 : addE A b m = 0) (k2 : addE B a n = 0) :
    ∃ L1 L2 Z, L1.Perm L2 ∧ DirP (addV A b m) L1 ∧ DirP (addV B a n) L2 ∧ (addV A b m).size = (addV B a n).size ∧ setE L1 a m = 0 ∧ DirP (setV L1 a m) Z ∧ findE Z a = 0 ∧ findV Z a = m ∧ findE Z b = 0 ∧ findV Z b = m := by
  obtain ⟨L1, hL1, D1, _⟩ := keeps_facts DA hm k1
  obtain ⟨L2, hL2, D2, _⟩ := keeps_facts DB hn k2
  have hm0 : ¬ m = 0 := (add_zero.1 k1).2.2.1
  have s1 := added_size hD DA hA
  have s2 := added_size hD DB hB
  have s3 := added_size DA D1 hL1
  have s4 := added_size DB D2 hL2
  have l1 : L1.length = L.length + 2 := by rw [hL1, hA]; simp
  have lA : A.length = L.length + 1 := by rw [hA]; simp
  have n1 : nm L1 L.length = ⟨a, n⟩ := by rw [hL1, nm_app (by omega), hA, nm_last]
  have n2 : nm L1 (L.length + 1) = ⟨b, m⟩ := by rw [hL1, ← lA, nm_last]
  obtain ⟨f1, f2⟩ := found_at D1.1 (i := L.length) (by omega) n1
  have hx : idx L1 a = L.length := idx_eq D1.1 (by omega) (by rw [n1])
  have hsE : setE L1 a m = 0 := by
    unfold setE
    rw [if_neg (fun h => h f1), if_neg hm0]
  have DZ : DirP (bytesL (L1.set L.length ⟨a, m⟩)) (L1.set L.length ⟨a, m⟩) := by
    have h := D1.set (k := L.length) (by omega) hm0 hm
    rw [n1] at h
    exact h
  have hsV : setV L1 a m = bytesL (L1.set L.length ⟨a, m⟩) := by
    unfold setV
    rw [if_pos hsE, hx]
  have lZ : (L1.set L.length (⟨a, m⟩ : N)).length = L.length + 2 := by rw [List.length_set]; exact l1
  have z1 : nm (L1.set L.length ⟨a, m⟩) L.length = ⟨a, m⟩ := by rw [nm_set (L := L1) (k := L.length) (by omega) _ _, if_pos rfl]
  have z2 : nm (L1.set L.length ⟨a, m⟩) (L.length + 1) = ⟨b, m⟩ := by rw [nm_set (L := L1) (k := L.length) (by omega) _ _, if_neg (by omega), n2]
  obtain ⟨g1, g2⟩ := found_at DZ.1 (i := L.length) (by omega) z1
  obtain ⟨g3, g4⟩ := found_at DZ.1 (i := L.length + 1) (by omega) z2
  refine ⟨L1, L2, _, ?_, D1, D2, ?_, hsE, by rw [hsV]; exact DZ, g1, g2, g3, g4⟩
  · rw [hL1, hL2, hA, hB, List.append_assoc, List.append_assoc]
    exact List.Perm.append_left _ (List.Perm.swap _ _ _)
  · show (addV A b m).size = (addV B a n).size
    simp only at s1 s2 s3 s4
    omega
section
attribute [local go_sem] Oper.semAt_some
set_option maxRecDepth 100000
set_option maxHeartbeats 8000000
theorem DirsMoves_walk (s a b : ByteArray) (i0 i1 : Int) (w : World) (z0 : s.size ≤ 140737488351232) (z1 : a.size ≤ 140737488351232) (z2 : b.size ≤ 140737488351232) (w3 : (Lit.int .u32 i0).wf = true) (w4 : (Lit.int .u32 i1).wf = true) : Calls Try.prog 7 #[.string s, .string a, .string b, .int .u32 i0, .int .u32 i1] w fun e w' => e = .returned (.bool true) ∧ Below w.heap.size w w' := by
  obtain ⟨n, rfl, hn⟩ := u32_nat w3
  obtain ⟨m, rfl, hm⟩ := u32_nat w4
  clear w3 w4
  have hcut := Lib.hid (fun W => cut_any s W (by omega))
  have hcz := cutB_size s
  obtain ⟨c, hc⟩ : ∃ c, cutB s = c := ⟨_, rfl⟩
  rw [hc] at hcz
  rw [hc] at hcut
  clear hc
  obtain ⟨D, hD⟩ := DirO.ex c
  have s1 := addVo_size (a := a) hD hn
  have s2 := addVo_size (a := b) hD hm
  obtain ⟨DX, hDX⟩ := DirO.ex (addVo D a n)
  obtain ⟨DY, hDY⟩ := DirO.ex (addVo D b m)
  have hA10 := fun W => add_any c a n D W (by omega) (by omega) hn hD
  have hA20 := fun W => add_any (addVo D a n) b m DX W (by omega) (by omega) hm hDX
  have hA30 := fun W => add_any c b m D W (by omega) (by omega) hm hD
  have hA40 := fun W => add_any (addVo D b m) a n DY W (by omega) (by omega) hn hDY
  by_cases k1 : addEo D a n = 0
  case neg =>
    have hA1 := Lib.hid hA10
    have hA2 := Lib.hid hA20
    have hA3 := Lib.hid hA30
    have hA4 := Lib.hid hA40
    clear hA10 hA20 hA30 hA40 hcz z0 z1 z2 s1 s2 hD hDX hDY
    generalize addEo D a n = e1 at *
    generalize addEo DX b m = e2 at *
    generalize addEo D b m = e3 at *
    generalize addEo DY a n = e4 at *
    generalize addVo DX b m = x at *
    generalize addVo DY a n = y at *
    generalize addVo D a n = x1 at *
    generalize addVo D b m = y1 at *
    go_enter Try.func7, Try.ntmps7
    go_wp2_with (first
      | (go_at_call 9; refine (shown_any _).mono ?_; rintro e w1 ⟨rfl, hB1⟩)
      | (go_at_call 10; (with_reducible refine Calls.mono (hcut.out _) ?_); rintro e w2 ⟨rfl, rfl⟩)
      | (go_at_call 20; (with_reducible refine Calls.mono (hA1.out _) ?_); rintro e w3 ⟨rfl, hB3⟩)
      | (go_at_call 20; (with_reducible refine Calls.mono (hA2.out _) ?_); rintro e w4 ⟨rfl, hB4⟩)
      | (go_at_call 20; (with_reducible refine Calls.mono (hA3.out _) ?_); rintro e w5 ⟨rfl, hB5⟩)
      | (go_at_call 20; (with_reducible refine Calls.mono (hA4.out _) ?_); rintro e w6 ⟨rfl, hB6⟩))
    go_ret
    exact ⟨rfl, below_th (below_th (below_th (below_th hB1 hB3) hB4) hB5) hB6⟩
  by_cases k2 : addEo DX b m = 0
  case neg =>
    simp only [k1] at hA10
    have hA1 := Lib.hid hA10
    have hA2 := Lib.hid hA20
    have hA3 := Lib.hid hA30
    have hA4 := Lib.hid hA40
    clear hA10 hA20 hA30 hA40 hcz z0 z1 z2 s1 s2 hD hDX hDY
    generalize addEo D a n = e1 at *
    generalize addEo DX b m = e2 at *
    generalize addEo D b m = e3 at *
    generalize addEo DY a n = e4 at *
    generalize addVo DX b m = x at *
    generalize addVo DY a n = y at *
    generalize addVo D a n = x1 at *
    generalize addVo D b m = y1 at *
    go_enter Try.func7, Try.ntmps7
    go_wp2_with (first
      | (go_at_call 9; refine (shown_any _).mono ?_; rintro e w1 ⟨rfl, hB1⟩)
      | (go_at_call 10; (with_reducible refine Calls.mono (hcut.out _) ?_); rintro e w2 ⟨rfl, rfl⟩)
      | (go_at_call 20; (with_reducible refine Calls.mono (hA1.out _) ?_); rintro e w3 ⟨rfl, hB3⟩)
      | (go_at_call 20; (with_reducible refine Calls.mono (hA2.out _) ?_); rintro e w4 ⟨rfl, hB4⟩)
      | (go_at_call 20; (with_reducible refine Calls.mono (hA3.out _) ?_); rintro e w5 ⟨rfl, hB5⟩)
      | (go_at_call 20; (with_reducible refine Calls.mono (hA4.out _) ?_); rintro e w6 ⟨rfl, hB6⟩))
    go_ret
    exact ⟨rfl, below_th (below_th (below_th (below_th hB1 hB3) hB4) hB5) hB6⟩
  by_cases k3 : addEo D b m = 0
  case neg =>
    simp only [k1, k2] at hA10 hA20
    have hA1 := Lib.hid hA10
    have hA2 := Lib.hid hA20
    have hA3 := Lib.hid hA30
    have hA4 := Lib.hid hA40
    clear hA10 hA20 hA30 hA40 hcz z0 z1 z2 s1 s2 hD hDX hDY
    generalize addEo D a n = e1 at *
    generalize addEo DX b m = e2 at *
    generalize addEo D b m = e3 at *
    generalize addEo DY a n = e4 at *
    generalize addVo DX b m = x at *
    generalize addVo DY a n = y at *
    generalize addVo D a n = x1 at *
    generalize addVo D b m = y1 at *
    go_enter Try.func7, Try.ntmps7
    go_wp2_with (first
      | (go_at_call 9; refine (shown_any _).mono ?_; rintro e w1 ⟨rfl, hB1⟩)
      | (go_at_call 10; (with_reducible refine Calls.mono (hcut.out _) ?_); rintro e w2 ⟨rfl, rfl⟩)
      | (go_at_call 20; (with_reducible refine Calls.mono (hA1.out _) ?_); rintro e w3 ⟨rfl, hB3⟩)
      | (go_at_call 20; (with_reducible refine Calls.mono (hA2.out _) ?_); rintro e w4 ⟨rfl, hB4⟩)
      | (go_at_call 20; (with_reducible refine Calls.mono (hA3.out _) ?_); rintro e w5 ⟨rfl, hB5⟩)
      | (go_at_call 20; (with_reducible refine Calls.mono (hA4.out _) ?_); rintro e w6 ⟨rfl, hB6⟩))
    go_ret
    exact ⟨rfl, below_th (below_th (below_th (below_th hB1 hB3) hB4) hB5) hB6⟩
  by_cases k4 : addEo DY a n = 0
  case neg =>
    simp only [k1, k2, k3] at hA10 hA20 hA30
    have hA1 := Lib.hid hA10
    have hA2 := Lib.hid hA20
    have hA3 := Lib.hid hA30
    have hA4 := Lib.hid hA40
    clear hA10 hA20 hA30 hA40 hcz z0 z1 z2 s1 s2 hD hDX hDY
    generalize addEo D a n = e1 at *
    generalize addEo DX b m = e2 at *
    generalize addEo D b m = e3 at *
    generalize addEo DY a n = e4 at *
    generalize addVo DX b m = x at *
    generalize addVo DY a n = y at *
    generalize addVo D a n = x1 at *
    generalize addVo D b m = y1 at *
    go_enter Try.func7, Try.ntmps7
    go_wp2_with (first
      | (go_at_call 9; refine (shown_any _).mono ?_; rintro e w1 ⟨rfl, hB1⟩)
      | (go_at_call 10; (with_reducible refine Calls.mono (hcut.out _) ?_); rintro e w2 ⟨rfl, rfl⟩)
      | (go_at_call 20; (with_reducible refine Calls.mono (hA1.out _) ?_); rintro e w3 ⟨rfl, hB3⟩)
      | (go_at_call 20; (with_reducible refine Calls.mono (hA2.out _) ?_); rintro e w4 ⟨rfl, hB4⟩)
      | (go_at_call 20; (with_reducible refine Calls.mono (hA3.out _) ?_); rintro e w5 ⟨rfl, hB5⟩)
      | (go_at_call 20; (with_reducible refine Calls.mono (hA4.out _) ?_); rintro e w6 ⟨rfl, hB6⟩))
    go_ret
    exact ⟨rfl, below_th (below_th (below_th (below_th hB1 hB3) hB4) hB5) hB6⟩
  cases D with
  | none => exact absurd k1 (by show ¬ (110 : Int) = 0; omega)
  | some L =>
    obtain ⟨A, eA, DA, _⟩ := keeps_facts hD hn k1
    obtain ⟨B, eB, DB, _⟩ := keeps_facts hD hm k3
    obtain rfl := hDX.is DA
    obtain rfl := hDY.is DB
    obtain ⟨L1, L2, Z, hp, D1, D2, hsz, f1, DZ, f2, f3, f4, f5⟩ := moves_facts hD hn hm eA eB DA DB k2 k4
    simp only [addVo, k1, k2, k3, k4] at hA10 hA20 hA30 hA40
    generalize addV L a n = x1 at *
    generalize addV L b m = y1 at *
    generalize addV A b m = x at *
    generalize addV B a n = y at *
    have hx := D1.2.2
    have hy := D2.2.2
    have hz := DZ.2.2
    have hL1 := Lib.hid (fun W => list_any x (some L1) W (by omega) D1)
    have hL2 := Lib.hid (fun W => list_any y (some L2) W (by omega) D2)
    have hS0 := fun W => set_any x a m (some L1) W (by omega) (by omega) hm D1
    simp only [setVo, setEo, f1] at hS0
    generalize setV L1 a m = z at *
    have hF10 := fun W => find_any z a (some Z) W (by omega) (by omega) DZ
    have hF20 := fun W => find_any z b (some Z) W (by omega) (by omega) DZ
    simp only [findVo, findEo, f2, f3, f4, f5] at hF10 hF20
    unfold ListPost at hL1 hL2
    have HQ : Hid (∀ M, SortP L2 M → SortP L1 M) := fun M h => ⟨h.1.trans hp.symm, h.2⟩
    have q1 : (x.size : Int) = (y.size : Int) := by omega
    have hA1 := Lib.hid hA10
    have hA2 := Lib.hid hA20
    have hA3 := Lib.hid hA30
    have hA4 := Lib.hid hA40
    have hS := Lib.hid hS0
    have hF1 := Lib.hid hF10
    have hF2 := Lib.hid hF20
    clear hA10 hA20 hA30 hA40 hS0 hF10 hF20 hcz hD hDX hDY s1 s2 k1 k2 k3 k4 eA DA eB DB hp D1 D2 hsz f1 DZ f2 f3 f4 f5 hx hy hz z0 z1 z2
    go_enter Try.func7, Try.ntmps7
    go_wp2_with (first
      | (go_at_call 9; refine (shown_any _).mono ?_; rintro e w1 ⟨rfl, hB1⟩)
      | (go_at_call 10; (with_reducible refine Calls.mono (hcut.out _) ?_); rintro e w2 ⟨rfl, rfl⟩)
      | (go_at_call 20; (with_reducible refine Calls.mono (hA1.out _) ?_); rintro e w3 ⟨rfl, hB3⟩)
      | (go_at_call 20; (with_reducible refine Calls.mono (hA2.out _) ?_); rintro e w4 ⟨rfl, hB4⟩)
      | (go_at_call 20; (with_reducible refine Calls.mono (hA3.out _) ?_); rintro e w5 ⟨rfl, hB5⟩)
      | (go_at_call 20; (with_reducible refine Calls.mono (hA4.out _) ?_); rintro e w6 ⟨rfl, hB6⟩)
      | (go_at_call 11; (with_reducible refine Calls.mono (hL1.out _) ?_); rintro e w7 ⟨v, M, rfl, hM, hN, hB7⟩; have HM := Lib.hid hM; have HN := Lib.hid hN; clear hM hN)
      | (go_at_call 11; (with_reducible refine Calls.mono (hL2.out _) ?_); rintro e w8 ⟨v2, M2, rfl, hM2, hN2, hB8⟩; have HM2 := Lib.hid hM2; have HN2 := Lib.hid hN2; clear hM2 hN2)
      | (go_at_call 24; (with_reducible refine Calls.mono (hS.out _) ?_); rintro e w9 ⟨rfl, hB9⟩)
      | (go_at_call 18; (with_reducible refine Calls.mono (hF1.out _) ?_); rintro e w10 ⟨rfl, hB10⟩)
      | (go_at_call 18; (with_reducible refine Calls.mono (hF2.out _) ?_); rintro e w11 ⟨rfl, hB11⟩)
      | (go_at_call 17; refine (R.same_any _ _ M M2 _ ((((HN.out.below hB8).below hB9).below hB10).below hB11) (((HN2.out.below hB9).below hB10).below hB11)).mono ?_; rintro e w12 ⟨rfl, hB12⟩; have hd : decide (M = M2) = true := decide_eq_true (HM.out.unique (HQ.out _ HM2.out))))
    go_ret
    exact ⟨rfl, below_th (below_th (below_th (below_th (below_th (below_th (below_th (below_th (below_th (below_th hB1 hB3) hB4) hB5) hB6) hB7) hB8) hB9) hB10) hB11) hB12⟩
end
end Go.Proofs.Ytafbkagoajcmeaa.Dir
