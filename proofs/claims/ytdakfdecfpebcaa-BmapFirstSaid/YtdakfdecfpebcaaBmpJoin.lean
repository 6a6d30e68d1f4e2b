/- The program's Join. -/
import Derived.Test.YtdakfdecfpebcaaBmpIsM
import Derived.Test.YtdakfdecfpebcaaBmpBel
namespace Go.Proofs.Ytdakfdecfpebcaa.Bmp
open Go.RowKit Ino
attribute [local go_sem] Oper.semAt_some
set_option linter.unusedVariables false
set_option linter.unusedSimpArgs false
def six (m : M) : List Nat := [m.a, m.b, m.c, m.d, m.e, m.f]
/-- what Join answers -/
def joinO (s : Nat) (m : M) (B : List ByteArray) : Option (List Nat) :=
  if ¬ ((s ≤ 8193532 ∧ mapP m s) ∧ B.length = cntN s) then none
  else if dpN s = 0 then some ((six m).take (blN s))
  else if dpN s = 1 then (if runsP (blN s) B then some (runs (blN s) B B.length) else none)
  else if belowP s (B.getD 0 ⟨#[]⟩) then (if runsP (blN s) B.tail then some (runs (blN s) B.tail B.tail.length) else none) else none
theorem Strs.tail {w : World} {b off n cap : Nat} {X : List ByteArray} (h : Strs w (.slice (some ⟨b, off, none⟩) n cap) X) (h1 : 1 ≤ X.length) : Strs w (.slice (some ⟨b, off + 1, none⟩) (n - 1) (cap - 1)) X.tail := by
  obtain ⟨a', cap', e, h3, ⟨h4, _⟩, h5, h6⟩ := h
  cases e
  have hl : X.tail.length = X.length - 1 := List.length_tail
  refine ⟨some ⟨b, off + 1, none⟩, cap - 1, by rw [hl], by rw [hl]; omega, ⟨by omega, fun e => by cases e⟩, by rw [List.length_map, Nat.mul_one], fun hn => ⟨b, off + 1, rfl, fun j u hj => ?_⟩⟩
  obtain ⟨b2, o2, e2, hc⟩ := h6 (by omega)
  cases e2
  rw [List.getElem?_map, ← List.drop_one, List.getElem?_drop] at hj
  rw [Nat.add_assoc]
  exact hc (1 + j) u (by rw [List.getElem?_map]; exact hj)
section
set_option maxRecDepth 100000
set_option maxHeartbeats 4000000
theorem clone_any (b n : Nat) (m : M) (W : World) (hA : AtM W b m) (hn : n ≤ 6) : Calls Try.prog 32 #[.slice (some ⟨b, 0, none⟩) n 6] W fun e w' => ∃ v', e = .returned v' ∧ U32s w' v' ((six m).take n) ∧ Below W.heap.size W w' := by
  obtain ⟨i0, hi, hz0, hz1, hz2⟩ := info_parts infoU32
  have hl : (((six m).take n).map fun (n : Nat) => Value.int .u32 (n : Int)).length = n * 1 := by rw [List.length_map, List.length_take, Nat.mul_one]; show min n 6 = n; omega
  refine Calls.mono (Shf.Try.slices_Clone i0 (.int .u32 0) 1 4 hi hz0 hz1 hz2 rfl (by decide) Try.sizeOf22 b 0 n 6 (((six m).take n).map fun (n : Nat) => Value.int .u32 (n : Int)) W hl (by unfold maxLen; omega) (by omega) (fun j u hj => ?_) (fun u hu => by obtain ⟨x, _, rfl⟩ := List.mem_map.1 hu; rfl)) ?_
  · have hj2 := (List.getElem?_eq_some_iff.1 hj).1
    rw [hl, Nat.mul_one] at hj2
    rw [List.getElem?_map, List.getElem?_take_of_lt hj2] at hj
    have hc := hA.cell (i := j) (by omega)
    rw [Nat.zero_add, hc]
    have e : (six m)[j]? = some (m.at' j) := by
      match j, (show j < 6 by omega) with
      | 0, _ => rfl
      | 1, _ => rfl
      | 2, _ => rfl
      | 3, _ => rfl
      | 4, _ => rfl
      | 5, _ => rfl
    rw [e] at hj
    exact hj
  · rintro e w' ⟨v', rfl, ho, _, hB⟩
    refine ⟨v', rfl, U32s.own (base := W.heap.size) ?_, hB⟩
    have e : ((six m).take n).length = n := by rw [List.length_take]; show min n 6 = n; omega
    rw [e]
    exact ho
theorem join_all (s : Nat) (m : M) (v : Value) (B : List ByteArray) (w : World) (h : s < 4294967296) (hm : MOk m) (hB : Strs w v B) : Calls Try.prog 18 #[.int .u32 s, m.val, v] w (U32Post (joinO s m B) w) := by
  have HM := Lib.hid (fun W => isM_any s m W h hm)
  have HC := Lib.hid (fun W => count_eq s W h)
  have HBl := Lib.hid (fun W => Ino.blocks_any s W h)
  have HD := Lib.hid (fun W => Ino.depth_any s W h)
  have hA := AtM.new w m
  have hB0 := below_new w (boxM m)
  obtain ⟨a, cap, rfl, hc1, hc2⟩ := hB.parts
  obtain ⟨W1, hW1⟩ : ∃ W1, w.alloc (boxM m) = W1 := ⟨_, rfl⟩
  rw [hW1] at hA hB0
  have HW := Lib.hid hW1
  unfold boxM at HW
  have HB0 := Lib.hid hB0
  have HFAIL : Hid (joinO s m B = none → ∀ W, Below W1.heap.size W1 W → U32Post (joinO s m B) w (.returned (.tuple #[.slice none 0 0, .int .i64 130])) W) := fun e W hW => by
    rw [e]
    exact ⟨rfl, below_th hB0 hW⟩
  have HOKK : Hid (∀ V, joinO s m B = some V → ∀ v W, U32s W v V → Below W1.heap.size W1 W → U32Post (joinO s m B) w (.returned (.tuple #[v, .int .i64 0])) W) := fun V e v W hU hW => by
    rw [e]
    exact ⟨v, rfl, hU, below_th hB0 hW⟩
  have HA := Lib.hid hA
  have HS := Lib.hid (fun W (hW : Below W1.heap.size W1 W) => hB.below (below_th hB0 hW))
  have hdl := dp_le s
  obtain ⟨R, hR⟩ : ∃ R, U32Post (joinO s m B) w = R := ⟨_, rfl⟩
  rw [hR] at HFAIL HOKK ⊢
  obtain ⟨c0, c1, c2, c3, c4, c5⟩ := hA.c
  obtain ⟨J, hJ⟩ : ∃ J, joinO s m B = J := ⟨_, rfl⟩
  rw [hJ] at HFAIL HOKK
  unfold joinO at hJ
  clear hA hB hB0 hW1 hR
  have hmb := bl_max (s := s)
  have hcn := cnt_def (s := s)
  by_cases hmp : s ≤ 8193532 ∧ mapP m s
  · rw [decide_eq_true hmp] at HM
    by_cases hln : B.length = cntN s
    · rw [if_neg (fun hh => hh ⟨hmp, hln⟩)] at hJ
      have hmb := hmb hmp.1
      have hcn := hcn hmp.1
      have hbl : blN s < 4294967296 := by omega
      by_cases h0 : dpN s = 0
      · rw [if_pos h0] at hJ
        have h6 := dp_none h0
        have HCL := Lib.hid (fun W (hW : Below W1.heap.size W1 W) => clone_any w.heap.size (blN s) m W (HA.out.th hW) h6)
        have HE := Lib.hid (HOKK.out _ hJ.symm)
        rw [h0, show ((0 : Nat) : Int) = 0 from rfl] at HD
        have hb6 : (blN s : Int) ≤ 6 := by omega
        obtain ⟨V, hV⟩ : ∃ V, (six m).take (blN s) = V := ⟨_, rfl⟩
        rw [hV] at HCL HE
        rw [hln] at HS hc1 ⊢
        generalize blN s = bl at *
        generalize cntN s = nb at *
        have g1 : ((nb : Int) != (nb : Int)) = false := by simp
        obtain ⟨ma, mb, mc, md, me, mf⟩ := m
        unfold M.val at HM ⊢
        dsimp only at HM HW c0 c1 c2 c3 c4 c5 ⊢
        clear hJ hmp HFAIL HOKK hln hcn h0 hV hdl h
        go_enter Try.func18, Try.ntmps18
        go_wp2_with (first
          | (go_at_call 31; (with_reducible refine Calls.mono (HM.out _) ?_); rintro e w2 ⟨rfl, hB⟩; rw [HW.out] at hB)
          | (go_at_call 12; (with_reducible refine Calls.mono (HC.out _) ?_); rintro e w9 ⟨rfl, hw⟩; rw [← hw]; clear hw w9)
          | (go_at_call 22; (with_reducible refine Calls.mono (HBl.out _) ?_); rintro e w9 ⟨rfl, hw⟩; rw [← hw]; clear hw w9)
          | (go_at_call 23; (with_reducible refine Calls.mono (HD.out _) ?_); rintro e w9 ⟨rfl, hw⟩; rw [← hw]; clear hw w9)
          | (go_at_call 32; (with_reducible refine Calls.mono (HCL.out _ hB) ?_); rintro e w3 ⟨v9, rfl, hU, hB3⟩))
        first | exact HE.out _ _ hU (below_th hB hB3) | (go_returns; exact HE.out _ _ hU (below_th hB hB3))
      · rw [if_neg h0] at hJ
        by_cases h1 : dpN s = 1
        · rw [if_pos h1] at hJ
          obtain ⟨n7, n127⟩ := dp_one h1
          have hB1 : B.length = (blN s + 126) / 127 := by rw [hln, hcn, if_neg (by omega), h1]; omega
          have HJN := Lib.hid (fun W (hW : Below W1.heap.size W1 W) => joined_any _ B (blN s) W (HS.out W hW) (by omega) hB1)
          rw [h1, show ((1 : Nat) : Int) = 1 from rfl] at HD
          by_cases hp : runsP (blN s) B
          · rw [if_pos hp] at hJ HJN
            have HE := Lib.hid (HOKK.out _ hJ.symm)
            obtain ⟨V, hV⟩ : ∃ V, runs (blN s) B B.length = V := ⟨_, rfl⟩
            rw [hV] at HE HJN
            rw [hln] at HJN HS hc1 ⊢
            generalize blN s = bl at *
            generalize cntN s = nb at *
            have g1 : ((nb : Int) != (nb : Int)) = false := by simp
            obtain ⟨ma, mb, mc, md, me, mf⟩ := m
            unfold M.val at HM ⊢
            dsimp only at HM HW c0 c1 c2 c3 c4 c5 ⊢
            clear hJ hmp HFAIL HOKK hln hcn h0 h1 hV hdl h hp hB1
            go_enter Try.func18, Try.ntmps18
            go_wp2_with (first
              | (go_at_call 31; (with_reducible refine Calls.mono (HM.out _) ?_); rintro e w2 ⟨rfl, hB⟩; rw [HW.out] at hB)
              | (go_at_call 12; (with_reducible refine Calls.mono (HC.out _) ?_); rintro e w9 ⟨rfl, hw⟩; rw [← hw]; clear hw w9)
              | (go_at_call 22; (with_reducible refine Calls.mono (HBl.out _) ?_); rintro e w9 ⟨rfl, hw⟩; rw [← hw]; clear hw w9)
              | (go_at_call 23; (with_reducible refine Calls.mono (HD.out _) ?_); rintro e w9 ⟨rfl, hw⟩; rw [← hw]; clear hw w9)
              | (go_at_call 33; (with_reducible refine Calls.mono (HJN.out _ hB) ?_); rintro e w3 ⟨v9, rfl, hU, hB3⟩))
            first | exact HE.out _ _ hU (below_th hB hB3) | (go_returns; exact HE.out _ _ hU (below_th hB hB3))
          · rw [if_neg hp] at hJ HJN
            have HE := Lib.hid (HFAIL.out hJ.symm)
            rw [hln] at HJN HS hc1 ⊢
            generalize blN s = bl at *
            generalize cntN s = nb at *
            have g1 : ((nb : Int) != (nb : Int)) = false := by simp
            obtain ⟨ma, mb, mc, md, me, mf⟩ := m
            unfold M.val at HM ⊢
            dsimp only at HM HW c0 c1 c2 c3 c4 c5 ⊢
            clear hJ hmp HFAIL HOKK hln hcn h0 h1 hdl h hp hB1
            go_enter Try.func18, Try.ntmps18
            go_wp2_with (first
              | (go_at_call 31; (with_reducible refine Calls.mono (HM.out _) ?_); rintro e w2 ⟨rfl, hB⟩; rw [HW.out] at hB)
              | (go_at_call 12; (with_reducible refine Calls.mono (HC.out _) ?_); rintro e w9 ⟨rfl, hw⟩; rw [← hw]; clear hw w9)
              | (go_at_call 22; (with_reducible refine Calls.mono (HBl.out _) ?_); rintro e w9 ⟨rfl, hw⟩; rw [← hw]; clear hw w9)
              | (go_at_call 23; (with_reducible refine Calls.mono (HD.out _) ?_); rintro e w9 ⟨rfl, hw⟩; rw [← hw]; clear hw w9)
              | (go_at_call 33; (with_reducible refine Calls.mono (HJN.out _ hB) ?_); rintro e w3 ⟨rfl, hB3⟩))
            first | exact HE.out _ (below_th hB hB3) | (go_returns; exact HE.out _ (below_th hB hB3))
        · rw [if_neg h1] at hJ
          have h2 : dpN s = 2 := by omega
          have h128 := dp_two h2
          have hnb : cntN s = 1 + lowN s := by rw [hcn, if_pos h2]
          have hlw : lowN s = (blN s + 126) / 127 := rfl
          obtain ⟨b, off, rfl, _⟩ := (HS.out W1 (Below.refl _ _)).get (k := 0) (by omega)
          have HG : Hid (∀ W, Below W1.heap.size W1 W → W.cell? ⟨b, off, none⟩ = some (.string (B.getD 0 ⟨#[]⟩))) := fun W hW => by
            obtain ⟨b2, o2, e, hc⟩ := (HS.out W hW).get (k := 0) (by omega)
            cases e
            exact hc
          have HTL := Lib.hid (fun W (hW : Below W1.heap.size W1 W) => Strs.tail (HS.out W hW) (by omega))
          have htl : B.tail.length = (blN s + 126) / 127 := by rw [List.length_tail, hln]; omega
          have HJN := Lib.hid (fun W (hW : Below W1.heap.size W1 W) => joined_any _ B.tail (blN s) W (HTL.out W hW) (by omega) htl)
          have HBE := Lib.hid (fun W => below_any s (B.getD 0 ⟨#[]⟩) W h)
          rw [h2, show ((2 : Nat) : Int) = 2 from rfl] at HD
          have k1 : ¬ cntN s = 0 := by omega
          have k2 : (0 : Int) < (cntN s : Int) := by omega
          have k3 : (1 : Int) ≤ (cntN s : Int) := by omega
          have k4 : 0 < cntN s := by omega
          have k5 : 1 ≤ cntN s := by omega
          have k6 : ¬ cap = 1 := by omega
          have k7 : 1 < cntN s := by omega
          have k8 : (cntN s : Int) ≤ (cap : Int) := by omega
          obtain ⟨B0, hB0⟩ : ∃ B0, B.getD 0 ⟨#[]⟩ = B0 := ⟨_, rfl⟩
          rw [hB0] at hJ HG HBE
          by_cases hp : belowP s B0
          · rw [if_pos hp] at hJ HBE
            by_cases hr : runsP (blN s) B.tail
            · rw [if_pos hr] at hJ HJN
              have HE := Lib.hid (HOKK.out _ hJ.symm)
              obtain ⟨V, hV⟩ : ∃ V, runs (blN s) B.tail B.tail.length = V := ⟨_, rfl⟩
              rw [hV] at HE HJN
              rw [hln] at HJN HS hc1 ⊢
              generalize blN s = bl at *
              generalize cntN s = nb at *
              have g1 : ((nb : Int) != (nb : Int)) = false := by simp
              obtain ⟨ma, mb, mc, md, me, mf⟩ := m
              unfold M.val at HM ⊢
              dsimp only at HM HW c0 c1 c2 c3 c4 c5 ⊢
              clear hJ hmp HFAIL HOKK hln hcn h0 h1 h2 hV hdl h hp hr htl hlw hnb hB0 HTL
              go_enter Try.func18, Try.ntmps18
              go_wp2_with (first
                | (go_at_call 31; (with_reducible refine Calls.mono (HM.out _) ?_); rintro e w2 ⟨rfl, hB⟩; rw [HW.out] at hB; have c9 := HG.out w2 hB)
                | (go_at_call 12; (with_reducible refine Calls.mono (HC.out _) ?_); rintro e w9 ⟨rfl, hw⟩; rw [← hw]; clear hw w9)
                | (go_at_call 22; (with_reducible refine Calls.mono (HBl.out _) ?_); rintro e w9 ⟨rfl, hw⟩; rw [← hw]; clear hw w9)
                | (go_at_call 23; (with_reducible refine Calls.mono (HD.out _) ?_); rintro e w9 ⟨rfl, hw⟩; rw [← hw]; clear hw w9)
                | (go_at_call 20; (with_reducible refine Calls.mono (HBE.out _) ?_); rintro e w4 ⟨v8, rfl, hU4, hB4⟩)
                | (go_at_call 33; (with_reducible refine Calls.mono (HJN.out _ (below_th hB hB4)) ?_); rintro e w3 ⟨v9, rfl, hU, hB3⟩))
              first | exact HE.out _ _ hU (below_th (below_th hB hB4) hB3) | (go_returns; exact HE.out _ _ hU (below_th (below_th hB hB4) hB3))
            · rw [if_neg hr] at hJ HJN
              have HE := Lib.hid (HFAIL.out hJ.symm)
              rw [hln] at HJN HS hc1 ⊢
              generalize blN s = bl at *
              generalize cntN s = nb at *
              have g1 : ((nb : Int) != (nb : Int)) = false := by simp
              obtain ⟨ma, mb, mc, md, me, mf⟩ := m
              unfold M.val at HM ⊢
              dsimp only at HM HW c0 c1 c2 c3 c4 c5 ⊢
              clear hJ hmp HFAIL HOKK hln hcn h0 h1 h2 hdl h hp hr htl hlw hnb hB0 HTL
              go_enter Try.func18, Try.ntmps18
              go_wp2_with (first
                | (go_at_call 31; (with_reducible refine Calls.mono (HM.out _) ?_); rintro e w2 ⟨rfl, hB⟩; rw [HW.out] at hB; have c9 := HG.out w2 hB)
                | (go_at_call 12; (with_reducible refine Calls.mono (HC.out _) ?_); rintro e w9 ⟨rfl, hw⟩; rw [← hw]; clear hw w9)
                | (go_at_call 22; (with_reducible refine Calls.mono (HBl.out _) ?_); rintro e w9 ⟨rfl, hw⟩; rw [← hw]; clear hw w9)
                | (go_at_call 23; (with_reducible refine Calls.mono (HD.out _) ?_); rintro e w9 ⟨rfl, hw⟩; rw [← hw]; clear hw w9)
                | (go_at_call 20; (with_reducible refine Calls.mono (HBE.out _) ?_); rintro e w4 ⟨v8, rfl, hU4, hB4⟩)
                | (go_at_call 33; (with_reducible refine Calls.mono (HJN.out _ (below_th hB hB4)) ?_); rintro e w3 ⟨rfl, hB3⟩))
              first | exact HE.out _ (below_th (below_th hB hB4) hB3) | (go_returns; exact HE.out _ (below_th (below_th hB hB4) hB3))
          · rw [if_neg hp] at hJ HBE
            have HE := Lib.hid (HFAIL.out hJ.symm)
            rw [hln] at HS hc1 ⊢
            generalize blN s = bl at *
            generalize cntN s = nb at *
            have g1 : ((nb : Int) != (nb : Int)) = false := by simp
            obtain ⟨ma, mb, mc, md, me, mf⟩ := m
            unfold M.val at HM ⊢
            dsimp only at HM HW c0 c1 c2 c3 c4 c5 ⊢
            clear hJ hmp HFAIL HOKK hln hcn h0 h1 h2 hdl h hp htl hlw hnb hB0 HTL HJN
            go_enter Try.func18, Try.ntmps18
            go_wp2_with (first
              | (go_at_call 31; (with_reducible refine Calls.mono (HM.out _) ?_); rintro e w2 ⟨rfl, hB⟩; rw [HW.out] at hB; have c9 := HG.out w2 hB)
              | (go_at_call 12; (with_reducible refine Calls.mono (HC.out _) ?_); rintro e w9 ⟨rfl, hw⟩; rw [← hw]; clear hw w9)
              | (go_at_call 22; (with_reducible refine Calls.mono (HBl.out _) ?_); rintro e w9 ⟨rfl, hw⟩; rw [← hw]; clear hw w9)
              | (go_at_call 23; (with_reducible refine Calls.mono (HD.out _) ?_); rintro e w9 ⟨rfl, hw⟩; rw [← hw]; clear hw w9)
              | (go_at_call 20; (with_reducible refine Calls.mono (HBE.out _) ?_); rintro e w4 ⟨rfl, hB4⟩))
            first | exact HE.out _ (below_th hB hB4) | (go_returns; exact HE.out _ (below_th hB hB4))
    · rw [if_pos (fun hh => hln hh.2)] at hJ
      have HE := Lib.hid (HFAIL.out hJ.symm)
      generalize B.length = nx at *
      generalize cntN s = nb at *
      have g1 : ((nx : Int) != (nb : Int)) = true := bne_iff_ne.2 (by omega)
      have g2 : (nx == nb) = false := beq_eq_false_iff_ne.2 hln
      have g3 : (nx != nb) = true := bne_iff_ne.2 hln
      obtain ⟨ma, mb, mc, md, me, mf⟩ := m
      unfold M.val at HM ⊢
      dsimp only at HM HW c0 c1 c2 c3 c4 c5 ⊢
      clear hJ hmp HFAIL HOKK hln hcn hdl h
      go_enter Try.func18, Try.ntmps18
      go_wp2_with (first
        | (go_at_call 31; (with_reducible refine Calls.mono (HM.out _) ?_); rintro e w2 ⟨rfl, hB⟩; rw [HW.out] at hB)
        | (go_at_call 12; (with_reducible refine Calls.mono (HC.out _) ?_); rintro e w9 ⟨rfl, hw⟩; rw [← hw]; clear hw w9)
        | (go_at_call 22; (with_reducible refine Calls.mono (HBl.out _) ?_); rintro e w9 ⟨rfl, hw⟩; rw [← hw]; clear hw w9)
        | (go_at_call 23; (with_reducible refine Calls.mono (HD.out _) ?_); rintro e w9 ⟨rfl, hw⟩; rw [← hw]; clear hw w9))
      first | exact HE.out _ hB | (go_returns; exact HE.out _ hB)
  · rw [decide_eq_false hmp] at HM
    rw [if_pos (fun hh => hmp hh.1)] at hJ
    have HE := Lib.hid (HFAIL.out hJ.symm)
    obtain ⟨ma, mb, mc, md, me, mf⟩ := m
    unfold M.val at HM ⊢
    dsimp only at HM HW c0 c1 c2 c3 c4 c5 ⊢
    clear hJ hmp HFAIL HOKK
    go_enter Try.func18, Try.ntmps18
    go_wp2_with (go_at_call 31; (with_reducible refine Calls.mono (HM.out _) ?_); rintro e w2 ⟨rfl, hB⟩; rw [HW.out] at hB)
    first | exact HE.out _ hB | (go_returns; exact HE.out _ hB)
end
end Go.Proofs.Ytdakfdecfpebcaa.Bmp
