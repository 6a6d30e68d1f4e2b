/- PlainTurns, walked (made by wip/tools/plainturns.py). -/
import Derived.Test.YtkipkcmcolomcaaGreatPk09
import Derived.Test.YtkipkcmcolomcaaGreatPk35
namespace Go.Proofs.YtkipkcmcolomcaaGreat.Pln
open Go.RowKit
attribute [local go_sem] Oper.semAt_some
set_option linter.unusedVariables false
set_option linter.unusedSimpArgs false
section
set_option maxRecDepth 100000
set_option maxHeartbeats 8000000
theorem turns_nat (v : Value) (l : List Nd) (path : ByteArray) (mode : Int) (now : Nat) (w : World) (hL : Nodes w v l) (hk : ∀ n ∈ l, n.Ok ∧ n.data.size ≤ 281474976710656) (wz : path.size ≤ 140737488351232) (ws : -9223372036854775808 ≤ mode ∧ mode ≤ 9223372036854775807) (wn : now < 18446744073709551616) :
    Calls Tryz.prog 6 #[v, .string path, .int .i64 mode, .int .u64 now] w (Ans w (.bool true)) := by
  have HL := Lib.hid hL
  have hF := fun W (h : Nodes W v l) => few_any v l W h
  by_cases hf : fewP l
  · rw [decide_eq_true hf] at hF
    have HF := Lib.hid hF
    have hA : AbleS l := ableS_few hk hf
    have HT1 := Lib.hid (fun u W (h : Nodes W u l) => do_anyS u l (mkC path mode) now W h hA (by have hz0 : none0.size = 0 := rfl; unfold Cl.OkS Cl.Ok mkC; dsimp only; omega) (by show (0 : Nat) ≤ _; omega) wn)
    have HI := Lib.hid (fun u W (h : Nodes W u (doV l (mkC path mode) now)) => do_anyS u (doV l (mkC path mode) now) (rmC path) now W h (ableS_do hA _ _) (by have hz0 : none0.size = 0 := rfl; unfold Cl.OkS Cl.Ok rmC; dsimp only; omega) (by show (0 : Nat) ≤ _; omega) wn)
    have hlaw := fun h => turns_law (l := l) (path := path) (mode := mode) (now := now) h
    obtain ⟨a0, c0, rfl, hcap1, hcap2⟩ := hL.parts
    generalize doR l (mkC path mode) now = r1 at HT1 hlaw
    generalize hm : doV l (mkC path mode) now = m at HT1 HI hlaw
    generalize doR m (rmC path) now = r2 at HI hlaw
    generalize hm2 : doV m (rmC path) now = n at HI hlaw
    unfold Cl.val mkC at HT1
    unfold Cl.val rmC at HI
    unfold none0 at HI HT1
    dsimp only at HI HT1
    obtain ⟨ll, hll⟩ : ∃ ll, l.length = ll := ⟨_, rfl⟩
    have HLL := Lib.hid hll
    rw [hll] at HL HF hcap1 hlaw ⊢
    clear hF hf hA hL hk hm hm2 hll
    by_cases hc : r1.code = 0
    · obtain ⟨g1, g2, g3⟩ := hlaw hc
      have q1 : (r1.code != 0) = false := by simp [hc]
      have q2 : (r2.code != 0) = false := by simp [g1]
      have q3 : ¬ ((n.length : Int) < (ll : Int)) := by omega
      have HG := Lib.hid g3
      have HGL := Lib.hid g2
      clear hlaw hc g1 g2 g3
      go_enter Tryz.func6, Tryz.ntmps6
      go_wp2_with (first
        | (go_at_call 11; (with_reducible refine Calls.mono (shown_any _) ?_); rintro e w1 ⟨rfl, hB1⟩; have HL1 := Lib.hid (HL.out.below hB1); have HB1 := Lib.hid hB1; clear hB1)
        | (go_at_call 20; (with_reducible refine Calls.mono (HF.out _ HL1.out) ?_); rintro e w2 ⟨rfl, hB2⟩; have HL2 := Lib.hid (HL1.out.below hB2); have HB2 := Lib.hid (below_th HB1.out hB2); clear hB2)
        | (go_at_call 14; (with_reducible refine Calls.mono (HT1.out _ _ HL2.out) ?_); intro e w3 hp; obtain ⟨v1, a1, n1, rfl, hL, hu, hB⟩ := hp.open; have HL2 := Lib.hid (HL2.out.below hB); have HB2 := Lib.hid (below_th HB2.out hB); have HM := Lib.hid hL; clear hp hL hB hu HT1)
        | (go_at_call 14; (with_reducible refine Calls.mono (HI.out _ _ (HM.out.below (below_new _ _))) ?_); intro e w4 hp; obtain ⟨v2, a2, n2, rfl, hL, hu, hB⟩ := hp.open; obtain ⟨b2, k2, rfl, g2a, g2b⟩ := hL.parts; have HL2 := Lib.hid ((HL2.out.below (below_new w3 (rpBox r1 (.slice a1 r1.names.length n1)))).below hB); have HM := Lib.hid ((HM.out.below (below_new w3 (rpBox r1 (.slice a1 r1.names.length n1)))).below hB); have HQ1 := Lib.hid ((RpAt.new w3 r1 (.slice a1 r1.names.length n1)).th hB); have HB2 := Lib.hid (below_th (below_th HB2.out (below_new w3 (rpBox r1 (.slice a1 r1.names.length n1)))) hB); have HN := Lib.hid hL; have HL2 := Lib.hid (HL2.out.below (below_new w4 (rpBox r2 (.slice a2 r2.names.length n2)))); have HM := Lib.hid (HM.out.below (below_new w4 (rpBox r2 (.slice a2 r2.names.length n2)))); have HN := Lib.hid (HN.out.below (below_new w4 (rpBox r2 (.slice a2 r2.names.length n2)))); have HQ1 := Lib.hid (HQ1.out.th (below_new w4 (rpBox r2 (.slice a2 r2.names.length n2)))); have HQ2 := Lib.hid (RpAt.new w4 r2 (.slice a2 r2.names.length n2)); have HB2 := Lib.hid (below_th HB2.out (below_new w4 (rpBox r2 (.slice a2 r2.names.length n2)))); unfold rpBox at HL2 HM HN HQ1 HQ2; have k10 := HQ1.out.c.1; have k11 := HQ1.out.c.2.1; have k20 := HQ2.out.c.1; have k21 := HQ2.out.c.2.1; clear hp hL hB hu HI))
      unfold rpBox at HB2
      generalize w4.alloc (Obj.cells #[.int .i64 r2.code, .string r2.data, .slice a2 r2.names.length n2, .int .i64 r2.stat.kind, .int .u16 r2.stat.mode, .int .u16 r2.stat.links, .int .i64 r2.stat.size, .int .u64 r2.stat.time] 36) = W5 at *
      obtain ⟨nl, hnl⟩ : ∃ nl, n.length = nl := ⟨_, rfl⟩
      have HNL := Lib.hid hnl
      rw [hnl] at HN q3 g2a HGL ⊢
      have HK : Hid (∀ W', Below W5.heap.size W5 W' → Nodes W' (.slice a0 ll c0) l ∧ Nodes W' (.slice b2 nl k2) n ∧ Below w.heap.size w W') := fun W' h => ⟨HL2.out.below h, HN.out.below h, below_th HB2.out h⟩
      have hself : Below W5.heap.size W5 W5 := Below.refl _ _
      clear HL2 HN HB2 HM HQ1 HQ2 k10 k11 k20 k21 q1 q2 hnl HGL q3
      go_loopw [14] (fun i wr => ∃ k : Nat, k ≤ nl ∧ i = .int .i64 (k : Int) ∧ Hid (Below W5.heap.size W5 wr)) (fun i _ => nl - (intOf i).toNat)
      case atStart => exact ⟨0, by omega, rfl, hself⟩
      case round =>
        obtain ⟨k, hk, rfl, HBw⟩ := hrel
        clear hself
        by_cases hlt : k < nl
        · obtain ⟨N1, N2, N3⟩ := HK.out _ HBw.out
          have hg := HG.out k
          obtain ⟨gb, off, cp, e1, rA⟩ := N2.at (k := k) (by rw [HNL.out]; exact hlt)
          rw [HNL.out] at e1
          cases e1
          obtain ⟨A, hA⟩ : ∃ A, nd n k = A := ⟨_, rfl⟩
          rw [hA] at hg rA
          obtain ⟨A0, A1, A2, A3, A4⟩ := A
          by_cases hkl : k < ll
          · have N4 := N1.below (below_al (below_new wr (.cells #[.int .i64 A0, .int .u16 A1, .int .u16 A2, .int .u64 A3, .string A4] 46)) (.cells #[.int .i64 0, .int .u16 0, .int .u16 0, .int .u64 0, .string ⟨#[]⟩] 46))
            obtain ⟨lb, lo, cp2, e2, rB⟩ := N4.at (k := k) (by rw [HLL.out]; exact hkl)
            rw [HLL.out] at e2
            cases e2
            obtain ⟨B, hB⟩ : ∃ B, nd l k = B := ⟨_, rfl⟩
            rw [hB] at hg rB
            obtain ⟨B0, B1, B2, B3, B4⟩ := B
            dsimp only at hg
            injection hg with i0 i1 i2 i3 i4
            subst i0
            subst i1
            subst i2
            subst i4
            obtain ⟨x0, x1, x2, x3, x4⟩ := rA
            obtain ⟨y0, y1, y2, y3, y4⟩ := rB
            dsimp only at x0 x1 x2 x3 x4 y0 y1 y2 y3 y4
            have hne := fun W => neqN ⟨B0, B1, B2, A3, B4⟩ ⟨B0, B1, B2, A3, B4⟩ W
            rw [decide_eq_true rfl] at hne
            unfold Nd.val at hne
            dsimp only at hne
            have hlt2 : (k : Int) < (nl : Int) := by omega
            have hkl2 : (k : Int) < (ll : Int) := by omega
            clear N1 N2 N3 N4 hA hB
            go_wp2
            go_roundw
            case rel => exact ⟨k + 1, by omega, by go_num, below_al (below_al HBw.out _) _⟩
            case measure => simp [intOf]; omega
          · rw [nd_out (by rw [HLL.out]; omega)] at hg
            unfold Nd.zero at hg
            dsimp only at hg
            injection hg with i0 i1 i2 i3 i4
            subst i0
            subst i1
            subst i2
            subst i4
            obtain ⟨x0, x1, x2, x3, x4⟩ := rA
            dsimp only at x0 x1 x2 x3 x4
            have hne := fun W => neqN ⟨0, 0, 0, A3, ⟨#[]⟩⟩ ⟨0, 0, 0, A3, ⟨#[]⟩⟩ W
            rw [decide_eq_true rfl] at hne
            unfold Nd.val at hne
            dsimp only at hne
            have hlt2 : (k : Int) < (nl : Int) := by omega
            have hkl2 : ¬ (k : Int) < (ll : Int) := by omega
            clear N1 N2 N3 hA
            go_wp2
            go_roundw
            case rel => exact ⟨k + 1, by omega, by go_num, below_al (below_al HBw.out _) _⟩
            case measure => simp [intOf]; omega
        · obtain rfl : k = nl := by omega
          have HE := Lib.hid (HK.out _ HBw.out).2.2
          clear HK HBw
          go_wp2
          go_ret
          exact ⟨rfl, HE.out⟩
    · have q1 : (r1.code != 0) = true := by simp [hc]
      clear hlaw hc
      go_enter Tryz.func6, Tryz.ntmps6
      go_wp2_with (first
        | (go_at_call 11; (with_reducible refine Calls.mono (shown_any _) ?_); rintro e w1 ⟨rfl, hB1⟩; have HL1 := Lib.hid (HL.out.below hB1); have HB1 := Lib.hid hB1; clear hB1)
        | (go_at_call 20; (with_reducible refine Calls.mono (HF.out _ HL1.out) ?_); rintro e w2 ⟨rfl, hB2⟩; have HL2 := Lib.hid (HL1.out.below hB2); have HB2 := Lib.hid (below_th HB1.out hB2); clear hB2)
        | (go_at_call 14; (with_reducible refine Calls.mono (HT1.out _ _ HL2.out) ?_); intro e w3 hp; obtain ⟨v1, a1, n1, rfl, hL, hu, hB⟩ := hp.open; have HL2 := Lib.hid (HL2.out.below hB); have HB2 := Lib.hid (below_th HB2.out hB); have HM := Lib.hid hL; have HL2 := Lib.hid (HL2.out.below (below_new w3 (rpBox r1 (.slice a1 r1.names.length n1)))); have HM := Lib.hid (HM.out.below (below_new w3 (rpBox r1 (.slice a1 r1.names.length n1)))); have HQ1 := Lib.hid (RpAt.new w3 r1 (.slice a1 r1.names.length n1)); have HB2 := Lib.hid (below_th HB2.out (below_new w3 (rpBox r1 (.slice a1 r1.names.length n1)))); unfold rpBox at HL2 HM HQ1; have k10 := HQ1.out.c.1; have k11 := HQ1.out.c.2.1; clear hp hL hB hu HT1))
      go_ret
      exact ⟨rfl, HB2.out⟩
  · rw [decide_eq_false hf] at hF
    have HF := Lib.hid hF
    clear hF hf hL
    go_enter Tryz.func6, Tryz.ntmps6
    go_wp2_with (first
        | (go_at_call 11; (with_reducible refine Calls.mono (shown_any _) ?_); rintro e w1 ⟨rfl, hB1⟩; have HL1 := Lib.hid (HL.out.below hB1); have HB1 := Lib.hid hB1; clear hB1)
        | (go_at_call 20; (with_reducible refine Calls.mono (HF.out _ HL1.out) ?_); rintro e w2 ⟨rfl, hB2⟩; have HL2 := Lib.hid (HL1.out.below hB2); have HB2 := Lib.hid (below_th HB1.out hB2); clear hB2))
    go_ret
    exact ⟨rfl, HB2.out⟩
theorem PlainTurns_walk (v : Value) (l : List Nd) (path : ByteArray) (mode now : Int) (w : World) (hL : Nodes w v l) (hk : ∀ n ∈ l, n.Ok ∧ n.data.size ≤ 281474976710656) (z : path.size ≤ 140737488351232) (ws : (Lit.int .i64 mode).wf = true) (wn : (Lit.int .u64 now).wf = true) :
    Calls Tryz.prog 6 #[v, .string path, .int .i64 mode, .int .u64 now] w (Ans w (.bool true)) := by
  have b1 := bounds64 ws
  have b2 := boundsU wn
  obtain ⟨k, rfl⟩ := Int.eq_ofNat_of_zero_le b2.1
  exact turns_nat v l path mode k w hL hk z b1 (by omega)
end
end Go.Proofs.YtkipkcmcolomcaaGreat.Pln
