/- PlainLists, walked. -/
import Derived.BigQuiet
import Derived.Lib.Strings
import Derived.Test.YtkipkcmcolomcaaGreatPk09
import Derived.Test.YtkipkcmcolomcaaGreatPk35
namespace Go.Proofs.YtkipkcmcolomcaaGreat.Pln
open Go.RowKit
open Dir (N nm nm_mem Nms)
open Pth (slash)
attribute [local go_sem] Oper.semAt_some
set_option linter.unusedVariables false
set_option linter.unusedSimpArgs false
theorem str_geq (t : TypeId) (a b : ByteArray) : binOp .geq t (.string a) (.string b) = pure (.bool !(Op.bytesLess a.toList b.toList)) := by simp [binOp, Op.stringOp]
attribute [local go_sem] str_geq
section
set_option maxRecDepth 100000
set_option maxHeartbeats 8000000
theorem PlainLists_walk (v : Value) (l : List Nd) (w : World) (hL : Nodes w v l) (hk : ∀ n ∈ l, n.Ok ∧ n.data.size ≤ 281474976710656) :
    Calls Tryz.prog 8 #[v] w (Ans w (.bool true)) := by
  have HL := Lib.hid hL
  have hF := fun W (h : Nodes W v l) => few_any v l W h
  by_cases hf : fewP l
  · rw [decide_eq_true hf] at hF
    have HF := Lib.hid hF
    have hA : AbleS l := ableS_few hk hf
    have hR := fun W (h : Nodes W v l) => right_any v l W h hA.1
    by_cases hr : RightL l
    · rw [decide_eq_true hr] at hR
      have HR := Lib.hid hR
      obtain ⟨D, hD⟩ := hr
      obtain ⟨l1, l2, l3⟩ := lists_law hD
      have hfine := hD.fine 2
      obtain ⟨S, hS⟩ : ∃ S, srt (ds D 2) = S := ⟨_, rfl⟩
      have hnsz : ∀ k, k < S.length → (nm S k).name.size ≤ 59 ∧ (nm S k).ino < 4294967296 := fun k hk => by
        have hm := hfine.mem _ ((srt_perm _).mem_iff.1 (by rw [hS]; exact nm_mem hk))
        exact ⟨hm.1.2.1, hm.2.2⟩
      rw [hS] at l1 l2 l3
      have HT := Lib.hid (fun u W (h : Nodes W u l) => do_anyS u l (lsC ⟨#[47]⟩) 0 W h hA (by have hz0 : none0.size = 0 := rfl; have h47 : (⟨#[47]⟩ : ByteArray).size = 1 := rfl; unfold Cl.OkS Cl.Ok lsC; dsimp only; omega) (by show (0 : Nat) ≤ _; omega) (by omega))
      rw [do_asksV (c := lsC ⟨#[47]⟩) (.inr (.inr (.inr rfl))), l1] at HT
      have HD2 : Hid (∀ k, k < S.length → ∀ u W (h : Nodes W u l), Calls Tryz.prog 14 #[u, (stC (slash ++ (nm S k).name)).val, .int .u64 0] W (DoPost W l ⟨0, ⟨#[]⟩, [], statOf (nd l (nm S k).ino)⟩)) := fun k hk u W h => by
        have := do_anyS u l (stC (slash ++ (nm S k).name)) 0 W h hA (by have hz0 : none0.size = 0 := rfl; have hnz := hnsz k hk; have hsl : (slash ++ (nm S k).name).size = 1 + (nm S k).name.size := (by rw [ByteArray.size_append]; rfl); unfold Cl.OkS Cl.Ok stC; dsimp only; omega) (by show (0 : Nat) ≤ _; omega) (by omega)
        rw [do_asksV (c := stC (slash ++ (nm S k).name)) (.inr (.inr (.inl rfl))), (l2 k hk).1] at this
        exact this
      have HI := Lib.hid (fun k (hk : k < S.length) => (l2 k hk).2)
      have HLT := Lib.hid l3
      have HSZ := Lib.hid hnsz
      obtain ⟨a0, c0, rfl, hcap1, hcap2⟩ := hL.parts
      unfold Cl.val lsC at HT
      unfold none0 at HT
      dsimp only at HT
      obtain ⟨ll, hll⟩ : ∃ ll, l.length = ll := ⟨_, rfl⟩
      have HLL := Lib.hid hll
      obtain ⟨N, hN⟩ : ∃ N, S.length = N := ⟨_, rfl⟩
      have HNL := Lib.hid hN
      rw [hll] at HL HF HR hcap1 HI ⊢
      rw [hN] at HD2 HI HLT HSZ
      have hl240 := hD.high
      rw [hll] at hl240
      clear hF hf hA hL hk hR l1 l2 l3 hfine hnsz hS hD hll
      go_enter Tryz.func8, Tryz.ntmps8
      go_wp2_with (first
        | (go_at_call 11; (with_reducible refine Calls.mono (shown_any _) ?_); rintro e w1 ⟨rfl, hB1⟩; have HL1 := Lib.hid (HL.out.below hB1); have HB1 := Lib.hid hB1; clear hB1)
        | (go_at_call 20; (with_reducible refine Calls.mono (HF.out _ HL1.out) ?_); rintro e w2 ⟨rfl, hB2⟩; have HL2 := Lib.hid (HL1.out.below hB2); have HB2 := Lib.hid (below_th HB1.out hB2); clear hB2)
        | (go_at_call 18; (with_reducible refine Calls.mono (HR.out _ HL2.out) ?_); rintro e w3 ⟨rfl, hB3⟩; have HL2 := Lib.hid (HL2.out.below hB3); have HB2 := Lib.hid (below_th HB2.out hB3); clear hB3)
        | (go_at_call 14; (with_reducible refine Calls.mono (HT.out _ _ HL2.out) ?_); intro e w4 hp; obtain ⟨v1, a1, n1, rfl, hL, hu, hB⟩ := hp.open; dsimp only at hu; rw [hN] at hu; have HL2 := Lib.hid ((HL2.out.below hB).below (below_new w4 (rpBox (⟨0, ⟨#[]⟩, S, St.zero⟩ : Rp) (.slice a1 N n1)))); have HNM := Lib.hid (Nms.below hu (below_new w4 (rpBox (⟨0, ⟨#[]⟩, S, St.zero⟩ : Rp) (.slice a1 N n1)))); have HQ1 := Lib.hid (RpAt.new w4 (⟨0, ⟨#[]⟩, S, St.zero⟩ : Rp) (.slice a1 N n1)); have HB2 := Lib.hid (below_al (below_th HB2.out hB) (rpBox (⟨0, ⟨#[]⟩, S, St.zero⟩ : Rp) (.slice a1 N n1))); unfold rpBox at HL2 HNM HQ1 HB2; dsimp only at HL2 HNM HQ1 HB2; have k0 := HQ1.out.c.1; dsimp only at k0; clear hp hL hB hu HT; simp only [hN]))
      obtain ⟨W4, hW4⟩ : ∃ W4, w4.alloc (.cells #[.int .i64 0, .string ⟨#[]⟩, .slice a1 N n1, .int .i64 St.zero.kind, .int .u16 St.zero.mode, .int .u16 St.zero.links, .int .i64 St.zero.size, .int .u64 St.zero.time] 36) = W4 := ⟨_, rfl⟩
      rw [hW4] at HL2 HNM HQ1 HB2 ⊢
      obtain ⟨s1, hs1⟩ : ∃ s1, w4.heap.size = s1 := ⟨_, rfl⟩
      rw [hs1] at HQ1 ⊢
      have HK : Hid (∀ W', Below W4.heap.size W4 W' → Nodes W' (.slice a0 ll c0) l ∧ Nms W' (.slice a1 N n1) S ∧ W'.cell? ⟨s1, 2, none⟩ = some (.slice a1 N n1) ∧ Below w.heap.size w W') := fun W' h => ⟨HL2.out.below h, HNM.out.below h, (HQ1.out.th h).c.2.2.1, below_th HB2.out h⟩
      have hself : Below W4.heap.size W4 W4 := Below.refl _ _
      obtain ⟨_, _, e9, hN1, hN2⟩ := HNM.out.parts
      rw [HNL.out] at e9 hN1
      cases e9
      clear HL2 HNM HQ1 HB2 hW4 hs1 k0 HR HF HL
      go_loopw [6] (fun i wr => ∃ k : Nat, k ≤ N ∧ i = .int .i64 (k : Int) ∧ Hid (Below W4.heap.size W4 wr)) (fun i _ => N - (intOf i).toNat)
      case atStart => exact ⟨0, by omega, rfl, hself⟩
      case round =>
        obtain ⟨k, hk, rfl, HBw⟩ := hrel
        clear hself
        obtain ⟨N1, N2, N3, N4⟩ := HK.out _ HBw.out
        by_cases hlt : k < N
        · have hino := HI.out k hlt
          obtain ⟨hz1, hz2⟩ := HSZ.out k hlt
          obtain ⟨gb, go, cp, e1, y0, y1⟩ := N2.at (k := k) (by rw [HNL.out]; exact hlt)
          rw [HNL.out] at e1
          cases e1
          obtain ⟨lb, lo, cp2, e2, _⟩ := N1.at (k := (nm S k).ino) (by rw [HLL.out]; exact hino)
          rw [HLL.out] at e2
          cases e2
          have hDK := HD2.out k hlt
          obtain ⟨x, hx⟩ : ∃ x, nm S k = x := ⟨_, rfl⟩
          rw [hx] at hDK hino hz1 hz2 y0 y1
          obtain ⟨xn, xi⟩ := x
          dsimp only at hDK hino hz1 hz2 y0 y1
          obtain ⟨B, hB2⟩ : ∃ B, nd l xi = B := ⟨_, rfl⟩
          have hBs : statOf (nd l xi) = ⟨B.kind, B.mode, B.links, B.data.size, B.time⟩ := by rw [hB2]; rfl
          rw [hBs] at hDK
          obtain ⟨Bk, Bm, Bl, Bt, Bd⟩ := B
          dsimp only at hDK
          have hadd := fun W => run_string_add_sum (P := Tryz.prog) (w := W) (⟨#[47]⟩ : ByteArray) xn (by show (1 : Nat) + _ ≤ _; omega)
          unfold stC Cl.val slash none0 at hDK
          dsimp only at hDK
          have HDK := Lib.hid hDK
          have HX := Lib.hid hx
          have HB3 := Lib.hid hB2
          have HIN := Lib.hid hino
          have hge1 : decide ((ll : Int) ≤ (xi : Int)) = false := decide_eq_false (by omega)
          have hge2 : decide (ll ≤ xi) = false := decide_eq_false (by omega)
          have hkn : (k : Int) < (N : Int) := by omega
          have hxl : (xi : Int) < (ll : Int) := by omega
          clear hDK hBs hx hB2
          by_cases hk0 : k = 0
          · have hk1 : decide (0 < k) = false := decide_eq_false (by omega)
            have hk2 : decide ((0 : Int) < (k : Int)) = false := decide_eq_false (by omega)
            have HKK := Lib.hid hk0
            clear hk0
            go_wp2_with (first
            | (go_at_call 14; (with_reducible refine Calls.mono (HDK.out _ _ N1) ?_); intro e w7 hq; obtain ⟨v7, a7, n7, rfl, _, _, hB⟩ := hq.open; dsimp only; have HW := Lib.hid (below_al (below_th HBw.out hB) (rpBox (⟨0, ⟨#[]⟩, [], ⟨Bk, Bm, Bl, Bd.size, Bt⟩⟩ : Rp) (.slice a7 0 n7))); obtain ⟨M1, M2, M3, M4⟩ := HK.out _ HW.out; obtain ⟨x0, x1⟩ := M2.get HNL.out hlt; rw [HX.out] at x0 x1; obtain ⟨z0, _, _, _, z4⟩ := M1.get HLL.out HIN.out; rw [HB3.out] at z0 z4; obtain ⟨r0, _, _, r3, _, _, r6, _⟩ := (RpAt.new w7 (⟨0, ⟨#[]⟩, [], ⟨Bk, Bm, Bl, Bd.size, Bt⟩⟩ : Rp) (.slice a7 0 n7)).c; unfold rpBox at *; dsimp only at *; clear hq hB M1 M2 M4))
            go_quiet (fail)
            go_wp2
            go_roundw
            case rel => exact ⟨k + 1, by omega, by go_num, below_drewN HW.out _⟩
            case measure => simp [intOf]; omega
          · obtain ⟨p, hp⟩ : ∃ p, p + 1 = k := ⟨k - 1, by omega⟩
            have hup := HLT.out p (by rw [hp]; exact hlt)
            rw [hp, HX.out] at hup
            unfold Dir.ltB at hup
            dsimp only at hup
            have hpN : p < N := by omega
            have hp1 : (p : Int) < (N : Int) := by omega
            have hwk : IntKind.i64.wrap ((k : Int) - 1) = (p : Int) := by rw [IntKind.wrap_i64] <;> omega
            have hk1 : decide (0 < k) = true := decide_eq_true (by omega)
            have hk2 : decide ((0 : Int) < (k : Int)) = true := decide_eq_true (by omega)
            obtain ⟨y, hy⟩ : ∃ y, nm S p = y := ⟨_, rfl⟩
            rw [hy] at hup
            have HY := Lib.hid hy
            obtain ⟨yn, yi⟩ := y
            dsimp only at hup
            have HKK := Lib.hid hk0
            have HP := Lib.hid hp
            clear hk0 hp hy
            go_wp2_with (first
            | (go_at_call 14; (with_reducible refine Calls.mono (HDK.out _ _ N1) ?_); intro e w7 hq; obtain ⟨v7, a7, n7, rfl, _, _, hB⟩ := hq.open; dsimp only; have HW := Lib.hid (below_al (below_th HBw.out hB) (rpBox (⟨0, ⟨#[]⟩, [], ⟨Bk, Bm, Bl, Bd.size, Bt⟩⟩ : Rp) (.slice a7 0 n7))); obtain ⟨M1, M2, M3, M4⟩ := HK.out _ HW.out; obtain ⟨x0, x1⟩ := M2.get HNL.out hlt; rw [HX.out] at x0 x1; obtain ⟨z0, _, _, _, z4⟩ := M1.get HLL.out HIN.out; rw [HB3.out] at z0 z4; obtain ⟨x2, x3⟩ := M2.get HNL.out hpN; rw [HY.out] at x2 x3; obtain ⟨r0, _, _, r3, _, _, r6, _⟩ := (RpAt.new w7 (⟨0, ⟨#[]⟩, [], ⟨Bk, Bm, Bl, Bd.size, Bt⟩⟩ : Rp) (.slice a7 0 n7)).c; unfold rpBox at *; dsimp only at *; clear hq hB M1 M2 M4))
            go_quiet (fail)
            go_wp2
            go_roundw
            case rel => exact ⟨k + 1, by omega, by go_num, below_drewN HW.out _⟩
            case measure => simp [intOf]; omega
        · obtain rfl : k = N := by omega
          have HE := Lib.hid N4
          clear N1 N2 N4
          go_wp2
          go_ret
          exact ⟨rfl, HE.out⟩
    · rw [decide_eq_false hr] at hR
      have HR := Lib.hid hR
      clear hF hf hA hL hk hR hr
      go_enter Tryz.func8, Tryz.ntmps8
      go_wp2_with (first
        | (go_at_call 11; (with_reducible refine Calls.mono (shown_any _) ?_); rintro e w1 ⟨rfl, hB1⟩; have HL1 := Lib.hid (HL.out.below hB1); have HB1 := Lib.hid hB1; clear hB1)
        | (go_at_call 20; (with_reducible refine Calls.mono (HF.out _ HL1.out) ?_); rintro e w2 ⟨rfl, hB2⟩; have HL2 := Lib.hid (HL1.out.below hB2); have HB2 := Lib.hid (below_th HB1.out hB2); clear hB2)
        | (go_at_call 18; (with_reducible refine Calls.mono (HR.out _ HL2.out) ?_); rintro e w3 ⟨rfl, hB3⟩; have HL2 := Lib.hid (HL2.out.below hB3); have HB2 := Lib.hid (below_th HB2.out hB3); clear hB3))
      go_ret
      exact ⟨rfl, HB2.out⟩
  · rw [decide_eq_false hf] at hF
    have HF := Lib.hid hF
    clear hF hf hL
    go_enter Tryz.func8, Tryz.ntmps8
    go_wp2_with (first
        | (go_at_call 11; (with_reducible refine Calls.mono (shown_any _) ?_); rintro e w1 ⟨rfl, hB1⟩; have HL1 := Lib.hid (HL.out.below hB1); have HB1 := Lib.hid hB1; clear hB1)
        | (go_at_call 20; (with_reducible refine Calls.mono (HF.out _ HL1.out) ?_); rintro e w2 ⟨rfl, hB2⟩; have HL2 := Lib.hid (HL1.out.below hB2); have HB2 := Lib.hid (below_th HB1.out hB2); clear hB2))
    go_ret
    exact ⟨rfl, HB2.out⟩
end
end Go.Proofs.YtkipkcmcolomcaaGreat.Pln
