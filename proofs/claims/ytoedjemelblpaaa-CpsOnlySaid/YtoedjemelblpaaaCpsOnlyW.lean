/- CpsOnly, walked. -/
import Derived.Test.YtoedjemelblpaaaCpsAddN
import Derived.Test.YtoedjemelblpaaaCpsFacts
import Derived.Test.YtoedjemelblpaaaCpsArgs
namespace Go.Proofs.Ytoedjemelblpaaa.Cps
open Go.RowKit
attribute [local go_sem] Oper.semAt_some
set_option linter.unusedVariables false
set_option linter.unusedSimpArgs false
theorem two_right {a b : C} (h : RightP [a]) : addE [a] b = if RightP [a, b] then 0 else 90 := by
  unfold addE
  rw [if_pos h, if_neg (by simp)]
  rfl
section
set_option maxRecDepth 100000
set_option maxHeartbeats 16000000
theorem CpsOnly_walk (a b : C) (now0 keep0 : Int) (w : World) (wa : COk a) (wb : COk b) (k4 : (Lit.int .u64 now0).wf = true) (k5 : (Lit.int .u64 keep0).wf = true) :
    Calls Try.prog 10 #[a.val, b.val, .int .u64 now0, .int .u64 keep0] w fun e w' => e = .returned (.bool true) ∧ Below w.heap.size w w' := by
  have b4 := boundsU k4
  have b5 := boundsU k5
  obtain ⟨now, rfl⟩ := Int.eq_ofNat_of_zero_le b4.1
  obtain ⟨keep, rfl⟩ := Int.eq_ofNat_of_zero_le b5.1
  have hnow : now < 18446744073709551616 := by omega
  clear wb k4 k5 b4 b5
  have H1 := Lib.hid (fun W => add_newv (.slice none 0 0) [] a W (Chs.nil W))
  unfold TabN at H1
  obtain ⟨W0, rfl⟩ : ∃ W0 : World, W0 = w := ⟨_, rfl⟩
  obtain ⟨Wb, hWb⟩ : ∃ Wb, (W0.alloc (boxO a)).alloc (boxO b) = Wb := ⟨_, rfl⟩
  have hB0 : Below W0.heap.size W0 Wb := by rw [← hWb]; exact below_al (below_new _ _) _
  have hAa : At Wb W0.heap.size a := by rw [← hWb]; exact (At.new W0 a).th (below_new _ _)
  have hAb : At Wb (W0.heap.size + 1) b := by
    rw [← hWb]
    have := At.new (W0.alloc (boxO a)) b
    rwa [World.size_alloc] at this
  have hszb : Wb.heap.size = W0.heap.size + 2 := by rw [← hWb]; simp
  have HPC := Lib.hid (fun W v X (h : Chs W v X) => h.parts)
  by_cases h0 : addE [] a = 0
  · have hr := right_one h0
    rw [h0, show addV [] a = [a] from if_pos h0] at H1
    obtain ⟨e1, e2, e3⟩ := only_exp hr now keep
    have H2 := Lib.hid (fun v W (h : Chs W v [a]) => expire_any v [a] now keep W h hnow)
    unfold ExpPost at H2
    rw [e1, e2, e3, show (((0 : Nat) : Int)) = 0 from rfl] at H2
    have H3 := Lib.hid (fun v W (h : Chs W v [a]) => delete_any v [a] a.cp W h)
    unfold TabPost at H3
    rw [only_del hr, show delV [a] a.cp = [] from if_neg (by rw [only_del hr]; decide)] at H3
    have HS1 := Lib.hid (fun v1 v2 W h1 h2 => same_any v1 v2 [a] [a] W h1 h2)
    simp only [decide_true] at HS1
    have hcp : a.cp < 281474976710656 := (hr.fine (i := 0) (by simp)).1
    obtain ⟨m1, hm1⟩ : ∃ m, a.cp + 1 = m := ⟨_, rfl⟩
    obtain ⟨b2, hb2⟩ : ∃ c : C, (⟨m1, b.tick, b.snap, b.root⟩ : C) = c := ⟨_, rfl⟩
    have H4 := Lib.hid (fun v W (h : Chs W v [a]) => add_any v [a] b2 W h)
    unfold TabPost at H4
    have HPA := Lib.hid (fun W v (h : Chs W v [a]) => show ∃ g o c, v = .slice (some ⟨g, o, none⟩) 1 c by
      rcases h.open with ⟨x, c, _, e⟩ | ⟨g, o, c, e, _⟩
      · simp at e
      · exact ⟨g, o, c, e⟩)
    -- behind the store into the second one's box
    have HSET := Lib.hid (fun W g o c (hB : Below Wb.heap.size Wb W) (h : Chs W (.slice (some ⟨g, o, none⟩) 1 c) [a]) (hg : W0.heap.size + 2 ≤ g) =>
      show (W.setCell ⟨W0.heap.size + 1, 0, none⟩ (.int .u64 (m1 : Int))).cell? ⟨W0.heap.size + 1, 0, none⟩ = some (.int .u64 (m1 : Int)) ∧ (∃ u, W.cell? ⟨W0.heap.size + 1, 0, none⟩ = some u) ∧ W.frozen? ⟨W0.heap.size + 1, 0, none⟩ = false ∧
        Hid (Chs (W.setCell ⟨W0.heap.size + 1, 0, none⟩ (.int .u64 (m1 : Int))) (.slice (some ⟨g, o, none⟩) 1 c) [a] ∧ At (W.setCell ⟨W0.heap.size + 1, 0, none⟩ (.int .u64 (m1 : Int))) W0.heap.size a ∧ At (W.setCell ⟨W0.heap.size + 1, 0, none⟩ (.int .u64 (m1 : Int))) (W0.heap.size + 1) b2 ∧ Below W0.heap.size W0 (W.setCell ⟨W0.heap.size + 1, 0, none⟩ (.int .u64 (m1 : Int)))) by
      have hb := hAb.th hB
      have ha := hAa.th hB
      obtain ⟨h1, h2⟩ := hb.put_cp m1
      refine ⟨h1.c.1, ⟨_, hb.c.1⟩, hb.f 0, h.keep fun g2 o2 k2 c2 e2 _ => Below.heap_setCell _ _ _ _ (by cases e2; show g ≠ W0.heap.size + 1; omega), ha.of_heap (Below.heap_setCell _ _ _ _ (by show W0.heap.size ≠ W0.heap.size + 1; omega)), by rw [← hb2]; exact h1, ?_⟩
      exact (below_th hB0 hB).setCell (p := ⟨W0.heap.size + 1, 0, none⟩) (by show W0.heap.size ≤ W0.heap.size + 1; omega) _)
    have hwc : IntKind.u64.wrap ((a.cp : Int) + 1) = (m1 : Int) := by rw [IntKind.wrap_u64]; omega
    have HA := Lib.hid (fun W (h : Below Wb.heap.size Wb W) => (hAa.th h).c)
    have HP2 := Lib.hid (fun W v (h : Chs W v [a, b2]) => show ∃ x c, v = .slice x 2 c by obtain ⟨x, c, e, _⟩ := h.parts; exact ⟨x, c, e⟩)
    have HB0 := Lib.hid hB0
    by_cases hn : addE [a] b2 = 0
    · have hr2 : RightP [a, b2] := by
        by_cases hh : RightP [a, b2]
        · exact hh
        · rw [two_right hr, if_neg hh] at hn; cases hn
      rw [hn, show addV [a] b2 = [a, b2] from if_pos hn] at H4
      have H5 := Lib.hid (fun v W (h : Chs W v [a, b2]) => expire_any v [a, b2] now keep W h hnow)
      have H6 := Lib.hid (fun v W (h : Chs W v [a, b2]) => delete_any v [a, b2] a.cp W h)
      unfold ExpPost at H5
      unfold TabPost at H6
      obtain ⟨f1, f2, f3⟩ := two_exp hr2 now keep
      obtain ⟨f4, f5⟩ := two_del hr2
      rw [f1, f2] at H5
      rw [f2] at f3
      have hq := fun W => eqlC b2 b2 W
      simp only [decide_true] at hq
      have HPO := Lib.hid (fun n W v (h : Chs W v (expV [a, b2] now keep)) (hl : (expV [a, b2] now keep).length = n) => show ∃ x c, v = .slice x n c by obtain ⟨x, c, e, _⟩ := h.parts; rw [hl] at e; exact ⟨x, c, e⟩)
      have HPD := Lib.hid (fun W v (h : Chs W v [b2]) => show ∃ g o c, v = .slice (some ⟨g, o, none⟩) 1 c ∧ Reads W g o b2 by
        obtain ⟨g, o, c, e, h1⟩ := h.at (k := 0) (by simp)
        exact ⟨g, o, c, e, by simpa [ck] using h1⟩)
      generalize expV [a, b2] now keep = MX at H5 f3 HPO
      have hb2c : m1 = b2.cp := by rw [← hb2]
      obtain ⟨ac, ati, asn, ar⟩ := a
      obtain ⟨bc, bti, bs, br⟩ := b
      obtain ⟨b2c, b2t, b2s, b2r⟩ := b2
      have hd : overP ⟨ac, ati, asn, ar⟩ now keep ↔ ati + keep < now := Iff.rfl
      clear hm1 hb2 hn hr hr2 h0 e1 e2 e3 f1 f2 hAa hAb hB0 wa
      simp only at hb2c
      subst hb2c
      cases asn with
      | true =>
        rw [f4 rfl, show delV [⟨ac, ati, true, ar⟩, ⟨m1, b2t, b2s, b2r⟩] (C.cp ⟨ac, ati, true, ar⟩) = [] from if_neg (by rw [f4 rfl]; decide)] at H6
        rw [if_neg (fun hh => by cases hh.1), show (((0 : Nat) : Int)) = 0 from rfl] at H5
        rw [if_neg (fun hh => by cases hh.1)] at f3
        clear f4 f5
        by_cases h11 : ati < now
        · have g2 : decide ((ati : Int) < (now : Int)) = true := decide_eq_true (by omega)
          have g2n : decide (ati < now) = true := decide_eq_true h11
          obtain ⟨d, hdd⟩ : ∃ d, now - ati = d := ⟨_, rfl⟩
          have hwd : IntKind.u64.wrap ((now : Int) - (ati : Int)) = (d : Int) := by rw [IntKind.wrap_u64]; omega
          by_cases h12 : ati + keep < now
          · have g3 : decide ((keep : Int) < (d : Int)) = true := decide_eq_true (by omega)
            have g3n : decide (keep < d) = true := decide_eq_true (by omega)
            clear hdd
            clear hd
            unfold C.val at H1 H4 hq ⊢
            unfold boxO at hWb
            dsimp only at H1 hWb HA HSET H3 hwc H6 hq H4 ⊢
            unfold Reads at HPD
            dsimp only at HPD
            subst hWb
            go_enter Try.func10, Try.ntmps10
            go_wp2_with (first
              | (go_at_call 11; (with_reducible refine Calls.mono (shown_any _) ?_); rintro e w1 ⟨rfl, hB1⟩; obtain ⟨q0, q1, q2, q3⟩ := HA.out _ hB1)
              | (go_at_call 13; (with_reducible refine Calls.mono (H1.out _) ?_); rintro e w2 ⟨v2, rfl, h2, hNV, hB2⟩; obtain ⟨g2, o2, c2, rfl⟩ := HPA.out _ _ h2; have hg2 := hNV g2 o2 _ _ rfl; have hsz1 := hB1.size; have HL := Lib.hid h2; have hB2 := below_th hB1 hB2; clear q0 q1 q2 q3 h2 hNV; obtain ⟨q0, q1, q2, q3⟩ := HA.out _ hB2)
              | (go_at_call 27; (with_reducible refine Calls.mono (H2.out _ _ HL.out) ?_); rintro e w3 ⟨v3, rfl, h3, hB3⟩; obtain ⟨g3, o3, c3, rfl⟩ := HPA.out _ _ h3; have HM := Lib.hid h3; have HL := Lib.hid (HL.out.below hB3); have hB3 := below_th hB2 hB3; clear q0 q1 q2 q3 h3; obtain ⟨q0, q1, q2, q3⟩ := HA.out _ hB3)
              | (go_at_call 25; (with_reducible refine Calls.mono (H3.out _ _ HL.out) ?_); rintro e w4 ⟨v4, rfl, h4, hB4⟩; obtain ⟨a4, c4, rfl, _⟩ := HPC.out _ _ _ h4; have HM := Lib.hid (HM.out.below hB4); have HL := Lib.hid (HL.out.below hB4); have hB4 := below_th hB3 hB4; clear q0 q1 q2 q3 h4; obtain ⟨q0, q1, q2, q3⟩ := HA.out _ hB4)
              | (go_at_call 19; (with_reducible refine Calls.mono (HS1.out _ _ _ HM.out HL.out) ?_); rintro e w5 ⟨rfl, hB5⟩; have HL := Lib.hid (HL.out.below hB5); have hB5 := below_th hB4 hB5; clear q0 q1 q2 q3; obtain ⟨q0, q1, q2, q3⟩ := HA.out _ hB5; obtain ⟨s0, ⟨u, s1⟩, s2, HS⟩ := HSET.out _ _ _ _ hB5 HL.out (by omega); obtain ⟨p0, p1, p2, p3⟩ := HS.out.2.1.c; obtain ⟨z0, z1, z2, z3⟩ := HS.out.2.2.1.c; dsimp only at p0 p1 p2 p3 z0 z1 z2 z3; generalize hW5 : w5.setCell ⟨W0.heap.size + 1, 0, none⟩ (.int .u64 (m1 : Int)) = w6 at s0 HS p0 p1 p2 p3 z0 z1 z2 z3)
              | (go_at_call 13; (with_reducible refine Calls.mono (H4.out _ _ HS.out.1) ?_); rintro e w7 ⟨v7, rfl, h7, hB7⟩; obtain ⟨a7, c7, rfl⟩ := HP2.out _ _ h7; have HK := Lib.hid h7; clear h7 p0 p1 p2 p3 z0 z1 z2 z3; obtain ⟨p0, p1, p2, p3⟩ := (HS.out.2.1.th hB7).c; dsimp only at p0 p1 p2 p3)
              | (go_at_call 27; (with_reducible refine Calls.mono (H5.out _ _ HK.out) ?_); rintro e w8 ⟨v8, rfl, h8, hB8⟩; obtain ⟨a8, c8, rfl⟩ := HPO.out _ _ _ h8 f3; have HK := Lib.hid (HK.out.below hB8); have hB8 := below_th hB7 hB8; clear h8 p0 p1 p2 p3; obtain ⟨p0, p1, p2, p3⟩ := (HS.out.2.1.th hB8).c; dsimp only at p0 p1 p2 p3)
              | (go_at_call 25; (with_reducible refine Calls.mono (H6.out _ _ HK.out) ?_); rintro e w9 ⟨v9, rfl, h9, hB9⟩; obtain ⟨a9, c9, rfl, _⟩ := HPC.out _ _ _ h9; have hB9 := below_th hB8 hB9; clear h9 p0 p1 p2 p3; obtain ⟨p0, p1, p2, p3⟩ := (HS.out.2.1.th hB9).c; dsimp only at p0 p1 p2 p3))
            go_ret
            exact ⟨by simp, below_th HS.out.2.2.2 hB9⟩
          · have g3 : decide ((keep : Int) < (d : Int)) = false := decide_eq_false (by omega)
            have g3n : decide (keep < d) = false := decide_eq_false (by omega)
            clear hdd
            clear hd
            unfold C.val at H1 H4 hq ⊢
            unfold boxO at hWb
            dsimp only at H1 hWb HA HSET H3 hwc H6 hq H4 ⊢
            unfold Reads at HPD
            dsimp only at HPD
            subst hWb
            go_enter Try.func10, Try.ntmps10
            go_wp2_with (first
              | (go_at_call 11; (with_reducible refine Calls.mono (shown_any _) ?_); rintro e w1 ⟨rfl, hB1⟩; obtain ⟨q0, q1, q2, q3⟩ := HA.out _ hB1)
              | (go_at_call 13; (with_reducible refine Calls.mono (H1.out _) ?_); rintro e w2 ⟨v2, rfl, h2, hNV, hB2⟩; obtain ⟨g2, o2, c2, rfl⟩ := HPA.out _ _ h2; have hg2 := hNV g2 o2 _ _ rfl; have hsz1 := hB1.size; have HL := Lib.hid h2; have hB2 := below_th hB1 hB2; clear q0 q1 q2 q3 h2 hNV; obtain ⟨q0, q1, q2, q3⟩ := HA.out _ hB2)
              | (go_at_call 27; (with_reducible refine Calls.mono (H2.out _ _ HL.out) ?_); rintro e w3 ⟨v3, rfl, h3, hB3⟩; obtain ⟨g3, o3, c3, rfl⟩ := HPA.out _ _ h3; have HM := Lib.hid h3; have HL := Lib.hid (HL.out.below hB3); have hB3 := below_th hB2 hB3; clear q0 q1 q2 q3 h3; obtain ⟨q0, q1, q2, q3⟩ := HA.out _ hB3)
              | (go_at_call 25; (with_reducible refine Calls.mono (H3.out _ _ HL.out) ?_); rintro e w4 ⟨v4, rfl, h4, hB4⟩; obtain ⟨a4, c4, rfl, _⟩ := HPC.out _ _ _ h4; have HM := Lib.hid (HM.out.below hB4); have HL := Lib.hid (HL.out.below hB4); have hB4 := below_th hB3 hB4; clear q0 q1 q2 q3 h4; obtain ⟨q0, q1, q2, q3⟩ := HA.out _ hB4)
              | (go_at_call 19; (with_reducible refine Calls.mono (HS1.out _ _ _ HM.out HL.out) ?_); rintro e w5 ⟨rfl, hB5⟩; have HL := Lib.hid (HL.out.below hB5); have hB5 := below_th hB4 hB5; clear q0 q1 q2 q3; obtain ⟨q0, q1, q2, q3⟩ := HA.out _ hB5; obtain ⟨s0, ⟨u, s1⟩, s2, HS⟩ := HSET.out _ _ _ _ hB5 HL.out (by omega); obtain ⟨p0, p1, p2, p3⟩ := HS.out.2.1.c; obtain ⟨z0, z1, z2, z3⟩ := HS.out.2.2.1.c; dsimp only at p0 p1 p2 p3 z0 z1 z2 z3; generalize hW5 : w5.setCell ⟨W0.heap.size + 1, 0, none⟩ (.int .u64 (m1 : Int)) = w6 at s0 HS p0 p1 p2 p3 z0 z1 z2 z3)
              | (go_at_call 13; (with_reducible refine Calls.mono (H4.out _ _ HS.out.1) ?_); rintro e w7 ⟨v7, rfl, h7, hB7⟩; obtain ⟨a7, c7, rfl⟩ := HP2.out _ _ h7; have HK := Lib.hid h7; clear h7 p0 p1 p2 p3 z0 z1 z2 z3; obtain ⟨p0, p1, p2, p3⟩ := (HS.out.2.1.th hB7).c; dsimp only at p0 p1 p2 p3)
              | (go_at_call 27; (with_reducible refine Calls.mono (H5.out _ _ HK.out) ?_); rintro e w8 ⟨v8, rfl, h8, hB8⟩; obtain ⟨a8, c8, rfl⟩ := HPO.out _ _ _ h8 f3; have HK := Lib.hid (HK.out.below hB8); have hB8 := below_th hB7 hB8; clear h8 p0 p1 p2 p3; obtain ⟨p0, p1, p2, p3⟩ := (HS.out.2.1.th hB8).c; dsimp only at p0 p1 p2 p3)
              | (go_at_call 25; (with_reducible refine Calls.mono (H6.out _ _ HK.out) ?_); rintro e w9 ⟨v9, rfl, h9, hB9⟩; obtain ⟨a9, c9, rfl, _⟩ := HPC.out _ _ _ h9; have hB9 := below_th hB8 hB9; clear h9 p0 p1 p2 p3; obtain ⟨p0, p1, p2, p3⟩ := (HS.out.2.1.th hB9).c; dsimp only at p0 p1 p2 p3))
            go_ret
            exact ⟨by simp, below_th HS.out.2.2.2 hB9⟩
        · have g2 : decide ((ati : Int) < (now : Int)) = false := decide_eq_false (by omega)
          have g2n : decide (ati < now) = false := decide_eq_false h11
          clear hd
          unfold C.val at H1 H4 hq ⊢
          unfold boxO at hWb
          dsimp only at H1 hWb HA HSET H3 hwc H6 hq H4 ⊢
          unfold Reads at HPD
          dsimp only at HPD
          subst hWb
          go_enter Try.func10, Try.ntmps10
          go_wp2_with (first
            | (go_at_call 11; (with_reducible refine Calls.mono (shown_any _) ?_); rintro e w1 ⟨rfl, hB1⟩; obtain ⟨q0, q1, q2, q3⟩ := HA.out _ hB1)
            | (go_at_call 13; (with_reducible refine Calls.mono (H1.out _) ?_); rintro e w2 ⟨v2, rfl, h2, hNV, hB2⟩; obtain ⟨g2, o2, c2, rfl⟩ := HPA.out _ _ h2; have hg2 := hNV g2 o2 _ _ rfl; have hsz1 := hB1.size; have HL := Lib.hid h2; have hB2 := below_th hB1 hB2; clear q0 q1 q2 q3 h2 hNV; obtain ⟨q0, q1, q2, q3⟩ := HA.out _ hB2)
            | (go_at_call 27; (with_reducible refine Calls.mono (H2.out _ _ HL.out) ?_); rintro e w3 ⟨v3, rfl, h3, hB3⟩; obtain ⟨g3, o3, c3, rfl⟩ := HPA.out _ _ h3; have HM := Lib.hid h3; have HL := Lib.hid (HL.out.below hB3); have hB3 := below_th hB2 hB3; clear q0 q1 q2 q3 h3; obtain ⟨q0, q1, q2, q3⟩ := HA.out _ hB3)
            | (go_at_call 25; (with_reducible refine Calls.mono (H3.out _ _ HL.out) ?_); rintro e w4 ⟨v4, rfl, h4, hB4⟩; obtain ⟨a4, c4, rfl, _⟩ := HPC.out _ _ _ h4; have HM := Lib.hid (HM.out.below hB4); have HL := Lib.hid (HL.out.below hB4); have hB4 := below_th hB3 hB4; clear q0 q1 q2 q3 h4; obtain ⟨q0, q1, q2, q3⟩ := HA.out _ hB4)
            | (go_at_call 19; (with_reducible refine Calls.mono (HS1.out _ _ _ HM.out HL.out) ?_); rintro e w5 ⟨rfl, hB5⟩; have HL := Lib.hid (HL.out.below hB5); have hB5 := below_th hB4 hB5; clear q0 q1 q2 q3; obtain ⟨q0, q1, q2, q3⟩ := HA.out _ hB5; obtain ⟨s0, ⟨u, s1⟩, s2, HS⟩ := HSET.out _ _ _ _ hB5 HL.out (by omega); obtain ⟨p0, p1, p2, p3⟩ := HS.out.2.1.c; obtain ⟨z0, z1, z2, z3⟩ := HS.out.2.2.1.c; dsimp only at p0 p1 p2 p3 z0 z1 z2 z3; generalize hW5 : w5.setCell ⟨W0.heap.size + 1, 0, none⟩ (.int .u64 (m1 : Int)) = w6 at s0 HS p0 p1 p2 p3 z0 z1 z2 z3)
            | (go_at_call 13; (with_reducible refine Calls.mono (H4.out _ _ HS.out.1) ?_); rintro e w7 ⟨v7, rfl, h7, hB7⟩; obtain ⟨a7, c7, rfl⟩ := HP2.out _ _ h7; have HK := Lib.hid h7; clear h7 p0 p1 p2 p3 z0 z1 z2 z3; obtain ⟨p0, p1, p2, p3⟩ := (HS.out.2.1.th hB7).c; dsimp only at p0 p1 p2 p3)
            | (go_at_call 27; (with_reducible refine Calls.mono (H5.out _ _ HK.out) ?_); rintro e w8 ⟨v8, rfl, h8, hB8⟩; obtain ⟨a8, c8, rfl⟩ := HPO.out _ _ _ h8 f3; have HK := Lib.hid (HK.out.below hB8); have hB8 := below_th hB7 hB8; clear h8 p0 p1 p2 p3; obtain ⟨p0, p1, p2, p3⟩ := (HS.out.2.1.th hB8).c; dsimp only at p0 p1 p2 p3)
            | (go_at_call 25; (with_reducible refine Calls.mono (H6.out _ _ HK.out) ?_); rintro e w9 ⟨v9, rfl, h9, hB9⟩; obtain ⟨a9, c9, rfl, _⟩ := HPC.out _ _ _ h9; have hB9 := below_th hB8 hB9; clear h9 p0 p1 p2 p3; obtain ⟨p0, p1, p2, p3⟩ := (HS.out.2.1.th hB9).c; dsimp only at p0 p1 p2 p3))
          go_ret
          exact ⟨by simp, below_th HS.out.2.2.2 hB9⟩
      | false =>
        obtain ⟨f6, f7⟩ := f5 rfl
        rw [f6, f7] at H6
        clear f4 f5 f6 f7
        by_cases h11 : ati < now
        · have g2 : decide ((ati : Int) < (now : Int)) = true := decide_eq_true (by omega)
          have g2n : decide (ati < now) = true := decide_eq_true h11
          obtain ⟨d, hdd⟩ : ∃ d, now - ati = d := ⟨_, rfl⟩
          have hwd : IntKind.u64.wrap ((now : Int) - (ati : Int)) = (d : Int) := by rw [IntKind.wrap_u64]; omega
          by_cases h12 : ati + keep < now
          · have g3 : decide ((keep : Int) < (d : Int)) = true := decide_eq_true (by omega)
            have g3n : decide (keep < d) = true := decide_eq_true (by omega)
            clear hdd
            have hov := And.intro (rfl : false = false) (hd.2 h12)
            rw [if_pos hov, show (((1 : Nat) : Int)) = 1 from rfl] at H5
            rw [if_pos hov] at f3
            clear hov hd h12
            unfold C.val at H1 H4 hq ⊢
            unfold boxO at hWb
            dsimp only at H1 hWb HA HSET H3 hwc H6 hq H4 ⊢
            unfold Reads at HPD
            dsimp only at HPD
            subst hWb
            go_enter Try.func10, Try.ntmps10
            go_wp2_with (first
              | (go_at_call 11; (with_reducible refine Calls.mono (shown_any _) ?_); rintro e w1 ⟨rfl, hB1⟩; obtain ⟨q0, q1, q2, q3⟩ := HA.out _ hB1)
              | (go_at_call 13; (with_reducible refine Calls.mono (H1.out _) ?_); rintro e w2 ⟨v2, rfl, h2, hNV, hB2⟩; obtain ⟨g2, o2, c2, rfl⟩ := HPA.out _ _ h2; have hg2 := hNV g2 o2 _ _ rfl; have hsz1 := hB1.size; have HL := Lib.hid h2; have hB2 := below_th hB1 hB2; clear q0 q1 q2 q3 h2 hNV; obtain ⟨q0, q1, q2, q3⟩ := HA.out _ hB2)
              | (go_at_call 27; (with_reducible refine Calls.mono (H2.out _ _ HL.out) ?_); rintro e w3 ⟨v3, rfl, h3, hB3⟩; obtain ⟨g3, o3, c3, rfl⟩ := HPA.out _ _ h3; have HM := Lib.hid h3; have HL := Lib.hid (HL.out.below hB3); have hB3 := below_th hB2 hB3; clear q0 q1 q2 q3 h3; obtain ⟨q0, q1, q2, q3⟩ := HA.out _ hB3)
              | (go_at_call 25; (with_reducible refine Calls.mono (H3.out _ _ HL.out) ?_); rintro e w4 ⟨v4, rfl, h4, hB4⟩; obtain ⟨a4, c4, rfl, _⟩ := HPC.out _ _ _ h4; have HM := Lib.hid (HM.out.below hB4); have HL := Lib.hid (HL.out.below hB4); have hB4 := below_th hB3 hB4; clear q0 q1 q2 q3 h4; obtain ⟨q0, q1, q2, q3⟩ := HA.out _ hB4)
              | (go_at_call 19; (with_reducible refine Calls.mono (HS1.out _ _ _ HM.out HL.out) ?_); rintro e w5 ⟨rfl, hB5⟩; have HL := Lib.hid (HL.out.below hB5); have hB5 := below_th hB4 hB5; clear q0 q1 q2 q3; obtain ⟨q0, q1, q2, q3⟩ := HA.out _ hB5; obtain ⟨s0, ⟨u, s1⟩, s2, HS⟩ := HSET.out _ _ _ _ hB5 HL.out (by omega); obtain ⟨p0, p1, p2, p3⟩ := HS.out.2.1.c; obtain ⟨z0, z1, z2, z3⟩ := HS.out.2.2.1.c; dsimp only at p0 p1 p2 p3 z0 z1 z2 z3; generalize hW5 : w5.setCell ⟨W0.heap.size + 1, 0, none⟩ (.int .u64 (m1 : Int)) = w6 at s0 HS p0 p1 p2 p3 z0 z1 z2 z3)
              | (go_at_call 13; (with_reducible refine Calls.mono (H4.out _ _ HS.out.1) ?_); rintro e w7 ⟨v7, rfl, h7, hB7⟩; obtain ⟨a7, c7, rfl⟩ := HP2.out _ _ h7; have HK := Lib.hid h7; clear h7 p0 p1 p2 p3 z0 z1 z2 z3; obtain ⟨p0, p1, p2, p3⟩ := (HS.out.2.1.th hB7).c; dsimp only at p0 p1 p2 p3)
              | (go_at_call 27; (with_reducible refine Calls.mono (H5.out _ _ HK.out) ?_); rintro e w8 ⟨v8, rfl, h8, hB8⟩; obtain ⟨a8, c8, rfl⟩ := HPO.out _ _ _ h8 f3; have HK := Lib.hid (HK.out.below hB8); have hB8 := below_th hB7 hB8; clear h8 p0 p1 p2 p3; obtain ⟨p0, p1, p2, p3⟩ := (HS.out.2.1.th hB8).c; dsimp only at p0 p1 p2 p3)
              | (go_at_call 25; (with_reducible refine Calls.mono (H6.out _ _ HK.out) ?_); rintro e w9 ⟨v9, rfl, h9, hB9⟩; obtain ⟨g9, o9, c9, rfl, t0, t1, t2, t3⟩ := HPD.out _ _ h9; have hB9 := below_th hB8 hB9; clear h9 p0 p1 p2 p3; obtain ⟨p0, p1, p2, p3⟩ := (HS.out.2.1.th hB9).c; dsimp only at p0 p1 p2 p3; obtain ⟨z0, z1, z2, z3⟩ := (HS.out.2.2.1.th hB9).c; dsimp only at z0 z1 z2 z3))
            go_quiet (fail)
            go_wp2
            go_ret
            exact ⟨by simp, below_drewN (below_th HS.out.2.2.2 hB9) _⟩
          · have g3 : decide ((keep : Int) < (d : Int)) = false := decide_eq_false (by omega)
            have g3n : decide (keep < d) = false := decide_eq_false (by omega)
            clear hdd
            have hov : ¬ (false = false ∧ overP ⟨ac, ati, false, ar⟩ now keep) := fun hh => h12 (hd.1 hh.2)
            rw [if_neg hov, show (((0 : Nat) : Int)) = 0 from rfl] at H5
            rw [if_neg hov] at f3
            clear hov hd h12
            unfold C.val at H1 H4 hq ⊢
            unfold boxO at hWb
            dsimp only at H1 hWb HA HSET H3 hwc H6 hq H4 ⊢
            unfold Reads at HPD
            dsimp only at HPD
            subst hWb
            go_enter Try.func10, Try.ntmps10
            go_wp2_with (first
              | (go_at_call 11; (with_reducible refine Calls.mono (shown_any _) ?_); rintro e w1 ⟨rfl, hB1⟩; obtain ⟨q0, q1, q2, q3⟩ := HA.out _ hB1)
              | (go_at_call 13; (with_reducible refine Calls.mono (H1.out _) ?_); rintro e w2 ⟨v2, rfl, h2, hNV, hB2⟩; obtain ⟨g2, o2, c2, rfl⟩ := HPA.out _ _ h2; have hg2 := hNV g2 o2 _ _ rfl; have hsz1 := hB1.size; have HL := Lib.hid h2; have hB2 := below_th hB1 hB2; clear q0 q1 q2 q3 h2 hNV; obtain ⟨q0, q1, q2, q3⟩ := HA.out _ hB2)
              | (go_at_call 27; (with_reducible refine Calls.mono (H2.out _ _ HL.out) ?_); rintro e w3 ⟨v3, rfl, h3, hB3⟩; obtain ⟨g3, o3, c3, rfl⟩ := HPA.out _ _ h3; have HM := Lib.hid h3; have HL := Lib.hid (HL.out.below hB3); have hB3 := below_th hB2 hB3; clear q0 q1 q2 q3 h3; obtain ⟨q0, q1, q2, q3⟩ := HA.out _ hB3)
              | (go_at_call 25; (with_reducible refine Calls.mono (H3.out _ _ HL.out) ?_); rintro e w4 ⟨v4, rfl, h4, hB4⟩; obtain ⟨a4, c4, rfl, _⟩ := HPC.out _ _ _ h4; have HM := Lib.hid (HM.out.below hB4); have HL := Lib.hid (HL.out.below hB4); have hB4 := below_th hB3 hB4; clear q0 q1 q2 q3 h4; obtain ⟨q0, q1, q2, q3⟩ := HA.out _ hB4)
              | (go_at_call 19; (with_reducible refine Calls.mono (HS1.out _ _ _ HM.out HL.out) ?_); rintro e w5 ⟨rfl, hB5⟩; have HL := Lib.hid (HL.out.below hB5); have hB5 := below_th hB4 hB5; clear q0 q1 q2 q3; obtain ⟨q0, q1, q2, q3⟩ := HA.out _ hB5; obtain ⟨s0, ⟨u, s1⟩, s2, HS⟩ := HSET.out _ _ _ _ hB5 HL.out (by omega); obtain ⟨p0, p1, p2, p3⟩ := HS.out.2.1.c; obtain ⟨z0, z1, z2, z3⟩ := HS.out.2.2.1.c; dsimp only at p0 p1 p2 p3 z0 z1 z2 z3; generalize hW5 : w5.setCell ⟨W0.heap.size + 1, 0, none⟩ (.int .u64 (m1 : Int)) = w6 at s0 HS p0 p1 p2 p3 z0 z1 z2 z3)
              | (go_at_call 13; (with_reducible refine Calls.mono (H4.out _ _ HS.out.1) ?_); rintro e w7 ⟨v7, rfl, h7, hB7⟩; obtain ⟨a7, c7, rfl⟩ := HP2.out _ _ h7; have HK := Lib.hid h7; clear h7 p0 p1 p2 p3 z0 z1 z2 z3; obtain ⟨p0, p1, p2, p3⟩ := (HS.out.2.1.th hB7).c; dsimp only at p0 p1 p2 p3)
              | (go_at_call 27; (with_reducible refine Calls.mono (H5.out _ _ HK.out) ?_); rintro e w8 ⟨v8, rfl, h8, hB8⟩; obtain ⟨a8, c8, rfl⟩ := HPO.out _ _ _ h8 f3; have HK := Lib.hid (HK.out.below hB8); have hB8 := below_th hB7 hB8; clear h8 p0 p1 p2 p3; obtain ⟨p0, p1, p2, p3⟩ := (HS.out.2.1.th hB8).c; dsimp only at p0 p1 p2 p3)
              | (go_at_call 25; (with_reducible refine Calls.mono (H6.out _ _ HK.out) ?_); rintro e w9 ⟨v9, rfl, h9, hB9⟩; obtain ⟨g9, o9, c9, rfl, t0, t1, t2, t3⟩ := HPD.out _ _ h9; have hB9 := below_th hB8 hB9; clear h9 p0 p1 p2 p3; obtain ⟨p0, p1, p2, p3⟩ := (HS.out.2.1.th hB9).c; dsimp only at p0 p1 p2 p3; obtain ⟨z0, z1, z2, z3⟩ := (HS.out.2.2.1.th hB9).c; dsimp only at z0 z1 z2 z3))
            go_quiet (fail)
            go_wp2
            go_ret
            exact ⟨by simp, below_drewN (below_th HS.out.2.2.2 hB9) _⟩
        · have g2 : decide ((ati : Int) < (now : Int)) = false := decide_eq_false (by omega)
          have g2n : decide (ati < now) = false := decide_eq_false h11
          have h12 : ¬ ati + keep < now := by omega
          have hov : ¬ (false = false ∧ overP ⟨ac, ati, false, ar⟩ now keep) := fun hh => h12 (hd.1 hh.2)
          rw [if_neg hov, show (((0 : Nat) : Int)) = 0 from rfl] at H5
          rw [if_neg hov] at f3
          clear hov hd h12
          unfold C.val at H1 H4 hq ⊢
          unfold boxO at hWb
          dsimp only at H1 hWb HA HSET H3 hwc H6 hq H4 ⊢
          unfold Reads at HPD
          dsimp only at HPD
          subst hWb
          go_enter Try.func10, Try.ntmps10
          go_wp2_with (first
            | (go_at_call 11; (with_reducible refine Calls.mono (shown_any _) ?_); rintro e w1 ⟨rfl, hB1⟩; obtain ⟨q0, q1, q2, q3⟩ := HA.out _ hB1)
            | (go_at_call 13; (with_reducible refine Calls.mono (H1.out _) ?_); rintro e w2 ⟨v2, rfl, h2, hNV, hB2⟩; obtain ⟨g2, o2, c2, rfl⟩ := HPA.out _ _ h2; have hg2 := hNV g2 o2 _ _ rfl; have hsz1 := hB1.size; have HL := Lib.hid h2; have hB2 := below_th hB1 hB2; clear q0 q1 q2 q3 h2 hNV; obtain ⟨q0, q1, q2, q3⟩ := HA.out _ hB2)
            | (go_at_call 27; (with_reducible refine Calls.mono (H2.out _ _ HL.out) ?_); rintro e w3 ⟨v3, rfl, h3, hB3⟩; obtain ⟨g3, o3, c3, rfl⟩ := HPA.out _ _ h3; have HM := Lib.hid h3; have HL := Lib.hid (HL.out.below hB3); have hB3 := below_th hB2 hB3; clear q0 q1 q2 q3 h3; obtain ⟨q0, q1, q2, q3⟩ := HA.out _ hB3)
            | (go_at_call 25; (with_reducible refine Calls.mono (H3.out _ _ HL.out) ?_); rintro e w4 ⟨v4, rfl, h4, hB4⟩; obtain ⟨a4, c4, rfl, _⟩ := HPC.out _ _ _ h4; have HM := Lib.hid (HM.out.below hB4); have HL := Lib.hid (HL.out.below hB4); have hB4 := below_th hB3 hB4; clear q0 q1 q2 q3 h4; obtain ⟨q0, q1, q2, q3⟩ := HA.out _ hB4)
            | (go_at_call 19; (with_reducible refine Calls.mono (HS1.out _ _ _ HM.out HL.out) ?_); rintro e w5 ⟨rfl, hB5⟩; have HL := Lib.hid (HL.out.below hB5); have hB5 := below_th hB4 hB5; clear q0 q1 q2 q3; obtain ⟨q0, q1, q2, q3⟩ := HA.out _ hB5; obtain ⟨s0, ⟨u, s1⟩, s2, HS⟩ := HSET.out _ _ _ _ hB5 HL.out (by omega); obtain ⟨p0, p1, p2, p3⟩ := HS.out.2.1.c; obtain ⟨z0, z1, z2, z3⟩ := HS.out.2.2.1.c; dsimp only at p0 p1 p2 p3 z0 z1 z2 z3; generalize hW5 : w5.setCell ⟨W0.heap.size + 1, 0, none⟩ (.int .u64 (m1 : Int)) = w6 at s0 HS p0 p1 p2 p3 z0 z1 z2 z3)
            | (go_at_call 13; (with_reducible refine Calls.mono (H4.out _ _ HS.out.1) ?_); rintro e w7 ⟨v7, rfl, h7, hB7⟩; obtain ⟨a7, c7, rfl⟩ := HP2.out _ _ h7; have HK := Lib.hid h7; clear h7 p0 p1 p2 p3 z0 z1 z2 z3; obtain ⟨p0, p1, p2, p3⟩ := (HS.out.2.1.th hB7).c; dsimp only at p0 p1 p2 p3)
            | (go_at_call 27; (with_reducible refine Calls.mono (H5.out _ _ HK.out) ?_); rintro e w8 ⟨v8, rfl, h8, hB8⟩; obtain ⟨a8, c8, rfl⟩ := HPO.out _ _ _ h8 f3; have HK := Lib.hid (HK.out.below hB8); have hB8 := below_th hB7 hB8; clear h8 p0 p1 p2 p3; obtain ⟨p0, p1, p2, p3⟩ := (HS.out.2.1.th hB8).c; dsimp only at p0 p1 p2 p3)
            | (go_at_call 25; (with_reducible refine Calls.mono (H6.out _ _ HK.out) ?_); rintro e w9 ⟨v9, rfl, h9, hB9⟩; obtain ⟨g9, o9, c9, rfl, t0, t1, t2, t3⟩ := HPD.out _ _ h9; have hB9 := below_th hB8 hB9; clear h9 p0 p1 p2 p3; obtain ⟨p0, p1, p2, p3⟩ := (HS.out.2.1.th hB9).c; dsimp only at p0 p1 p2 p3; obtain ⟨z0, z1, z2, z3⟩ := (HS.out.2.2.1.th hB9).c; dsimp only at z0 z1 z2 z3))
          go_quiet (fail)
          go_wp2
          go_ret
          exact ⟨by simp, below_drewN (below_th HS.out.2.2.2 hB9) _⟩
    · obtain ⟨n, hne⟩ : ∃ n, addE [a] b2 = n := ⟨_, rfl⟩
      rw [hne] at H4 hn
      have g1 : (n == 0) = false := by simp [hn]
      have g1' : (n != 0) = true := by simp [hn]
      generalize addV [a] b2 = MZ at H4
      obtain ⟨ac, ati, asn, ar⟩ := a
      obtain ⟨bc, bti, bs, br⟩ := b
      obtain ⟨b2c, b2t, b2s, b2r⟩ := b2
      have hb2c : m1 = b2c := by simp only [C.mk.injEq] at hb2; exact hb2.1
      clear hm1 hb2 hn hne hr h0 e1 e2 e3 hAa hAb hB0 wa
      subst hb2c
      unfold C.val at H1 H4 ⊢
      unfold boxO at hWb
      dsimp only at H1 hWb HA HSET H3 hwc H4 ⊢
      subst hWb
      go_enter Try.func10, Try.ntmps10
      go_wp2_with (first
        | (go_at_call 11; (with_reducible refine Calls.mono (shown_any _) ?_); rintro e w1 ⟨rfl, hB1⟩; obtain ⟨q0, q1, q2, q3⟩ := HA.out _ hB1)
        | (go_at_call 13; (with_reducible refine Calls.mono (H1.out _) ?_); rintro e w2 ⟨v2, rfl, h2, hNV, hB2⟩; obtain ⟨g2, o2, c2, rfl⟩ := HPA.out _ _ h2; have hg2 := hNV g2 o2 _ _ rfl; have hsz1 := hB1.size; have HL := Lib.hid h2; have hB2 := below_th hB1 hB2; clear q0 q1 q2 q3 h2 hNV; obtain ⟨q0, q1, q2, q3⟩ := HA.out _ hB2)
        | (go_at_call 27; (with_reducible refine Calls.mono (H2.out _ _ HL.out) ?_); rintro e w3 ⟨v3, rfl, h3, hB3⟩; obtain ⟨g3, o3, c3, rfl⟩ := HPA.out _ _ h3; have HM := Lib.hid h3; have HL := Lib.hid (HL.out.below hB3); have hB3 := below_th hB2 hB3; clear q0 q1 q2 q3 h3; obtain ⟨q0, q1, q2, q3⟩ := HA.out _ hB3)
        | (go_at_call 25; (with_reducible refine Calls.mono (H3.out _ _ HL.out) ?_); rintro e w4 ⟨v4, rfl, h4, hB4⟩; obtain ⟨a4, c4, rfl, _⟩ := HPC.out _ _ _ h4; have HM := Lib.hid (HM.out.below hB4); have HL := Lib.hid (HL.out.below hB4); have hB4 := below_th hB3 hB4; clear q0 q1 q2 q3 h4; obtain ⟨q0, q1, q2, q3⟩ := HA.out _ hB4)
        | (go_at_call 19; (with_reducible refine Calls.mono (HS1.out _ _ _ HM.out HL.out) ?_); rintro e w5 ⟨rfl, hB5⟩; have HL := Lib.hid (HL.out.below hB5); have hB5 := below_th hB4 hB5; clear q0 q1 q2 q3; obtain ⟨q0, q1, q2, q3⟩ := HA.out _ hB5; obtain ⟨s0, ⟨u, s1⟩, s2, HS⟩ := HSET.out _ _ _ _ hB5 HL.out (by omega); obtain ⟨p0, p1, p2, p3⟩ := HS.out.2.1.c; obtain ⟨z0, z1, z2, z3⟩ := HS.out.2.2.1.c; dsimp only at p0 p1 p2 p3 z0 z1 z2 z3; generalize hW5 : w5.setCell ⟨W0.heap.size + 1, 0, none⟩ (.int .u64 (m1 : Int)) = w6 at s0 HS p0 p1 p2 p3 z0 z1 z2 z3)
        | (go_at_call 13; (with_reducible refine Calls.mono (H4.out _ _ HS.out.1) ?_); rintro e w7 ⟨v7, rfl, h7, hB7⟩; obtain ⟨a7, c7, rfl, _⟩ := HPC.out _ _ _ h7; clear h7))
      go_ret
      exact ⟨rfl, below_th HS.out.2.2.2 hB7⟩
  · have hnr : ¬ RightP [a] := fun hh => h0 (by rw [add_nil, if_pos hh])
    have HN := Lib.hid (fun W => show Chs (W.alloc (.cells #[.int .u64 a.cp, .int .u64 a.tick, .bool a.snap, .string a.root] 25)) (.slice (some ⟨W.heap.size, 0, none⟩) 1 1) [a] from chs_new W [a] #[.int .u64 a.cp, .int .u64 a.tick, .bool a.snap, .string a.root] rfl (by show 1 ≤ _; decide))
    have HR := Lib.hid (fun v W (h : Chs W v [a]) => right_any v [a] W h)
    rw [rightB_no hnr] at HR
    have HA := Lib.hid (fun W (h : Below Wb.heap.size Wb W) => (hAa.th h).c)
    have HB0 := Lib.hid hB0
    obtain ⟨n, hne⟩ : ∃ n, addE [] a = n := ⟨_, rfl⟩
    rw [hne] at H1 h0
    have g1 : (n == 0) = false := by simp [h0]
    have g1' : (n != 0) = true := by simp [h0]
    generalize addV [] a = MZ at H1
    obtain ⟨ac, ati, asn, ar⟩ := a
    obtain ⟨bc, bti, bs, br⟩ := b
    clear h0 hne hnr hAa hAb hB0 wa
    unfold C.val at H1 ⊢
    unfold boxO at hWb
    dsimp only at H1 hWb HA HN ⊢
    subst hWb
    go_enter Try.func10, Try.ntmps10
    go_wp2_with (first
      | (go_at_call 11; (with_reducible refine Calls.mono (shown_any _) ?_); rintro e w1 ⟨rfl, hB1⟩; obtain ⟨q0, q1, q2, q3⟩ := HA.out _ hB1)
      | (go_at_call 13; (with_reducible refine Calls.mono (H1.out _) ?_); rintro e w2 ⟨v2, rfl, h2, _, hB2⟩; obtain ⟨a2, c2, rfl, _⟩ := HPC.out _ _ _ h2; clear q0 q1 q2 q3; obtain ⟨q0, q1, q2, q3⟩ := HA.out _ (below_th hB1 hB2); have hN2 := Lib.hid (HN.out w2); have hB2n := Lib.hid (below_new w2 (.cells #[.int .u64 (ac : Nat), .int .u64 (ati : Nat), .bool asn, .string ar] 25)))
      | (go_at_call 17; (with_reducible refine Calls.mono (HR.out _ _ hN2.out) ?_); rintro e w3 ⟨rfl, hB3⟩))
    go_ret
    exact ⟨by simp, below_th HB0.out (below_th hB1 (below_th hB2 (below_th hB2n.out hB3)))⟩
end
end Go.Proofs.Ytoedjemelblpaaa.Cps
