/- InodeBack, walked. -/
import Derived.Test.YtbadkbfcfcgfhaaInoArgs
namespace Go.Proofs.Ytbadkbfcfcgfhaa.Ino
open Go.RowKit Go.Shelf
attribute [local go_sem] Oper.semAt_some
set_option linter.unusedVariables false
set_option linter.unusedSimpArgs false
section
set_option maxRecDepth 100000
set_option maxHeartbeats 8000000
theorem back_AAA (n : I) (s c : ByteArray) (k other : Int) (w : World) (kn : IOk n) (hs : s.size ≤ 281474976710656) (hcz : c.size ≤ 281474976710656)
    (EA EB CC : ByteArray) (ea eb gx pe fe j1 l1 l2 : Int) (r dM dY dV : Bool) (X M1 Y V1 V2 : I)
    (hEA : encS n = EA) (hea : encE n = ea) (hr : rightB n = r) (hX : decV s = X) (hgx : decE s = gx) (hEB : encS X = EB) (heb : encE X = eb) (hM1 : decV EA = M1) (hfe : decE EA = fe)
    (hCC : putV c k n = CC) (hpe : putEr c k n = pe) (hY : getV CC k = Y) (hj1 : getE CC k = j1) (hV1 : getV c other = V1) (hl1 : getE c other = l1) (hV2 : getV CC other = V2) (hl2 : getE CC other = l2) (hdM : decide (M1 = n) = dM) (hdY : decide (Y = n) = dY) (hdV : decide (V1 = V2) = dV)
    (h1 : ea = 0 ∧ r = true ∧ dM = true ∧ fe = 0) (h2 : gx = 0 ∧ eb = 0 ∧ EB = s) (h3 : (pe != 0) = true) :
    Calls Try.prog 5 #[n.val, .string s, .string c, .int .i64 k, .int .i64 other] w fun e w' => e = .returned (.bool true) ∧ Below w.heap.size w w' := by
  have hE := fun W => encode_any n kn W
  have hD1 := fun W => decode_any EA W (by have := encS_le n; rw [hEA] at this; omega)
  have hD2 := fun W => decode_any s W hs
  have hE2 := fun W => encode_any X (by rw [← hX]; exact decV_ok s) W
  have hR := fun W => right_any n kn W
  have hP := fun W => put_any c k n kn W hcz
  have hccz : CC.size ≤ 281474976710656 := by
    rw [← hCC]
    by_cases hh : hasP c k ∧ RightP n
    · rw [putV_yes hh.1 hh.2, laid_size hh.1.1 (by have := hh.1.2; omega)]; omega
    · rw [show putV c k n = ⟨#[]⟩ from if_neg hh]; decide
  have hG1 := fun W => get_any CC k W hccz
  have hG2 := fun W => get_any c other W hcz
  have hG3 := fun W => get_any CC other W hccz
  rw [hEA, hea] at hE
  rw [hM1, hfe] at hD1
  rw [hX, hgx] at hD2
  rw [hEB, heb] at hE2
  rw [hr] at hR
  rw [hCC, hpe] at hP
  rw [hY, hj1] at hG1
  rw [hV1, hl1] at hG2
  rw [hV2, hl2] at hG3
  have a0 := At.new w n
  have b0 := below_new w (boxO n)
  unfold boxO at a0 b0
  obtain ⟨W0, hW0⟩ : ∃ W0, w.alloc (.cells #[.int .i64 n.kind, .int .u16 n.mode, .int .u16 n.links, .int .u32 n.size, .int .u64 n.time, .int .i64 n.depth, .int .u32 n.m.a, .int .u32 n.m.b, .int .u32 n.m.c, .int .u32 n.m.d, .int .u32 n.m.e, .int .u32 n.m.f] 27) = W0 := ⟨_, rfl⟩
  rw [hW0] at a0 b0
  have HA := Lib.hid a0
  have HB := Lib.hid b0
  obtain ⟨p0, p1, p2, p3, p4, p5, p6, p7, p8, p9, p10, p11⟩ := a0.c
  clear a0 b0 hEA hea hr hX hgx hEB heb hM1 hfe hCC hpe hY hj1 hV1 hl1 hV2 hl2 kn hs hcz hccz
  have hQ1 := fun W => eqlI Y n W
  have hQ2 := fun W => neqI M1 n W
  have hQ3 := fun W => eqlI V1 V2 W
  rw [hdY] at hQ1
  rw [hdM] at hQ2
  rw [hdV] at hQ3
  clear hdM hdY hdV
  unfold I.val at hE hD1 hD2 hE2 hR hP hG1 hG2 hG3 hQ1 hQ2 hQ3 ⊢
  have HE := Lib.hid hE
  have HD1 := Lib.hid hD1
  have HD2 := Lib.hid hD2
  have HE2 := Lib.hid hE2
  have HR := Lib.hid hR
  have HP := Lib.hid hP
  have HG1 := Lib.hid hG1
  have HG2 := Lib.hid hG2
  have HG3 := Lib.hid hG3
  clear hE hD1 hD2 hE2 hR hP hG1 hG2 hG3
  obtain ⟨rfl, rfl, rfl, rfl⟩ := h1
  obtain ⟨rfl, rfl, rfl⟩ := h2
  go_enter Try.func5, Try.ntmps5
  go_wp2_with (first
    | (go_at_call 19; (with_reducible refine Calls.mono (HG3.out _) ?_); rintro e w9 ⟨rfl, hB9⟩; have hA9 := (hA8.th hB9).th (below_new w9 (boxO V2)); have hY9 := (hY8.th hB9).th (below_new w9 (boxO V2)); have hV9 := (hV8.th hB9).th (below_new w9 (boxO V2)); have HN9 := Lib.hid (below_al (below_th HN8.out hB9) (boxO V2)); unfold boxO at hA9 hY9 hV9 HN9; obtain ⟨x0, x1, x2, x3, x4, x5, x6, x7, x8, x9, x10, x11⟩ := hA9.c; obtain ⟨y0, y1, y2, y3, y4, y5, y6, y7, y8, y9, y10, y11⟩ := hY9.c; obtain ⟨v0, v1, v2, v3, v4, v5, v6, v7, v8, v9, v10, v11⟩ := hV9.c)
    | (go_at_call 19; (with_reducible refine Calls.mono (HG2.out _) ?_); rintro e w8 ⟨rfl, hB8⟩; have hA8 := (hA7.th hB8).th (below_new w8 (boxO V1)); have hY8 := (hY7.th hB8).th (below_new w8 (boxO V1)); have hV8 := At.new w8 V1; have HN8 := Lib.hid (below_al (below_th HN7.out hB8) (boxO V1)); unfold boxO at hA8 hY8 hV8 HN8)
    | (go_at_call 19; (with_reducible refine Calls.mono (HG1.out _) ?_); rintro e w7 ⟨rfl, hB7⟩; have hA7 := (hA6.th hB7).th (below_new w7 (boxO Y)); have hY7 := At.new w7 Y; have HN7 := Lib.hid (below_al (below_th HN6.out hB7) (boxO Y)); unfold boxO at hA7 hY7 HN7)
    | (go_at_call 21; (with_reducible refine Calls.mono (HP.out _) ?_); rintro e w6 ⟨rfl, hB6⟩; have hA6 := hA5r.th hB6; have HN6 := Lib.hid (below_th HN5.out hB6))
    | (go_at_call 13; (with_reducible refine Calls.mono (HR.out _) ?_); rintro e w5r ⟨rfl, hB5r⟩; have hA5r := hA5.th hB5r; have hM5 := hM4.th hB5r; have HN5 := Lib.hid (below_th HN4.out hB5r); obtain ⟨s0, s1, s2, s3, s4, s5, s6, s7, s8, s9, s10, s11⟩ := hM5.c; obtain ⟨t0, t1, t2, t3, t4, t5, t6, t7, t8, t9, t10, t11⟩ := hA5r.c)
    | (go_at_call 9; (with_reducible refine Calls.mono (HE2.out _) ?_); rintro e w5 ⟨rfl, hB5⟩; have hA5 := hA4.th hB5; have hM4 := hM3.th hB5; have HN4 := Lib.hid (below_th HN3.out hB5); obtain ⟨u0, u1, u2, u3, u4, u5, u6, u7, u8, u9, u10, u11⟩ := hA5.c)
    | (go_at_call 11; (with_reducible refine Calls.mono (HD2.out _) ?_); rintro e w4 ⟨rfl, hB4⟩; have hA4 := (hA3.th hB4).th (below_new w4 (boxO X)); have hM3 := (hM2.th hB4).th (below_new w4 (boxO X)); have HN3 := Lib.hid (below_al (below_th HN2.out hB4) (boxO X)); unfold boxO at hA4 hM3 HN3)
    | (go_at_call 11; (with_reducible refine Calls.mono (HD1.out _) ?_); rintro e w3 ⟨rfl, hB3⟩; have hA3 := (hA2.th hB3).th (below_new w3 (boxO M1)); have hM2 := At.new w3 M1; have HN2 := Lib.hid (below_al (below_th HN1.out hB3) (boxO M1)); unfold boxO at hA3 hM2 HN2)
    | (go_at_call 9; (with_reducible refine Calls.mono (HE.out _) ?_); rintro e w2 ⟨rfl, hB2⟩; have hA2 := hA1.th hB2; have HN1 := Lib.hid (below_th (below_th HB.out hB1) hB2))
    | (go_at_call 8; refine (shown_any _).mono ?_; rintro e w1 ⟨rfl, hB1⟩; have hA1 := HA.out.th hB1; obtain ⟨q0, q1, q2, q3, q4, q5, q6, q7, q8, q9, q10, q11⟩ := hA1.c))
  go_ret
  exact ⟨rfl, HN6.out⟩
theorem back_AAB (n : I) (s c : ByteArray) (k other : Int) (w : World) (kn : IOk n) (hs : s.size ≤ 281474976710656) (hcz : c.size ≤ 281474976710656)
    (EA EB CC : ByteArray) (ea eb gx pe fe j1 l1 l2 : Int) (r dM dY dV : Bool) (X M1 Y V1 V2 : I)
    (hEA : encS n = EA) (hea : encE n = ea) (hr : rightB n = r) (hX : decV s = X) (hgx : decE s = gx) (hEB : encS X = EB) (heb : encE X = eb) (hM1 : decV EA = M1) (hfe : decE EA = fe)
    (hCC : putV c k n = CC) (hpe : putEr c k n = pe) (hY : getV CC k = Y) (hj1 : getE CC k = j1) (hV1 : getV c other = V1) (hl1 : getE c other = l1) (hV2 : getV CC other = V2) (hl2 : getE CC other = l2) (hdM : decide (M1 = n) = dM) (hdY : decide (Y = n) = dY) (hdV : decide (V1 = V2) = dV)
    (h1 : ea = 0 ∧ r = true ∧ dM = true ∧ fe = 0) (h2 : gx = 0 ∧ eb = 0 ∧ EB = s) (h3 : pe = 0 ∧ dY = true ∧ j1 = 0 ∧ ((CC.size : Int) == (c.size : Int)) = true ∧ (other == k) = true) :
    Calls Try.prog 5 #[n.val, .string s, .string c, .int .i64 k, .int .i64 other] w fun e w' => e = .returned (.bool true) ∧ Below w.heap.size w w' := by
  have hE := fun W => encode_any n kn W
  have hD1 := fun W => decode_any EA W (by have := encS_le n; rw [hEA] at this; omega)
  have hD2 := fun W => decode_any s W hs
  have hE2 := fun W => encode_any X (by rw [← hX]; exact decV_ok s) W
  have hR := fun W => right_any n kn W
  have hP := fun W => put_any c k n kn W hcz
  have hccz : CC.size ≤ 281474976710656 := by
    rw [← hCC]
    by_cases hh : hasP c k ∧ RightP n
    · rw [putV_yes hh.1 hh.2, laid_size hh.1.1 (by have := hh.1.2; omega)]; omega
    · rw [show putV c k n = ⟨#[]⟩ from if_neg hh]; decide
  have hG1 := fun W => get_any CC k W hccz
  have hG2 := fun W => get_any c other W hcz
  have hG3 := fun W => get_any CC other W hccz
  rw [hEA, hea] at hE
  rw [hM1, hfe] at hD1
  rw [hX, hgx] at hD2
  rw [hEB, heb] at hE2
  rw [hr] at hR
  rw [hCC, hpe] at hP
  rw [hY, hj1] at hG1
  rw [hV1, hl1] at hG2
  rw [hV2, hl2] at hG3
  have a0 := At.new w n
  have b0 := below_new w (boxO n)
  unfold boxO at a0 b0
  obtain ⟨W0, hW0⟩ : ∃ W0, w.alloc (.cells #[.int .i64 n.kind, .int .u16 n.mode, .int .u16 n.links, .int .u32 n.size, .int .u64 n.time, .int .i64 n.depth, .int .u32 n.m.a, .int .u32 n.m.b, .int .u32 n.m.c, .int .u32 n.m.d, .int .u32 n.m.e, .int .u32 n.m.f] 27) = W0 := ⟨_, rfl⟩
  rw [hW0] at a0 b0
  have HA := Lib.hid a0
  have HB := Lib.hid b0
  obtain ⟨p0, p1, p2, p3, p4, p5, p6, p7, p8, p9, p10, p11⟩ := a0.c
  clear a0 b0 hEA hea hr hX hgx hEB heb hM1 hfe hCC hpe hY hj1 hV1 hl1 hV2 hl2 kn hs hcz hccz
  have hQ1 := fun W => eqlI Y n W
  have hQ2 := fun W => neqI M1 n W
  have hQ3 := fun W => eqlI V1 V2 W
  rw [hdY] at hQ1
  rw [hdM] at hQ2
  rw [hdV] at hQ3
  clear hdM hdY hdV
  unfold I.val at hE hD1 hD2 hE2 hR hP hG1 hG2 hG3 hQ1 hQ2 hQ3 ⊢
  have HE := Lib.hid hE
  have HD1 := Lib.hid hD1
  have HD2 := Lib.hid hD2
  have HE2 := Lib.hid hE2
  have HR := Lib.hid hR
  have HP := Lib.hid hP
  have HG1 := Lib.hid hG1
  have HG2 := Lib.hid hG2
  have HG3 := Lib.hid hG3
  clear hE hD1 hD2 hE2 hR hP hG1 hG2 hG3
  obtain ⟨rfl, rfl, rfl, rfl⟩ := h1
  obtain ⟨rfl, rfl, rfl⟩ := h2
  obtain ⟨rfl, rfl, rfl, h4, h5⟩ := h3
  go_enter Try.func5, Try.ntmps5
  go_wp2_with (first
    | (go_at_call 19; (with_reducible refine Calls.mono (HG3.out _) ?_); rintro e w9 ⟨rfl, hB9⟩; have hA9 := (hA8.th hB9).th (below_new w9 (boxO V2)); have hY9 := (hY8.th hB9).th (below_new w9 (boxO V2)); have hV9 := (hV8.th hB9).th (below_new w9 (boxO V2)); have HN9 := Lib.hid (below_al (below_th HN8.out hB9) (boxO V2)); unfold boxO at hA9 hY9 hV9 HN9; obtain ⟨x0, x1, x2, x3, x4, x5, x6, x7, x8, x9, x10, x11⟩ := hA9.c; obtain ⟨y0, y1, y2, y3, y4, y5, y6, y7, y8, y9, y10, y11⟩ := hY9.c; obtain ⟨v0, v1, v2, v3, v4, v5, v6, v7, v8, v9, v10, v11⟩ := hV9.c)
    | (go_at_call 19; (with_reducible refine Calls.mono (HG2.out _) ?_); rintro e w8 ⟨rfl, hB8⟩; have hA8 := (hA7.th hB8).th (below_new w8 (boxO V1)); have hY8 := (hY7.th hB8).th (below_new w8 (boxO V1)); have hV8 := At.new w8 V1; have HN8 := Lib.hid (below_al (below_th HN7.out hB8) (boxO V1)); unfold boxO at hA8 hY8 hV8 HN8)
    | (go_at_call 19; (with_reducible refine Calls.mono (HG1.out _) ?_); rintro e w7 ⟨rfl, hB7⟩; have hA7 := (hA6.th hB7).th (below_new w7 (boxO Y)); have hY7 := At.new w7 Y; have HN7 := Lib.hid (below_al (below_th HN6.out hB7) (boxO Y)); unfold boxO at hA7 hY7 HN7)
    | (go_at_call 21; (with_reducible refine Calls.mono (HP.out _) ?_); rintro e w6 ⟨rfl, hB6⟩; have hA6 := hA5r.th hB6; have HN6 := Lib.hid (below_th HN5.out hB6))
    | (go_at_call 13; (with_reducible refine Calls.mono (HR.out _) ?_); rintro e w5r ⟨rfl, hB5r⟩; have hA5r := hA5.th hB5r; have hM5 := hM4.th hB5r; have HN5 := Lib.hid (below_th HN4.out hB5r); obtain ⟨s0, s1, s2, s3, s4, s5, s6, s7, s8, s9, s10, s11⟩ := hM5.c; obtain ⟨t0, t1, t2, t3, t4, t5, t6, t7, t8, t9, t10, t11⟩ := hA5r.c)
    | (go_at_call 9; (with_reducible refine Calls.mono (HE2.out _) ?_); rintro e w5 ⟨rfl, hB5⟩; have hA5 := hA4.th hB5; have hM4 := hM3.th hB5; have HN4 := Lib.hid (below_th HN3.out hB5); obtain ⟨u0, u1, u2, u3, u4, u5, u6, u7, u8, u9, u10, u11⟩ := hA5.c)
    | (go_at_call 11; (with_reducible refine Calls.mono (HD2.out _) ?_); rintro e w4 ⟨rfl, hB4⟩; have hA4 := (hA3.th hB4).th (below_new w4 (boxO X)); have hM3 := (hM2.th hB4).th (below_new w4 (boxO X)); have HN3 := Lib.hid (below_al (below_th HN2.out hB4) (boxO X)); unfold boxO at hA4 hM3 HN3)
    | (go_at_call 11; (with_reducible refine Calls.mono (HD1.out _) ?_); rintro e w3 ⟨rfl, hB3⟩; have hA3 := (hA2.th hB3).th (below_new w3 (boxO M1)); have hM2 := At.new w3 M1; have HN2 := Lib.hid (below_al (below_th HN1.out hB3) (boxO M1)); unfold boxO at hA3 hM2 HN2)
    | (go_at_call 9; (with_reducible refine Calls.mono (HE.out _) ?_); rintro e w2 ⟨rfl, hB2⟩; have hA2 := hA1.th hB2; have HN1 := Lib.hid (below_th (below_th HB.out hB1) hB2))
    | (go_at_call 8; refine (shown_any _).mono ?_; rintro e w1 ⟨rfl, hB1⟩; have hA1 := HA.out.th hB1; obtain ⟨q0, q1, q2, q3, q4, q5, q6, q7, q8, q9, q10, q11⟩ := hA1.c))
  go_ret
  exact ⟨rfl, HN9.out⟩
theorem back_AAC (n : I) (s c : ByteArray) (k other : Int) (w : World) (kn : IOk n) (hs : s.size ≤ 281474976710656) (hcz : c.size ≤ 281474976710656)
    (EA EB CC : ByteArray) (ea eb gx pe fe j1 l1 l2 : Int) (r dM dY dV : Bool) (X M1 Y V1 V2 : I)
    (hEA : encS n = EA) (hea : encE n = ea) (hr : rightB n = r) (hX : decV s = X) (hgx : decE s = gx) (hEB : encS X = EB) (heb : encE X = eb) (hM1 : decV EA = M1) (hfe : decE EA = fe)
    (hCC : putV c k n = CC) (hpe : putEr c k n = pe) (hY : getV CC k = Y) (hj1 : getE CC k = j1) (hV1 : getV c other = V1) (hl1 : getE c other = l1) (hV2 : getV CC other = V2) (hl2 : getE CC other = l2) (hdM : decide (M1 = n) = dM) (hdY : decide (Y = n) = dY) (hdV : decide (V1 = V2) = dV)
    (h1 : ea = 0 ∧ r = true ∧ dM = true ∧ fe = 0) (h2 : gx = 0 ∧ eb = 0 ∧ EB = s) (h3 : pe = 0 ∧ dY = true ∧ j1 = 0 ∧ ((CC.size : Int) == (c.size : Int)) = true ∧ (other == k) = false ∧ dV = true ∧ l2 = l1) :
    Calls Try.prog 5 #[n.val, .string s, .string c, .int .i64 k, .int .i64 other] w fun e w' => e = .returned (.bool true) ∧ Below w.heap.size w w' := by
  have hE := fun W => encode_any n kn W
  have hD1 := fun W => decode_any EA W (by have := encS_le n; rw [hEA] at this; omega)
  have hD2 := fun W => decode_any s W hs
  have hE2 := fun W => encode_any X (by rw [← hX]; exact decV_ok s) W
  have hR := fun W => right_any n kn W
  have hP := fun W => put_any c k n kn W hcz
  have hccz : CC.size ≤ 281474976710656 := by
    rw [← hCC]
    by_cases hh : hasP c k ∧ RightP n
    · rw [putV_yes hh.1 hh.2, laid_size hh.1.1 (by have := hh.1.2; omega)]; omega
    · rw [show putV c k n = ⟨#[]⟩ from if_neg hh]; decide
  have hG1 := fun W => get_any CC k W hccz
  have hG2 := fun W => get_any c other W hcz
  have hG3 := fun W => get_any CC other W hccz
  rw [hEA, hea] at hE
  rw [hM1, hfe] at hD1
  rw [hX, hgx] at hD2
  rw [hEB, heb] at hE2
  rw [hr] at hR
  rw [hCC, hpe] at hP
  rw [hY, hj1] at hG1
  rw [hV1, hl1] at hG2
  rw [hV2, hl2] at hG3
  have a0 := At.new w n
  have b0 := below_new w (boxO n)
  unfold boxO at a0 b0
  obtain ⟨W0, hW0⟩ : ∃ W0, w.alloc (.cells #[.int .i64 n.kind, .int .u16 n.mode, .int .u16 n.links, .int .u32 n.size, .int .u64 n.time, .int .i64 n.depth, .int .u32 n.m.a, .int .u32 n.m.b, .int .u32 n.m.c, .int .u32 n.m.d, .int .u32 n.m.e, .int .u32 n.m.f] 27) = W0 := ⟨_, rfl⟩
  rw [hW0] at a0 b0
  have HA := Lib.hid a0
  have HB := Lib.hid b0
  obtain ⟨p0, p1, p2, p3, p4, p5, p6, p7, p8, p9, p10, p11⟩ := a0.c
  clear a0 b0 hEA hea hr hX hgx hEB heb hM1 hfe hCC hpe hY hj1 hV1 hl1 hV2 hl2 kn hs hcz hccz
  have hQ1 := fun W => eqlI Y n W
  have hQ2 := fun W => neqI M1 n W
  have hQ3 := fun W => eqlI V1 V2 W
  rw [hdY] at hQ1
  rw [hdM] at hQ2
  rw [hdV] at hQ3
  clear hdM hdY hdV
  unfold I.val at hE hD1 hD2 hE2 hR hP hG1 hG2 hG3 hQ1 hQ2 hQ3 ⊢
  have HE := Lib.hid hE
  have HD1 := Lib.hid hD1
  have HD2 := Lib.hid hD2
  have HE2 := Lib.hid hE2
  have HR := Lib.hid hR
  have HP := Lib.hid hP
  have HG1 := Lib.hid hG1
  have HG2 := Lib.hid hG2
  have HG3 := Lib.hid hG3
  clear hE hD1 hD2 hE2 hR hP hG1 hG2 hG3
  obtain ⟨rfl, rfl, rfl, rfl⟩ := h1
  obtain ⟨rfl, rfl, rfl⟩ := h2
  obtain ⟨rfl, rfl, rfl, h4, h5, rfl, rfl⟩ := h3
  go_enter Try.func5, Try.ntmps5
  go_wp2_with (first
    | (go_at_call 19; (with_reducible refine Calls.mono (HG3.out _) ?_); rintro e w9 ⟨rfl, hB9⟩; have hA9 := (hA8.th hB9).th (below_new w9 (boxO V2)); have hY9 := (hY8.th hB9).th (below_new w9 (boxO V2)); have hV9 := (hV8.th hB9).th (below_new w9 (boxO V2)); have HN9 := Lib.hid (below_al (below_th HN8.out hB9) (boxO V2)); unfold boxO at hA9 hY9 hV9 HN9; obtain ⟨x0, x1, x2, x3, x4, x5, x6, x7, x8, x9, x10, x11⟩ := hA9.c; obtain ⟨y0, y1, y2, y3, y4, y5, y6, y7, y8, y9, y10, y11⟩ := hY9.c; obtain ⟨v0, v1, v2, v3, v4, v5, v6, v7, v8, v9, v10, v11⟩ := hV9.c)
    | (go_at_call 19; (with_reducible refine Calls.mono (HG2.out _) ?_); rintro e w8 ⟨rfl, hB8⟩; have hA8 := (hA7.th hB8).th (below_new w8 (boxO V1)); have hY8 := (hY7.th hB8).th (below_new w8 (boxO V1)); have hV8 := At.new w8 V1; have HN8 := Lib.hid (below_al (below_th HN7.out hB8) (boxO V1)); unfold boxO at hA8 hY8 hV8 HN8)
    | (go_at_call 19; (with_reducible refine Calls.mono (HG1.out _) ?_); rintro e w7 ⟨rfl, hB7⟩; have hA7 := (hA6.th hB7).th (below_new w7 (boxO Y)); have hY7 := At.new w7 Y; have HN7 := Lib.hid (below_al (below_th HN6.out hB7) (boxO Y)); unfold boxO at hA7 hY7 HN7)
    | (go_at_call 21; (with_reducible refine Calls.mono (HP.out _) ?_); rintro e w6 ⟨rfl, hB6⟩; have hA6 := hA5r.th hB6; have HN6 := Lib.hid (below_th HN5.out hB6))
    | (go_at_call 13; (with_reducible refine Calls.mono (HR.out _) ?_); rintro e w5r ⟨rfl, hB5r⟩; have hA5r := hA5.th hB5r; have hM5 := hM4.th hB5r; have HN5 := Lib.hid (below_th HN4.out hB5r); obtain ⟨s0, s1, s2, s3, s4, s5, s6, s7, s8, s9, s10, s11⟩ := hM5.c; obtain ⟨t0, t1, t2, t3, t4, t5, t6, t7, t8, t9, t10, t11⟩ := hA5r.c)
    | (go_at_call 9; (with_reducible refine Calls.mono (HE2.out _) ?_); rintro e w5 ⟨rfl, hB5⟩; have hA5 := hA4.th hB5; have hM4 := hM3.th hB5; have HN4 := Lib.hid (below_th HN3.out hB5); obtain ⟨u0, u1, u2, u3, u4, u5, u6, u7, u8, u9, u10, u11⟩ := hA5.c)
    | (go_at_call 11; (with_reducible refine Calls.mono (HD2.out _) ?_); rintro e w4 ⟨rfl, hB4⟩; have hA4 := (hA3.th hB4).th (below_new w4 (boxO X)); have hM3 := (hM2.th hB4).th (below_new w4 (boxO X)); have HN3 := Lib.hid (below_al (below_th HN2.out hB4) (boxO X)); unfold boxO at hA4 hM3 HN3)
    | (go_at_call 11; (with_reducible refine Calls.mono (HD1.out _) ?_); rintro e w3 ⟨rfl, hB3⟩; have hA3 := (hA2.th hB3).th (below_new w3 (boxO M1)); have hM2 := At.new w3 M1; have HN2 := Lib.hid (below_al (below_th HN1.out hB3) (boxO M1)); unfold boxO at hA3 hM2 HN2)
    | (go_at_call 9; (with_reducible refine Calls.mono (HE.out _) ?_); rintro e w2 ⟨rfl, hB2⟩; have hA2 := hA1.th hB2; have HN1 := Lib.hid (below_th (below_th HB.out hB1) hB2))
    | (go_at_call 8; refine (shown_any _).mono ?_; rintro e w1 ⟨rfl, hB1⟩; have hA1 := HA.out.th hB1; obtain ⟨q0, q1, q2, q3, q4, q5, q6, q7, q8, q9, q10, q11⟩ := hA1.c))
  go_ret
  exact ⟨rfl, HN9.out⟩
theorem back_ABA (n : I) (s c : ByteArray) (k other : Int) (w : World) (kn : IOk n) (hs : s.size ≤ 281474976710656) (hcz : c.size ≤ 281474976710656)
    (EA EB CC : ByteArray) (ea eb gx pe fe j1 l1 l2 : Int) (r dM dY dV : Bool) (X M1 Y V1 V2 : I)
    (hEA : encS n = EA) (hea : encE n = ea) (hr : rightB n = r) (hX : decV s = X) (hgx : decE s = gx) (hEB : encS X = EB) (heb : encE X = eb) (hM1 : decV EA = M1) (hfe : decE EA = fe)
    (hCC : putV c k n = CC) (hpe : putEr c k n = pe) (hY : getV CC k = Y) (hj1 : getE CC k = j1) (hV1 : getV c other = V1) (hl1 : getE c other = l1) (hV2 : getV CC other = V2) (hl2 : getE CC other = l2) (hdM : decide (M1 = n) = dM) (hdY : decide (Y = n) = dY) (hdV : decide (V1 = V2) = dV)
    (h1 : ea = 0 ∧ r = true ∧ dM = true ∧ fe = 0) (h2 : gx = 100) (h3 : (pe != 0) = true) :
    Calls Try.prog 5 #[n.val, .string s, .string c, .int .i64 k, .int .i64 other] w fun e w' => e = .returned (.bool true) ∧ Below w.heap.size w w' := by
  have hE := fun W => encode_any n kn W
  have hD1 := fun W => decode_any EA W (by have := encS_le n; rw [hEA] at this; omega)
  have hD2 := fun W => decode_any s W hs
  have hE2 := fun W => encode_any X (by rw [← hX]; exact decV_ok s) W
  have hR := fun W => right_any n kn W
  have hP := fun W => put_any c k n kn W hcz
  have hccz : CC.size ≤ 281474976710656 := by
    rw [← hCC]
    by_cases hh : hasP c k ∧ RightP n
    · rw [putV_yes hh.1 hh.2, laid_size hh.1.1 (by have := hh.1.2; omega)]; omega
    · rw [show putV c k n = ⟨#[]⟩ from if_neg hh]; decide
  have hG1 := fun W => get_any CC k W hccz
  have hG2 := fun W => get_any c other W hcz
  have hG3 := fun W => get_any CC other W hccz
  rw [hEA, hea] at hE
  rw [hM1, hfe] at hD1
  rw [hX, hgx] at hD2
  rw [hEB, heb] at hE2
  rw [hr] at hR
  rw [hCC, hpe] at hP
  rw [hY, hj1] at hG1
  rw [hV1, hl1] at hG2
  rw [hV2, hl2] at hG3
  have a0 := At.new w n
  have b0 := below_new w (boxO n)
  unfold boxO at a0 b0
  obtain ⟨W0, hW0⟩ : ∃ W0, w.alloc (.cells #[.int .i64 n.kind, .int .u16 n.mode, .int .u16 n.links, .int .u32 n.size, .int .u64 n.time, .int .i64 n.depth, .int .u32 n.m.a, .int .u32 n.m.b, .int .u32 n.m.c, .int .u32 n.m.d, .int .u32 n.m.e, .int .u32 n.m.f] 27) = W0 := ⟨_, rfl⟩
  rw [hW0] at a0 b0
  have HA := Lib.hid a0
  have HB := Lib.hid b0
  obtain ⟨p0, p1, p2, p3, p4, p5, p6, p7, p8, p9, p10, p11⟩ := a0.c
  clear a0 b0 hEA hea hr hX hgx hEB heb hM1 hfe hCC hpe hY hj1 hV1 hl1 hV2 hl2 kn hs hcz hccz
  have hQ1 := fun W => eqlI Y n W
  have hQ2 := fun W => neqI M1 n W
  have hQ3 := fun W => eqlI V1 V2 W
  rw [hdY] at hQ1
  rw [hdM] at hQ2
  rw [hdV] at hQ3
  clear hdM hdY hdV
  unfold I.val at hE hD1 hD2 hE2 hR hP hG1 hG2 hG3 hQ1 hQ2 hQ3 ⊢
  have HE := Lib.hid hE
  have HD1 := Lib.hid hD1
  have HD2 := Lib.hid hD2
  have HE2 := Lib.hid hE2
  have HR := Lib.hid hR
  have HP := Lib.hid hP
  have HG1 := Lib.hid hG1
  have HG2 := Lib.hid hG2
  have HG3 := Lib.hid hG3
  clear hE hD1 hD2 hE2 hR hP hG1 hG2 hG3
  obtain ⟨rfl, rfl, rfl, rfl⟩ := h1
  subst h2
  go_enter Try.func5, Try.ntmps5
  go_wp2_with (first
    | (go_at_call 19; (with_reducible refine Calls.mono (HG3.out _) ?_); rintro e w9 ⟨rfl, hB9⟩; have hA9 := (hA8.th hB9).th (below_new w9 (boxO V2)); have hY9 := (hY8.th hB9).th (below_new w9 (boxO V2)); have hV9 := (hV8.th hB9).th (below_new w9 (boxO V2)); have HN9 := Lib.hid (below_al (below_th HN8.out hB9) (boxO V2)); unfold boxO at hA9 hY9 hV9 HN9; obtain ⟨x0, x1, x2, x3, x4, x5, x6, x7, x8, x9, x10, x11⟩ := hA9.c; obtain ⟨y0, y1, y2, y3, y4, y5, y6, y7, y8, y9, y10, y11⟩ := hY9.c; obtain ⟨v0, v1, v2, v3, v4, v5, v6, v7, v8, v9, v10, v11⟩ := hV9.c)
    | (go_at_call 19; (with_reducible refine Calls.mono (HG2.out _) ?_); rintro e w8 ⟨rfl, hB8⟩; have hA8 := (hA7.th hB8).th (below_new w8 (boxO V1)); have hY8 := (hY7.th hB8).th (below_new w8 (boxO V1)); have hV8 := At.new w8 V1; have HN8 := Lib.hid (below_al (below_th HN7.out hB8) (boxO V1)); unfold boxO at hA8 hY8 hV8 HN8)
    | (go_at_call 19; (with_reducible refine Calls.mono (HG1.out _) ?_); rintro e w7 ⟨rfl, hB7⟩; have hA7 := (hA6.th hB7).th (below_new w7 (boxO Y)); have hY7 := At.new w7 Y; have HN7 := Lib.hid (below_al (below_th HN6.out hB7) (boxO Y)); unfold boxO at hA7 hY7 HN7)
    | (go_at_call 21; (with_reducible refine Calls.mono (HP.out _) ?_); rintro e w6 ⟨rfl, hB6⟩; have hA6 := hA5r.th hB6; have HN6 := Lib.hid (below_th HN5.out hB6))
    | (go_at_call 13; (with_reducible refine Calls.mono (HR.out _) ?_); rintro e w5r ⟨rfl, hB5r⟩; have hA5r := hA5.th hB5r; have hM5 := hM4.th hB5r; have HN5 := Lib.hid (below_th HN4.out hB5r); obtain ⟨s0, s1, s2, s3, s4, s5, s6, s7, s8, s9, s10, s11⟩ := hM5.c; obtain ⟨t0, t1, t2, t3, t4, t5, t6, t7, t8, t9, t10, t11⟩ := hA5r.c)
    | (go_at_call 9; (with_reducible refine Calls.mono (HE2.out _) ?_); rintro e w5 ⟨rfl, hB5⟩; have hA5 := hA4.th hB5; have hM4 := hM3.th hB5; have HN4 := Lib.hid (below_th HN3.out hB5); obtain ⟨u0, u1, u2, u3, u4, u5, u6, u7, u8, u9, u10, u11⟩ := hA5.c)
    | (go_at_call 11; (with_reducible refine Calls.mono (HD2.out _) ?_); rintro e w4 ⟨rfl, hB4⟩; have hA4 := (hA3.th hB4).th (below_new w4 (boxO X)); have hM3 := (hM2.th hB4).th (below_new w4 (boxO X)); have HN3 := Lib.hid (below_al (below_th HN2.out hB4) (boxO X)); unfold boxO at hA4 hM3 HN3)
    | (go_at_call 11; (with_reducible refine Calls.mono (HD1.out _) ?_); rintro e w3 ⟨rfl, hB3⟩; have hA3 := (hA2.th hB3).th (below_new w3 (boxO M1)); have hM2 := At.new w3 M1; have HN2 := Lib.hid (below_al (below_th HN1.out hB3) (boxO M1)); unfold boxO at hA3 hM2 HN2)
    | (go_at_call 9; (with_reducible refine Calls.mono (HE.out _) ?_); rintro e w2 ⟨rfl, hB2⟩; have hA2 := hA1.th hB2; have HN1 := Lib.hid (below_th (below_th HB.out hB1) hB2))
    | (go_at_call 8; refine (shown_any _).mono ?_; rintro e w1 ⟨rfl, hB1⟩; have hA1 := HA.out.th hB1; obtain ⟨q0, q1, q2, q3, q4, q5, q6, q7, q8, q9, q10, q11⟩ := hA1.c))
  go_ret
  exact ⟨rfl, HN6.out⟩
theorem back_ABB (n : I) (s c : ByteArray) (k other : Int) (w : World) (kn : IOk n) (hs : s.size ≤ 281474976710656) (hcz : c.size ≤ 281474976710656)
    (EA EB CC : ByteArray) (ea eb gx pe fe j1 l1 l2 : Int) (r dM dY dV : Bool) (X M1 Y V1 V2 : I)
    (hEA : encS n = EA) (hea : encE n = ea) (hr : rightB n = r) (hX : decV s = X) (hgx : decE s = gx) (hEB : encS X = EB) (heb : encE X = eb) (hM1 : decV EA = M1) (hfe : decE EA = fe)
    (hCC : putV c k n = CC) (hpe : putEr c k n = pe) (hY : getV CC k = Y) (hj1 : getE CC k = j1) (hV1 : getV c other = V1) (hl1 : getE c other = l1) (hV2 : getV CC other = V2) (hl2 : getE CC other = l2) (hdM : decide (M1 = n) = dM) (hdY : decide (Y = n) = dY) (hdV : decide (V1 = V2) = dV)
    (h1 : ea = 0 ∧ r = true ∧ dM = true ∧ fe = 0) (h2 : gx = 100) (h3 : pe = 0 ∧ dY = true ∧ j1 = 0 ∧ ((CC.size : Int) == (c.size : Int)) = true ∧ (other == k) = true) :
    Calls Try.prog 5 #[n.val, .string s, .string c, .int .i64 k, .int .i64 other] w fun e w' => e = .returned (.bool true) ∧ Below w.heap.size w w' := by
  have hE := fun W => encode_any n kn W
  have hD1 := fun W => decode_any EA W (by have := encS_le n; rw [hEA] at this; omega)
  have hD2 := fun W => decode_any s W hs
  have hE2 := fun W => encode_any X (by rw [← hX]; exact decV_ok s) W
  have hR := fun W => right_any n kn W
  have hP := fun W => put_any c k n kn W hcz
  have hccz : CC.size ≤ 281474976710656 := by
    rw [← hCC]
    by_cases hh : hasP c k ∧ RightP n
    · rw [putV_yes hh.1 hh.2, laid_size hh.1.1 (by have := hh.1.2; omega)]; omega
    · rw [show putV c k n = ⟨#[]⟩ from if_neg hh]; decide
  have hG1 := fun W => get_any CC k W hccz
  have hG2 := fun W => get_any c other W hcz
  have hG3 := fun W => get_any CC other W hccz
  rw [hEA, hea] at hE
  rw [hM1, hfe] at hD1
  rw [hX, hgx] at hD2
  rw [hEB, heb] at hE2
  rw [hr] at hR
  rw [hCC, hpe] at hP
  rw [hY, hj1] at hG1
  rw [hV1, hl1] at hG2
  rw [hV2, hl2] at hG3
  have a0 := At.new w n
  have b0 := below_new w (boxO n)
  unfold boxO at a0 b0
  obtain ⟨W0, hW0⟩ : ∃ W0, w.alloc (.cells #[.int .i64 n.kind, .int .u16 n.mode, .int .u16 n.links, .int .u32 n.size, .int .u64 n.time, .int .i64 n.depth, .int .u32 n.m.a, .int .u32 n.m.b, .int .u32 n.m.c, .int .u32 n.m.d, .int .u32 n.m.e, .int .u32 n.m.f] 27) = W0 := ⟨_, rfl⟩
  rw [hW0] at a0 b0
  have HA := Lib.hid a0
  have HB := Lib.hid b0
  obtain ⟨p0, p1, p2, p3, p4, p5, p6, p7, p8, p9, p10, p11⟩ := a0.c
  clear a0 b0 hEA hea hr hX hgx hEB heb hM1 hfe hCC hpe hY hj1 hV1 hl1 hV2 hl2 kn hs hcz hccz
  have hQ1 := fun W => eqlI Y n W
  have hQ2 := fun W => neqI M1 n W
  have hQ3 := fun W => eqlI V1 V2 W
  rw [hdY] at hQ1
  rw [hdM] at hQ2
  rw [hdV] at hQ3
  clear hdM hdY hdV
  unfold I.val at hE hD1 hD2 hE2 hR hP hG1 hG2 hG3 hQ1 hQ2 hQ3 ⊢
  have HE := Lib.hid hE
  have HD1 := Lib.hid hD1
  have HD2 := Lib.hid hD2
  have HE2 := Lib.hid hE2
  have HR := Lib.hid hR
  have HP := Lib.hid hP
  have HG1 := Lib.hid hG1
  have HG2 := Lib.hid hG2
  have HG3 := Lib.hid hG3
  clear hE hD1 hD2 hE2 hR hP hG1 hG2 hG3
  obtain ⟨rfl, rfl, rfl, rfl⟩ := h1
  subst h2
  obtain ⟨rfl, rfl, rfl, h4, h5⟩ := h3
  go_enter Try.func5, Try.ntmps5
  go_wp2_with (first
    | (go_at_call 19; (with_reducible refine Calls.mono (HG3.out _) ?_); rintro e w9 ⟨rfl, hB9⟩; have hA9 := (hA8.th hB9).th (below_new w9 (boxO V2)); have hY9 := (hY8.th hB9).th (below_new w9 (boxO V2)); have hV9 := (hV8.th hB9).th (below_new w9 (boxO V2)); have HN9 := Lib.hid (below_al (below_th HN8.out hB9) (boxO V2)); unfold boxO at hA9 hY9 hV9 HN9; obtain ⟨x0, x1, x2, x3, x4, x5, x6, x7, x8, x9, x10, x11⟩ := hA9.c; obtain ⟨y0, y1, y2, y3, y4, y5, y6, y7, y8, y9, y10, y11⟩ := hY9.c; obtain ⟨v0, v1, v2, v3, v4, v5, v6, v7, v8, v9, v10, v11⟩ := hV9.c)
    | (go_at_call 19; (with_reducible refine Calls.mono (HG2.out _) ?_); rintro e w8 ⟨rfl, hB8⟩; have hA8 := (hA7.th hB8).th (below_new w8 (boxO V1)); have hY8 := (hY7.th hB8).th (below_new w8 (boxO V1)); have hV8 := At.new w8 V1; have HN8 := Lib.hid (below_al (below_th HN7.out hB8) (boxO V1)); unfold boxO at hA8 hY8 hV8 HN8)
    | (go_at_call 19; (with_reducible refine Calls.mono (HG1.out _) ?_); rintro e w7 ⟨rfl, hB7⟩; have hA7 := (hA6.th hB7).th (below_new w7 (boxO Y)); have hY7 := At.new w7 Y; have HN7 := Lib.hid (below_al (below_th HN6.out hB7) (boxO Y)); unfold boxO at hA7 hY7 HN7)
    | (go_at_call 21; (with_reducible refine Calls.mono (HP.out _) ?_); rintro e w6 ⟨rfl, hB6⟩; have hA6 := hA5r.th hB6; have HN6 := Lib.hid (below_th HN5.out hB6))
    | (go_at_call 13; (with_reducible refine Calls.mono (HR.out _) ?_); rintro e w5r ⟨rfl, hB5r⟩; have hA5r := hA5.th hB5r; have hM5 := hM4.th hB5r; have HN5 := Lib.hid (below_th HN4.out hB5r); obtain ⟨s0, s1, s2, s3, s4, s5, s6, s7, s8, s9, s10, s11⟩ := hM5.c; obtain ⟨t0, t1, t2, t3, t4, t5, t6, t7, t8, t9, t10, t11⟩ := hA5r.c)
    | (go_at_call 9; (with_reducible refine Calls.mono (HE2.out _) ?_); rintro e w5 ⟨rfl, hB5⟩; have hA5 := hA4.th hB5; have hM4 := hM3.th hB5; have HN4 := Lib.hid (below_th HN3.out hB5); obtain ⟨u0, u1, u2, u3, u4, u5, u6, u7, u8, u9, u10, u11⟩ := hA5.c)
    | (go_at_call 11; (with_reducible refine Calls.mono (HD2.out _) ?_); rintro e w4 ⟨rfl, hB4⟩; have hA4 := (hA3.th hB4).th (below_new w4 (boxO X)); have hM3 := (hM2.th hB4).th (below_new w4 (boxO X)); have HN3 := Lib.hid (below_al (below_th HN2.out hB4) (boxO X)); unfold boxO at hA4 hM3 HN3)
    | (go_at_call 11; (with_reducible refine Calls.mono (HD1.out _) ?_); rintro e w3 ⟨rfl, hB3⟩; have hA3 := (hA2.th hB3).th (below_new w3 (boxO M1)); have hM2 := At.new w3 M1; have HN2 := Lib.hid (below_al (below_th HN1.out hB3) (boxO M1)); unfold boxO at hA3 hM2 HN2)
    | (go_at_call 9; (with_reducible refine Calls.mono (HE.out _) ?_); rintro e w2 ⟨rfl, hB2⟩; have hA2 := hA1.th hB2; have HN1 := Lib.hid (below_th (below_th HB.out hB1) hB2))
    | (go_at_call 8; refine (shown_any _).mono ?_; rintro e w1 ⟨rfl, hB1⟩; have hA1 := HA.out.th hB1; obtain ⟨q0, q1, q2, q3, q4, q5, q6, q7, q8, q9, q10, q11⟩ := hA1.c))
  go_ret
  exact ⟨rfl, HN9.out⟩
theorem back_ABC (n : I) (s c : ByteArray) (k other : Int) (w : World) (kn : IOk n) (hs : s.size ≤ 281474976710656) (hcz : c.size ≤ 281474976710656)
    (EA EB CC : ByteArray) (ea eb gx pe fe j1 l1 l2 : Int) (r dM dY dV : Bool) (X M1 Y V1 V2 : I)
    (hEA : encS n = EA) (hea : encE n = ea) (hr : rightB n = r) (hX : decV s = X) (hgx : decE s = gx) (hEB : encS X = EB) (heb : encE X = eb) (hM1 : decV EA = M1) (hfe : decE EA = fe)
    (hCC : putV c k n = CC) (hpe : putEr c k n = pe) (hY : getV CC k = Y) (hj1 : getE CC k = j1) (hV1 : getV c other = V1) (hl1 : getE c other = l1) (hV2 : getV CC other = V2) (hl2 : getE CC other = l2) (hdM : decide (M1 = n) = dM) (hdY : decide (Y = n) = dY) (hdV : decide (V1 = V2) = dV)
    (h1 : ea = 0 ∧ r = true ∧ dM = true ∧ fe = 0) (h2 : gx = 100) (h3 : pe = 0 ∧ dY = true ∧ j1 = 0 ∧ ((CC.size : Int) == (c.size : Int)) = true ∧ (other == k) = false ∧ dV = true ∧ l2 = l1) :
    Calls Try.prog 5 #[n.val, .string s, .string c, .int .i64 k, .int .i64 other] w fun e w' => e = .returned (.bool true) ∧ Below w.heap.size w w' := by
  have hE := fun W => encode_any n kn W
  have hD1 := fun W => decode_any EA W (by have := encS_le n; rw [hEA] at this; omega)
  have hD2 := fun W => decode_any s W hs
  have hE2 := fun W => encode_any X (by rw [← hX]; exact decV_ok s) W
  have hR := fun W => right_any n kn W
  have hP := fun W => put_any c k n kn W hcz
  have hccz : CC.size ≤ 281474976710656 := by
    rw [← hCC]
    by_cases hh : hasP c k ∧ RightP n
    · rw [putV_yes hh.1 hh.2, laid_size hh.1.1 (by have := hh.1.2; omega)]; omega
    · rw [show putV c k n = ⟨#[]⟩ from if_neg hh]; decide
  have hG1 := fun W => get_any CC k W hccz
  have hG2 := fun W => get_any c other W hcz
  have hG3 := fun W => get_any CC other W hccz
  rw [hEA, hea] at hE
  rw [hM1, hfe] at hD1
  rw [hX, hgx] at hD2
  rw [hEB, heb] at hE2
  rw [hr] at hR
  rw [hCC, hpe] at hP
  rw [hY, hj1] at hG1
  rw [hV1, hl1] at hG2
  rw [hV2, hl2] at hG3
  have a0 := At.new w n
  have b0 := below_new w (boxO n)
  unfold boxO at a0 b0
  obtain ⟨W0, hW0⟩ : ∃ W0, w.alloc (.cells #[.int .i64 n.kind, .int .u16 n.mode, .int .u16 n.links, .int .u32 n.size, .int .u64 n.time, .int .i64 n.depth, .int .u32 n.m.a, .int .u32 n.m.b, .int .u32 n.m.c, .int .u32 n.m.d, .int .u32 n.m.e, .int .u32 n.m.f] 27) = W0 := ⟨_, rfl⟩
  rw [hW0] at a0 b0
  have HA := Lib.hid a0
  have HB := Lib.hid b0
  obtain ⟨p0, p1, p2, p3, p4, p5, p6, p7, p8, p9, p10, p11⟩ := a0.c
  clear a0 b0 hEA hea hr hX hgx hEB heb hM1 hfe hCC hpe hY hj1 hV1 hl1 hV2 hl2 kn hs hcz hccz
  have hQ1 := fun W => eqlI Y n W
  have hQ2 := fun W => neqI M1 n W
  have hQ3 := fun W => eqlI V1 V2 W
  rw [hdY] at hQ1
  rw [hdM] at hQ2
  rw [hdV] at hQ3
  clear hdM hdY hdV
  unfold I.val at hE hD1 hD2 hE2 hR hP hG1 hG2 hG3 hQ1 hQ2 hQ3 ⊢
  have HE := Lib.hid hE
  have HD1 := Lib.hid hD1
  have HD2 := Lib.hid hD2
  have HE2 := Lib.hid hE2
  have HR := Lib.hid hR
  have HP := Lib.hid hP
  have HG1 := Lib.hid hG1
  have HG2 := Lib.hid hG2
  have HG3 := Lib.hid hG3
  clear hE hD1 hD2 hE2 hR hP hG1 hG2 hG3
  obtain ⟨rfl, rfl, rfl, rfl⟩ := h1
  subst h2
  obtain ⟨rfl, rfl, rfl, h4, h5, rfl, rfl⟩ := h3
  go_enter Try.func5, Try.ntmps5
  go_wp2_with (first
    | (go_at_call 19; (with_reducible refine Calls.mono (HG3.out _) ?_); rintro e w9 ⟨rfl, hB9⟩; have hA9 := (hA8.th hB9).th (below_new w9 (boxO V2)); have hY9 := (hY8.th hB9).th (below_new w9 (boxO V2)); have hV9 := (hV8.th hB9).th (below_new w9 (boxO V2)); have HN9 := Lib.hid (below_al (below_th HN8.out hB9) (boxO V2)); unfold boxO at hA9 hY9 hV9 HN9; obtain ⟨x0, x1, x2, x3, x4, x5, x6, x7, x8, x9, x10, x11⟩ := hA9.c; obtain ⟨y0, y1, y2, y3, y4, y5, y6, y7, y8, y9, y10, y11⟩ := hY9.c; obtain ⟨v0, v1, v2, v3, v4, v5, v6, v7, v8, v9, v10, v11⟩ := hV9.c)
    | (go_at_call 19; (with_reducible refine Calls.mono (HG2.out _) ?_); rintro e w8 ⟨rfl, hB8⟩; have hA8 := (hA7.th hB8).th (below_new w8 (boxO V1)); have hY8 := (hY7.th hB8).th (below_new w8 (boxO V1)); have hV8 := At.new w8 V1; have HN8 := Lib.hid (below_al (below_th HN7.out hB8) (boxO V1)); unfold boxO at hA8 hY8 hV8 HN8)
    | (go_at_call 19; (with_reducible refine Calls.mono (HG1.out _) ?_); rintro e w7 ⟨rfl, hB7⟩; have hA7 := (hA6.th hB7).th (below_new w7 (boxO Y)); have hY7 := At.new w7 Y; have HN7 := Lib.hid (below_al (below_th HN6.out hB7) (boxO Y)); unfold boxO at hA7 hY7 HN7)
    | (go_at_call 21; (with_reducible refine Calls.mono (HP.out _) ?_); rintro e w6 ⟨rfl, hB6⟩; have hA6 := hA5r.th hB6; have HN6 := Lib.hid (below_th HN5.out hB6))
    | (go_at_call 13; (with_reducible refine Calls.mono (HR.out _) ?_); rintro e w5r ⟨rfl, hB5r⟩; have hA5r := hA5.th hB5r; have hM5 := hM4.th hB5r; have HN5 := Lib.hid (below_th HN4.out hB5r); obtain ⟨s0, s1, s2, s3, s4, s5, s6, s7, s8, s9, s10, s11⟩ := hM5.c; obtain ⟨t0, t1, t2, t3, t4, t5, t6, t7, t8, t9, t10, t11⟩ := hA5r.c)
    | (go_at_call 9; (with_reducible refine Calls.mono (HE2.out _) ?_); rintro e w5 ⟨rfl, hB5⟩; have hA5 := hA4.th hB5; have hM4 := hM3.th hB5; have HN4 := Lib.hid (below_th HN3.out hB5); obtain ⟨u0, u1, u2, u3, u4, u5, u6, u7, u8, u9, u10, u11⟩ := hA5.c)
    | (go_at_call 11; (with_reducible refine Calls.mono (HD2.out _) ?_); rintro e w4 ⟨rfl, hB4⟩; have hA4 := (hA3.th hB4).th (below_new w4 (boxO X)); have hM3 := (hM2.th hB4).th (below_new w4 (boxO X)); have HN3 := Lib.hid (below_al (below_th HN2.out hB4) (boxO X)); unfold boxO at hA4 hM3 HN3)
    | (go_at_call 11; (with_reducible refine Calls.mono (HD1.out _) ?_); rintro e w3 ⟨rfl, hB3⟩; have hA3 := (hA2.th hB3).th (below_new w3 (boxO M1)); have hM2 := At.new w3 M1; have HN2 := Lib.hid (below_al (below_th HN1.out hB3) (boxO M1)); unfold boxO at hA3 hM2 HN2)
    | (go_at_call 9; (with_reducible refine Calls.mono (HE.out _) ?_); rintro e w2 ⟨rfl, hB2⟩; have hA2 := hA1.th hB2; have HN1 := Lib.hid (below_th (below_th HB.out hB1) hB2))
    | (go_at_call 8; refine (shown_any _).mono ?_; rintro e w1 ⟨rfl, hB1⟩; have hA1 := HA.out.th hB1; obtain ⟨q0, q1, q2, q3, q4, q5, q6, q7, q8, q9, q10, q11⟩ := hA1.c))
  go_ret
  exact ⟨rfl, HN9.out⟩
theorem back_BAA (n : I) (s c : ByteArray) (k other : Int) (w : World) (kn : IOk n) (hs : s.size ≤ 281474976710656) (hcz : c.size ≤ 281474976710656)
    (EA EB CC : ByteArray) (ea eb gx pe fe j1 l1 l2 : Int) (r dM dY dV : Bool) (X M1 Y V1 V2 : I)
    (hEA : encS n = EA) (hea : encE n = ea) (hr : rightB n = r) (hX : decV s = X) (hgx : decE s = gx) (hEB : encS X = EB) (heb : encE X = eb) (hM1 : decV EA = M1) (hfe : decE EA = fe)
    (hCC : putV c k n = CC) (hpe : putEr c k n = pe) (hY : getV CC k = Y) (hj1 : getE CC k = j1) (hV1 : getV c other = V1) (hl1 : getE c other = l1) (hV2 : getV CC other = V2) (hl2 : getE CC other = l2) (hdM : decide (M1 = n) = dM) (hdY : decide (Y = n) = dY) (hdV : decide (V1 = V2) = dV)
    (h1 : ea = 100 ∧ r = false) (h2 : gx = 0 ∧ eb = 0 ∧ EB = s) (h3 : (pe != 0) = true) :
    Calls Try.prog 5 #[n.val, .string s, .string c, .int .i64 k, .int .i64 other] w fun e w' => e = .returned (.bool true) ∧ Below w.heap.size w w' := by
  have hE := fun W => encode_any n kn W
  have hD1 := fun W => decode_any EA W (by have := encS_le n; rw [hEA] at this; omega)
  have hD2 := fun W => decode_any s W hs
  have hE2 := fun W => encode_any X (by rw [← hX]; exact decV_ok s) W
  have hR := fun W => right_any n kn W
  have hP := fun W => put_any c k n kn W hcz
  have hccz : CC.size ≤ 281474976710656 := by
    rw [← hCC]
    by_cases hh : hasP c k ∧ RightP n
    · rw [putV_yes hh.1 hh.2, laid_size hh.1.1 (by have := hh.1.2; omega)]; omega
    · rw [show putV c k n = ⟨#[]⟩ from if_neg hh]; decide
  have hG1 := fun W => get_any CC k W hccz
  have hG2 := fun W => get_any c other W hcz
  have hG3 := fun W => get_any CC other W hccz
  rw [hEA, hea] at hE
  rw [hM1, hfe] at hD1
  rw [hX, hgx] at hD2
  rw [hEB, heb] at hE2
  rw [hr] at hR
  rw [hCC, hpe] at hP
  rw [hY, hj1] at hG1
  rw [hV1, hl1] at hG2
  rw [hV2, hl2] at hG3
  have a0 := At.new w n
  have b0 := below_new w (boxO n)
  unfold boxO at a0 b0
  obtain ⟨W0, hW0⟩ : ∃ W0, w.alloc (.cells #[.int .i64 n.kind, .int .u16 n.mode, .int .u16 n.links, .int .u32 n.size, .int .u64 n.time, .int .i64 n.depth, .int .u32 n.m.a, .int .u32 n.m.b, .int .u32 n.m.c, .int .u32 n.m.d, .int .u32 n.m.e, .int .u32 n.m.f] 27) = W0 := ⟨_, rfl⟩
  rw [hW0] at a0 b0
  have HA := Lib.hid a0
  have HB := Lib.hid b0
  obtain ⟨p0, p1, p2, p3, p4, p5, p6, p7, p8, p9, p10, p11⟩ := a0.c
  clear a0 b0 hEA hea hr hX hgx hEB heb hM1 hfe hCC hpe hY hj1 hV1 hl1 hV2 hl2 kn hs hcz hccz
  have hQ1 := fun W => eqlI Y n W
  have hQ2 := fun W => neqI M1 n W
  have hQ3 := fun W => eqlI V1 V2 W
  rw [hdY] at hQ1
  rw [hdM] at hQ2
  rw [hdV] at hQ3
  clear hdM hdY hdV
  unfold I.val at hE hD1 hD2 hE2 hR hP hG1 hG2 hG3 hQ1 hQ2 hQ3 ⊢
  have HE := Lib.hid hE
  have HD1 := Lib.hid hD1
  have HD2 := Lib.hid hD2
  have HE2 := Lib.hid hE2
  have HR := Lib.hid hR
  have HP := Lib.hid hP
  have HG1 := Lib.hid hG1
  have HG2 := Lib.hid hG2
  have HG3 := Lib.hid hG3
  clear hE hD1 hD2 hE2 hR hP hG1 hG2 hG3
  obtain ⟨rfl, rfl⟩ := h1
  obtain ⟨rfl, rfl, rfl⟩ := h2
  go_enter Try.func5, Try.ntmps5
  go_wp2_with (first
    | (go_at_call 19; (with_reducible refine Calls.mono (HG3.out _) ?_); rintro e w9 ⟨rfl, hB9⟩; have hA9 := (hA8.th hB9).th (below_new w9 (boxO V2)); have hY9 := (hY8.th hB9).th (below_new w9 (boxO V2)); have hV9 := (hV8.th hB9).th (below_new w9 (boxO V2)); have HN9 := Lib.hid (below_al (below_th HN8.out hB9) (boxO V2)); unfold boxO at hA9 hY9 hV9 HN9; obtain ⟨x0, x1, x2, x3, x4, x5, x6, x7, x8, x9, x10, x11⟩ := hA9.c; obtain ⟨y0, y1, y2, y3, y4, y5, y6, y7, y8, y9, y10, y11⟩ := hY9.c; obtain ⟨v0, v1, v2, v3, v4, v5, v6, v7, v8, v9, v10, v11⟩ := hV9.c)
    | (go_at_call 19; (with_reducible refine Calls.mono (HG2.out _) ?_); rintro e w8 ⟨rfl, hB8⟩; have hA8 := (hA7.th hB8).th (below_new w8 (boxO V1)); have hY8 := (hY7.th hB8).th (below_new w8 (boxO V1)); have hV8 := At.new w8 V1; have HN8 := Lib.hid (below_al (below_th HN7.out hB8) (boxO V1)); unfold boxO at hA8 hY8 hV8 HN8)
    | (go_at_call 19; (with_reducible refine Calls.mono (HG1.out _) ?_); rintro e w7 ⟨rfl, hB7⟩; have hA7 := (hA6.th hB7).th (below_new w7 (boxO Y)); have hY7 := At.new w7 Y; have HN7 := Lib.hid (below_al (below_th HN6.out hB7) (boxO Y)); unfold boxO at hA7 hY7 HN7)
    | (go_at_call 21; (with_reducible refine Calls.mono (HP.out _) ?_); rintro e w6 ⟨rfl, hB6⟩; have hA6 := hA5r.th hB6; have HN6 := Lib.hid (below_th HN5.out hB6))
    | (go_at_call 13; (with_reducible refine Calls.mono (HR.out _) ?_); rintro e w5r ⟨rfl, hB5r⟩; have hA5r := hA5.th hB5r; have hM5 := hM4.th hB5r; have HN5 := Lib.hid (below_th HN4.out hB5r); obtain ⟨s0, s1, s2, s3, s4, s5, s6, s7, s8, s9, s10, s11⟩ := hM5.c; obtain ⟨t0, t1, t2, t3, t4, t5, t6, t7, t8, t9, t10, t11⟩ := hA5r.c)
    | (go_at_call 9; (with_reducible refine Calls.mono (HE2.out _) ?_); rintro e w5 ⟨rfl, hB5⟩; have hA5 := hA4.th hB5; have hM4 := hM3.th hB5; have HN4 := Lib.hid (below_th HN3.out hB5); obtain ⟨u0, u1, u2, u3, u4, u5, u6, u7, u8, u9, u10, u11⟩ := hA5.c)
    | (go_at_call 11; (with_reducible refine Calls.mono (HD2.out _) ?_); rintro e w4 ⟨rfl, hB4⟩; have hA4 := (hA3.th hB4).th (below_new w4 (boxO X)); have hM3 := (hM2.th hB4).th (below_new w4 (boxO X)); have HN3 := Lib.hid (below_al (below_th HN2.out hB4) (boxO X)); unfold boxO at hA4 hM3 HN3)
    | (go_at_call 11; (with_reducible refine Calls.mono (HD1.out _) ?_); rintro e w3 ⟨rfl, hB3⟩; have hA3 := (hA2.th hB3).th (below_new w3 (boxO M1)); have hM2 := At.new w3 M1; have HN2 := Lib.hid (below_al (below_th HN1.out hB3) (boxO M1)); unfold boxO at hA3 hM2 HN2)
    | (go_at_call 9; (with_reducible refine Calls.mono (HE.out _) ?_); rintro e w2 ⟨rfl, hB2⟩; have hA2 := hA1.th hB2; have HN1 := Lib.hid (below_th (below_th HB.out hB1) hB2))
    | (go_at_call 8; refine (shown_any _).mono ?_; rintro e w1 ⟨rfl, hB1⟩; have hA1 := HA.out.th hB1; obtain ⟨q0, q1, q2, q3, q4, q5, q6, q7, q8, q9, q10, q11⟩ := hA1.c))
  go_ret
  exact ⟨rfl, HN6.out⟩
theorem back_BBA (n : I) (s c : ByteArray) (k other : Int) (w : World) (kn : IOk n) (hs : s.size ≤ 281474976710656) (hcz : c.size ≤ 281474976710656)
    (EA EB CC : ByteArray) (ea eb gx pe fe j1 l1 l2 : Int) (r dM dY dV : Bool) (X M1 Y V1 V2 : I)
    (hEA : encS n = EA) (hea : encE n = ea) (hr : rightB n = r) (hX : decV s = X) (hgx : decE s = gx) (hEB : encS X = EB) (heb : encE X = eb) (hM1 : decV EA = M1) (hfe : decE EA = fe)
    (hCC : putV c k n = CC) (hpe : putEr c k n = pe) (hY : getV CC k = Y) (hj1 : getE CC k = j1) (hV1 : getV c other = V1) (hl1 : getE c other = l1) (hV2 : getV CC other = V2) (hl2 : getE CC other = l2) (hdM : decide (M1 = n) = dM) (hdY : decide (Y = n) = dY) (hdV : decide (V1 = V2) = dV)
    (h1 : ea = 100 ∧ r = false) (h2 : gx = 100) (h3 : (pe != 0) = true) :
    Calls Try.prog 5 #[n.val, .string s, .string c, .int .i64 k, .int .i64 other] w fun e w' => e = .returned (.bool true) ∧ Below w.heap.size w w' := by
  have hE := fun W => encode_any n kn W
  have hD1 := fun W => decode_any EA W (by have := encS_le n; rw [hEA] at this; omega)
  have hD2 := fun W => decode_any s W hs
  have hE2 := fun W => encode_any X (by rw [← hX]; exact decV_ok s) W
  have hR := fun W => right_any n kn W
  have hP := fun W => put_any c k n kn W hcz
  have hccz : CC.size ≤ 281474976710656 := by
    rw [← hCC]
    by_cases hh : hasP c k ∧ RightP n
    · rw [putV_yes hh.1 hh.2, laid_size hh.1.1 (by have := hh.1.2; omega)]; omega
    · rw [show putV c k n = ⟨#[]⟩ from if_neg hh]; decide
  have hG1 := fun W => get_any CC k W hccz
  have hG2 := fun W => get_any c other W hcz
  have hG3 := fun W => get_any CC other W hccz
  rw [hEA, hea] at hE
  rw [hM1, hfe] at hD1
  rw [hX, hgx] at hD2
  rw [hEB, heb] at hE2
  rw [hr] at hR
  rw [hCC, hpe] at hP
  rw [hY, hj1] at hG1
  rw [hV1, hl1] at hG2
  rw [hV2, hl2] at hG3
  have a0 := At.new w n
  have b0 := below_new w (boxO n)
  unfold boxO at a0 b0
  obtain ⟨W0, hW0⟩ : ∃ W0, w.alloc (.cells #[.int .i64 n.kind, .int .u16 n.mode, .int .u16 n.links, .int .u32 n.size, .int .u64 n.time, .int .i64 n.depth, .int .u32 n.m.a, .int .u32 n.m.b, .int .u32 n.m.c, .int .u32 n.m.d, .int .u32 n.m.e, .int .u32 n.m.f] 27) = W0 := ⟨_, rfl⟩
  rw [hW0] at a0 b0
  have HA := Lib.hid a0
  have HB := Lib.hid b0
  obtain ⟨p0, p1, p2, p3, p4, p5, p6, p7, p8, p9, p10, p11⟩ := a0.c
  clear a0 b0 hEA hea hr hX hgx hEB heb hM1 hfe hCC hpe hY hj1 hV1 hl1 hV2 hl2 kn hs hcz hccz
  have hQ1 := fun W => eqlI Y n W
  have hQ2 := fun W => neqI M1 n W
  have hQ3 := fun W => eqlI V1 V2 W
  rw [hdY] at hQ1
  rw [hdM] at hQ2
  rw [hdV] at hQ3
  clear hdM hdY hdV
  unfold I.val at hE hD1 hD2 hE2 hR hP hG1 hG2 hG3 hQ1 hQ2 hQ3 ⊢
  have HE := Lib.hid hE
  have HD1 := Lib.hid hD1
  have HD2 := Lib.hid hD2
  have HE2 := Lib.hid hE2
  have HR := Lib.hid hR
  have HP := Lib.hid hP
  have HG1 := Lib.hid hG1
  have HG2 := Lib.hid hG2
  have HG3 := Lib.hid hG3
  clear hE hD1 hD2 hE2 hR hP hG1 hG2 hG3
  obtain ⟨rfl, rfl⟩ := h1
  subst h2
  go_enter Try.func5, Try.ntmps5
  go_wp2_with (first
    | (go_at_call 19; (with_reducible refine Calls.mono (HG3.out _) ?_); rintro e w9 ⟨rfl, hB9⟩; have hA9 := (hA8.th hB9).th (below_new w9 (boxO V2)); have hY9 := (hY8.th hB9).th (below_new w9 (boxO V2)); have hV9 := (hV8.th hB9).th (below_new w9 (boxO V2)); have HN9 := Lib.hid (below_al (below_th HN8.out hB9) (boxO V2)); unfold boxO at hA9 hY9 hV9 HN9; obtain ⟨x0, x1, x2, x3, x4, x5, x6, x7, x8, x9, x10, x11⟩ := hA9.c; obtain ⟨y0, y1, y2, y3, y4, y5, y6, y7, y8, y9, y10, y11⟩ := hY9.c; obtain ⟨v0, v1, v2, v3, v4, v5, v6, v7, v8, v9, v10, v11⟩ := hV9.c)
    | (go_at_call 19; (with_reducible refine Calls.mono (HG2.out _) ?_); rintro e w8 ⟨rfl, hB8⟩; have hA8 := (hA7.th hB8).th (below_new w8 (boxO V1)); have hY8 := (hY7.th hB8).th (below_new w8 (boxO V1)); have hV8 := At.new w8 V1; have HN8 := Lib.hid (below_al (below_th HN7.out hB8) (boxO V1)); unfold boxO at hA8 hY8 hV8 HN8)
    | (go_at_call 19; (with_reducible refine Calls.mono (HG1.out _) ?_); rintro e w7 ⟨rfl, hB7⟩; have hA7 := (hA6.th hB7).th (below_new w7 (boxO Y)); have hY7 := At.new w7 Y; have HN7 := Lib.hid (below_al (below_th HN6.out hB7) (boxO Y)); unfold boxO at hA7 hY7 HN7)
    | (go_at_call 21; (with_reducible refine Calls.mono (HP.out _) ?_); rintro e w6 ⟨rfl, hB6⟩; have hA6 := hA5r.th hB6; have HN6 := Lib.hid (below_th HN5.out hB6))
    | (go_at_call 13; (with_reducible refine Calls.mono (HR.out _) ?_); rintro e w5r ⟨rfl, hB5r⟩; have hA5r := hA5.th hB5r; have hM5 := hM4.th hB5r; have HN5 := Lib.hid (below_th HN4.out hB5r); obtain ⟨s0, s1, s2, s3, s4, s5, s6, s7, s8, s9, s10, s11⟩ := hM5.c; obtain ⟨t0, t1, t2, t3, t4, t5, t6, t7, t8, t9, t10, t11⟩ := hA5r.c)
    | (go_at_call 9; (with_reducible refine Calls.mono (HE2.out _) ?_); rintro e w5 ⟨rfl, hB5⟩; have hA5 := hA4.th hB5; have hM4 := hM3.th hB5; have HN4 := Lib.hid (below_th HN3.out hB5); obtain ⟨u0, u1, u2, u3, u4, u5, u6, u7, u8, u9, u10, u11⟩ := hA5.c)
    | (go_at_call 11; (with_reducible refine Calls.mono (HD2.out _) ?_); rintro e w4 ⟨rfl, hB4⟩; have hA4 := (hA3.th hB4).th (below_new w4 (boxO X)); have hM3 := (hM2.th hB4).th (below_new w4 (boxO X)); have HN3 := Lib.hid (below_al (below_th HN2.out hB4) (boxO X)); unfold boxO at hA4 hM3 HN3)
    | (go_at_call 11; (with_reducible refine Calls.mono (HD1.out _) ?_); rintro e w3 ⟨rfl, hB3⟩; have hA3 := (hA2.th hB3).th (below_new w3 (boxO M1)); have hM2 := At.new w3 M1; have HN2 := Lib.hid (below_al (below_th HN1.out hB3) (boxO M1)); unfold boxO at hA3 hM2 HN2)
    | (go_at_call 9; (with_reducible refine Calls.mono (HE.out _) ?_); rintro e w2 ⟨rfl, hB2⟩; have hA2 := hA1.th hB2; have HN1 := Lib.hid (below_th (below_th HB.out hB1) hB2))
    | (go_at_call 8; refine (shown_any _).mono ?_; rintro e w1 ⟨rfl, hB1⟩; have hA1 := HA.out.th hB1; obtain ⟨q0, q1, q2, q3, q4, q5, q6, q7, q8, q9, q10, q11⟩ := hA1.c))
  go_ret
  exact ⟨rfl, HN6.out⟩
theorem back_core (n : I) (s c : ByteArray) (k other : Int) (w : World) (kn : IOk n) (hs : s.size ≤ 281474976710656) (hcz : c.size ≤ 281474976710656)
    (EA EB CC : ByteArray) (ea eb gx pe fe j1 l1 l2 : Int) (r dM dY dV : Bool) (X M1 Y V1 V2 : I)
    (hEA : encS n = EA) (hea : encE n = ea) (hr : rightB n = r) (hX : decV s = X) (hgx : decE s = gx) (hEB : encS X = EB) (heb : encE X = eb) (hM1 : decV EA = M1) (hfe : decE EA = fe)
    (hCC : putV c k n = CC) (hpe : putEr c k n = pe) (hY : getV CC k = Y) (hj1 : getE CC k = j1) (hV1 : getV c other = V1) (hl1 : getE c other = l1) (hV2 : getV CC other = V2) (hl2 : getE CC other = l2) (hdM : decide (M1 = n) = dM) (hdY : decide (Y = n) = dY) (hdV : decide (V1 = V2) = dV)
    (h1 : (ea = 0 ∧ r = true ∧ dM = true ∧ fe = 0) ∨ (ea = 100 ∧ r = false)) (h2 : (gx = 0 ∧ eb = 0 ∧ EB = s) ∨ gx = 100)
    (h3 : (pe != 0) = true ∨ (pe = 0 ∧ dY = true ∧ j1 = 0 ∧ ((CC.size : Int) == (c.size : Int)) = true ∧ ((other == k) = true ∨ ((other == k) = false ∧ dV = true ∧ l2 = l1)))) :
    Calls Try.prog 5 #[n.val, .string s, .string c, .int .i64 k, .int .i64 other] w fun e w' => e = .returned (.bool true) ∧ Below w.heap.size w w' := by
  rcases h1 with h1 | h1
  · rcases h2 with h2 | h2
    · rcases h3 with h3 | ⟨g1, g2, g3, g4, g5 | g5⟩
      · exact back_AAA n s c k other w kn hs hcz EA EB CC ea eb gx pe fe j1 l1 l2 r dM dY dV X M1 Y V1 V2 hEA hea hr hX hgx hEB heb hM1 hfe hCC hpe hY hj1 hV1 hl1 hV2 hl2 hdM hdY hdV h1 h2 h3
      · exact back_AAB n s c k other w kn hs hcz EA EB CC ea eb gx pe fe j1 l1 l2 r dM dY dV X M1 Y V1 V2 hEA hea hr hX hgx hEB heb hM1 hfe hCC hpe hY hj1 hV1 hl1 hV2 hl2 hdM hdY hdV h1 h2 ⟨g1, g2, g3, g4, g5⟩
      · exact back_AAC n s c k other w kn hs hcz EA EB CC ea eb gx pe fe j1 l1 l2 r dM dY dV X M1 Y V1 V2 hEA hea hr hX hgx hEB heb hM1 hfe hCC hpe hY hj1 hV1 hl1 hV2 hl2 hdM hdY hdV h1 h2 ⟨g1, g2, g3, g4, g5⟩
    · rcases h3 with h3 | ⟨g1, g2, g3, g4, g5 | g5⟩
      · exact back_ABA n s c k other w kn hs hcz EA EB CC ea eb gx pe fe j1 l1 l2 r dM dY dV X M1 Y V1 V2 hEA hea hr hX hgx hEB heb hM1 hfe hCC hpe hY hj1 hV1 hl1 hV2 hl2 hdM hdY hdV h1 h2 h3
      · exact back_ABB n s c k other w kn hs hcz EA EB CC ea eb gx pe fe j1 l1 l2 r dM dY dV X M1 Y V1 V2 hEA hea hr hX hgx hEB heb hM1 hfe hCC hpe hY hj1 hV1 hl1 hV2 hl2 hdM hdY hdV h1 h2 ⟨g1, g2, g3, g4, g5⟩
      · exact back_ABC n s c k other w kn hs hcz EA EB CC ea eb gx pe fe j1 l1 l2 r dM dY dV X M1 Y V1 V2 hEA hea hr hX hgx hEB heb hM1 hfe hCC hpe hY hj1 hV1 hl1 hV2 hl2 hdM hdY hdV h1 h2 ⟨g1, g2, g3, g4, g5⟩
  · have h3' : (pe != 0) = true := by
      rcases h3 with h3 | ⟨g1, _⟩
      · exact h3
      · exact absurd g1 (by
          rw [← hpe]
          by_cases hh : hasP c k
          · rw [putEr_yes hh, hea, h1.1]; decide
          · rw [putEr_no hh]; decide)
    rcases h2 with h2 | h2
    · exact back_BAA n s c k other w kn hs hcz EA EB CC ea eb gx pe fe j1 l1 l2 r dM dY dV X M1 Y V1 V2 hEA hea hr hX hgx hEB heb hM1 hfe hCC hpe hY hj1 hV1 hl1 hV2 hl2 hdM hdY hdV h1 h2 h3'
    · exact back_BBA n s c k other w kn hs hcz EA EB CC ea eb gx pe fe j1 l1 l2 r dM dY dV X M1 Y V1 V2 hEA hea hr hX hgx hEB heb hM1 hfe hCC hpe hY hj1 hV1 hl1 hV2 hl2 hdM hdY hdV h1 h2 h3'
theorem InodeBack_walk (n : I) (s c : ByteArray) (k other : Int) (w : World) (kn : IOk n) (z1 : s.size ≤ 140737488351232) (z2 : c.size ≤ 140737488351232) (w3 : (Lit.int .i64 k).wf = true) (w4 : (Lit.int .i64 other).wf = true) :
    Calls Try.prog 5 #[n.val, .string s, .string c, .int .i64 k, .int .i64 other] w fun e w' => e = .returned (.bool true) ∧ Below w.heap.size w w' := by
  refine back_core n s c k other w kn (by omega) (by omega) _ _ _ _ _ _ _ _ _ _ _ _ _ _ _ _ _ _ _ _ rfl rfl rfl rfl rfl rfl rfl rfl rfl rfl rfl rfl rfl rfl rfl rfl rfl rfl rfl rfl ?_ ?_ ?_
  · by_cases h : RightP n
    · obtain ⟨d1, d2⟩ := dec_enc h kn
      exact .inl ⟨encE_yes h, rightB_yes h, decide_eq_true d1, d2⟩
    · exact .inr ⟨encE_no h, rightB_no h⟩
  · by_cases h : decOk s
    · obtain ⟨d1, d2⟩ := enc_dec h
      exact .inl ⟨decE_yes h, d2, d1⟩
    · exact .inr (decE_no h)
  · by_cases h : hasP c k ∧ RightP n
    · obtain ⟨hh, hr⟩ := h
      have h1 := hh.1
      obtain ⟨q, rfl⟩ := Int.eq_ofNat_of_zero_le hh.2.1
      have hq : q < 12 := by have := hh.2.2; omega
      have hsz := laid_size h1 hq n
      have hL : putV c q n = laid c q n := by rw [putV_yes hh hr, Int.toNat_natCast]
      have hin : ∀ j : Nat, j < 12 → hasP (laid c q n) j := fun j hj => ⟨hsz, by omega, by omega⟩
      obtain ⟨d1, d2⟩ := dec_of hr kn
      have hp : piece (laid c q n) q = bytes n := by unfold piece; rw [Int.toNat_natCast]; exact laid_piece h1 hq n
      right
      refine ⟨by rw [putEr_yes hh, encE_yes hr], ?_, ?_, ?_, ?_⟩
      · exact decide_eq_true (by rw [hL, getV_yes (hin q hq), hp, decV_yes d1, d2])
      · rw [hL, getE_yes (hin q hq), hp, decE_yes d1]
      · rw [hL, hsz, h1]; simp
      · by_cases ho : other = (q : Int)
        · left; rw [ho]; simp
        · right
          refine ⟨by simpa using ho, ?_⟩
          rw [hL]
          by_cases h2 : hasP c other
          · obtain ⟨j, rfl⟩ := Int.eq_ofNat_of_zero_le h2.2.1
            have hj : j < 12 := by have := h2.2.2; omega
            have e : piece (laid c q n) j = piece c j := by unfold piece; rw [Int.toNat_natCast]; exact laid_other h1 hq hj (by omega) n
            rw [getV_yes (hin j hj), getV_yes h2, getE_yes (hin j hj), getE_yes h2, e]
            exact ⟨decide_eq_true rfl, rfl⟩
          · have h3 : ¬ hasP (laid c q n) other := fun hx => h2 ⟨h1, hx.2⟩
            rw [getV_no h3, getV_no h2, getE_no h3, getE_no h2]
            exact ⟨decide_eq_true rfl, rfl⟩
    · left
      by_cases hh : hasP c k
      · have hr : ¬ RightP n := fun hr => h ⟨hh, hr⟩
        rw [putEr_yes hh, encE_no hr]
        rfl
      · rw [putEr_no hh]
        rfl
end
end Go.Proofs.Ytbadkbfcfcgfhaa.Ino
