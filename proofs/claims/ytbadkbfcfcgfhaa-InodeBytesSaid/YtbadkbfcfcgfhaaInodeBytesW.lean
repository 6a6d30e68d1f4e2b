/- InodeBytes, walked. -/
import Derived.Test.YtbadkbfcfcgfhaaInoArgs
namespace Go.Proofs.Ytbadkbfcfcgfhaa.Ino
open Go.RowKit Go.Shelf
attribute [local go_sem] Oper.semAt_some
set_option linter.unusedVariables false
set_option linter.unusedSimpArgs false
section
set_option maxRecDepth 100000
set_option maxHeartbeats 8000000
theorem bytes_core (n : I) (s : ByteArray) (sz : Nat) (w : World) (kn : IOk n) (hs : s.size ≤ 281474976710656) (hz : sz < 4294967296) : Calls Try.prog 3 #[n.val, .string s, .int .u32 sz] w fun e w' => e = .returned (.bool true) ∧ Below w.heap.size w w' := by
  have hE := fun W => encode_any n kn W
  have hF := fun W => R.encode_any n kn W
  have hD := fun W => decode_any s W hs
  have hG := fun W => R.decode_any s W hs
  have hR := fun W => right_any n kn W
  have hS := fun W => R.right_any n kn W
  have hb := fun W => blocks_any sz W hz
  have hc := fun W => R.blocks_any sz W hz
  have hd := fun W => depth_any sz W hz
  have hf := fun W => R.depth_any sz W hz
  obtain ⟨EA, hEA⟩ : ∃ x, encS n = x := ⟨_, rfl⟩
  obtain ⟨ea, hea⟩ : ∃ x, encE n = x := ⟨_, rfl⟩
  obtain ⟨X, hX⟩ : ∃ x, decV s = x := ⟨_, rfl⟩
  obtain ⟨gx, hgx⟩ : ∃ x, decE s = x := ⟨_, rfl⟩
  obtain ⟨r, hr⟩ : ∃ x, rightB n = x := ⟨_, rfl⟩
  obtain ⟨bl, hbl⟩ : ∃ x, blN sz = x := ⟨_, rfl⟩
  obtain ⟨dp, hdp⟩ : ∃ x, dpN sz = x := ⟨_, rfl⟩
  rw [hEA, hea] at hE hF
  rw [hX, hgx] at hD hG
  rw [hr] at hR hS
  rw [hbl] at hb hc
  rw [hdp] at hd hf
  have hQ := fun W => eqlI X X W
  rw [decide_eq_true (rfl : X = X)] at hQ
  have hsq := beq_yes (rfl : EA = EA)
  have a0 := At.new w n
  have b0 := below_new w (boxO n)
  unfold boxO at a0 b0
  obtain ⟨W0, hW0⟩ : ∃ W0, w.alloc (.cells #[.int .i64 n.kind, .int .u16 n.mode, .int .u16 n.links, .int .u32 n.size, .int .u64 n.time, .int .i64 n.depth, .int .u32 n.m.a, .int .u32 n.m.b, .int .u32 n.m.c, .int .u32 n.m.d, .int .u32 n.m.e, .int .u32 n.m.f] 27) = W0 := ⟨_, rfl⟩
  rw [hW0] at a0 b0
  have HA := Lib.hid a0
  have HB := Lib.hid b0
  obtain ⟨p0, p1, p2, p3, p4, p5, p6, p7, p8, p9, p10, p11⟩ := a0.c
  clear a0 b0 hEA hea hX hgx hr hbl hdp kn hs hz
  unfold I.val at hE hF hD hG hR hS hQ ⊢
  have HE := Lib.hid hE
  have HF := Lib.hid hF
  have HD := Lib.hid hD
  have HG := Lib.hid hG
  have HR := Lib.hid hR
  have HS := Lib.hid hS
  have Hb := Lib.hid hb
  have Hc := Lib.hid hc
  have Hd := Lib.hid hd
  have Hf := Lib.hid hf
  clear hE hF hD hG hR hS hb hc hd hf
  go_enter Try.func3, Try.ntmps3
  go_wp2_with (first
    | (go_at_call 8; refine (shown_any _).mono ?_; rintro e w1 ⟨rfl, hB1⟩; have hA1 := HA.out.th hB1; obtain ⟨t0, t1, t2, t3, t4, t5, t6, t7, t8, t9, t10, t11⟩ := hA1.c)
    | (go_at_call 9; (with_reducible refine Calls.mono (HE.out _) ?_); rintro e w2 ⟨rfl, hB2⟩; have hA2 := hA1.th hB2; obtain ⟨u0, u1, u2, u3, u4, u5, u6, u7, u8, u9, u10, u11⟩ := hA2.c)
    | (go_at_call 10; (with_reducible refine Calls.mono (HF.out _) ?_); rintro e w3 ⟨rfl, hB3⟩; have hA3 := hA2.th hB3)
    | (go_at_call 11; (with_reducible refine Calls.mono (HD.out _) ?_); rintro e w4 ⟨rfl, hB4⟩; have hA4 := (hA3.th hB4).th (below_new w4 (boxO X)); have hX4 := At.new w4 X)
    | (go_at_call 12; (with_reducible refine Calls.mono (HG.out _) ?_); rintro e w5 ⟨rfl, hB5⟩))
  have hA5 := (hA4.th hB5).th (below_new w5 (boxO X))
  have hX5 := (hX4.th hB5).th (below_new w5 (boxO X))
  have hY5 := At.new w5 X
  have hB := below_al (below_th (below_al (below_th (below_th (below_th (below_th HB.out hB1) hB2) hB3) hB4) (boxO X)) hB5) (boxO X)
  unfold boxO at hA5 hX5 hY5 hB
  obtain ⟨W6, hW6⟩ : ∃ W6, w5.alloc (.cells #[.int .i64 X.kind, .int .u16 X.mode, .int .u16 X.links, .int .u32 X.size, .int .u64 X.time, .int .i64 X.depth, .int .u32 X.m.a, .int .u32 X.m.b, .int .u32 X.m.c, .int .u32 X.m.d, .int .u32 X.m.e, .int .u32 X.m.f] 27) = W6 := ⟨_, rfl⟩
  rw [hW6] at hA5 hX5 hY5 hB
  have HC : Hid (∀ W, Below W6.heap.size W6 W → W.cell? ⟨w.heap.size, 0, none⟩ = some (.int .i64 n.kind) ∧ W.cell? ⟨w.heap.size, 1, none⟩ = some (.int .u16 n.mode) ∧ W.cell? ⟨w.heap.size, 2, none⟩ = some (.int .u16 n.links) ∧ W.cell? ⟨w.heap.size, 3, none⟩ = some (.int .u32 n.size) ∧ W.cell? ⟨w.heap.size, 4, none⟩ = some (.int .u64 n.time) ∧ W.cell? ⟨w.heap.size, 5, none⟩ = some (.int .i64 n.depth) ∧ W.cell? ⟨w.heap.size, 6, none⟩ = some (.int .u32 n.m.a) ∧ W.cell? ⟨w.heap.size, 7, none⟩ = some (.int .u32 n.m.b) ∧ W.cell? ⟨w.heap.size, 8, none⟩ = some (.int .u32 n.m.c) ∧ W.cell? ⟨w.heap.size, 9, none⟩ = some (.int .u32 n.m.d) ∧ W.cell? ⟨w.heap.size, 10, none⟩ = some (.int .u32 n.m.e) ∧ W.cell? ⟨w.heap.size, 11, none⟩ = some (.int .u32 n.m.f) ∧ W.cell? ⟨w4.heap.size, 0, none⟩ = some (.int .i64 X.kind) ∧ W.cell? ⟨w4.heap.size, 1, none⟩ = some (.int .u16 X.mode) ∧ W.cell? ⟨w4.heap.size, 2, none⟩ = some (.int .u16 X.links) ∧ W.cell? ⟨w4.heap.size, 3, none⟩ = some (.int .u32 X.size) ∧ W.cell? ⟨w4.heap.size, 4, none⟩ = some (.int .u64 X.time) ∧ W.cell? ⟨w4.heap.size, 5, none⟩ = some (.int .i64 X.depth) ∧ W.cell? ⟨w4.heap.size, 6, none⟩ = some (.int .u32 X.m.a) ∧ W.cell? ⟨w4.heap.size, 7, none⟩ = some (.int .u32 X.m.b) ∧ W.cell? ⟨w4.heap.size, 8, none⟩ = some (.int .u32 X.m.c) ∧ W.cell? ⟨w4.heap.size, 9, none⟩ = some (.int .u32 X.m.d) ∧ W.cell? ⟨w4.heap.size, 10, none⟩ = some (.int .u32 X.m.e) ∧ W.cell? ⟨w4.heap.size, 11, none⟩ = some (.int .u32 X.m.f) ∧ W.cell? ⟨w5.heap.size, 0, none⟩ = some (.int .i64 X.kind) ∧ W.cell? ⟨w5.heap.size, 1, none⟩ = some (.int .u16 X.mode) ∧ W.cell? ⟨w5.heap.size, 2, none⟩ = some (.int .u16 X.links) ∧ W.cell? ⟨w5.heap.size, 3, none⟩ = some (.int .u32 X.size) ∧ W.cell? ⟨w5.heap.size, 4, none⟩ = some (.int .u64 X.time) ∧ W.cell? ⟨w5.heap.size, 5, none⟩ = some (.int .i64 X.depth) ∧ W.cell? ⟨w5.heap.size, 6, none⟩ = some (.int .u32 X.m.a) ∧ W.cell? ⟨w5.heap.size, 7, none⟩ = some (.int .u32 X.m.b) ∧ W.cell? ⟨w5.heap.size, 8, none⟩ = some (.int .u32 X.m.c) ∧ W.cell? ⟨w5.heap.size, 9, none⟩ = some (.int .u32 X.m.d) ∧ W.cell? ⟨w5.heap.size, 10, none⟩ = some (.int .u32 X.m.e) ∧ W.cell? ⟨w5.heap.size, 11, none⟩ = some (.int .u32 X.m.f)) := fun W hW => by
    obtain ⟨p0, p1, p2, p3, p4, p5, p6, p7, p8, p9, p10, p11⟩ := (hA5.th hW).c
    obtain ⟨x0, x1, x2, x3, x4, x5, x6, x7, x8, x9, x10, x11⟩ := (hX5.th hW).c
    obtain ⟨y0, y1, y2, y3, y4, y5, y6, y7, y8, y9, y10, y11⟩ := (hY5.th hW).c
    exact ⟨p0, p1, p2, p3, p4, p5, p6, p7, p8, p9, p10, p11, x0, x1, x2, x3, x4, x5, x6, x7, x8, x9, x10, x11, y0, y1, y2, y3, y4, y5, y6, y7, y8, y9, y10, y11⟩
  have HBB := Lib.hid hB
  have hself : Below W6.heap.size W6 W6.drew := (Below.refl _ _).drew
  clear hA5 hX5 hY5 hB hA1 hA2 hA3 hA4 hX4 hB1 hB2 hB3 hB4 hB5 p0 p1 p2 p3 p4 p5 p6 p7 p8 p9 p10 p11 t0 t1 t2 t3 t4 t5 t6 t7 t8 t9 t10 t11 u0 u1 u2 u3 u4 u5 u6 u7 u8 u9 u10 u11
  rw [hW6]
  clear hW6
  go_region_held3 (fun w' => w'.cell? ⟨w.heap.size, 0, none⟩ = some (.int .i64 n.kind) ∧ w'.cell? ⟨w.heap.size, 1, none⟩ = some (.int .u16 n.mode) ∧ w'.cell? ⟨w.heap.size, 2, none⟩ = some (.int .u16 n.links) ∧ w'.cell? ⟨w.heap.size, 3, none⟩ = some (.int .u32 n.size) ∧ w'.cell? ⟨w.heap.size, 4, none⟩ = some (.int .u64 n.time) ∧ w'.cell? ⟨w.heap.size, 5, none⟩ = some (.int .i64 n.depth) ∧ w'.cell? ⟨w.heap.size, 6, none⟩ = some (.int .u32 n.m.a) ∧ w'.cell? ⟨w.heap.size, 7, none⟩ = some (.int .u32 n.m.b) ∧ w'.cell? ⟨w.heap.size, 8, none⟩ = some (.int .u32 n.m.c) ∧ w'.cell? ⟨w.heap.size, 9, none⟩ = some (.int .u32 n.m.d) ∧ w'.cell? ⟨w.heap.size, 10, none⟩ = some (.int .u32 n.m.e) ∧ w'.cell? ⟨w.heap.size, 11, none⟩ = some (.int .u32 n.m.f) ∧ w'.cell? ⟨w4.heap.size, 0, none⟩ = some (.int .i64 X.kind) ∧ w'.cell? ⟨w4.heap.size, 1, none⟩ = some (.int .u16 X.mode) ∧ w'.cell? ⟨w4.heap.size, 2, none⟩ = some (.int .u16 X.links) ∧ w'.cell? ⟨w4.heap.size, 3, none⟩ = some (.int .u32 X.size) ∧ w'.cell? ⟨w4.heap.size, 4, none⟩ = some (.int .u64 X.time) ∧ w'.cell? ⟨w4.heap.size, 5, none⟩ = some (.int .i64 X.depth) ∧ w'.cell? ⟨w4.heap.size, 6, none⟩ = some (.int .u32 X.m.a) ∧ w'.cell? ⟨w4.heap.size, 7, none⟩ = some (.int .u32 X.m.b) ∧ w'.cell? ⟨w4.heap.size, 8, none⟩ = some (.int .u32 X.m.c) ∧ w'.cell? ⟨w4.heap.size, 9, none⟩ = some (.int .u32 X.m.d) ∧ w'.cell? ⟨w4.heap.size, 10, none⟩ = some (.int .u32 X.m.e) ∧ w'.cell? ⟨w4.heap.size, 11, none⟩ = some (.int .u32 X.m.f) ∧ w'.cell? ⟨w5.heap.size, 0, none⟩ = some (.int .i64 X.kind) ∧ w'.cell? ⟨w5.heap.size, 1, none⟩ = some (.int .u16 X.mode) ∧ w'.cell? ⟨w5.heap.size, 2, none⟩ = some (.int .u16 X.links) ∧ w'.cell? ⟨w5.heap.size, 3, none⟩ = some (.int .u32 X.size) ∧ w'.cell? ⟨w5.heap.size, 4, none⟩ = some (.int .u64 X.time) ∧ w'.cell? ⟨w5.heap.size, 5, none⟩ = some (.int .i64 X.depth) ∧ w'.cell? ⟨w5.heap.size, 6, none⟩ = some (.int .u32 X.m.a) ∧ w'.cell? ⟨w5.heap.size, 7, none⟩ = some (.int .u32 X.m.b) ∧ w'.cell? ⟨w5.heap.size, 8, none⟩ = some (.int .u32 X.m.c) ∧ w'.cell? ⟨w5.heap.size, 9, none⟩ = some (.int .u32 X.m.d) ∧ w'.cell? ⟨w5.heap.size, 10, none⟩ = some (.int .u32 X.m.e) ∧ w'.cell? ⟨w5.heap.size, 11, none⟩ = some (.int .u32 X.m.f)) (exact HC.out _ (by assumption)) (first
    | (go_at_call 13; (with_reducible refine Calls.mono (HR.out _) ?_); rintro e w2 ⟨rfl, hBn⟩; have := below_th (by assumption : Below W6.heap.size W6 _) hBn)
    | (go_at_call 14; (with_reducible refine Calls.mono (HS.out _) ?_); rintro e w2 ⟨rfl, hBn⟩; have := below_th (by assumption : Below W6.heap.size W6 _) hBn)
    | (go_at_call 15; (with_reducible refine Calls.mono (Hb.out _) ?_); rintro e w2 ⟨rfl, rfl⟩)
    | (go_at_call 16; (with_reducible refine Calls.mono (Hc.out _) ?_); rintro e w2 ⟨rfl, rfl⟩)
    | (go_at_call 17; (with_reducible refine Calls.mono (Hd.out _) ?_); rintro e w2 ⟨rfl, rfl⟩)
    | (go_at_call 18; (with_reducible refine Calls.mono (Hf.out _) ?_); rintro e w2 ⟨rfl, rfl⟩))
  go_wp2
  go_ret
  exact ⟨rfl, below_th HBB.out (by assumption)⟩
theorem InodeBytes_walk (n : I) (s : ByteArray) (sz : Int) (w : World) (kn : IOk n) (z1 : s.size ≤ 140737488351232) (w2 : (Lit.int .u32 sz).wf = true) : Calls Try.prog 3 #[n.val, .string s, .int .u32 sz] w fun e w' => e = .returned (.bool true) ∧ Below w.heap.size w w' := by
  have k0 := bounds32 w2
  obtain ⟨sz, rfl⟩ := Int.eq_ofNat_of_zero_le k0.1
  exact bytes_core n s sz w kn (by omega) (by omega)
end
end Go.Proofs.Ytbadkbfcfcgfhaa.Ino
