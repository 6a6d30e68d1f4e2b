/- InodeTables, walked. -/
import Derived.Test.YtbadkbfcfcgfhaaInoArgs
namespace Go.Proofs.Ytbadkbfcfcgfhaa.Ino
open Go.RowKit Go.Shelf
attribute [local go_sem] Oper.semAt_some
set_option linter.unusedVariables false
set_option linter.unusedSimpArgs false
section
set_option maxRecDepth 100000
set_option maxHeartbeats 8000000
theorem InodeTables_walk (c : ByteArray) (k : Int) (n : I) (w : World) (z0 : c.size ≤ 140737488351232) (w1 : (Lit.int .i64 k).wf = true) (kn : IOk n) : Calls Try.prog 4 #[.string c, .int .i64 k, n.val] w fun e w' => e = .returned (.bool true) ∧ Below w.heap.size w w' := by
  have hD := fun W => get_any c k W (by omega)
  have hG := fun W => R.get_any c k W (by omega)
  have hE := fun W => put_any c k n kn W (by omega)
  have hF := fun W => R.put_any c k n kn W (by omega)
  obtain ⟨X, hX⟩ : ∃ x, getV c k = x := ⟨_, rfl⟩
  obtain ⟨gx, hgx⟩ : ∃ x, getE c k = x := ⟨_, rfl⟩
  obtain ⟨EA, hEA⟩ : ∃ x, putV c k n = x := ⟨_, rfl⟩
  obtain ⟨ea, hea⟩ : ∃ x, putEr c k n = x := ⟨_, rfl⟩
  rw [hX, hgx] at hD hG
  rw [hEA, hea] at hE hF
  have hQ := fun W => eqlI X X W
  rw [decide_eq_true (rfl : X = X)] at hQ
  have hsq := beq_yes (rfl : EA = EA)
  have a0 := At.new w n
  have b0 := below_new w (boxO n)
  unfold boxO at a0 b0
  obtain ⟨W0, hW0⟩ : ∃ W0, w.alloc (.cells #[.int .i64 n.kind, .int .u16 n.mode, .int .u16 n.links, .int .u32 n.size, .int .u64 n.time, .int .i64 n.depth, .int .u32 n.m.a, .int .u32 n.m.b, .int .u32 n.m.c, .int .u32 n.m.d, .int .u32 n.m.e, .int .u32 n.m.f] 27) = W0 := ⟨_, rfl⟩
  rw [hW0] at a0 b0
  have HA := Lib.hid a0
  have HB := Lib.hid b0
  clear a0 b0 hEA hea hX hgx kn z0 w1
  unfold I.val at hE hF hD hG hQ ⊢
  have HE := Lib.hid hE
  have HF := Lib.hid hF
  have HD := Lib.hid hD
  have HG := Lib.hid hG
  clear hE hF hD hG
  go_enter Try.func4, Try.ntmps4
  go_wp2_with (first
    | (go_at_call 8; refine (shown_any _).mono ?_; rintro e w1 ⟨rfl, hB1⟩; have hA1 := HA.out.th hB1)
    | (go_at_call 19; (with_reducible refine Calls.mono (HD.out _) ?_); rintro e w2 ⟨rfl, hB2⟩; have hA2 := (hA1.th hB2).th (below_new w2 (boxO X)); have hX2 := At.new w2 X; have HN2 := Lib.hid (below_new w2 (boxO X)); unfold boxO at hA2 hX2 HN2)
    | (go_at_call 20; (with_reducible refine Calls.mono (HG.out _) ?_); rintro e w3 ⟨rfl, hB3⟩; have hA3 := (hA2.th hB3).th (below_new w3 (boxO X)); have hX3 := (hX2.th hB3).th (below_new w3 (boxO X)); have hY3 := At.new w3 X; have HN3 := Lib.hid (below_new w3 (boxO X)); unfold boxO at hA3 hX3 hY3 HN3; obtain ⟨t0, t1, t2, t3, t4, t5, t6, t7, t8, t9, t10, t11⟩ := hA3.c)
    | (go_at_call 21; (with_reducible refine Calls.mono (HE.out _) ?_); rintro e w4 ⟨rfl, hB4⟩; have hA4 := hA3.th hB4; have hX4 := hX3.th hB4; have hY4 := hY3.th hB4; obtain ⟨u0, u1, u2, u3, u4, u5, u6, u7, u8, u9, u10, u11⟩ := hA4.c)
    | (go_at_call 22; (with_reducible refine Calls.mono (HF.out _) ?_); rintro e w5 ⟨rfl, hB5⟩; have hX5 := hX4.th hB5; have hY5 := hY4.th hB5; obtain ⟨x0, x1, x2, x3, x4, x5, x6, x7, x8, x9, x10, x11⟩ := hX5.c; obtain ⟨y0, y1, y2, y3, y4, y5, y6, y7, y8, y9, y10, y11⟩ := hY5.c))
  go_ret
  have hB := below_th (below_th (below_th (below_th (below_th (below_th (below_th HB.out hB1) hB2) HN2.out) hB3) HN3.out) hB4) hB5
  exact ⟨rfl, hB⟩
end
end Go.Proofs.Ytbadkbfcfcgfhaa.Ino
