/- VolInodes, walked, given what the program answers. -/
import Derived.Test.YteopcjfakhmifaaPk26
import Derived.Test.YteopcjfakhmifaaPk39
import Derived.Test.YteopcjfakhmifaaPk01
namespace Go.Proofs.Yteopcjfakhmifaa.Vol
open Go.RowKit
open Ino (I M IOk MOk)
open Pln (Nd nd Nodes)
attribute [local go_sem] Oper.semAt_some
set_option linter.unusedVariables false
set_option linter.unusedSimpArgs false
/-- a node with the first ten thousand bytes -/
def hdN (n : Nd) : Nd := { n with data := hd n.data }
theorem hdN_ok {n : Nd} (h : NdOk n) : NdOk (hdN n) := ⟨h.kind, h.mode, h.links, h.time⟩
section
set_option maxRecDepth 100000
set_option maxHeartbeats 4000000
theorem VolInodes_given (G : Given) (n : Nd) (m : M) (x : I) (d : ByteArray) (v : Value) (l : List Nd) (w : World) (hn : NdOk n) (zn : n.data.size ≤ 281474976710656) (hm : MOk m) (hx : IOk x) (zd : d.size ≤ 140737488351232) (hl : Nodes w v l) (wl : ∀ o ∈ l, NdOk o ∧ o.data.size ≤ 281474976710656) :
    Calls Try.prog 4 #[n.val, m.val, x.val, .string d, v] w fun e w' => e = .returned (.bool true) ∧ Below w.heap.size w w' := by
  obtain ⟨a, cap, rfl, m1, m2⟩ := hl.parts
  obtain ⟨N, hN⟩ : ∃ N, l.length = N := ⟨_, rfl⟩
  rw [hN] at m1 ⊢
  have hl2 : Nodes w (.slice a N cap) l := by rw [← hN]; exact hl
  obtain ⟨k, hk⟩ : ∃ m, min N 100 = m := ⟨_, rfl⟩
  have hkI : min (N : Int) 100 = (k : Int) := by omega
  have hkN : (k : Int) ≤ (N : Int) := by omega
  have hkc : (k : Int) ≤ (cap : Int) := by omega
  have HL := Lib.hid (hl2.cut k (by omega))
  have HWT : Hid (∀ o ∈ l.take k, o.data.size ≤ 281474976710656) := fun o ho => (wl o (List.mem_of_mem_take ho)).2
  clear wl
  obtain ⟨D, hD⟩ : ∃ D, l.take k = D := ⟨_, rfl⟩
  have hDl : D.length = k := by rw [← hD, List.length_take]; omega
  rw [hD] at HL HWT
  obtain ⟨n2, hn2⟩ : ∃ y, hdN n = y := ⟨_, rfl⟩
  have hnz : n2.data.size ≤ 10000 := by rw [← hn2]; exact hd_size n.data
  have hno : NdOk n2 := by rw [← hn2]; exact hdN_ok hn
  obtain ⟨d2, hd2⟩ : ∃ y, hd d = y := ⟨_, rfl⟩
  have hdz : d2.size ≤ 10000 := by rw [← hd2]; exact hd_size d
  have HI := Lib.hid (fun W => G.inode n2 m W hno hm (by omega))
  have HI2 := Lib.hid (fun W => R.inode_any n2 m hno hm (by omega) W)
  have HD := Lib.hid (fun W => G.node x d2 W hx (by omega))
  have HD2 := Lib.hid (fun W => R.node_any x hx d2 (by omega) W)
  have HT := Lib.hid (fun W (h : Nodes W (.slice a k cap) D) => G.trim _ D W h (by omega) HWT.out)
  have HT2 := Lib.hid (fun W (h : Nodes W (.slice a k cap) D) => R.trim_any _ D W h (by omega))
  unfold TrimPost at HT HT2
  obtain ⟨X, hX⟩ : ∃ y, inV n2 m = y := ⟨_, rfl⟩
  obtain ⟨e0, he0⟩ : ∃ y, inE n2 m = y := ⟨_, rfl⟩
  obtain ⟨Y, hY⟩ : ∃ y, ndV x d2 = y := ⟨_, rfl⟩
  obtain ⟨e1, he1⟩ : ∃ y, ndE x d2 = y := ⟨_, rfl⟩
  obtain ⟨TL, hTL⟩ : ∃ y, trm D = y := ⟨_, rfl⟩
  rw [hX, he0] at HI HI2
  rw [hY, he1] at HD HD2
  rw [hTL] at HT HT2
  have HSA : Hid (∀ (u v : Value) (W : World), Nodes W u TL → Nodes W v TL → Calls Try.prog 24 #[u, v] W fun e w' => e = .returned (.bool true) ∧ Below W.heap.size W w') := fun u v W h1 h2 => by
    have h := Pln.same_any u v TL TL W h1 h2
    rw [decide_eq_true rfl] at h
    exact h
  have HSH := Lib.hid (fun W => shown_any G W)
  have HC0 := Lib.hid (fun W => cutl_any n.data W zn)
  have HC1 := Lib.hid (fun W => cutl_any d W (Nat.le_trans zd (by decide)))
  have hnd : hd n.data = n2.data := by rw [← hn2]; rfl
  rw [hnd] at HC0
  rw [hd2] at HC1
  have hqI : ∀ W, (binOp .eql 41 (.agg #[.int .i64 X.kind, .int .u16 X.mode, .int .u16 X.links, .int .u32 X.size, .int .u64 X.time, .int .i64 X.depth, .int .u32 X.m.a, .int .u32 X.m.b, .int .u32 X.m.c, .int .u32 X.m.d, .int .u32 X.m.e, .int .u32 X.m.f]) (.agg #[.int .i64 X.kind, .int .u16 X.mode, .int .u16 X.links, .int .u32 X.size, .int .u64 X.time, .int .i64 X.depth, .int .u32 X.m.a, .int .u32 X.m.b, .int .u32 X.m.c, .int .u32 X.m.d, .int .u32 X.m.e, .int .u32 X.m.f])).run Try.prog W = .ok (.bool true) W := fun W => by
    have h := Ino.eqlI X X W
    rw [decide_eq_true rfl] at h
    exact h
  have hqN : ∀ W, (binOp .eql 38 (.agg #[.int .i64 Y.kind, .int .u16 Y.mode, .int .u16 Y.links, .int .u64 Y.time, .string Y.data]) (.agg #[.int .i64 Y.kind, .int .u16 Y.mode, .int .u16 Y.links, .int .u64 Y.time, .string Y.data])).run Try.prog W = .ok (.bool true) W := fun W => by
    have h := Pln.eqlN Y Y W
    rw [decide_eq_true rfl] at h
    exact h
  obtain ⟨Wa, hWa⟩ : ∃ W, w.alloc (Pln.boxO n) = W := ⟨_, rfl⟩
  obtain ⟨Wb, hWb⟩ : ∃ W, Wa.alloc (Ino.boxM m) = W := ⟨_, rfl⟩
  obtain ⟨W1, hW1⟩ : ∃ W, Wb.alloc (Ino.boxO x) = W := ⟨_, rfl⟩
  have sa : Wa.heap.size = w.heap.size + 1 := by rw [← hWa]; exact World.size_alloc ..
  have sb : Wb.heap.size = w.heap.size + 1 + 1 := by rw [← hWb, World.size_alloc, sa]
  have ba : Below w.heap.size w Wa := by rw [← hWa]; exact below_new _ _
  have bb : Below Wa.heap.size Wa Wb := by rw [← hWb]; exact below_new _ _
  have b1 : Below Wb.heap.size Wb W1 := by rw [← hW1]; exact below_new _ _
  have HB := Lib.hid (below_th (below_th ba bb) b1)
  have HA : Hid (Pln.At W1 w.heap.size n) := ((show Pln.At Wa w.heap.size n by rw [← hWa]; exact Pln.At.new w n).th bb).th b1
  have HM : Hid (Ino.AtM W1 (w.heap.size + 1) m) := (show Ino.AtM Wb (w.heap.size + 1) m by rw [← hWb, ← sa]; exact Ino.AtM.new Wa m).th b1
  have HX : Hid (Ino.At W1 (w.heap.size + 1 + 1) x) := by rw [← sb, ← hW1]; exact Ino.At.new Wb x
  -- a text is laid into the node's box
  have HST : Hid (∀ W, Below W1.heap.size W1 W → Pln.At (W.setCell ⟨w.heap.size, 4, none⟩ (.string n2.data)) w.heap.size n2 ∧ Ino.AtM (W.setCell ⟨w.heap.size, 4, none⟩ (.string n2.data)) (w.heap.size + 1) m ∧ Ino.At (W.setCell ⟨w.heap.size, 4, none⟩ (.string n2.data)) (w.heap.size + 1 + 1) x ∧ Below w.heap.size w (W.setCell ⟨w.heap.size, 4, none⟩ (.string n2.data))) := fun W h => by
    obtain ⟨p1, p2⟩ := (HA.out.th h).put_data n2.data
    refine ⟨?_, (HM.out.th h).of_heap (Below.heap_setCell _ _ _ _ (by show _ ≠ w.heap.size; omega)), (HX.out.th h).of_heap (Below.heap_setCell _ _ _ _ (by show _ ≠ w.heap.size; omega)), (below_th HB.out h).trans p2⟩
    have e : ({ n with data := n2.data } : Nd) = n2 := by rw [← hn2]; rfl
    rw [e] at p1
    exact p1
  have hcd := HA.out.c.2.2.2.2
  have hfd := HA.out.f 4
  subst hWa hWb
  unfold Pln.boxO Ino.boxM Ino.boxO at hW1
  clear sa sb ba bb b1 hl hl2 hN hk hD hDl hn2 hnz hno hd2 hdz hX he0 hY he1 hTL hn hm hx zn zd hnd m1 m2
  unfold Pln.Nd.val Ino.M.val at HI HI2 ⊢
  unfold Ino.I.val at HI HI2 HD HD2 ⊢
  unfold Pln.Nd.val at HD HD2
  go_enter Try.func4, Try.ntmps4
  go_wp2_with (first
    | (go_at_call 10; (with_reducible refine Calls.mono (HSH.out _) ?_); rintro e w1 ⟨rfl, hB1⟩; obtain ⟨k0, k1, k2, k3, kd⟩ := (HA.out.th hB1).c; have kf := (HA.out.th hB1).f 4; obtain ⟨hn3, hm3, hx3, hb3⟩ := HST.out _ hB1; obtain ⟨c0, c1, c2, c3, c4⟩ := hn3.c; obtain ⟨t0, t1, t2, t3, t4, t5⟩ := hm3.c; have HN3 := Lib.hid hn3; have HM3 := Lib.hid hm3; have HX3 := Lib.hid hx3; have HB3 := Lib.hid hb3; have HL3 := Lib.hid (HL.out.below hb3); clear hn3 hm3 hx3 hb3 hB1)
    | (go_at_call 11; (with_reducible refine Calls.mono (HC0.out _) ?_); rintro e w2 ⟨rfl, rfl⟩)
    | (go_at_call 11; (with_reducible refine Calls.mono (HC1.out _) ?_); rintro e w2 ⟨rfl, rfl⟩)
    | (go_at_call 20; (with_reducible refine Calls.mono (HI.out _) ?_); rintro e w4 ⟨rfl, hb4⟩; have hk4 := below_new w4 (.cells #[.int .i64 X.kind, .int .u16 X.mode, .int .u16 X.links, .int .u32 X.size, .int .u64 X.time, .int .i64 X.depth, .int .u32 X.m.a, .int .u32 X.m.b, .int .u32 X.m.c, .int .u32 X.m.d, .int .u32 X.m.e, .int .u32 X.m.f] 41); have HXa : Hid (Ino.At (w4.alloc (.cells #[.int .i64 X.kind, .int .u16 X.mode, .int .u16 X.links, .int .u32 X.size, .int .u64 X.time, .int .i64 X.depth, .int .u32 X.m.a, .int .u32 X.m.b, .int .u32 X.m.c, .int .u32 X.m.d, .int .u32 X.m.e, .int .u32 X.m.f] 41)) w4.heap.size X) := Ino.At.new w4 X; have HN4 := Lib.hid ((HN3.out.th hb4).th hk4); have HM4 := Lib.hid ((HM3.out.th hb4).th hk4); have HX4 := Lib.hid ((HX3.out.th hb4).th hk4); have HL4 := Lib.hid ((HL3.out.below hb4).below hk4); have HB4 := Lib.hid (below_th (below_th HB3.out hb4) hk4); obtain ⟨c0, c1, c2, c3, c4⟩ := HN4.out.c; obtain ⟨t0, t1, t2, t3, t4, t5⟩ := HM4.out.c; clear hb4 hk4)
    | (go_at_call 21; (with_reducible refine Calls.mono (HI2.out _) ?_); rintro e w5 ⟨rfl, hb5⟩; have hk5 := below_new w5 (.cells #[.int .i64 X.kind, .int .u16 X.mode, .int .u16 X.links, .int .u32 X.size, .int .u64 X.time, .int .i64 X.depth, .int .u32 X.m.a, .int .u32 X.m.b, .int .u32 X.m.c, .int .u32 X.m.d, .int .u32 X.m.e, .int .u32 X.m.f] 41); have HXb : Hid (Ino.At (w5.alloc (.cells #[.int .i64 X.kind, .int .u16 X.mode, .int .u16 X.links, .int .u32 X.size, .int .u64 X.time, .int .i64 X.depth, .int .u32 X.m.a, .int .u32 X.m.b, .int .u32 X.m.c, .int .u32 X.m.d, .int .u32 X.m.e, .int .u32 X.m.f] 41)) w5.heap.size X) := Ino.At.new w5 X; have HXa5 := Lib.hid ((HXa.out.th hb5).th hk5); have HX5 := Lib.hid ((HX4.out.th hb5).th hk5); have HL5 := Lib.hid ((HL4.out.below hb5).below hk5); have HB5 := Lib.hid (below_th (below_th HB4.out hb5) hk5); obtain ⟨x0, x1, x2, x3, x4, x5, x6, x7, x8, x9, x10, x11⟩ := HX5.out.c; clear hb5 hk5)
    | (go_at_call 22; (with_reducible refine Calls.mono (HD.out _) ?_); rintro e w6 ⟨rfl, hb6⟩; have hk6 := below_new w6 (.cells #[.int .i64 Y.kind, .int .u16 Y.mode, .int .u16 Y.links, .int .u64 Y.time, .string Y.data] 38); have HYa : Hid (Pln.At (w6.alloc (.cells #[.int .i64 Y.kind, .int .u16 Y.mode, .int .u16 Y.links, .int .u64 Y.time, .string Y.data] 38)) w6.heap.size Y) := Pln.At.new w6 Y; have HXa6 := Lib.hid ((HXa5.out.th hb6).th hk6); have HXb6 := Lib.hid ((HXb.out.th hb6).th hk6); have HX6 := Lib.hid ((HX5.out.th hb6).th hk6); have HL6 := Lib.hid ((HL5.out.below hb6).below hk6); have HB6 := Lib.hid (below_th (below_th HB5.out hb6) hk6); obtain ⟨x0, x1, x2, x3, x4, x5, x6, x7, x8, x9, x10, x11⟩ := HX6.out.c; clear hb6 hk6)
    | (go_at_call 23; (with_reducible refine Calls.mono (HD2.out _) ?_); rintro e w7 ⟨rfl, hb7⟩; have hk7 := below_new w7 (.cells #[.int .i64 Y.kind, .int .u16 Y.mode, .int .u16 Y.links, .int .u64 Y.time, .string Y.data] 38); have HYb : Hid (Pln.At (w7.alloc (.cells #[.int .i64 Y.kind, .int .u16 Y.mode, .int .u16 Y.links, .int .u64 Y.time, .string Y.data] 38)) w7.heap.size Y) := Pln.At.new w7 Y; have HYa7 := Lib.hid ((HYa.out.th hb7).th hk7); have HXa7 := Lib.hid ((HXa6.out.th hb7).th hk7); have HXb7 := Lib.hid ((HXb6.out.th hb7).th hk7); have HL7 := Lib.hid ((HL6.out.below hb7).below hk7); have HB7 := Lib.hid (below_th (below_th HB6.out hb7) hk7); obtain ⟨p0, p1, p2, p3, p4, p5, p6, p7, p8, p9, p10, p11⟩ := HXa7.out.c; obtain ⟨q0, q1, q2, q3, q4, q5, q6, q7, q8, q9, q10, q11⟩ := HXb7.out.c; obtain ⟨y0, y1, y2, y3, y4⟩ := HYa7.out.c; obtain ⟨z0, z1, z2, z3, z4⟩ := HYb.out.c; clear hb7 hk7)
    | (go_at_call 25; (with_reducible refine Calls.mono (HT.out _ HL7.out) ?_); rintro e w8 ⟨v8, rfl, hV8, hb8⟩; have HV8 := Lib.hid hV8; have HL8 := Lib.hid (HL7.out.below hb8); have HB8 := Lib.hid (below_th HB7.out hb8); clear hV8 hb8)
    | (go_at_call 26; (with_reducible refine Calls.mono (HT2.out _ HL8.out) ?_); rintro e w9 ⟨v9, rfl, hV9, hb9⟩; have HV9 := Lib.hid hV9; have HV89 := Lib.hid (HV8.out.below hb9); have HB9 := Lib.hid (below_th HB8.out hb9); clear hV9 hb9)
    | (go_at_call 24; (with_reducible refine Calls.mono (HSA.out _ _ _ HV89.out HV9.out) ?_); rintro e w10 ⟨rfl, hb10⟩; have HB10 := Lib.hid (below_th HB9.out hb10); clear hb10))
  go_ret
  exact ⟨rfl, HB10.out⟩
end
end Go.Proofs.Yteopcjfakhmifaa.Vol
