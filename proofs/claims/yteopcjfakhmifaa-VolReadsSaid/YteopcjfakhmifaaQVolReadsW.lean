/- VolReads, walked, given what the program answers. -/
import Derived.Test.YteopcjfakhmifaaQVolInodesW
import Derived.Test.YteopcjfakhmifaaQVolTablesW
namespace Go.Proofs.Yteopcjfakhmifaa.Vol
open Go.RowKit
open Ino (I M IOk MOk)
open Pln (Nd nd Nodes)
attribute [local go_sem] Oper.semAt_some
set_option linter.unusedVariables false
set_option linter.unusedSimpArgs false
theorem inV_ok {n : Nd} {m : M} (hn : NdOk n) (hm : MOk m) (hd : n.data.size ≤ 100000) : IOk (inV n m) := by
  unfold inV
  split
  · exact IOk.zero
  · split
    · exact inoOf_ok hn hm hd
    · exact IOk.zero
theorem tab_sizes (L : List I) (i : Nat) (hi : i < (tabV L).length) : (tx (tabV L) i).size ≤ 9223372036854775807 ∧ (tabV L).length ≤ 20 := by
  by_cases h : tabP L
  · have hl := h.1
    rw [(tab_yes h).1] at hi ⊢
    rw [tabC_len] at hi
    rw [tabC_at L _ hi, blk_size _ _ _ (by omega), tabC_len]
    omega
  · rw [(tab_no h).1] at hi
    exact absurd hi (Nat.not_lt_zero _)
theorem tab_few (L : List I) : (tabV L).length ≤ 20 := by
  by_cases h : tabP L
  · have hl := h.1
    rw [(tab_yes h).1, tabC_len]
    omega
  · rw [(tab_no h).1]; exact Nat.zero_le _
theorem ino_take {L : List I} {n i : Nat} (h : i < n) : ino (L.take n) i = ino L i := by
  unfold ino
  rw [List.getD_eq_getElem?_getD, List.getD_eq_getElem?_getD, List.getElem?_take_of_lt h]
section
set_option maxRecDepth 100000
set_option maxHeartbeats 4000000
theorem VolReads_given (G : Given) (v : Value) (L : List I) (n : Nd) (m : M) (w : World) (hL : Inos w v L) (wL : ∀ x ∈ L, IOk x) (hn : NdOk n) (zn : n.data.size ≤ 281474976710656) (hm : MOk m) :
    Calls Try.prog 7 #[v, n.val, m.val] w fun e w' => e = .returned (.bool true) ∧ Below w.heap.size w w' := by
  obtain ⟨a2, cap2, rfl, q1, q2⟩ := hL.parts
  obtain ⟨N2, hN2⟩ : ∃ N, L.length = N := ⟨_, rfl⟩
  rw [hN2] at hL q1 ⊢
  obtain ⟨k, hk⟩ : ∃ m, min N2 250 = m := ⟨_, rfl⟩
  have hkI : min (N2 : Int) 250 = (k : Int) := by omega
  have hkN : (k : Int) ≤ (N2 : Int) := by omega
  have hkc : (k : Int) ≤ (cap2 : Int) := by omega
  have hk9 : k ≤ 250 := by omega
  have HL := Lib.hid (hL.cut hN2 k (by omega))
  obtain ⟨E, hE⟩ : ∃ E, L.take k = E := ⟨_, rfl⟩
  have hEl : E.length = k := by rw [← hE, List.length_take]; omega
  have hEo : ∀ i, IOk (ino E i) := fun i => by rw [← hE]; exact ok_take wL k i
  rw [hE] at HL
  have HT := Lib.hid (fun W (h : Inos W (.slice a2 k cap2) E) => G.table _ E W h hEo (by omega))
  have HJ := Lib.hid (fun v W (h : Strs W v (tabV E)) => G.inos v (tabV E) W h (by have := tab_few E; omega) (fun i hi => (tab_sizes E i hi).1))
  unfold TabPost at HT
  unfold InosPost at HJ
  obtain ⟨n2, hn2⟩ : ∃ y, hdN n = y := ⟨_, rfl⟩
  have hnz : n2.data.size ≤ 10000 := by rw [← hn2]; exact hd_size n.data
  have hno : NdOk n2 := by rw [← hn2]; exact hdN_ok hn
  have HI := Lib.hid (fun W => G.inode n2 m W hno hm (by omega))
  have HD := Lib.hid (fun W => G.node (inV n2 m) n2.data W (inV_ok hno hm (by omega)) (by omega))
  have HBK := Lib.hid (in_back (n := n2) (m := m))
  obtain ⟨X, hX⟩ : ∃ y, inV n2 m = y := ⟨_, rfl⟩
  obtain ⟨e0, he0⟩ : ∃ y, inE n2 m = y := ⟨_, rfl⟩
  rw [hX, he0] at HI HBK
  rw [hX] at HD
  obtain ⟨Y, hY⟩ : ∃ y, ndV X n2.data = y := ⟨_, rfl⟩
  obtain ⟨e1, he1⟩ : ∃ y, ndE X n2.data = y := ⟨_, rfl⟩
  rw [hY, he1] at HD HBK
  have HSH := Lib.hid (fun W => shown_any G W)
  have HC0 := Lib.hid (fun W => cutl_any n.data W zn)
  have hnd : hd n.data = n2.data := by rw [← hn2]; rfl
  rw [hnd] at HC0
  obtain ⟨Wa, hWa⟩ : ∃ W, w.alloc (Pln.boxO n) = W := ⟨_, rfl⟩
  obtain ⟨W1, hW1⟩ : ∃ W, Wa.alloc (Ino.boxM m) = W := ⟨_, rfl⟩
  have sa : Wa.heap.size = w.heap.size + 1 := by rw [← hWa]; exact World.size_alloc ..
  have ba : Below w.heap.size w Wa := by rw [← hWa]; exact below_new _ _
  have b1 : Below Wa.heap.size Wa W1 := by rw [← hW1]; exact below_new _ _
  have HB := Lib.hid (below_th ba b1)
  have HA : Hid (Pln.At W1 w.heap.size n) := (show Pln.At Wa w.heap.size n by rw [← hWa]; exact Pln.At.new w n).th b1
  have HM : Hid (Ino.AtM W1 (w.heap.size + 1) m) := by rw [← hW1, ← sa]; exact Ino.AtM.new Wa m
  have HST : Hid (∀ W, Below W1.heap.size W1 W → Pln.At (W.setCell ⟨w.heap.size, 4, none⟩ (.string n2.data)) w.heap.size n2 ∧ Ino.AtM (W.setCell ⟨w.heap.size, 4, none⟩ (.string n2.data)) (w.heap.size + 1) m ∧ Below w.heap.size w (W.setCell ⟨w.heap.size, 4, none⟩ (.string n2.data))) := fun W h => by
    obtain ⟨p1, p2⟩ := (HA.out.th h).put_data n2.data
    refine ⟨?_, (HM.out.th h).of_heap (Below.heap_setCell _ _ _ _ (by show _ ≠ w.heap.size; omega)), (below_th HB.out h).trans p2⟩
    have e : ({ n with data := n2.data } : Nd) = n2 := by rw [← hn2]; rfl
    rw [e] at p1
    exact p1
  subst hWa
  unfold Pln.boxO Ino.boxM at hW1
  clear sa ba b1 hL hN2 hk hE wL hn2 hnz hno hX he0 hY he1 hn hm zn hnd q1 q2
  unfold Pln.Nd.val Ino.M.val at HI ⊢
  unfold Ino.I.val at HI HD
  unfold Pln.Nd.val at HD
  -- what stands at the end: the file and its inode
  by_cases hp : tabP E
  · obtain ⟨hq1, q, hql, hq2, hq3, hq4⟩ := tab_back hp hEo
    obtain ⟨TV, hTV⟩ : ∃ x, tabV E = x := ⟨_, rfl⟩
    rw [(tab_yes hp).2] at HT
    rw [(inos_yes hq1).2] at HJ
    have hjl : (inosV (tabV E)).length = 12 * q := by rw [(inos_yes hq1).1, inosC_len, hql]
    obtain ⟨JV, hJV⟩ : ∃ x, inosV (tabV E) = x := ⟨_, rfl⟩
    rw [hJV] at HJ hjl hq4
    obtain ⟨K, hK⟩ : ∃ K, JV.length = K := ⟨_, rfl⟩
    have hKk : k ≤ K := by omega
    have hKk2 : K < k + 12 := by omega
    have htk : JV.take k = E := getD_ext (d := I.zero) (by rw [List.length_take]; omega) (fun j hj => by
      have hj2 : j < k := by rw [List.length_take] at hj; omega
      show ino (JV.take k) j = ino E j
      rw [ino_take hj2]
      exact hq4 j (by omega))
    have HZ : Hid (∀ i, k ≤ i → i < K → JV.getD i I.zero = I.zero) := fun i h1 h2 => by
      show ino JV i = I.zero
      rw [hq4 i (by omega)]
      unfold ino
      rw [List.getD_eq_getElem?_getD, List.getElem?_eq_none (by omega)]
      rfl
    have HTK := Lib.hid htk
    have HKL := Lib.hid hK
    have HSN : Hid (∀ (u v : Value) (W : World), Inos W u E → Inos W v E → Calls Try.prog 31 #[u, v] W (Ans W (.bool true))) := fun u v W h1 h2 => by
      have h := R.inodes_any u v E E W h1 h2
      rw [decide_eq_true rfl] at h
      exact h
    have g1 : ¬ (K : Int) < (k : Int) := by omega
    have g2 : ¬ (k : Int) + 12 ≤ (K : Int) := by omega
    have g3 : decide ((K : Int) ≥ (k : Int) + 12) = false := decide_eq_false (by omega)
    have g4 : IntKind.i64.wrap ((k : Int) + 12) = (k : Int) + 12 := by rw [IntKind.wrap_i64]; omega
    have g5 : (k : Int) ≤ (K : Int) := by omega
    have hK9 : K ≤ 300 := by omega
    clear hTV hJV hjl hq4 hq1 hql hq2 hq3 htk hK hp hEo hEl
    go_enter Try.func7, Try.ntmps7
    go_wp2_with (first
    | (go_at_call 10; (with_reducible refine Calls.mono (HSH.out _) ?_); rintro e w1 ⟨rfl, hB1⟩; obtain ⟨k0, k1, k2, k3, kd⟩ := (HA.out.th hB1).c; have kf := (HA.out.th hB1).f 4; obtain ⟨hn3, hm3, hb3⟩ := HST.out _ hB1; have HN3 := Lib.hid hn3; have HM3 := Lib.hid hm3; have HB3 := Lib.hid hb3; have HL3 := Lib.hid (HL.out.below hb3); clear hn3 hm3 hb3 hB1)
    | (go_at_call 11; (with_reducible refine Calls.mono (HC0.out _) ?_); rintro e w2 ⟨rfl, rfl⟩)
    | (go_at_call 27; (with_reducible refine Calls.mono (HT.out _ HL3.out) ?_); rintro e w4 ⟨v4, rfl, hV4, hb4⟩; have HV4 := Lib.hid hV4; have HL4 := Lib.hid (HL3.out.below hb4); have HN4 := Lib.hid (HN3.out.th hb4); have HM4 := Lib.hid (HM3.out.th hb4); have HB4 := Lib.hid (below_th HB3.out hb4); clear hb4 hV4)
    | (go_at_call 29; (with_reducible refine Calls.mono (HJ.out _ _ HV4.out) ?_); rintro e w5 ⟨v5, rfl, hV5, hb5⟩; (have HV5 := Lib.hid hV5; have HL5 := Lib.hid (HL4.out.below hb5); have HN5 := Lib.hid (HN4.out.th hb5); have HM5 := Lib.hid (HM4.out.th hb5); have HB5 := Lib.hid (below_th HB4.out hb5); obtain ⟨a5, cap5, rfl, z1, z2⟩ := HV5.out.parts; rw [HKL.out] at HV5 z1 ⊢; have HV5C := Lib.hid (HV5.out.cut HKL.out k hKk); rw [HTK.out] at HV5C; have g6 : (k : Int) ≤ (cap5 : Int) := Int.ofNat_le.2 (Nat.le_trans hKk z1); clear hb5 hV5))
      | (go_at_call 31; (with_reducible refine Calls.mono (HSN.out _ _ _ HV5C.out HL5.out) ?_); rintro e w55 ⟨rfl, hb55⟩; have HN55 := Lib.hid (HN5.out.th hb55); have HM55 := Lib.hid (HM5.out.th hb55); have HV55 := Lib.hid (HV5.out.below hb55); have HB55 := Lib.hid (below_th HB5.out hb55); clear hb55))
    go_loopw [12] (fun i wr => ∃ j : Nat, i = .int .i64 (j : Int) ∧ k ≤ j ∧ j ≤ K ∧ Hid (Below w55.heap.size w55 wr)) (fun i _ => K - (intOf i).toNat)
    case atStart => exact ⟨k, rfl, Nat.le_refl _, hKk, Below.refl _ _⟩
    case round =>
      obtain ⟨j, rfl, hkj, hjK, HBR⟩ := hrel
      by_cases hlt : j < K
      · have hjI : (j : Int) < (K : Int) := by omega
        obtain ⟨X0, hX0⟩ : ∃ x, JV.getD j I.zero = x := ⟨_, rfl⟩
        have hz0 : X0 = I.zero := by rw [← hX0]; exact HZ.out j hkj hlt
        obtain ⟨b, off, eb, r5⟩ := (HV55.out.below HBR.out).at HKL.out hlt
        cases eb
        obtain ⟨i0, i1, i2, i3, i4, i5, i6, i7, i8, i9, i10, i11⟩ := r5 X0 hX0.symm
        have hqz : ∀ W, (binOp .neq 41 (.agg #[.int .i64 X0.kind, .int .u16 X0.mode, .int .u16 X0.links, .int .u32 X0.size, .int .u64 X0.time, .int .i64 X0.depth, .int .u32 X0.m.a, .int .u32 X0.m.b, .int .u32 X0.m.c, .int .u32 X0.m.d, .int .u32 X0.m.e, .int .u32 X0.m.f]) (.agg #[.int .i64 0, .int .u16 0, .int .u16 0, .int .u32 0, .int .u64 0, .int .i64 0, .int .u32 0, .int .u32 0, .int .u32 0, .int .u32 0, .int .u32 0, .int .u32 0])).run Try.prog W = .ok (.bool false) W := fun W => by
          have h := Ino.neqI X0 I.zero W
          rw [decide_eq_true hz0] at h
          exact h
        clear r5 hX0 hz0
        go_wp2
        go_roundw
        case rel => exact ⟨j + 1, by go_num, by omega, by omega, HBR.out⟩
        case measure => simp [intOf]; omega
      · obtain rfl : j = K := by omega
        have HNP := Lib.hid (HN55.out.th HBR.out)
        have HMP := Lib.hid (HM55.out.th HBR.out)
        have HBP := Lib.hid (below_th HB55.out HBR.out)
        obtain ⟨c0, c1, c2, c3, c4⟩ := HNP.out.c
        obtain ⟨t0, t1, t2, t3, t4, t5⟩ := HMP.out.c
        by_cases he : e0 = 0
        · obtain ⟨hh1, hh2⟩ := HBK.out he
          have hqn : ∀ W, (binOp .eql 38 (.agg #[.int .i64 Y.kind, .int .u16 Y.mode, .int .u16 Y.links, .int .u64 Y.time, .string Y.data]) (.agg #[.int .i64 n2.kind, .int .u16 n2.mode, .int .u16 n2.links, .int .u64 n2.time, .string n2.data])).run Try.prog W = .ok (.bool true) W := fun W => by
            have h := Pln.eqlN Y n2 W
            rw [decide_eq_true hh2] at h
            exact h
          subst he hh1
          clear hh2
          go_wp2_with (first
    | (go_at_call 20; (with_reducible refine Calls.mono (HI.out _) ?_); rintro e w6 ⟨rfl, hb6⟩; have hk6 := below_new w6 (.cells #[.int .i64 X.kind, .int .u16 X.mode, .int .u16 X.links, .int .u32 X.size, .int .u64 X.time, .int .i64 X.depth, .int .u32 X.m.a, .int .u32 X.m.b, .int .u32 X.m.c, .int .u32 X.m.d, .int .u32 X.m.e, .int .u32 X.m.f] 41); have HXa : Hid (Ino.At (w6.alloc (.cells #[.int .i64 X.kind, .int .u16 X.mode, .int .u16 X.links, .int .u32 X.size, .int .u64 X.time, .int .i64 X.depth, .int .u32 X.m.a, .int .u32 X.m.b, .int .u32 X.m.c, .int .u32 X.m.d, .int .u32 X.m.e, .int .u32 X.m.f] 41)) w6.heap.size X) := Ino.At.new w6 X; have HN6 := Lib.hid ((HNP.out.th hb6).th hk6); have HB6 := Lib.hid (below_th (below_th HBP.out hb6) hk6); obtain ⟨x0, x1, x2, x3, x4, x5, x6, x7, x8, x9, x10, x11⟩ := HXa.out.c; obtain ⟨c0, c1, c2, c3, c4⟩ := HN6.out.c; clear hb6 hk6)
    | (go_at_call 22; (with_reducible refine Calls.mono (HD.out _) ?_); rintro e w7 ⟨rfl, hb7⟩; have hk7 := below_new w7 (.cells #[.int .i64 Y.kind, .int .u16 Y.mode, .int .u16 Y.links, .int .u64 Y.time, .string Y.data] 38); have HYa : Hid (Pln.At (w7.alloc (.cells #[.int .i64 Y.kind, .int .u16 Y.mode, .int .u16 Y.links, .int .u64 Y.time, .string Y.data] 38)) w7.heap.size Y) := Pln.At.new w7 Y; have HN7 := Lib.hid ((HN6.out.th hb7).th hk7); have HB7 := Lib.hid (below_th (below_th HB6.out hb7) hk7); obtain ⟨c0, c1, c2, c3, c4⟩ := HN7.out.c; obtain ⟨y0, y1, y2, y3, y4⟩ := HYa.out.c; clear hb7 hk7))
          go_ret
          exact ⟨rfl, HB7.out⟩
        · have hne : (e0 != 0) = true := bne_iff_ne.2 he
          go_wp2_with (first
    | (go_at_call 20; (with_reducible refine Calls.mono (HI.out _) ?_); rintro e w6 ⟨rfl, hb6⟩; have hk6 := below_new w6 (.cells #[.int .i64 X.kind, .int .u16 X.mode, .int .u16 X.links, .int .u32 X.size, .int .u64 X.time, .int .i64 X.depth, .int .u32 X.m.a, .int .u32 X.m.b, .int .u32 X.m.c, .int .u32 X.m.d, .int .u32 X.m.e, .int .u32 X.m.f] 41); have HXa : Hid (Ino.At (w6.alloc (.cells #[.int .i64 X.kind, .int .u16 X.mode, .int .u16 X.links, .int .u32 X.size, .int .u64 X.time, .int .i64 X.depth, .int .u32 X.m.a, .int .u32 X.m.b, .int .u32 X.m.c, .int .u32 X.m.d, .int .u32 X.m.e, .int .u32 X.m.f] 41)) w6.heap.size X) := Ino.At.new w6 X; have HN6 := Lib.hid ((HNP.out.th hb6).th hk6); have HB6 := Lib.hid (below_th (below_th HBP.out hb6) hk6); obtain ⟨x0, x1, x2, x3, x4, x5, x6, x7, x8, x9, x10, x11⟩ := HXa.out.c; obtain ⟨c0, c1, c2, c3, c4⟩ := HN6.out.c; clear hb6 hk6)
    | (go_at_call 22; (with_reducible refine Calls.mono (HD.out _) ?_); rintro e w7 ⟨rfl, hb7⟩; have hk7 := below_new w7 (.cells #[.int .i64 Y.kind, .int .u16 Y.mode, .int .u16 Y.links, .int .u64 Y.time, .string Y.data] 38); have HYa : Hid (Pln.At (w7.alloc (.cells #[.int .i64 Y.kind, .int .u16 Y.mode, .int .u16 Y.links, .int .u64 Y.time, .string Y.data] 38)) w7.heap.size Y) := Pln.At.new w7 Y; have HN7 := Lib.hid ((HN6.out.th hb7).th hk7); have HB7 := Lib.hid (below_th (below_th HB6.out hb7) hk7); obtain ⟨c0, c1, c2, c3, c4⟩ := HN7.out.c; obtain ⟨y0, y1, y2, y3, y4⟩ := HYa.out.c; clear hb7 hk7))
          go_ret
          exact ⟨rfl, HB7.out⟩
  · have HE := Lib.hid (tab_no hp)
    rw [HE.out.2] at HT
    clear hp hEo hEl
    by_cases he : e0 = 0
    · obtain ⟨hh1, hh2⟩ := HBK.out he
      have hqn : ∀ W, (binOp .eql 38 (.agg #[.int .i64 Y.kind, .int .u16 Y.mode, .int .u16 Y.links, .int .u64 Y.time, .string Y.data]) (.agg #[.int .i64 n2.kind, .int .u16 n2.mode, .int .u16 n2.links, .int .u64 n2.time, .string n2.data])).run Try.prog W = .ok (.bool true) W := fun W => by
        have h := Pln.eqlN Y n2 W
        rw [decide_eq_true hh2] at h
        exact h
      subst he hh1
      clear hh2
      go_enter Try.func7, Try.ntmps7
      go_wp2_with (first
    | (go_at_call 10; (with_reducible refine Calls.mono (HSH.out _) ?_); rintro e w1 ⟨rfl, hB1⟩; obtain ⟨k0, k1, k2, k3, kd⟩ := (HA.out.th hB1).c; have kf := (HA.out.th hB1).f 4; obtain ⟨hn3, hm3, hb3⟩ := HST.out _ hB1; have HN3 := Lib.hid hn3; have HM3 := Lib.hid hm3; have HB3 := Lib.hid hb3; have HL3 := Lib.hid (HL.out.below hb3); clear hn3 hm3 hb3 hB1)
    | (go_at_call 11; (with_reducible refine Calls.mono (HC0.out _) ?_); rintro e w2 ⟨rfl, rfl⟩)
    | (go_at_call 27; (with_reducible refine Calls.mono (HT.out _ HL3.out) ?_); rintro e w4 ⟨v4, rfl, hV4, hb4⟩; have HV4 := Lib.hid hV4; have HL4 := Lib.hid (HL3.out.below hb4); have HN4 := Lib.hid (HN3.out.th hb4); have HM4 := Lib.hid (HM3.out.th hb4); have HB4 := Lib.hid (below_th HB3.out hb4); clear hb4 hV4)
    | (go_at_call 29; (with_reducible refine Calls.mono (HJ.out _ _ HV4.out) ?_); rintro e w5 ⟨v5, rfl, hV5, hb5⟩; (have HV5 := Lib.hid hV5; have HL5 := Lib.hid (HL4.out.below hb5); have HN5 := Lib.hid (HN4.out.th hb5); have HM5 := Lib.hid (HM4.out.th hb5); have HB5 := Lib.hid (below_th HB4.out hb5); obtain ⟨c0, c1, c2, c3, c4⟩ := HN5.out.c; obtain ⟨t0, t1, t2, t3, t4, t5⟩ := HM5.out.c; have HNP := HN5; have HBP := HB5; clear hb5 hV5))
    | (go_at_call 20; (with_reducible refine Calls.mono (HI.out _) ?_); rintro e w6 ⟨rfl, hb6⟩; have hk6 := below_new w6 (.cells #[.int .i64 X.kind, .int .u16 X.mode, .int .u16 X.links, .int .u32 X.size, .int .u64 X.time, .int .i64 X.depth, .int .u32 X.m.a, .int .u32 X.m.b, .int .u32 X.m.c, .int .u32 X.m.d, .int .u32 X.m.e, .int .u32 X.m.f] 41); have HXa : Hid (Ino.At (w6.alloc (.cells #[.int .i64 X.kind, .int .u16 X.mode, .int .u16 X.links, .int .u32 X.size, .int .u64 X.time, .int .i64 X.depth, .int .u32 X.m.a, .int .u32 X.m.b, .int .u32 X.m.c, .int .u32 X.m.d, .int .u32 X.m.e, .int .u32 X.m.f] 41)) w6.heap.size X) := Ino.At.new w6 X; have HN6 := Lib.hid ((HNP.out.th hb6).th hk6); have HB6 := Lib.hid (below_th (below_th HBP.out hb6) hk6); obtain ⟨x0, x1, x2, x3, x4, x5, x6, x7, x8, x9, x10, x11⟩ := HXa.out.c; obtain ⟨c0, c1, c2, c3, c4⟩ := HN6.out.c; clear hb6 hk6)
    | (go_at_call 22; (with_reducible refine Calls.mono (HD.out _) ?_); rintro e w7 ⟨rfl, hb7⟩; have hk7 := below_new w7 (.cells #[.int .i64 Y.kind, .int .u16 Y.mode, .int .u16 Y.links, .int .u64 Y.time, .string Y.data] 38); have HYa : Hid (Pln.At (w7.alloc (.cells #[.int .i64 Y.kind, .int .u16 Y.mode, .int .u16 Y.links, .int .u64 Y.time, .string Y.data] 38)) w7.heap.size Y) := Pln.At.new w7 Y; have HN7 := Lib.hid ((HN6.out.th hb7).th hk7); have HB7 := Lib.hid (below_th (below_th HB6.out hb7) hk7); obtain ⟨c0, c1, c2, c3, c4⟩ := HN7.out.c; obtain ⟨y0, y1, y2, y3, y4⟩ := HYa.out.c; clear hb7 hk7))
      go_ret
      exact ⟨rfl, HB7.out⟩
    · have hne : (e0 != 0) = true := bne_iff_ne.2 he
      go_enter Try.func7, Try.ntmps7
      go_wp2_with (first
    | (go_at_call 10; (with_reducible refine Calls.mono (HSH.out _) ?_); rintro e w1 ⟨rfl, hB1⟩; obtain ⟨k0, k1, k2, k3, kd⟩ := (HA.out.th hB1).c; have kf := (HA.out.th hB1).f 4; obtain ⟨hn3, hm3, hb3⟩ := HST.out _ hB1; have HN3 := Lib.hid hn3; have HM3 := Lib.hid hm3; have HB3 := Lib.hid hb3; have HL3 := Lib.hid (HL.out.below hb3); clear hn3 hm3 hb3 hB1)
    | (go_at_call 11; (with_reducible refine Calls.mono (HC0.out _) ?_); rintro e w2 ⟨rfl, rfl⟩)
    | (go_at_call 27; (with_reducible refine Calls.mono (HT.out _ HL3.out) ?_); rintro e w4 ⟨v4, rfl, hV4, hb4⟩; have HV4 := Lib.hid hV4; have HL4 := Lib.hid (HL3.out.below hb4); have HN4 := Lib.hid (HN3.out.th hb4); have HM4 := Lib.hid (HM3.out.th hb4); have HB4 := Lib.hid (below_th HB3.out hb4); clear hb4 hV4)
    | (go_at_call 29; (with_reducible refine Calls.mono (HJ.out _ _ HV4.out) ?_); rintro e w5 ⟨v5, rfl, hV5, hb5⟩; (have HV5 := Lib.hid hV5; have HL5 := Lib.hid (HL4.out.below hb5); have HN5 := Lib.hid (HN4.out.th hb5); have HM5 := Lib.hid (HM4.out.th hb5); have HB5 := Lib.hid (below_th HB4.out hb5); obtain ⟨c0, c1, c2, c3, c4⟩ := HN5.out.c; obtain ⟨t0, t1, t2, t3, t4, t5⟩ := HM5.out.c; have HNP := HN5; have HBP := HB5; clear hb5 hV5))
    | (go_at_call 20; (with_reducible refine Calls.mono (HI.out _) ?_); rintro e w6 ⟨rfl, hb6⟩; have hk6 := below_new w6 (.cells #[.int .i64 X.kind, .int .u16 X.mode, .int .u16 X.links, .int .u32 X.size, .int .u64 X.time, .int .i64 X.depth, .int .u32 X.m.a, .int .u32 X.m.b, .int .u32 X.m.c, .int .u32 X.m.d, .int .u32 X.m.e, .int .u32 X.m.f] 41); have HXa : Hid (Ino.At (w6.alloc (.cells #[.int .i64 X.kind, .int .u16 X.mode, .int .u16 X.links, .int .u32 X.size, .int .u64 X.time, .int .i64 X.depth, .int .u32 X.m.a, .int .u32 X.m.b, .int .u32 X.m.c, .int .u32 X.m.d, .int .u32 X.m.e, .int .u32 X.m.f] 41)) w6.heap.size X) := Ino.At.new w6 X; have HN6 := Lib.hid ((HNP.out.th hb6).th hk6); have HB6 := Lib.hid (below_th (below_th HBP.out hb6) hk6); obtain ⟨x0, x1, x2, x3, x4, x5, x6, x7, x8, x9, x10, x11⟩ := HXa.out.c; obtain ⟨c0, c1, c2, c3, c4⟩ := HN6.out.c; clear hb6 hk6)
    | (go_at_call 22; (with_reducible refine Calls.mono (HD.out _) ?_); rintro e w7 ⟨rfl, hb7⟩; have hk7 := below_new w7 (.cells #[.int .i64 Y.kind, .int .u16 Y.mode, .int .u16 Y.links, .int .u64 Y.time, .string Y.data] 38); have HYa : Hid (Pln.At (w7.alloc (.cells #[.int .i64 Y.kind, .int .u16 Y.mode, .int .u16 Y.links, .int .u64 Y.time, .string Y.data] 38)) w7.heap.size Y) := Pln.At.new w7 Y; have HN7 := Lib.hid ((HN6.out.th hb7).th hk7); have HB7 := Lib.hid (below_th (below_th HB6.out hb7) hk7); obtain ⟨c0, c1, c2, c3, c4⟩ := HN7.out.c; obtain ⟨y0, y1, y2, y3, y4⟩ := HYa.out.c; clear hb7 hk7))
      go_ret
      exact ⟨rfl, HB7.out⟩
end
end Go.Proofs.Yteopcjfakhmifaa.Vol
