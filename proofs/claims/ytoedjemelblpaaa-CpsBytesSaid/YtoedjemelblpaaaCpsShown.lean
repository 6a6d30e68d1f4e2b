/- The document's Same, SameNumbers; what came in, cut; what stands ahead of every law. -/
import Derived.Lib.SmallJoins
import Derived.OpenShut
import Derived.Test.YtoedjemelblpaaaCpsAdd
import Derived.Test.YtoedjemelblpaaaCpsEq
namespace Go.Proofs.Ytoedjemelblpaaa.Cps
open Go.RowKit Go.Shelf Go.ChangeShapes Go.WideShapes Go.Deep
attribute [local go_sem] Oper.semAt_some
set_option linter.unusedVariables false
set_option linter.unusedSimpArgs false
section
set_option maxRecDepth 100000
set_option maxHeartbeats 2000000
theorem same_any (v1 v2 : Value) (A B : List C) (w : World) (h1 : Chs w v1 A) (h2 : Chs w v2 B) : Calls Try.prog 19 #[v1, v2] w (Ans w (.bool (decide (A = B)))) := by
  obtain ⟨a1, cap1, rfl, hn1, hm1⟩ := h1.parts
  obtain ⟨a2, cap2, rfl, hn2, hm2⟩ := h2.parts
  by_cases hl : A.length = B.length
  · have hq : ((A.length : Int) != (B.length : Int)) = false := by simp [hl]
    obtain ⟨N, hN⟩ : ∃ N, A.length = N := ⟨_, rfl⟩
    have H1 := Lib.hid h1
    have H2 := Lib.hid h2
    have HEQ : Hid ((∀ j, j < N → ck A j = ck B j) → A = B) := fun h => ck_ext hl (fun j hj => h j (by omega))
    have HNE : Hid (∀ j, ck A j ≠ ck B j → ¬ A = B) := fun j h e => h (by rw [e])
    rw [← hl] at H2 hn2 hq ⊢
    have hBN : B.length = N := by omega
    rw [hN] at H1 H2 hn1 hn2 hq ⊢
    have HN1 := Lib.hid hN
    have HN2 := Lib.hid hBN
    clear h1 h2 hN hBN hl
    obtain ⟨W0, rfl⟩ : ∃ W0 : World, W0 = w := ⟨_, rfl⟩
    go_enter Try.func19, Try.ntmps19
    go_wp2
    go_loopw [5] (fun i wr => ∃ k : Nat, k ≤ N ∧ i = .int .i64 (k : Int) ∧ Hid (∀ j, j < k → ck A j = ck B j) ∧ Below W0.heap.size W0 wr) (fun i _ => N - (intOf i).toNat)
    case atStart => exact ⟨0, by omega, rfl, fun j hj => by omega, Below.refl _ _⟩
    case round =>
      obtain ⟨k, hk, rfl, HU, hB⟩ := hrel
      by_cases hlt : k < N
      · obtain ⟨b1, off1, cap3, e1, c0, c1, c2, c3⟩ := (H1.out.below hB).at (k := k) (by rw [HN1.out]; exact hlt)
        obtain ⟨b2, off2, cap4, e2, d0, d1, d2, d3⟩ := (H2.out.below hB).at (k := k) (by rw [HN2.out]; exact hlt)
        rw [HN1.out] at e1
        rw [HN2.out] at e2
        cases e1
        cases e2
        have HBq := Lib.hid hB
        have hq := fun W => neqC (ck A k) (ck B k) W
        unfold C.val at hq
        by_cases hx : ck A k = ck B k
        · rw [decide_eq_true hx] at hq
          have hq1 : ∀ W, (binOp .neq 25 (.agg #[.int .u64 (ck A k).cp, .int .u64 (ck A k).tick, .bool (ck A k).snap, .string (ck A k).root]) (.agg #[.int .u64 (ck B k).cp, .int .u64 (ck B k).tick, .bool (ck B k).snap, .string (ck B k).root])).run Try.prog W = .ok (.bool false) W := hq
          have HX := Lib.hid hx
          clear hx hq
          go_wp2
          go_quiet (fail)
          go_wp2
          go_roundw
          case rel => exact ⟨k + 1, by omega, by go_num, fun j hj => (by rcases Nat.lt_succ_iff_lt_or_eq.1 hj with h | h; exact HU.out j h; rw [h]; exact HX.out), below_drewN HBq.out _⟩
          case measure => simp [intOf]; omega
        · rw [decide_eq_false hx] at hq
          have hq1 : ∀ W, (binOp .neq 25 (.agg #[.int .u64 (ck A k).cp, .int .u64 (ck A k).tick, .bool (ck A k).snap, .string (ck A k).root]) (.agg #[.int .u64 (ck B k).cp, .int .u64 (ck B k).tick, .bool (ck B k).snap, .string (ck B k).root])).run Try.prog W = .ok (.bool true) W := hq
          have HX := Lib.hid (HNE.out k hx)
          clear hx hq
          go_wp2
          go_quiet (fail)
          go_wp2
          go_ret
          exact ⟨by rw [decide_eq_false HX.out]; rfl, below_drewN HBq.out _⟩
      · obtain rfl : k = N := by omega
        have HA := Lib.hid (HEQ.out HU.out)
        go_wp2
        go_ret
        exact ⟨by rw [decide_eq_true HA.out]; rfl, hB⟩
  · have hq : ((A.length : Int) != (B.length : Int)) = true := by simp; omega
    have HA : Hid (¬ A = B) := fun e => hl (by rw [e])
    clear h1 h2
    go_enter Try.func19, Try.ntmps19
    go_wp2
    go_ret
    exact ⟨by rw [decide_eq_false HA.out]; rfl, Below.refl _ _⟩
theorem nums_yes (v1 v2 : Value) (X : List Int) (w : World) (h1 : Nums w v1 X) (h2 : Nums w v2 X) : Calls Try.prog 20 #[v1, v2] w (Ans w (.bool true)) := by
  unfold Nums at h1 h2
  obtain ⟨a1, cap1, rfl, h1, hn1, hm1⟩ := h1.parts
  obtain ⟨a2, cap2, rfl, h2, hn2, hm2⟩ := h2.parts
  obtain ⟨N, hN⟩ : ∃ N, X.length = N := ⟨_, rfl⟩
  have HG : Hid (∀ k, k < N → ∃ s, (X.map (Value.int .u64))[k]? = some (Value.int .u64 s)) := fun k hk => ⟨X[k]'(by omega), by rw [List.getElem?_map, List.getElem?_eq_getElem (show k < X.length by omega)]; rfl⟩
  rw [hN] at h1 h2 hn1 hn2 ⊢
  clear hN
  obtain ⟨W0, rfl⟩ : ∃ W0 : World, W0 = w := ⟨_, rfl⟩
  go_enter Try.func20, Try.ntmps20
  go_wp2
  go_loopw [5] (fun i wr => ∃ k : Nat, k ≤ N ∧ i = .int .i64 (k : Int) ∧ Below W0.heap.size W0 wr) (fun i _ => N - (intOf i).toNat)
  case atStart => exact ⟨0, by omega, rfl, Below.refl _ _⟩
  case round =>
    obtain ⟨k, hk, rfl, hB⟩ := hrel
    by_cases hlt : k < N
    · obtain ⟨s, hs⟩ := HG.out k hlt
      obtain ⟨b1, off1, e1, c1⟩ := Lies.read (h1.out.below hB) hs
      obtain ⟨b2, off2, e2, c2⟩ := Lies.read (h2.out.below hB) hs
      subst e1
      subst e2
      have HBq := Lib.hid hB
      have hq1 : ∀ W : World, (binOp .neq 23 (Value.int .u64 s) (Value.int .u64 s)).run Try.prog W = .ok (.bool false) W := fun W => by first | (simp [go_sem]; done) | (simp [go_sem, binOp]; done)
      clear hs
      go_wp2
      go_quiet (fail)
      go_wp2
      go_roundw
      case rel => exact ⟨k + 1, by omega, by go_num, below_drewN HBq.out _⟩
      case measure => simp [intOf]; omega
    · go_wp2
      go_ret
      exact ⟨rfl, hB⟩
theorem cut_any (v : Value) (L : List C) (w : World) (hL : Chs w v L) : Calls Try.prog 12 #[v] w fun e w' => ∃ v', e = .returned v' ∧ Chs w v' (L.take 200) ∧ w = w' := by
  obtain ⟨a, cap, rfl, hn, hm⟩ := hL.parts
  obtain ⟨K, hK⟩ : ∃ K, min L.length 200 = K := ⟨_, rfl⟩
  have hl : (L.take 200).length = K := by rw [List.length_take, Nat.min_comm]; exact hK
  have hT : Chs w (.slice a K cap) (L.take 200) := by
    have := hL.cut K (by omega)
    have e : L.take K = L.take 200 := by
      rcases Nat.lt_or_ge 200 L.length with h | h
      · rw [show K = 200 by omega]
      · rw [show K = L.length by omega, List.take_length, List.take_of_length_le h]
    rw [e] at this
    exact this
  have HT := Lib.hid hT
  obtain ⟨N, hN⟩ : ∃ N, L.length = N := ⟨_, rfl⟩
  rw [hN] at hn ⊢
  have hK2 : (min (N : Int) 200).toNat = K := by omega
  have hK3 : min (N : Int) 200 ≤ (cap : Int) := by omega
  have hK4 : 0 ≤ min (N : Int) 200 := by omega
  have HK2 := Lib.hid hK2
  clear hL hl hT hK hN hK2
  go_enter Try.func12, Try.ntmps12
  go_wp2
  go_ret
  refine ⟨.slice a K cap, ?_, HT.out, rfl⟩
  rw [← HK2.out]
  rfl
/-- a table's first two hundred -/
theorem cut_at (v : Value) (L M : List C) (N : Nat) (hM : L.take 200 = M) (hN : M.length = N) (W : World) (h : Chs W v L) :
    Calls Try.prog 12 #[v] W fun e w' => ∃ a cap, e = .returned (.slice a N cap) ∧ Hid (Chs W (.slice a N cap) M) ∧ N ≤ cap ∧ cap ≤ 9223372036854775807 ∧ W = w' := by
  refine (cut_any v L W h).mono ?_
  rintro e w' ⟨v', rfl, h1, rfl⟩
  rw [hM] at h1
  obtain ⟨a, cap, rfl, h2, h3⟩ := h1.parts
  rw [hN] at h1 h2
  exact ⟨a, cap, by rw [hN], h1, h2, h3, rfl⟩
theorem chs_new (w : World) (L : List C) (arr : Array Value) (h : arr.toList = L.flatMap C.cells) (hl : L.length ≤ maxLen) : Chs (w.alloc (.cells arr 25)) (.slice (some ⟨w.heap.size, 0, none⟩) L.length L.length) L := by
  refine ⟨_, L.length, rfl, Nat.le_refl _, ⟨hl, fun e => by cases e⟩, flat_length C.cells 4 L (fun _ _ => rfl), fun _ => ⟨w.heap.size, 0, rfl, fun j u hj => ?_⟩⟩
  rw [← h] at hj
  have hn : (w.alloc (.cells arr 25)).heap[w.heap.size]? = some (.cells arr 25) := World.alloc_heap_new w _
  simp only [World.cell?, hn, Nat.zero_add]
  rw [← hj, Array.getElem?_toList]
  rfl
theorem nums_new (w : World) (X : List Int) (arr : Array Value) (h : arr.toList = X.map (.int .u64)) (hl : X.length ≤ maxLen) : Nums (w.alloc (.cells arr 23)) (.slice (some ⟨w.heap.size, 0, none⟩) X.length X.length) X := by
  refine ⟨_, X.length, rfl, Nat.le_refl _, ⟨hl, fun e => by cases e⟩, by simp, fun _ => ⟨w.heap.size, 0, rfl, fun j u hj => ?_⟩⟩
  rw [← h] at hj
  have hn : (w.alloc (.cells arr 23)).heap[w.heap.size]? = some (.cells arr 23) := World.alloc_heap_new w _
  simp only [World.cell?, hn, Nat.zero_add]
  rw [← hj, Array.getElem?_toList]
  rfl
/-! ### what stands ahead of every law -/
def FL : List C := [⟨1, 2, false, zeros 42⟩, ⟨2, 6, true, zeros 42⟩, ⟨3, 7, false, zeros 42⟩, ⟨4, 9, false, zeros 42⟩]
theorem fl_exp : expE FL = 0 ∧ expN FL 10 3 = 1 ∧ numV (expV FL 10 3) = [2, 3, 4] ∧ (expV FL 10 3).length = 3 := by decide +kernel
theorem fl_del : delE FL 2 = 93 ∧ delE FL 4 = 94 := by decide +kernel
theorem fl_fnd : fndE FL 3 = 0 ∧ fndC FL 3 = ⟨3, 7, false, zeros 42⟩ := by decide +kernel
theorem four_any (w : World) : Calls Try.prog 34 #[] w fun e w' => ∃ b, e = .returned (.slice (some ⟨b, 0, none⟩) 4 4) ∧ Chs w' (.slice (some ⟨b, 0, none⟩) 4 4) FL ∧ Below w.heap.size w w' := by
  have hmk : ∀ W : World, (Instr.makeSlice 73 (.int .i64 42) (.int .i64 42)).run Try.prog W = .ok (.slice (some ⟨W.heap.size, 0, none⟩) 42 42) (W.alloc (.cells (madeCells #[.int .u8 0] 42) 5)) := fun W =>
    run_make_row' (P := Try.prog) 73 5 (.int .u8 0) 1 Try.underlying73 infoByte rfl .i64 .i64 42 (by omega) (by omega) W
  have hcv := conv_zeros _ _ _ (World.rowIs_made w (.int .u8 0) 42 5) 42
  have HN := Lib.hid (fun W => chs_new W FL #[.int .u64 1, .int .u64 2, .bool false, .string (zeros 42), .int .u64 2, .int .u64 6, .bool true, .string (zeros 42), .int .u64 3, .int .u64 7, .bool false, .string (zeros 42), .int .u64 4, .int .u64 9, .bool false, .string (zeros 42)] rfl (by decide))
  obtain ⟨z, hz⟩ : ∃ z, zeros 42 = z := ⟨_, rfl⟩
  rw [hz] at hcv
  simp only [hz] at HN
  clear hz
  go_enter Try.func34, Try.ntmps34
  go_wp2
  go_ret
  have h1 := HN.out (w.alloc (.cells (madeCells #[.int .u8 0] 42) 5))
  rw [World.size_alloc] at h1
  exact ⟨_, rfl, h1, below_al (below_new _ _) _⟩
theorem shown_any (w : World) : Calls Try.prog 11 #[] w (Ans w (.bool true)) := by
  have HE := Lib.hid (fun v W (h : Chs W v FL) => expire_any v FL 10 3 W h (by omega))
  have HD2 := Lib.hid (fun v W (h : Chs W v FL) => delete_any v FL 2 W h)
  have HD4 := Lib.hid (fun v W (h : Chs W v FL) => delete_any v FL 4 W h)
  have HF := Lib.hid (fun v W (h : Chs W v FL) => Find_any v FL 3 W h)
  unfold ExpPost at HE
  unfold TabPost at HD2 HD4
  rw [fl_exp.1, fl_exp.2.1] at HE
  rw [fl_del.1] at HD2
  rw [fl_del.2] at HD4
  rw [fl_fnd.1, fl_fnd.2] at HF
  obtain ⟨M, hM⟩ : ∃ M, expV FL 10 3 = M := ⟨_, rfl⟩
  have hMn := fl_exp.2.2.1
  have hMl := fl_exp.2.2.2
  rw [hM] at HE hMn hMl
  have HNU := Lib.hid (fun v W (h : Chs W v M) => numbers_any v M W h (by omega))
  unfold NumPost at HNU
  rw [hMn] at HNU
  have HNN : Hid (∀ W : World, Nums (W.alloc (.cells #[.int .u64 2, .int .u64 3, .int .u64 4] 23)) (.slice (some ⟨W.heap.size, 0, none⟩) 3 3) [2, 3, 4]) := fun W => nums_new W [2, 3, 4] #[.int .u64 2, .int .u64 3, .int .u64 4] rfl (by decide)
  have HPA := Lib.hid (fun W v (h : Chs W v M) => h.parts)
  have HPD := Lib.hid (fun W v K (h : Chs W v K) => h.parts)
  have HPN := Lib.hid (fun W v (h : Nums W v [2, 3, 4]) => Lies.parts h)
  rw [hMl] at HPA
  generalize delV FL 2 = M2 at HD2
  generalize delV FL 4 = M4 at HD4
  obtain ⟨z, hz⟩ : ∃ z, zeros 42 = z := ⟨_, rfl⟩
  rw [hz] at HF
  unfold C.val at HF
  dsimp only at HF
  have HAN := Lib.hid (fun W : World => At.new W ⟨3, 7, false, z⟩)
  have HBN := Lib.hid (fun W : World => below_new W (boxO ⟨3, 7, false, z⟩))
  unfold boxO at HAN HBN
  dsimp only at HAN HBN
  have e3 : ((3 : Nat) : Int) = 3 := rfl
  have e7 : ((7 : Nat) : Int) = 7 := rfl
  rw [e3, e7] at HAN HBN HF
  clear hM hMn hMl hz e3 e7
  go_enter Try.func11, Try.ntmps11
  go_wp2_with (first
    | (go_at_call 34; (with_reducible refine Calls.mono (four_any _) ?_); rintro e wa ⟨ba, rfl, hLa, hBa⟩; have HLa := Lib.hid hLa; have HBa := Lib.hid hBa; clear hLa hBa)
    | (go_at_call 27; (with_reducible refine Calls.mono (HE.out _ _ HLa.out) ?_); rintro e w1 ⟨v1, rfl, hM1, hB1⟩; obtain ⟨a1, c1, rfl, _⟩ := HPA.out _ _ hM1; have HM1 := Lib.hid hM1; have HB1 := Lib.hid (below_th HBa.out hB1); clear hM1 hB1 HLa HBa)
    | (go_at_call 25; (with_reducible refine Calls.mono (HD2.out _ _ HLa.out) ?_); rintro e w2 ⟨v2, rfl, hM2, hB2⟩; obtain ⟨a2, c2, rfl, _⟩ := HPD.out _ _ _ hM2; have HB2 := Lib.hid (below_th HB1.out (below_th HBa.out hB2)); have HM1 := Lib.hid (HM1.out.below (below_th HBa.out hB2)); clear hM2 hB2 HLa HBa)
    | (go_at_call 25; (with_reducible refine Calls.mono (HD4.out _ _ HLa.out) ?_); rintro e w3 ⟨v3, rfl, hM3, hB3⟩; obtain ⟨a3, c3, rfl, _⟩ := HPD.out _ _ _ hM3; have HB3 := Lib.hid (below_th HB2.out (below_th HBa.out hB3)); have HM1 := Lib.hid (HM1.out.below (below_th HBa.out hB3)); clear hM3 hB3 HLa HBa)
    | (go_at_call 15; (with_reducible refine Calls.mono (HF.out _ _ HLa.out) ?_); rintro e w4 ⟨rfl, hB4⟩; have HB4 := Lib.hid (below_th HB3.out (below_th HBa.out (below_th hB4 (HBN.out w4)))); have HM1 := Lib.hid (HM1.out.below (below_th HBa.out (below_th hB4 (HBN.out w4)))); have HA4 := Lib.hid (HAN.out w4); clear hB4 HLa HBa)
    | (go_at_call 21; (with_reducible refine Calls.mono (HNU.out _ _ HM1.out) ?_); rintro e w5 ⟨v5, rfl, hN5, hB5⟩; obtain ⟨a5, c5, rfl, _⟩ := HPN.out _ _ hN5; have HN5 := Lib.hid (hN5.below (below_new w5 (.cells #[.int .u64 2, .int .u64 3, .int .u64 4] 23))); have HNX := Lib.hid (HNN.out w5); have HA5 := Lib.hid ((HA4.out.th hB5).th (below_new w5 (.cells #[.int .u64 2, .int .u64 3, .int .u64 4] 23))); have HB5 := Lib.hid (below_th HB4.out (below_th hB5 (below_new w5 (.cells #[.int .u64 2, .int .u64 3, .int .u64 4] 23)))); clear hN5 hB5)
    | (go_at_call 20; (with_reducible refine Calls.mono (nums_yes _ _ _ _ HN5.out HNX.out) ?_); rintro e w6 ⟨rfl, hB6⟩; obtain ⟨q0, q1, q2, q3⟩ := (HA5.out.th hB6).c; replace q1 : w6.cell? ⟨w4.heap.size, 1, none⟩ = some (.int .u64 7) := q1))
  go_ret
  exact ⟨by simp, below_th HB5.out hB6⟩
end
end Go.Proofs.Ytoedjemelblpaaa.Cps
