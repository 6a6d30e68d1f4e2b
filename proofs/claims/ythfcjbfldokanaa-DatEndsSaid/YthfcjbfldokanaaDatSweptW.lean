/- DatSwept, walked. -/
import Derived.Test.YthfcjbfldokanaaDatSweep
import Derived.Test.YthfcjbfldokanaaDatArgs
namespace Go.Proofs.Ythfcjbfldokanaa.Dat
open Go.RowKit
attribute [local go_sem] Oper.semAt_some
set_option linter.unusedVariables false

/-- what stands ahead in a list of checkpoints -/
theorem Cps.cut {w : World} {a : Option Addr} {n cap : Nat} {C : List Int} (h : Cps w (.slice a n cap) C) (m : Nat) (hm : m ≤ C.length) : Cps w (.slice a m cap) (C.take m) := by
  obtain ⟨a1, cap1, e, h2, h3, h4, h5⟩ := h
  cases e
  have hl : (C.take m).length = m := by rw [List.length_take]; omega
  refine ⟨a, cap, by rw [hl], by omega, h3, by rw [List.length_map, hl]; omega, fun hn => ?_⟩
  obtain ⟨b, off, e2, hc⟩ := h5 (by omega)
  refine ⟨b, off, e2, fun j u hj => hc j u ?_⟩
  rw [List.map_take, List.getElem?_take] at hj
  split at hj
  · exact hj
  · cases hj
theorem take_min {α : Type} (C : List α) (m : Nat) : C.take (min C.length m) = C.take m := by
  rcases Nat.lt_or_ge m C.length with h | h
  · rw [Nat.min_eq_right (by omega)]
  · rw [Nat.min_eq_left h, List.take_length, List.take_of_length_le h]
theorem same_eq (v1 v2 : Value) (X : List T) (W : World) (h1 : Trs W v1 X) (h2 : Trs W v2 X) : Calls Try.prog 17 #[v1, v2] W fun e w' => e = .returned (.bool true) ∧ Below W.heap.size W w' := by
  have h := R.same_any v1 v2 X X W h1 h2
  rw [decide_eq_true rfl] at h
  exact h
section
set_option maxRecDepth 100000
set_option maxHeartbeats 4000000
theorem sweep_at (M X : List T) (D : List Int) (n K : Nat) (hr : RightP M) (hX : bare (swp M D) = X) (hn : swpN M D = n) (hK : X.length = K) (v vc : Value) (W : World) (hL : Trs W v M) (hC : Cps W vc D) :
    Calls Try.prog 20 #[v, vc] W fun e w' => ∃ b off c, e = .returned (.tuple #[.slice (some ⟨b, off, none⟩) K c, .int .i64 n, .int .i64 0]) ∧ Hid (Trs w' (.slice (some ⟨b, off, none⟩) K c) X) ∧ K ≤ c ∧ c ≤ 9223372036854775807 ∧ Below W.heap.size W w' := by
  refine (sweep_any v vc M D W hL hC).mono ?_
  rintro e w' ⟨v', rfl, h1, h2⟩
  have hv : swpV M D = X := by unfold swpV; rw [if_pos hr, hX]
  rw [hv] at h1
  have hp : 0 < X.length := by
    have hl := swp_length M D
    have := hr.1.1
    rw [← hX, bare_length (by omega)]
    have := bareN_le (L := swp M D) (by omega)
    omega
  obtain ⟨b, off, c, rfl, _⟩ := h1.at (k := 0) hp
  obtain ⟨a, c2, e2, g1, g2⟩ := h1.parts
  cases e2
  rw [hK] at h1 g1
  exact ⟨b, off, c, by rw [hK, hn, show swpE M = 0 from if_pos hr], h1, g1, g2, h2⟩
theorem DatSwept_walk (v : Value) (L : List T) (vc : Value) (C : List Int) (w : World) (hL : Trs w v L) (wL : ∀ o ∈ L, TOk o) (hC : Cps w vc C) (wC : ∀ n ∈ C, (Lit.int .u64 n).wf = true) :
    Calls Try.prog 8 #[v, vc] w fun e w' => e = .returned (.bool true) ∧ Below w.heap.size w w' := by
  clear wL wC
  obtain ⟨M, hM⟩ : ∃ M, L.take 2000 = M := ⟨_, rfl⟩
  obtain ⟨N, hN⟩ : ∃ N, M.length = N := ⟨_, rfl⟩
  have HCut := Lib.hid (fun W h => cut_at v L M N hM hN W h)
  clear hM
  have HL := Lib.hid hL
  obtain ⟨ac, capc, rfl, hnc, hmc⟩ := hC.parts
  obtain ⟨K, hK⟩ : ∃ K, min C.length 100 = K := ⟨_, rfl⟩
  have hCc := hC.cut K (by omega)
  rw [← hK, take_min, hK] at hCc
  obtain ⟨D, hD⟩ : ∃ D, C.take 100 = D := ⟨_, rfl⟩
  rw [hD] at hCc
  have HC := Lib.hid hCc
  obtain ⟨nc, hncl⟩ : ∃ nc, C.length = nc := ⟨_, rfl⟩
  rw [hncl] at hK hnc ⊢
  have hmin : (if (100 : Int) < (nc : Int) then (100 : Int) else (nc : Int)) = (K : Int) := by rw [← hK]; split <;> omega
  have hKc : K ≤ capc := by omega
  have hKi : (K : Int) ≤ (capc : Int) := by omega
  have hK0 : (0 : Int) ≤ (K : Int) := by omega
  clear hL hC hCc hD hncl
  by_cases hr : RightP M
  · obtain ⟨X, hX⟩ : ∃ X, bare (swp M D) = X := ⟨_, rfl⟩
    obtain ⟨n, hn⟩ : ∃ n, swpN M D = n := ⟨_, rfl⟩
    obtain ⟨K2, hK2⟩ : ∃ K2, X.length = K2 := ⟨_, rfl⟩
    have hl := swp_length M D
    have hM1 := hr.1
    have hle : K2 ≤ N := by rw [← hK2, ← hX, bare_length (by omega), ← hN, ← hl]; exact (bareN_le (by omega)).2
    have hag := swept_again hr D
    rw [hX] at hag
    have hXe : bare (swp X D) = X := by have := hag.2.1; unfold swpV at this; rwa [if_pos hag.1] at this
    have htx : ∀ j, tr X j = sw D (tr M j) := fun j => by rw [← hX, tr_bare (by omega), tr_swp]
    have HS1 := Lib.hid (fun v vc W h1 h2 => sweep_at M X D n K2 hr hX hn hK2 v vc W h1 h2)
    have HS2 := Lib.hid (fun v vc W h1 h2 => sweep_at X X D 0 K2 hag.1 hXe hag.2.2 hK2 v vc W h1 h2)
    have HSa := Lib.hid (fun v1 v2 W h1 h2 => same_eq v1 v2 X W h1 h2)
    have HLv := Lib.hid (fun k v W h => lives_any (tr M k) v D W h)
    have HMk := Lib.hid (fun (W : World) (a : Option Addr) (cap k : Nat) (h : Trs W (.slice a N cap) M) (hk : k < N) => h.at (k := k) (by rw [hN]; exact hk))
    have HXk := Lib.hid (fun (W : World) (b off c k : Nat) (h : Trs W (.slice (some ⟨b, off, none⟩) K2 c) X) (hk : k < K2) => h.get hK2 hk)
    have HXo : Hid (∀ k, K2 ≤ k → tr X k = T.zero) := fun k hk => tr_out (by rw [hK2]; exact hk)
    have HTx := Lib.hid htx
    have HQ : Hid (∀ (W : World) (s : T), (binOp .neq 40 (.agg #[.int .u32 s.phys, .int .u64 s.start, .int .u64 s.fin]) (.agg #[.int .u32 s.phys, .int .u64 s.start, .int .u64 s.fin])).run Try.prog W = .ok (.bool false) W) := fun W s => by
      have := neqT s s W
      rw [decide_eq_true rfl] at this
      exact this
    have hqz : ∀ W : World, (binOp .neq 40 (.agg #[.int .u32 0, .int .u64 0, .int .u64 0]) (.agg #[.int .u32 0, .int .u64 0, .int .u64 0])).run Try.prog W = .ok (.bool false) W := fun W => neqT T.zero T.zero W
    have HN := Lib.hid hN
    have HAn := Lib.hid (fun (W : World) (y : T) => At.new W y)
    have HBn := Lib.hid (fun (W : World) (y : T) => below_new W (boxO y))
    have HAz := Lib.hid (fun (W : World) => At.newZ W)
    have HBz := Lib.hid (fun (W : World) => below_new W boxZ)
    have h0n : (0 : Int) ≤ (n : Int) := by omega
    unfold boxO at HAn HBn
    unfold boxZ at HAz HBz
    unfold T.val at HLv
    clear hr hX hn hl hM1 hag hXe htx hN hK2
    obtain ⟨W0, rfl⟩ : ∃ W0 : World, W0 = w := ⟨_, rfl⟩
    go_enter Try.func8, Try.ntmps8
    go_wp2_with (first
      | (go_at_call 9; (with_reducible refine Calls.mono (shown_any _) ?_); rintro e w1 ⟨rfl, hB1⟩; have HL1 := Lib.hid (HL.out.below hB1))
      | (go_at_call 10; (with_reducible refine Calls.mono (HCut.out _ HL1.out) ?_); rintro e w2 ⟨a, cap, rfl, HT, hc1, hc2, rfl⟩; have HC1 := Lib.hid (HC.out.below hB1))
      | (go_at_call 20; (with_reducible refine Calls.mono (HS2.out _ _ _ HX3.out HC3.out) ?_); rintro e w4 ⟨b4, o4, c4, rfl, HY4, hc5, hc6, hB4⟩; have HX4 := Lib.hid (HX3.out.below hB4); have HM4 := Lib.hid (HM3.out.below hB4); have HC4 := Lib.hid (HC3.out.below hB4); have HB4 := Lib.hid (below_th HB3.out hB4); clear hB4)
      | (go_at_call 20; (with_reducible refine Calls.mono (HS1.out _ _ _ HT.out HC1.out) ?_); rintro e w3 ⟨b, off, c, rfl, HX3, hc3, hc4, hB3⟩; have HM3 := Lib.hid (HT.out.below hB3); have HC3 := Lib.hid (HC1.out.below hB3); have HB3 := Lib.hid (below_th hB1 hB3); clear hB3))
    go_loopw [12, 13, 14] (fun j _ _ wr => ∃ k : Nat, k ≤ N ∧ j = .int .i64 (k : Int) ∧ Hid (Below w4.heap.size w4 wr)) (fun j _ _ _ => N - (intOf j).toNat)
    case atStart => exact ⟨0, by omega, rfl, Below.refl _ _⟩
    case round =>
      obtain ⟨k, hk, rfl, HBk⟩ := hrel
      by_cases hlt : k < N
      · obtain ⟨b2, o2, c2, e2, x0, x1, x2⟩ := HMk.out _ _ _ k (HM4.out.below HBk.out) hlt
        rw [HN.out] at e2
        cases e2
        obtain ⟨y, hy⟩ : ∃ y, tr M k = y := ⟨_, rfl⟩
        obtain ⟨z, hz⟩ : ∃ z, tr X k = z := ⟨_, rfl⟩
        have hLv := fun v W h => HLv.out k v W h
        have hzy := HTx.out k
        rw [hy] at x0 x1 x2 hLv hzy
        rw [hz] at hzy
        have HLk := Lib.hid hLv
        have HXz := Lib.hid (HXo.out k)
        rw [hz] at HXz
        have HMk2 := Lib.hid (fun (W : World) (h : Below wr.heap.size wr W) => ((HM4.out.below (below_th HBk.out h)).get HN.out hlt))
        rw [hy] at HMk2
        have HZ := Lib.hid hzy
        clear hLv hzy hy
        by_cases hk2 : k < K2
        · obtain ⟨y0, y1, y2⟩ := HXk.out _ _ _ _ k (HX4.out.below HBk.out) hk2
          have hzz := HXk.out (wr.alloc (.cells #[.int .u32 0, .int .u64 0, .int .u64 0] 40)) _ _ _ k (HX4.out.below (below_th HBk.out (HBz.out wr))) hk2
          rw [hz] at y0 y1 y2 hzz
          obtain ⟨q0, q1, q2⟩ := hzz
          clear hz
          by_cases hlv : livesP y D
          · have hzy : z = y := by rw [HZ.out]; exact if_pos hlv
            subst hzy
            rw [show livesB z D = true from decide_eq_true hlv] at HLk
            have hqq := fun W => HQ.out W z
            clear hlv
            obtain ⟨v0, v1, v2⟩ := HMk2.out _ (HBn.out wr z)
            go_wp2_with (go_at_call 22; (with_reducible refine Calls.mono (HLk.out _ _ (HC4.out.below (below_th HBk.out (HBn.out wr z)))) ?_); rintro e w5 ⟨rfl, hB5⟩; obtain ⟨d0, d1, d2⟩ := ((HAn.out wr z).th hB5).c; have HB5 := Lib.hid (below_th (HBn.out wr z) hB5); obtain ⟨g0, g1, g2⟩ := HMk2.out _ HB5.out)
            go_quiet (fail)
            go_wp2
            go_roundw
            case rel => exact ⟨k + 1, by omega, by go_num, below_drewN (below_th HBk.out HB5.out) _⟩
            case measure => simp [intOf]; omega
          · have hzy : z = T.zero := by rw [HZ.out]; exact if_neg hlv
            subst hzy
            change _ = some (Value.int .u32 0) at y0 q0
            change _ = some (Value.int .u64 0) at y1 y2 q1 q2
            rw [show livesB y D = false from decide_eq_false hlv] at HLk
            clear hlv
            obtain ⟨v0, v1, v2⟩ := HMk2.out _ (HBz.out wr)
            go_wp2_with (go_at_call 22; (with_reducible refine Calls.mono (HLk.out _ _ (HC4.out.below (below_th HBk.out (HBz.out wr)))) ?_); rintro e w5 ⟨rfl, hB5⟩; obtain ⟨d0, d1, d2⟩ := ((HAz.out wr).th hB5).cZ; have HB5 := Lib.hid (below_th (HBz.out wr) hB5); obtain ⟨g0, g1, g2⟩ := HMk2.out _ HB5.out)
            go_quiet (fail)
            go_wp2
            go_roundw
            case rel => exact ⟨k + 1, by omega, by go_num, below_drewN (below_th HBk.out HB5.out) _⟩
            case measure => simp [intOf]; omega
        · have hzz : z = T.zero := HXz.out (by omega)
          subst hzz
          clear hz
          by_cases hlv : livesP y D
          · have hzy : T.zero = y := by rw [HZ.out]; exact if_pos hlv
            subst hzy
            exact absurd hlv (fun h => h.1 rfl)
          · rw [show livesB y D = false from decide_eq_false hlv] at HLk
            clear hlv
            obtain ⟨v0, v1, v2⟩ := HMk2.out _ (HBz.out wr)
            go_wp2_with (go_at_call 22; (with_reducible refine Calls.mono (HLk.out _ _ (HC4.out.below (below_th HBk.out (HBz.out wr)))) ?_); rintro e w5 ⟨rfl, hB5⟩; obtain ⟨d0, d1, d2⟩ := ((HAz.out wr).th hB5).cZ; have HB5 := Lib.hid (below_th (HBz.out wr) hB5); obtain ⟨g0, g1, g2⟩ := HMk2.out _ HB5.out)
            go_quiet (fail)
            go_wp2
            go_roundw
            case rel => exact ⟨k + 1, by omega, by go_num, below_drewN (below_th HBk.out HB5.out) _⟩
            case measure => simp [intOf]; omega
      · obtain rfl : k = N := by omega
        have HX5 := Lib.hid (HX4.out.below HBk.out)
        have HY5 := Lib.hid (HY4.out.below HBk.out)
        go_wp2_with (go_at_call 17; (with_reducible refine Calls.mono (HSa.out _ _ _ HY5.out HX5.out) ?_); rintro e w6 ⟨rfl, hB6⟩)
        go_ret
        exact ⟨rfl, below_th HB4.out (below_th HBk.out hB6)⟩
  · have hsw : ∀ v vc W, Trs W v M → Cps W vc D → Calls Try.prog 20 #[v, vc] W fun e w' => ∃ v', e = .returned (.tuple #[v', .int .i64 0, .int .i64 80]) ∧ Below W.heap.size W w' := fun v vc W h1 h2 => by
      obtain ⟨_, e2, e3⟩ := swpV_no (C := D) hr
      refine (sweep_any v vc M D W h1 h2).mono ?_
      rintro e w' ⟨v', rfl, _, h2⟩
      exact ⟨v', by rw [e2, e3]; rfl, h2⟩
    have hri := fun v W h => right_any v M W h
    rw [rightB_no hr] at hri
    have HS1 := Lib.hid hsw
    have HRi := Lib.hid hri
    clear hr hN hsw hri
    obtain ⟨W0, rfl⟩ : ∃ W0 : World, W0 = w := ⟨_, rfl⟩
    go_enter Try.func8, Try.ntmps8
    go_wp2_with (first
      | (go_at_call 9; (with_reducible refine Calls.mono (shown_any _) ?_); rintro e w1 ⟨rfl, hB1⟩; have HL1 := Lib.hid (HL.out.below hB1))
      | (go_at_call 10; (with_reducible refine Calls.mono (HCut.out _ HL1.out) ?_); rintro e w2 ⟨a, cap, rfl, HT, hc1, hc2, rfl⟩; have HC1 := Lib.hid (HC.out.below hB1))
      | (go_at_call 20; (with_reducible refine Calls.mono (HS1.out _ _ _ HT.out HC1.out) ?_); rintro e w3 ⟨v3, rfl, hB3⟩; have HM3 := Lib.hid (HT.out.below hB3))
      | (go_at_call 15; (with_reducible refine Calls.mono (HRi.out _ _ HM3.out) ?_); rintro e w4 ⟨rfl, hB4⟩))
    go_ret
    exact ⟨rfl, below_th hB1 (below_th hB3 hB4)⟩
end
end Go.Proofs.Ythfcjbfldokanaa.Dat
