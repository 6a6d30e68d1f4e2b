/- DatKeeps, walked. -/
import Derived.Test.YthfcjbfldokanaaDatArgs
namespace Go.Proofs.Ythfcjbfldokanaa.Dat
open Go.RowKit
attribute [local go_sem] Oper.semAt_some
set_option linter.unusedVariables false

/-- a number that began, and ended -/
theorem lives_end {ph cp en : Nat} (hs : standsP ⟨ph, cp, 0⟩) (h0 : ¬ en = 0) (at_ : Int) : livesB (if en = cp then T.zero else ⟨ph, cp, en⟩) [at_] = (decide ((cp : Int) ≤ at_) && decide (at_ < (en : Int))) := by
  by_cases he : en = cp
  · rw [if_pos he, livesB_free, he]
    by_cases h : (cp : Int) ≤ at_
    · have : ¬ at_ < (cp : Int) := by omega
      simp [this]
    · simp [h]
  · rw [if_neg he, livesB_some (fun e => by have := congrArg T.start e; simp [T.zero] at this; have := hs.2.1.1; dsimp only at this; omega) h0]
    unfold someP inP
    rw [Bool.eq_iff_iff]
    simp
section
set_option maxRecDepth 100000
set_option maxHeartbeats 4000000
theorem beg_at (L X : List T) (ph cp i K : Nat) (h : begOk L ph cp) (hi : low L = i) (hX : putAt L i ⟨ph, cp, 0⟩ = X) (hK : X.length = K) (v : Value) (W : World) (hL : Trs W v L) :
    Calls Try.prog 11 #[v, .int .u32 ph, .int .u64 cp] W fun e w' => ∃ b off c, e = .returned (.tuple #[.slice (some ⟨b, off, none⟩) K c, .int .u32 i, .int .i64 0]) ∧ Hid (Trs w' (.slice (some ⟨b, off, none⟩) K c) X) ∧ K ≤ c ∧ c ≤ 9223372036854775807 ∧ Below W.heap.size W w' := by
  refine (begin_any v L ph cp W hL).mono ?_
  rintro e w' ⟨v', rfl, h1, h2⟩
  have hv : begV L ph cp = X := by unfold begV; rw [if_pos h, hi, hX]
  rw [hv] at h1
  have hp : 0 < X.length := by rw [← hX, putAt_length _ (by rw [← hi]; exact (low_le h.1.1.1).2)]; omega
  obtain ⟨b, off, c, rfl, _⟩ := h1.at (k := 0) hp
  obtain ⟨a, c2, e2, g1, g2⟩ := h1.parts
  cases e2
  rw [hK] at h1 g1
  exact ⟨b, off, c, by rw [hK, begE_ok.2 h]; unfold begI; rw [if_pos h, hi], h1, g1, g2, h2⟩
theorem end_at (X Y : List T) (i en K : Nat) (h : endOk X i en) (hY : X.set i (endT X i en) = Y) (hK : X.length = K) (hi : i < 4294967296) (v : Value) (W : World) (hL : Trs W v X) :
    Calls Try.prog 18 #[v, .int .u32 i, .int .u64 en] W fun e w' => ∃ b off c, e = .returned (.tuple #[.slice (some ⟨b, off, none⟩) K c, .int .i64 0]) ∧ Hid (Trs w' (.slice (some ⟨b, off, none⟩) K c) Y) ∧ K ≤ c ∧ c ≤ 9223372036854775807 ∧ Below W.heap.size W w' := by
  refine (end_any v X i en W hL hi).mono ?_
  rintro e w' ⟨v', rfl, h1, h2⟩
  have hv : endV X i en = Y := by unfold endV; rw [if_pos h, hY]
  rw [hv] at h1
  have hl : Y.length = K := by rw [← hY, List.length_set, hK]
  have hp : 0 < Y.length := by rw [hl, ← hK]; have := h.2.1.1; omega
  obtain ⟨b, off, c, rfl, _⟩ := h1.at (k := 0) hp
  obtain ⟨a, c2, e2, g1, g2⟩ := h1.parts
  cases e2
  rw [hl] at h1 g1
  exact ⟨b, off, c, by rw [hl, endE_ok.2 h], h1, g1, g2, h2⟩
theorem DatKeeps_walk (v : Value) (L : List T) (ph cp en at_ : Int) (w : World) (hL : Trs w v L) (wL : ∀ o ∈ L, TOk o) (k1 : (Lit.int .u32 ph).wf = true) (k2 : (Lit.int .u64 cp).wf = true) (k3 : (Lit.int .u64 en).wf = true) (k4 : (Lit.int .u64 at_).wf = true) :
    Calls Try.prog 6 #[v, .int .u32 ph, .int .u64 cp, .int .u64 en, .int .u64 at_] w fun e w' => e = .returned (.bool true) ∧ Below w.heap.size w w' := by
  obtain ⟨ph, rfl⟩ := Int.eq_ofNat_of_zero_le (bounds32 k1).1
  obtain ⟨cp, rfl⟩ := Int.eq_ofNat_of_zero_le (boundsU k2).1
  obtain ⟨en, rfl⟩ := Int.eq_ofNat_of_zero_le (boundsU k3).1
  clear k1 k2 k3 k4 wL
  obtain ⟨M, hM⟩ : ∃ M, L.take 2000 = M := ⟨_, rfl⟩
  obtain ⟨N, hN⟩ : ∃ N, M.length = N := ⟨_, rfl⟩
  have HCut := Lib.hid (fun W h => cut_at v L M N hM hN W h)
  clear hM
  have HL := Lib.hid hL
  by_cases hb : begOk M ph cp
  · obtain ⟨i, hi⟩ : ∃ i, low M = i := ⟨_, rfl⟩
    have hlow := low_le hb.1.1.1
    rw [hi] at hlow
    obtain ⟨X, hX⟩ : ∃ X, putAt M i ⟨ph, cp, 0⟩ = X := ⟨_, rfl⟩
    obtain ⟨K, hK⟩ : ∃ K, X.length = K := ⟨_, rfl⟩
    have hKl : K = max N (i + 1) := by rw [← hK, ← hX, putAt_length _ hlow.2, hN]
    have hN2 : N ≤ 1860 := by rw [← hN]; exact hb.1.1.2
    have HBeg := Lib.hid (fun v W h => beg_at M X ph cp i K hb hi hX hK v W h)
    have htx : ∀ j, tr X j = if j = i then ⟨ph, cp, 0⟩ else tr M j := fun j => by rw [← hX]; exact tr_putAt M hlow.2 _ j
    have hsta : standsP ⟨ph, cp, 0⟩ := hb.2.2
    have hlv : ∀ W, Calls Try.prog 22 #[.agg #[.int .u32 ph, .int .u64 cp, .int .u64 0], .slice none 0 0] W (Ans W (.bool true)) := fun W => by
      have := lives_any ⟨ph, cp, 0⟩ (.slice none 0 0) [] W (Cps.nil W)
      rw [livesB_open hsta.not_zero rfl] at this
      exact this
    have HLv := Lib.hid hlv
    have hnq : ∀ W : World, (binOp .neq 40 (.agg #[.int .u32 ph, .int .u64 cp, .int .u64 0]) (.agg #[.int .u32 ph, .int .u64 cp, .int .u64 0])).run Try.prog W = .ok (.bool false) W := fun W => by
      have := neqT ⟨ph, cp, 0⟩ ⟨ph, cp, 0⟩ W
      rw [decide_eq_true rfl] at this
      exact this
    have HXi : Hid (∀ (W : World) (b off c : Nat), Trs W (.slice (some ⟨b, off, none⟩) K c) X → W.cell? ⟨b, off + i * 3, none⟩ = some (.int .u32 ph) ∧ W.cell? ⟨b, off + i * 3 + 1, none⟩ = some (.int .u64 cp) ∧ W.cell? ⟨b, off + i * 3 + 2, none⟩ = some (.int .u64 0)) := fun W b off c h => by
      have := h.get hK (k := i) (by omega)
      rw [htx, if_pos rfl] at this
      exact this
    have HXM : Hid (∀ (W : World) (a : Option Addr) (b off c cap k : Nat), Trs W (.slice (some ⟨b, off, none⟩) K c) X → Trs W (.slice a N cap) M → k < N → ¬ k = i → ∃ b2 o2, a = some ⟨b2, o2, none⟩ ∧ (W.cell? ⟨b, off + k * 3, none⟩ = some (.int .u32 (tr M k).phys) ∧ W.cell? ⟨b, off + k * 3 + 1, none⟩ = some (.int .u64 (tr M k).start) ∧ W.cell? ⟨b, off + k * 3 + 2, none⟩ = some (.int .u64 (tr M k).fin)) ∧
        (W.cell? ⟨b2, o2 + k * 3, none⟩ = some (.int .u32 (tr M k).phys) ∧ W.cell? ⟨b2, o2 + k * 3 + 1, none⟩ = some (.int .u64 (tr M k).start) ∧ W.cell? ⟨b2, o2 + k * 3 + 2, none⟩ = some (.int .u64 (tr M k).fin))) := fun W a b off c cap k h1 h2 hk hki => by
      have g := h1.get hK (k := k) (by omega)
      rw [htx, if_neg hki] at g
      obtain ⟨b2, o2, c2, e, g2⟩ := h2.at (k := k) (by omega)
      cases e
      exact ⟨b2, o2, rfl, g, g2⟩
    have hwi : IntKind.i64.wrap (i : Int) = (i : Int) := by rw [IntKind.wrap_i64]; omega
    have hwn : IntKind.i64.wrap ((N : Int) + 1) = (N : Int) + 1 := by rw [IntKind.wrap_i64]; omega
    have d1 : (1 : Int) ≤ (i : Int) := by omega
    have d2 : (i : Int) < (K : Int) := by omega
    have d3 : (N : Int) ≤ (K : Int) := by omega
    have d4 : (K : Int) ≤ (N : Int) + 1 := by omega
    have d5 : i < K := by omega
    have d1' : decide ((i : Int) < 1) = false := decide_eq_false (by omega)
    have d2' : decide ((K : Int) ≤ (i : Int)) = false := decide_eq_false (by omega)
    have d3' : decide ((K : Int) < (N : Int)) = false := decide_eq_false (by omega)
    have d4' : decide ((N : Int) + 1 < (K : Int)) = false := decide_eq_false (by omega)
    have d2n : decide (K ≤ i) = false := decide_eq_false (by omega)
    have d3n : decide (K < N) = false := decide_eq_false (by omega)
    have hei : hasP X i := ⟨by omega, by unfold usedP; rw [htx, if_pos rfl]; exact hsta.not_zero⟩
    have heT : endT X i en = if en = cp then T.zero else ⟨ph, cp, en⟩ := by unfold endT; rw [htx, if_pos rfl]
    by_cases hoe : endOk X i en
    · obtain ⟨Y, hY⟩ : ∃ Y, X.set i (endT X i en) = Y := ⟨_, rfl⟩
      have HEnd := Lib.hid (fun v W h => end_at X Y i en K hoe hY hK (by omega) v W h)
      obtain ⟨u, hu⟩ : ∃ u, endT X i en = u := ⟨_, rfl⟩
      have hYi : tr Y i = u := by rw [← hY, tr_set _ (by omega), if_pos rfl, hu]
      have hYl : Y.length = K := by rw [← hY, List.length_set, hK]
      have hlive := lives_end hsta hoe.2.2.2.1 at_
      rw [← heT, hu] at hlive
      have HYi : Hid (∀ (W : World) (b off c : Nat), Trs W (.slice (some ⟨b, off, none⟩) K c) Y → W.cell? ⟨b, off + i * 3, none⟩ = some (.int .u32 u.phys) ∧ W.cell? ⟨b, off + i * 3 + 1, none⟩ = some (.int .u64 u.start) ∧ W.cell? ⟨b, off + i * 3 + 2, none⟩ = some (.int .u64 u.fin)) := fun W b off c h => by
        have := h.get hYl (k := i) (by omega)
        rw [hYi] at this
        exact this
      have hlv2 : ∀ v W, Cps W v [at_] → Calls Try.prog 22 #[.agg #[.int .u32 u.phys, .int .u64 u.start, .int .u64 u.fin], v] W (Ans W (.bool (decide ((cp : Int) ≤ at_) && decide (at_ < (en : Int))))) := fun v W h => by
        have := lives_any u v [at_] W h
        rw [hlive] at this
        exact this
      have HC : Hid (∀ W : World, Cps (W.alloc (.cells #[.int .u64 at_] 24)) (.slice (some ⟨W.heap.size, 0, none⟩) 1 1) [at_]) := fun W => cps_new W [at_] #[.int .u64 at_] rfl (by show 1 ≤ maxLen; unfold maxLen; omega)
      have HCb := Lib.hid (fun (W : World) => below_new W (.cells #[.int .u64 at_] 24))
      have hq : ∀ (W : World) (s : T), (binOp .neq 40 (.agg #[.int .u32 s.phys, .int .u64 s.start, .int .u64 s.fin]) (.agg #[.int .u32 s.phys, .int .u64 s.start, .int .u64 s.fin])).run Try.prog W = .ok (.bool false) W := fun W s => by
        have := neqT s s W
        rw [decide_eq_true rfl] at this
        exact this
      have HQ := Lib.hid hq
      obtain ⟨x1, hx1⟩ : ∃ x, decide ((cp : Int) ≤ at_) = x := ⟨_, rfl⟩
      obtain ⟨x2, hx2⟩ : ∃ x, decide (at_ < (en : Int)) = x := ⟨_, rfl⟩
      rw [hx1, hx2] at hlv2
      have HLv2 := Lib.hid hlv2
      clear hL hb hi hlow hX hK hKl hN2 htx hsta hlv hei heT hoe hY hu hYi hYl hlive hlv2 hq hN d5
      obtain ⟨W0, rfl⟩ : ∃ W0 : World, W0 = w := ⟨_, rfl⟩
      go_enter Try.func6, Try.ntmps6
      go_wp2_with (first
        | (go_at_call 9; (with_reducible refine Calls.mono (shown_any _) ?_); rintro e w1 ⟨rfl, hB1⟩; have HL1 := Lib.hid (HL.out.below hB1))
        | (go_at_call 10; (with_reducible refine Calls.mono (HCut.out _ HL1.out) ?_); rintro e w2 ⟨a, cap, rfl, HT, hc1, hc2, rfl⟩)
        | (go_at_call 11; (with_reducible refine Calls.mono (HBeg.out _ _ HT.out) ?_); rintro e w3 ⟨b, off, c, rfl, HT3, hc3, hc4, hB3⟩; have HM3 := Lib.hid (HT.out.below hB3); have HB3 := Lib.hid (below_th hB1 hB3); obtain ⟨z0, z1, z2⟩ := HXi.out _ _ _ _ HT3.out; clear hB3)
        | (go_at_call 22; (with_reducible refine Calls.mono (HLv.out _) ?_); rintro e w4 ⟨rfl, hB4⟩; have HT4 := Lib.hid (HT3.out.below hB4); have HM4 := Lib.hid (HM3.out.below hB4); have HB4 := Lib.hid (below_th HB3.out hB4); clear hB4 z0 z1 z2))
      go_loopw [16] (fun j wr => ∃ k : Nat, k ≤ N ∧ j = .int .i64 (k : Int) ∧ Hid (Below w4.heap.size w4 wr)) (fun j _ => N - (intOf j).toNat)
      case atStart => exact ⟨0, by omega, rfl, Below.refl _ _⟩
      case round =>
        obtain ⟨k, hk, rfl, HBk⟩ := hrel
        by_cases hlt : k < N
        · by_cases hki : k = i
          · have hqi : ((k : Int) != (i : Int)) = false := by simp [hki]
            clear hki
            go_wp2
            go_quiet (fail)
            go_wp2
            go_roundw
            case rel => exact ⟨k + 1, by omega, by go_num, below_drewN HBk.out _⟩
            case measure => simp [intOf]; omega
          · have hqi : ((k : Int) != (i : Int)) = true := by simp; omega
            obtain ⟨b2, o2, rfl, ⟨y0, y1, y2⟩, x0, x1, x2⟩ := HXM.out wr a b off c cap k (HT4.out.below HBk.out) (HM4.out.below HBk.out) hlt hki
            have hqq := fun W => HQ.out W (tr M k)
            have hkK : k < K := by omega
            clear hki
            go_wp2
            go_quiet (fail)
            go_wp2
            go_roundw
            case rel => exact ⟨k + 1, by omega, by go_num, below_drewN HBk.out _⟩
            case measure => simp [intOf]; omega
        · obtain rfl : k = N := by omega
          have HT5 := Lib.hid (HT4.out.below HBk.out)
          have HB5 := Lib.hid (below_th HB4.out HBk.out)
          have d5 : i < K := by omega
          cases x1 with
          | true =>
            cases x2 with
            | true =>
              go_wp2_with (first
                | (go_at_call 18; (with_reducible refine Calls.mono (HEnd.out _ _ HT5.out) ?_); rintro e w5 ⟨b5, o5, c5, rfl, HT6, hc5, hc6, hB5⟩; have HB6 := Lib.hid (below_th HB5.out hB5); obtain ⟨y0, y1, y2⟩ := HYi.out _ _ _ _ HT6.out; have hC := HC.out w5; clear hB5)
                | (go_at_call 22; (with_reducible refine Calls.mono (HLv2.out _ _ hC) ?_); rintro e w6 ⟨rfl, hB6⟩))
              go_ret
              exact ⟨rfl, below_th HB6.out (below_th (HCb.out w5) hB6)⟩
            | false =>
              go_wp2_with (first
                | (go_at_call 18; (with_reducible refine Calls.mono (HEnd.out _ _ HT5.out) ?_); rintro e w5 ⟨b5, o5, c5, rfl, HT6, hc5, hc6, hB5⟩; have HB6 := Lib.hid (below_th HB5.out hB5); obtain ⟨y0, y1, y2⟩ := HYi.out _ _ _ _ HT6.out; have hC := HC.out w5; clear hB5)
                | (go_at_call 22; (with_reducible refine Calls.mono (HLv2.out _ _ hC) ?_); rintro e w6 ⟨rfl, hB6⟩))
              go_ret
              exact ⟨rfl, below_th HB6.out (below_th (HCb.out w5) hB6)⟩
          | false =>
            go_wp2_with (first
              | (go_at_call 18; (with_reducible refine Calls.mono (HEnd.out _ _ HT5.out) ?_); rintro e w5 ⟨b5, o5, c5, rfl, HT6, hc5, hc6, hB5⟩; have HB6 := Lib.hid (below_th HB5.out hB5); obtain ⟨y0, y1, y2⟩ := HYi.out _ _ _ _ HT6.out; have hC := HC.out w5; clear hB5)
              | (go_at_call 22; (with_reducible refine Calls.mono (HLv2.out _ _ hC) ?_); rintro e w6 ⟨rfl, hB6⟩))
            go_ret
            exact ⟨rfl, below_th HB6.out (below_th (HCb.out w5) hB6)⟩
    · have hne : ((endE X i en) != 0) = true := by simp; exact fun h => hoe (endE_ok.1 h)
      have hend : ∀ v W, Trs W v X → Calls Try.prog 18 #[v, .int .u32 i, .int .u64 en] W fun e w' => ∃ v', e = .returned (.tuple #[v', .int .i64 (endE X i en)]) ∧ Below W.heap.size W w' := fun v W h => by
        refine (end_any v X i en W h (by omega)).mono ?_
        rintro e w' ⟨v', rfl, _, h2⟩
        exact ⟨v', rfl, h2⟩
      obtain ⟨n, hn⟩ : ∃ n, endE X i en = n := ⟨_, rfl⟩
      rw [hn] at hne
      simp only [hn] at hend
      have HEnd := Lib.hid hend
      have hq : ∀ (W : World) (s : T), (binOp .neq 40 (.agg #[.int .u32 s.phys, .int .u64 s.start, .int .u64 s.fin]) (.agg #[.int .u32 s.phys, .int .u64 s.start, .int .u64 s.fin])).run Try.prog W = .ok (.bool false) W := fun W s => by
        have := neqT s s W
        rw [decide_eq_true rfl] at this
        exact this
      have HQ := Lib.hid hq
      clear hL hb hi hlow hX hK hKl hN2 htx hsta hlv hei heT hoe hq hN d5 hn hend
      obtain ⟨W0, rfl⟩ : ∃ W0 : World, W0 = w := ⟨_, rfl⟩
      go_enter Try.func6, Try.ntmps6
      go_wp2_with (first
        | (go_at_call 9; (with_reducible refine Calls.mono (shown_any _) ?_); rintro e w1 ⟨rfl, hB1⟩; have HL1 := Lib.hid (HL.out.below hB1))
        | (go_at_call 10; (with_reducible refine Calls.mono (HCut.out _ HL1.out) ?_); rintro e w2 ⟨a, cap, rfl, HT, hc1, hc2, rfl⟩)
        | (go_at_call 11; (with_reducible refine Calls.mono (HBeg.out _ _ HT.out) ?_); rintro e w3 ⟨b, off, c, rfl, HT3, hc3, hc4, hB3⟩; have HM3 := Lib.hid (HT.out.below hB3); have HB3 := Lib.hid (below_th hB1 hB3); obtain ⟨z0, z1, z2⟩ := HXi.out _ _ _ _ HT3.out; clear hB3)
        | (go_at_call 22; (with_reducible refine Calls.mono (HLv.out _) ?_); rintro e w4 ⟨rfl, hB4⟩; have HT4 := Lib.hid (HT3.out.below hB4); have HM4 := Lib.hid (HM3.out.below hB4); have HB4 := Lib.hid (below_th HB3.out hB4); clear hB4 z0 z1 z2))
      go_loopw [16] (fun j wr => ∃ k : Nat, k ≤ N ∧ j = .int .i64 (k : Int) ∧ Hid (Below w4.heap.size w4 wr)) (fun j _ => N - (intOf j).toNat)
      case atStart => exact ⟨0, by omega, rfl, Below.refl _ _⟩
      case round =>
        obtain ⟨k, hk, rfl, HBk⟩ := hrel
        by_cases hlt : k < N
        · by_cases hki : k = i
          · have hqi : ((k : Int) != (i : Int)) = false := by simp [hki]
            clear hki
            go_wp2
            go_quiet (fail)
            go_wp2
            go_roundw
            case rel => exact ⟨k + 1, by omega, by go_num, below_drewN HBk.out _⟩
            case measure => simp [intOf]; omega
          · have hqi : ((k : Int) != (i : Int)) = true := by simp; omega
            obtain ⟨b2, o2, rfl, ⟨y0, y1, y2⟩, x0, x1, x2⟩ := HXM.out wr a b off c cap k (HT4.out.below HBk.out) (HM4.out.below HBk.out) hlt hki
            have hqq := fun W => HQ.out W (tr M k)
            have hkK : k < K := by omega
            clear hki
            go_wp2
            go_quiet (fail)
            go_wp2
            go_roundw
            case rel => exact ⟨k + 1, by omega, by go_num, below_drewN HBk.out _⟩
            case measure => simp [intOf]; omega
        · obtain rfl : k = N := by omega
          have HT5 := Lib.hid (HT4.out.below HBk.out)
          have HB5 := Lib.hid (below_th HB4.out HBk.out)
          go_wp2_with (go_at_call 18; (with_reducible refine Calls.mono (HEnd.out _ _ HT5.out) ?_); rintro e w5 ⟨v5, rfl, hB5⟩)
          go_ret
          exact ⟨rfl, below_th HB5.out hB5⟩
  · have hne : ((begE M ph cp) != 0) = true := by simp; exact fun h => hb (begE_ok.1 h)
    have hbeg : ∀ v W, Trs W v M → Calls Try.prog 11 #[v, .int .u32 ph, .int .u64 cp] W fun e w' => ∃ v' i, e = .returned (.tuple #[v', .int .u32 i, .int .i64 (begE M ph cp)]) ∧ Below W.heap.size W w' := fun v W h => by
      refine (begin_any v M ph cp W h).mono ?_
      rintro e w' ⟨v', rfl, _, h2⟩
      exact ⟨v', _, rfl, h2⟩
    obtain ⟨n, hn⟩ : ∃ n, begE M ph cp = n := ⟨_, rfl⟩
    rw [hn] at hne
    simp only [hn] at hbeg
    have HBeg := Lib.hid hbeg
    clear hL hb hN hn hbeg
    obtain ⟨W0, rfl⟩ : ∃ W0 : World, W0 = w := ⟨_, rfl⟩
    go_enter Try.func6, Try.ntmps6
    go_wp2_with (first
      | (go_at_call 9; (with_reducible refine Calls.mono (shown_any _) ?_); rintro e w1 ⟨rfl, hB1⟩; have HL1 := Lib.hid (HL.out.below hB1))
      | (go_at_call 10; (with_reducible refine Calls.mono (HCut.out _ HL1.out) ?_); rintro e w2 ⟨a, cap, rfl, HT, hc1, hc2, rfl⟩)
      | (go_at_call 11; (with_reducible refine Calls.mono (HBeg.out _ _ HT.out) ?_); rintro e w3 ⟨v3, i3, rfl, hB3⟩))
    go_ret
    exact ⟨rfl, below_th hB1 hB3⟩
end
end Go.Proofs.Ythfcjbfldokanaa.Dat
