/- The walk of RingWraps: it answers true. -/
import Derived.Deep.RegionWith
import Derived.Test.YtkpkpofeffegfaaRingDo
namespace Go.Proofs.Ytkpkpofeffegfaa
open Go.RowKit Go.Shelf
open I (IsQ)
set_option linter.unusedVariables false

set_option maxRecDepth 100000 in
set_option maxHeartbeats 4000000 in
theorem RingWraps_walk (a0 : Int) (v : Value) (L : List Int) (a2 : Int) (w : World) (w0 : (Lit.int .i64 a0).wf = true) (hL : Lies w v L.length 1 (L.map (.int .i64))) (wL : ∀ n ∈ L, (Lit.int .i64 n).wf = true) (w2' : (Lit.int .i64 a2).wf = true) :
    Calls Try.prog 6 #[.int .i64 a0, v, .int .i64 a2] w fun e w' => e = .returned (.bool true) ∧ Below w.heap.size w w' := by
  obtain ⟨a, cap, rfl, hn, hm, hlen, hcells⟩ := hL
  have hm0 := hm.1
  unfold maxLen at hm0
  obtain ⟨K, hK⟩ : ∃ K, min L.length 500 = K := ⟨_, rfl⟩
  have hLL : Lies w (.slice a K cap) K 1 (I.valsOf (L.take K)) := ⟨a, cap, rfl, by omega, ⟨by unfold maxLen; omega, hm.2⟩, by simp [I.valsOf]; omega, fun hp => by
    obtain ⟨b, off, e, hc⟩ := hcells (by omega)
    refine ⟨b, off, e, fun j u hj => hc j u ?_⟩
    unfold I.valsOf at hj
    rw [List.map_take, List.getElem?_take] at hj
    split at hj
    · exact hj
    · cases hj⟩
  clear hcells hlen
  by_cases hr : 1 ≤ a0 ∧ a0 ≤ 1024
  · obtain ⟨size, rfl⟩ := Int.eq_ofNat_of_zero_le (show 0 ≤ a0 by omega)
    have hs1 : 1 ≤ size := by omega
    have hs2 : size ≤ 1024 := by omega
    have d1 : ¬ ((size : Int) < 1) := by omega
    have d2 : ¬ ((1024 : Int) < (size : Int)) := by omega
    by_cases hmany : 1 ≤ a2 ∧ a2 ≤ size
    · obtain ⟨many, rfl⟩ := Int.eq_ofNat_of_zero_le (show 0 ≤ a2 by omega)
      have e1 : ¬ ((many : Int) < 1) := by omega
      have e2 : ¬ ((size : Int) < (many : Int)) := by omega
      clear w0 w2'
      go_enter Try.func6, Try.ntmps6
      go_wp2_with (first
        | (go_at_call 8; refine (shown_any _).mono ?_; rintro e w1 ⟨rfl, hB1⟩)
        | (go_at_call 9; refine (I.new_q size _ hs1 hs2).mono ?_; rintro e w2 ⟨rfl, hq0, hB2, _⟩))
      case' inl => rw [show (500 : Nat) = K by omega]
      case' inr => rw [show L.length = K by omega]
      all_goals
        have hLL2 := (hLL.below hB1).below hB2
        have HB2 : Below w.heap.size w w2 := hB1.trans (hB2.mono hB1.size)
        obtain ⟨L', hL'⟩ : ∃ L', L.take K = L' := ⟨_, rfl⟩
        have hl' : L'.length = K := by rw [← hL']; simp; omega
        rw [hL'] at hLL2
        have hsz1 := hB1.size
        have HLL2 := Lib.hid hLL2
        have HQ0 := Lib.hid hq0
        clear hLL hB1 hB2 hL' hLL2 hq0
        go_loopw [9, 10] (fun t i wr => ∃ (k j : Nat), k ≤ K ∧ j ≤ k ∧ k - j ≤ many ∧ i = .int .i64 k ∧ t = .int .i64 j ∧ Hid (IsQ wr (w1.heap.size + 1) w1.heap.size size ((L'.take k).drop j)) ∧ Below w.heap.size w wr ∧ Hid (Lies wr (.slice a K cap) K 1 (I.valsOf L')))
          (fun _ i _ => K - (intOf i).toNat)
        case atStart => exact ⟨0, 0, Nat.zero_le _, Nat.zero_le _, Nat.zero_le _, rfl, rfl, HQ0, HB2, HLL2⟩
        case round =>
          obtain ⟨k, j, hk, hj, hkj, rfl, rfl, hq, hB, hLr⟩ := hrel
          clear HQ0 HLL2 HB2
          have hlen : ((L'.take k).drop j).length = k - j := by simp; omega
          by_cases hlt : k < K
          · obtain ⟨x, hx⟩ : ∃ x, L'[k]? = some x := ⟨L'[k]'(by omega), by simp⟩
            obtain ⟨b, off, rfl, hc⟩ := hLr.out.read (j := k) (u := .int .i64 x) (by unfold I.valsOf; rw [List.getElem?_map, hx]; rfl)
            have hap : ∀ i, i ≤ k → (L'.take k).drop i ++ [x] = (L'.take (k + 1)).drop i := fun i hi => by
              rw [List.take_add_one, hx, List.drop_append_of_le_length (by simp; omega)]
              rfl
            by_cases hkm : k - j = many
            · obtain ⟨y, hy⟩ : ∃ y, L'[j]? = some y := ⟨L'[j]'(by omega), by simp⟩
              obtain ⟨b', off', e', hc'⟩ := hLr.out.read (j := j) (u := .int .i64 y) (by unfold I.valsOf; rw [List.getElem?_map, hy]; rfl)
              cases e'
              have hcons : (L'.take k).drop j = y :: (L'.take k).drop (j + 1) := by
                rw [List.drop_eq_getElem_cons (by simp; omega)]
                congr 1
                rw [List.getElem_take]
                rw [List.getElem?_eq_getElem (by omega)] at hy
                exact Option.some.inj hy
              have hlen2 : ((L'.take k).drop (j + 1)).length < size := by simp; omega
              have hLen : ∀ W, IsQ W (w1.heap.size + 1) w1.heap.size size ((L'.take k).drop j) → Calls Try.prog 11 #[.pointer (some ⟨w1.heap.size + 1, 0, none⟩)] W fun e w' => e = .returned (.int .i64 many) ∧ W = w' := fun W h => by
                have := I.len_q _ _ _ _ W h
                rw [hlen, hkm] at this
                exact this
              have hq2 := hq.out
              rw [hcons] at hq2
              have HAP := Lib.hid (hap (j + 1) (by omega))
              have hcg : ∀ W, wr.grownBy W (some w1.heap.size) → W.cell? ⟨b, off + j, none⟩ = some (.int .i64 y) ∧ W.cell? ⟨b, off + k, none⟩ = some (.int .i64 x) := fun W hg =>
                ⟨hg.cell hc' (fun e => by obtain ⟨cs, t, f, hh⟩ := cell_block hc'; exact IsQ.chan_only hq.out _ e.symm cs t f hh), hg.cell hc (fun e => by obtain ⟨cs, t, f, hh⟩ := cell_block hc; exact IsQ.chan_only hq.out _ e.symm cs t f hh)⟩
              have HCG := Lib.hid hcg
              have HLN := Lib.hid hLen
              clear hcons hap hy hx hcg hLen hlen
              go_wp2_with (first
                | (go_at_call 11; refine (HLN.out _ hq.out).mono ?_; rintro e w3 ⟨rfl, rfl⟩)
                | (go_at_call 17; refine (I.take_cons _ _ _ y _ _ hq2).mono ?_; rintro e w4 ⟨rfl, hq4, hg4⟩; obtain ⟨g1, g2⟩ := HCG.out _ hg4)
                | (go_at_call 18; refine (I.put_yes _ _ _ _ x _ hq4 hlen2).mono ?_; rintro e w5 ⟨rfl, hq5, hg5⟩))
              rw [HAP.out] at hq5
              have hg := I.gtrans hg4 hg5
              have hB5 : Below w.heap.size w w5 := hB.grown hg hB.size (fun k e => by cases e; exact hsz1)
              have hL5 : Hid (Lies w5 (.slice (some ⟨b, off, none⟩) K cap) K 1 (I.valsOf L')) := hLr.out.grown hg (IsQ.chan_only hq.out)
              clear hq hLr hB hg hg4 hg5 hq4 hq2 hc hc' HCG HLN HAP
              go_roundw
              case rel => exact ⟨k + 1, j + 1, by omega, by omega, by omega, by go_num, by go_num, hq5, hB5, hL5⟩
              case measure => simp [intOf]; omega
            · obtain ⟨d, hd⟩ : ∃ d, k - j = d := ⟨_, rfl⟩
              have hLen : ∀ W, IsQ W (w1.heap.size + 1) w1.heap.size size ((L'.take k).drop j) → Calls Try.prog 11 #[.pointer (some ⟨w1.heap.size + 1, 0, none⟩)] W fun e w' => e = .returned (.int .i64 d) ∧ W = w' := fun W h => by
                have := I.len_q _ _ _ _ W h
                rw [hlen, hd] at this
                exact this
              have hlen2 : ((L'.take k).drop j).length < size := by rw [hlen]; omega
              have hdm : ((d : Int) == (many : Int)) = false := by simp; omega
              have HAP := Lib.hid (hap j hj)
              have HLN := Lib.hid hLen
              clear hap hx hLen hlen
              go_wp2_with (first
                | (go_at_call 11; refine (HLN.out _ hq.out).mono ?_; rintro e w3 ⟨rfl, rfl⟩)
                | (go_at_call 18; refine (I.put_yes _ _ _ _ x _ hq.out hlen2).mono ?_; rintro e w5 ⟨rfl, hq5, hg5⟩))
              rw [HAP.out] at hq5
              have hB5 : Below w.heap.size w w5 := hB.grown hg5 hB.size (fun k e => by cases e; exact hsz1)
              have hL5 : Hid (Lies w5 (.slice (some ⟨b, off, none⟩) K cap) K 1 (I.valsOf L')) := hLr.out.grown hg5 (IsQ.chan_only hq.out)
              clear hq hLr hB hg5 hc HLN HAP
              go_roundw
              case rel => exact ⟨k + 1, j, by omega, by omega, by omega, by go_num, rfl, hq5, hB5, hL5⟩
              case measure => simp [intOf]; omega
          · obtain rfl : k = K := by omega
            rw [List.take_of_length_le (by omega)] at hq hlen
            obtain ⟨a', hrun, hL'⟩ := slice_tail (P := Try.prog) Try.underlying26 (fun w => by kernel_rfl) a k cap j hj (by omega)
            have hqd : IsQ wr.drew (w1.heap.size + 1) w1.heap.size size (L'.drop j) := ⟨hq.out.queue, hq.out.chan, hq.out.fits, hq.out.most⟩
            have hLd : Lies wr.drew (.slice a k cap) k 1 (I.valsOf L') := hLr.out.drew
            have hBd : Below w.heap.size w wr.drew := below_drew hB
            have hS : ∀ (v4 : Value) (W4 : World), W4.ownsRow wr.drew.heap.size 2 1 v4 (L'.drop j).length (I.valsOf (L'.drop j)) → wr.drew.grownBy W4 (some w1.heap.size) → Calls Try.prog 20 #[v4, .slice a' (k - j) (cap - j)] W4 fun e w' => e = .returned (.bool true) ∧ Below w.heap.size w w' := fun v4 W4 ho hg => by
              have h1 := hL' W4 _ (hLd.grown hg (IsQ.chan_only hqd))
              have h2 : (I.valsOf L').drop j = I.valsOf (L'.drop j) := by unfold I.valsOf; rw [List.map_drop]
              rw [h2, ← hlen] at h1
              have h3 : Below w.heap.size w W4 := hBd.grown hg hBd.size (fun k e => by cases e; exact hsz1)
              rw [← hlen]
              exact (same_ref _ _ _ W4 (Lies.own ho) h1).mono fun e w' ⟨he, hb⟩ => ⟨he, h3.trans (hb.mono h3.size)⟩
            have HS := Lib.hid hS
            have HQD := Lib.hid hqd
            clear hS hqd hLd hBd hL' hLr hq hB hlen
            go_wp2
            go_region_with (first
              | (go_at_call 19; refine (I.drain_q _ _ _ _ _ HQD.out).mono ?_; rintro e w4 ⟨vo, rfl, hown, hq4, hg4⟩)
              | (go_at_call 20; refine (HS.out _ _ hown hg4).mono ?_; rintro e w5 ⟨rfl, hB5⟩))
            all_goals
              go_wp2
              go_ret
              exact ⟨rfl, hB5⟩
    · clear w0 w2'
      by_cases e1 : a2 < 1
      all_goals
        have e2 : ¬ (a2 < 1) → (size : Int) < a2 := fun h => by omega
        go_enter Try.func6, Try.ntmps6
        go_wp2_with (first
          | (go_at_call 8; refine (shown_any _).mono ?_; rintro e w1 ⟨rfl, hB1⟩)
          | (go_at_call 9; refine (I.new_q size _ hs1 hs2).mono ?_; rintro e w2 ⟨rfl, hq0, hB2, _⟩))
        all_goals
          go_ret
          exact ⟨rfl, hB1.trans (hB2.mono hB1.size)⟩
  · have hno : a0 < 1 ∨ 1024 < a0 := by omega
    clear w0 w2'
    by_cases h1 : a0 < 1
    all_goals
      go_enter Try.func6, Try.ntmps6
      go_wp2_with (first
        | (go_at_call 8; refine (shown_any _).mono ?_; rintro e w1 ⟨rfl, hB1⟩)
        | (go_at_call 9; refine (I.new_not a0 _ hno).mono ?_; rintro e w2 ⟨rfl, rfl⟩))
      all_goals
        go_ret
        exact ⟨rfl, hB1⟩
end Go.Proofs.Ytkpkpofeffegfaa
