/- The walk of RingOrder: it answers true. -/
import Derived.Test.YtkpkpofeffegfaaRingShown
import Derived.Test.YtkpkpofeffegfaaRingQS
import Derived.Test.YtkpkpofeffegfaaRow
namespace Go.Proofs.Ytkpkpofeffegfaa
open Go.RowKit Go.Shelf
set_option linter.unusedVariables false

set_option maxRecDepth 100000 in
set_option maxHeartbeats 1000000 in
theorem RingOrder_walk (a0 : Int) (v : Value) (L : List ByteArray) (w : World) (w0 : (Lit.int .i64 a0).wf = true) (hL : Lies w v L.length 1 (L.map .string)) (wL : ∀ s ∈ L, s.size ≤ maxLen) :
    Calls Try.prog 4 #[.int .i64 a0, v] w fun e w' => e = .returned (.bool true) ∧ Below w.heap.size w w' := by
  obtain ⟨a, cap, rfl, hn, hm, hlen, hcells⟩ := hL
  unfold maxLen at hm
  obtain ⟨K, hK⟩ : ∃ K, min L.length 2000 = K := ⟨_, rfl⟩
  have hLL : Lies w (.slice a K cap) K 1 ((L.take K).map .string) := ⟨a, cap, rfl, by omega, by unfold maxLen; omega, by simp; omega, fun hp => by
    obtain ⟨b, off, e, hc⟩ := hcells (by omega)
    refine ⟨b, off, e, fun j u hj => hc j u ?_⟩
    rw [List.map_take, List.getElem?_take] at hj
    split at hj
    · exact hj
    · cases hj⟩
  clear hcells hlen
  by_cases hr : 1 ≤ a0 ∧ a0 ≤ 1024
  · obtain ⟨size, rfl⟩ := Int.eq_ofNat_of_zero_le (show 0 ≤ a0 by omega)
    have hs1 : 1 ≤ size := by omega
    have hs2 : size ≤ 1024 := by omega
    have d1 : ¬ ((size : Int) < 1) := by omega
    have d2 : ¬ ((1024 : Int) < (size : Int)) := by omega
    go_enter Try.func4, Try.ntmps4
    go_wp2_with (first
      | (go_at_call 8; refine (shown_any _).mono ?_; rintro e w1 ⟨rfl, hB1⟩)
      | (go_at_call 13; refine (S.new_q size _ hs1 hs2).mono ?_; rintro e w2 ⟨rfl, hq0, hB2, _⟩))
    case' inl => rw [show (2000 : Nat) = K by omega]
    case' inr => rw [show L.length = K by omega]
    all_goals
      have hLL2 := (hLL.below hB1)
      have hLL2 := hLL2.below hB2
      have HB2 : Below w.heap.size w w2 := hB1.trans (hB2.mono hB1.size)
      obtain ⟨L', hL'⟩ : ∃ L', L.take K = L' := ⟨_, rfl⟩
      have hl' : L'.length = K := by rw [← hL']; simp; omega
      rw [hL'] at hLL2
      have hsz1 := hB1.size
      clear hLL hB1 hB2 hL' w0
      go_loopw [7] (fun i wr => ∃ k : Nat, k ≤ K ∧ i = .int .i64 k ∧ S.IsQ wr (w1.heap.size + 1) w1.heap.size size (L'.take (min k size)) ∧ Below w.heap.size w wr ∧ Lies wr (.slice a K cap) K 1 (L'.map .string))
        (fun i _ => K - (intOf i).toNat)
      case atStart => exact ⟨0, Nat.zero_le _, rfl, by rw [Nat.zero_min]; exact hq0, HB2, hLL2⟩
      case round =>
        obtain ⟨k, hk, rfl, hq, hB, hLr⟩ := hrel
        by_cases hlt : k < K
        · obtain ⟨_, _, h1, _, _, _, h5⟩ := hLr
          cases h1
          obtain ⟨b, off, rfl, hc⟩ := h5 (by omega)
          obtain ⟨x, hx⟩ : ∃ x, L'[k]? = some x := ⟨L'[k], by simp⟩
          have hcell := hc k (.string x) (by rw [List.getElem?_map, hx]; rfl)
          have hLr : Lies wr (.slice (some ⟨b, off, none⟩) K cap) K 1 (L'.map .string) := ⟨_, cap, rfl, by omega, by unfold maxLen; omega, by simp [hl'], fun _ => ⟨b, off, rfl, hc⟩⟩
          have HLR := Lib.hid hLr
          clear hc h5 hLL2 hLr
          have hgo : ∀ wn : World, wr.grownBy wn (some w1.heap.size) → Below w.heap.size w wn ∧ Lies wn (.slice (some ⟨b, off, none⟩) K cap) K 1 (L'.map .string) := fun wn hg =>
            ⟨hB.grown hg hB.size (fun k e => by cases e; exact hsz1), HLR.out.grown hg (fun k e c t f hh => by
              cases e
              obtain ⟨_, _, _, hcc, _⟩ := hq.chan
              rw [hcc] at hh; cases hh)⟩
          by_cases hks : k < size
          · have hd : decide ((k : Int) < (size : Int)) = true := decide_eq_true (by omega)
            rw [Nat.min_eq_left (by omega)] at hq
            have hap : L'.take k ++ [x] = L'.take (min (k + 1) size) := by
              rw [Nat.min_eq_left (by omega), List.take_add_one, hx]
              rfl
            have HAP := Lib.hid hap
            have HGO := Lib.hid hgo
            clear hap hgo hx
            go_wp2_with (go_at_call 14; refine (S.put_yes _ _ _ (L'.take k) x _ hq (by simp; omega)).mono ?_; rintro e w3 ⟨rfl, hq3, hg3⟩)
            rw [HAP.out] at hq3
            have hgo3 := HGO.out w3 hg3
            clear HGO HAP hg3
            go_roundw
            case rel => exact ⟨k + 1, by omega, by go_num, hq3, hgo3.1, hgo3.2⟩
            case measure => simp [intOf]; omega
          · have hd : decide ((k : Int) < (size : Int)) = false := decide_eq_false (by omega)
            rw [Nat.min_eq_right (by omega)] at hq
            have HGO := Lib.hid hgo
            clear hgo hx
            go_wp2_with (go_at_call 14; refine (S.put_no _ _ _ (L'.take size) x _ hq (by simp; omega)).mono ?_; rintro e w3 ⟨rfl, hq3, hg3⟩)
            have hgo3 := HGO.out w3 hg3
            clear HGO hg3
            go_roundw
            case rel => exact ⟨k + 1, by omega, by go_num, by rw [Nat.min_eq_right (by omega)]; exact hq3, hgo3.1, hgo3.2⟩
            case measure => simp [intOf]; omega
        · obtain rfl : k = K := by omega
          obtain ⟨M, hM⟩ : ∃ M, min k size = M := ⟨_, rfl⟩
          rw [hM] at hq
          have hml : (L'.take M).length = M := by simp; omega
          go_wp2_with (first
            | (go_at_call 15; refine (S.drain_q _ _ _ _ _ hq).mono ?_; rintro e w4 ⟨vo, rfl, hown, hq4, hg4⟩; rw [hml] at hown; obtain ⟨ao, co, rfl, hO, hO2, hO3⟩ := lies_own hown)
            | (go_at_call 16; refine (S.len_0 _ _ _ _ hq4).mono ?_; rintro e w5 ⟨rfl, rfl⟩))
          all_goals
            have hB4 : Below w.heap.size w w4 := hB.grown hg4 hB.size (fun k e => by cases e; exact hsz1)
            have hL4 : Lies w4 (.slice a k cap) k 1 (L'.map .string) := hLr.grown hg4 (fun k e c t f hh => by
              cases e
              obtain ⟨_, _, _, hcc, _⟩ := hq.chan
              rw [hcc] at hh; cases hh)
            have hO4 := hO.out
            clear hown hO hLr hB hq hq4 hg4 hLL2 hq0 HB2
            go_loopw [9] (fun i wr => ∃ j : Nat, j ≤ M ∧ i = .int .i64 j ∧ Below w.heap.size w wr ∧ Lies wr (.slice a k cap) k 1 (L'.map .string) ∧ Lies wr (.slice ao M co) M 1 (S.valsOf (L'.take M)))
              (fun i _ => M - (intOf i).toNat)
            case atStart => exact ⟨0, Nat.zero_le _, rfl, hB4, hL4, hO4⟩
            case round =>
              obtain ⟨j, hj, rfl, hB, hLr, hOr⟩ := hrel
              clear hB4 hL4 hO4
              by_cases hlt : j < M
              · obtain ⟨x, hx⟩ : ∃ x, L'[j]? = some x := ⟨L'[j]'(by omega), by simp⟩
                obtain ⟨b, off, rfl, hc⟩ := hLr.read (j := j) (u := .string x) (by rw [List.getElem?_map, hx]; rfl)
                obtain ⟨b2, off2, rfl, hc2⟩ := hOr.read (j := j) (u := .string x) (by unfold S.valsOf; rw [List.getElem?_map, List.getElem?_take, if_pos hlt, hx]; rfl)
                have HLR := Lib.hid hLr
                have HOR := Lib.hid hOr
                clear hLr hOr hx hLL2
                go_wp2
                go_region
                go_wp2
                go_roundw
                case rel => exact ⟨j + 1, by omega, by go_num, below_drew hB, HLR.out.drew, HOR.out.drew⟩
                case measure => simp [intOf]; omega
              · obtain rfl : j = M := by omega
                clear hLr hOr hLL2
                go_wp2
                go_ret
                exact ⟨rfl, hB⟩
  · have hno : a0 < 1 ∨ 1024 < a0 := by omega
    by_cases h1 : a0 < 1
    all_goals
      go_enter Try.func4, Try.ntmps4
      go_wp2_with (first
        | (go_at_call 8; refine (shown_any _).mono ?_; rintro e w1 ⟨rfl, hB1⟩)
        | (go_at_call 13; refine (S.new_not a0 _ hno).mono ?_; rintro e w2 ⟨rfl, rfl⟩))
      all_goals
        go_ret
        exact ⟨rfl, hB1⟩
end Go.Proofs.Ytkpkpofeffegfaa
