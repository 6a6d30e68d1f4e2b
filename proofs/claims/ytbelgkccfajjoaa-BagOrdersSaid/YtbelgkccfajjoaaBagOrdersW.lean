/- The walk of BagOrders: it answers true. -/
import Derived.Deep.RegionWith
import Derived.Test.YtbelgkccfajjoaaBagPkT
namespace Go.Proofs.Ytbelgkccfajjoaa
open Go.RowKit Go.Shelf
open I (BagOn)
set_option linter.unusedVariables false

theorem cut_lies {w : World} {a : Option Addr} {cap K : Nat} {L : List Int} (hL : Lies w (.slice a L.length cap) L.length 1 (L.map (.int .i64))) (hK : K ≤ L.length) (hn : L.length ≤ cap) : Lies w (.slice a K cap) K 1 (intsL (L.take K)) := by
  obtain ⟨a', cap', e, _, hm, hlen, hcells⟩ := hL
  cases e
  refine ⟨a, cap, rfl, by omega, hm, by simp [intsL]; omega, fun hp => ?_⟩
  obtain ⟨b, off, e, hc⟩ := hcells (by omega)
  refine ⟨b, off, e, fun j u hj => hc j u ?_⟩
  unfold intsL at hj
  rw [List.map_take, List.getElem?_take] at hj
  split at hj
  · exact hj
  · cases hj

set_option maxRecDepth 100000 in
set_option maxHeartbeats 16000000 in
theorem BagOrders_walk (v : Value) (L : List Int) (v2 : Value) (M : List Int) (w : World) (hL : Lies w v L.length 1 (L.map (.int .i64))) (wL : ∀ n ∈ L, (Lit.int .i64 n).wf = true) (hM : Lies w v2 M.length 1 (M.map (.int .i64))) (wM : ∀ n ∈ M, (Lit.int .i64 n).wf = true) :
    Calls Try.prog 4 #[v, v2] w fun e w' => e = .returned (.bool true) ∧ Below w.heap.size w w' := by
  obtain ⟨a, cap, rfl, hlh, hn, hm0⟩ := hL.parts
  obtain ⟨a2, cap2, rfl, hlh2, hn2, hm2⟩ := hM.parts
  obtain ⟨K, hK⟩ : ∃ K, min L.length 200 = K := ⟨_, rfl⟩
  obtain ⟨J, hJ⟩ : ∃ J, min M.length 200 = J := ⟨_, rfl⟩
  have HL := Lib.hid (cut_lies (K := K) hlh.out (by omega) hn)
  have HM := Lib.hid (cut_lies (K := J) hlh2.out (by omega) hn2)
  obtain ⟨l, hl⟩ : ∃ l, L.take K = l := ⟨_, rfl⟩
  obtain ⟨m, hm⟩ : ∃ m, M.take J = m := ⟨_, rfl⟩
  rw [hl] at HL
  rw [hm] at HM
  have hlk : l.length = K := by rw [← hl]; simp; omega
  have hmk : m.length = J := by rw [← hm]; simp; omega
  have hK2 : K ≤ 200 := by omega
  have hJ2 : J ≤ 200 := by omega
  have HLK := Lib.hid hlk
  have HMK := Lib.hid hmk
  have hF : ∀ W, Below w.heap.size w W → Calls Try.prog 15 #[.slice a K cap] W fun e w' => e = .returned (.pointer (some ⟨W.heap.size, 0, none⟩)) ∧ Hid (BagOn w' W.heap.size W.heap.size (fillL l)) ∧ Below W.heap.size W w' := fun W hB =>
    filled_on l (.slice a K cap) W (by rw [hlk]; exact HL.out.below hB) (by omega)
  have HF := Lib.hid hF
  obtain ⟨n, hnn⟩ : ∃ n, (keysL (fillL l)).length = n := ⟨_, rfl⟩
  have hfl : (fillL l).length ≤ K := by rw [← hlk]; exact fillL_len l
  have HKN := Lib.hid hnn
  have HFL := Lib.hid hfl
  clear hlh hlh2 hL hM hl hm hlk hmk hF hnn hfl wL wM
  go_enter Try.func4, Try.ntmps4
  go_wp2_with (first
    | (go_at_call 9; refine (shown_any _).mono ?_; rintro e w1 ⟨rfl, hB1⟩))
  all_goals
    first
      | rw [show Value.slice a 200 cap = Value.slice a K cap by rw [show K = 200 by omega]]
      | rw [show Value.slice a L.length cap = Value.slice a K cap by rw [show K = L.length by omega]]
    try first
      | rw [show Value.slice a2 200 cap2 = Value.slice a2 J cap2 by rw [show J = 200 by omega]]
      | rw [show Value.slice a2 M.length cap2 = Value.slice a2 J cap2 by rw [show J = M.length by omega]]
  all_goals
    refine (HF.out _ hB1).mono ?_
    rintro e w2 ⟨rfl, hb2, hB2⟩
    have hB12 := below_th hB1 hB2
    go_wp2_with (first
      | (go_at_call 16; refine (I.new_on _).mono ?_; rintro e w3 ⟨rfl, hb3, hB3⟩))
    have ht3 : Hid (Two w3 w1.heap.size w2.heap.size (fillL l) []) := two_start hb2.out hb3 hB3
    have hB13 := below_th hB12 hB3
    have hs2 : w.heap.size ≤ w2.heap.size := hB12.size
    obtain ⟨A, hA⟩ : ∃ A, w1.heap.size = A := ⟨_, rfl⟩
    obtain ⟨B, hBB⟩ : ∃ B, w2.heap.size = B := ⟨_, rfl⟩
    rw [hA, hBB] at ht3
    rw [hBB] at hs2
    simp only [hA, hBB]
    clear hb2 hb3 hB2 hB3 hB12 hB1 hA hBB
    -- others put
    go_loopw [8] (fun i wr => ∃ j : Nat, j ≤ J ∧ i = .int .i64 (j : Int) ∧ Hid (Two wr A B (fillL l) (moreL (m.take j) [])) ∧ Below w.heap.size w wr) (fun i _ => J - (intOf i).toNat)
    case atStart => exact ⟨0, Nat.zero_le _, rfl, ht3, hB13⟩
    case round =>
      obtain ⟨j, hj, rfl, ht, hB⟩ := hrel
      clear ht3 hB13
      by_cases hlt : j < J
      · obtain ⟨x, hx⟩ : ∃ x, m[j]? = some x := ⟨m[j]'(by rw [HMK.out]; exact hlt), by simp⟩
        obtain ⟨b, off, rfl, hc⟩ := (HM.out.below hB).read (j := j) (u := .int .i64 x) (by unfold intsL; rw [List.getElem?_map, hx]; rfl)
        have htk : T.put x 0 (moreL (m.take j) []) = moreL (m.take (j + 1)) [] := by rw [List.take_add_one, hx]; exact (moreL_snoc _ _ _).symm
        have hlen : (moreL (m.take j) []).length ≤ 1000 := by have := moreL_len (m.take j) []; simp at this; omega
        have cP := Lib.hid (fun W h => two_put (W := W) (a := A) (b := B) (xs := fillL l) x 0 _ hlen htk h)
        clear hx htk hlen
        go_wp2_with (first
          | (go_at_call 17; (with_reducible refine Calls.mono (cP.out _ ht.out) ?_); rintro e w4 ⟨q, rfl, ht4, hB4⟩))
        have hB5 := hB.trans (hB4.mono hs2)
        clear ht hB hB4 hc cP
        go_roundw
        case rel => exact ⟨j + 1, by omega, by go_num, ht4, hB5⟩
        case measure => simp [intOf]; omega
      · obtain rfl : J = j := by omega
        rw [List.take_of_length_le (by rw [HMK.out]; exact Nat.le_refl _)] at ht
        go_wp2
        have hK3 : (K = 0 ∧ (.int .i64 ((K : Int) - 1) : Value) = .int .i64 (-1)) ∨ ∃ k', K = k' + 1 ∧ (.int .i64 ((K : Int) - 1) : Value) = .int .i64 (k' : Int) := by
          cases K with
          | zero => exact .inl ⟨rfl, rfl⟩
          | succ k' => exact .inr ⟨k', rfl, by congr 1; omega⟩
        have ht0 : Hid (Two wr A B (fillL l) (backL (l.drop K) (moreL m []))) := by
          rw [List.drop_of_length_le (by rw [HLK.out]; exact Nat.le_refl _)]
          exact ht
        obtain ⟨Y, hY⟩ : ∃ Y, moreL m [] = Y := ⟨_, rfl⟩
        have hYl : Y.length ≤ 200 := by rw [← hY]; have := moreL_len m []; rw [HMK.out] at this; simp at this; omega
        rw [hY] at ht0
        have HY := Lib.hid hY
        clear ht hY
        -- those of the first, the last one first
        go_loopw [9] (fun i wr => ∃ j : Nat, j ≤ K ∧ ((j = 0 ∧ i = .int .i64 (-1)) ∨ ∃ j', j = j' + 1 ∧ i = .int .i64 (j' : Int)) ∧ Hid (Two wr A B (fillL l) (backL (l.drop j) Y)) ∧ Below w.heap.size w wr) (fun i _ => (intOf i + 1).toNat)
        case atStart => exact ⟨K, Nat.le_refl _, hK3, ht0, hB⟩
        case round =>
          obtain ⟨k, hk, hcase, ht, hB⟩ := hrel
          clear ht0 hK3
          rcases hcase with ⟨rfl, rfl⟩ | ⟨k', rfl, rfl⟩
          · have ht2 : Hid (Two wr A B (fillL l) (backL l Y)) := ht
            clear ht
            obtain ⟨Y2, hY2⟩ : ∃ Y2, backL l Y = Y2 := ⟨_, rfl⟩
            have hY2l : Y2.length ≤ 400 := by rw [← hY2]; have := backL_len l Y; rw [HLK.out] at this; omega
            rw [hY2] at ht2
            have heq : sievedL (fillL l) m Y2 = fillL l := by rw [← hY2, ← HY.out]; exact orders_eq l m
            have HEQ := Lib.hid heq
            have hfl2 : (fillL l).length ≤ 200 := Nat.le_trans HFL.out hK2
            obtain ⟨X, hX⟩ : ∃ X, fillL l = X := ⟨_, rfl⟩
            have HX := Lib.hid hX
            rw [hX] at ht2 hfl2 HEQ HKN HFL
            clear hY2 heq hX hYl hk
            go_wp2
            -- those dropped that the first has not
            go_loopw [10] (fun i wr => ∃ j : Nat, j ≤ J ∧ i = .int .i64 (j : Int) ∧ Hid (Two wr A B X (sievedL X (m.take j) Y2)) ∧ Below w.heap.size w wr) (fun i _ => J - (intOf i).toNat)
            case atStart => exact ⟨0, Nat.zero_le _, rfl, ht2, hB⟩
            case round =>
              obtain ⟨j, hj, rfl, ht, hB⟩ := hrel
              clear ht2
              by_cases hlt : j < J
              · obtain ⟨x, hx⟩ : ∃ x, m[j]? = some x := ⟨m[j]'(by rw [HMK.out]; exact hlt), by simp⟩
                obtain ⟨b, off, rfl, hc⟩ := HM.out.read (j := j) (u := .int .i64 x) (by unfold intsL; rw [List.getElem?_map, hx]; rfl)
                have htk : (if (T.get x X).isSome then sievedL X (m.take j) Y2 else T.del x (sievedL X (m.take j) Y2)) = sievedL X (m.take (j + 1)) Y2 := by rw [List.take_add_one, hx]; exact (sievedL_snoc _ _ _ _).symm
                obtain ⟨U, hU⟩ : ∃ U, sievedL X (m.take j) Y2 = U := ⟨_, rfl⟩
                obtain ⟨V, hV⟩ : ∃ V, sievedL X (m.take (j + 1)) Y2 = V := ⟨_, rfl⟩
                have hlen : U.length ≤ 1000 := by rw [← hU]; have := sievedL_len X (m.take j) Y2; omega
                obtain ⟨q, hq⟩ : ∃ q, (T.get x X).isSome = q := ⟨_, rfl⟩
                obtain ⟨gv, hgv⟩ : ∃ gv, (T.get x X).getD 0 = gv := ⟨_, rfl⟩
                rw [hU] at htk ht
                rw [hV, hq] at htk
                have cG := Lib.hid (fun W h => two_get1 (W := W) (a := A) (b := B) (xs := X) (ys := U) x gv q (by omega) hgv hq h)
                have HV := Lib.hid hV
                have hbs := World.block_lt_of_cell? _ _ hc
                have HC : Hid (∀ W, Below w.heap.size w W → W.cell? ⟨b, off + j, none⟩ = some (.int .i64 x)) := fun W h => (World.cell?_of_block (h.block b hbs)).trans hc
                have hcr := HC.out _ hB
                clear hx hU hV hq hgv hc hbs
                cases q with
                | true =>
                  have hUV : U = V := by simpa using htk
                  subst hUV
                  clear htk hlen
                  go_wp2_with (first
                    | (go_at_call 18; (with_reducible refine Calls.mono (cG.out _ ht.out) ?_); rintro e w4 ⟨rfl, ht4, hB4⟩))
                  have hB5 := hB.trans (hB4.mono hs2)
                  rw [← HV.out] at ht4
                  clear ht hB hB4 hcr cG HC
                  go_roundw
                  case rel => exact ⟨j + 1, by omega, by go_num, ht4, hB5⟩
                  case measure => simp [intOf]; omega
                | false =>
                  have hUV : T.del x U = V := by simpa using htk
                  have cD := Lib.hid (fun W h => two_drop (W := W) (a := A) (b := B) (xs := X) (ys := U) x V hlen hUV h)
                  clear htk hlen hUV
                  go_wp2_with (first
                    | (go_at_call 19; (with_reducible refine Calls.mono (cD.out _ ht4.out) ?_); rintro e w5 ⟨q5, rfl, ht5, hB5⟩)
                    | (go_at_call 18; (with_reducible refine Calls.mono (cG.out _ ht.out) ?_); rintro e w4 ⟨rfl, ht4, hB4⟩; have hB4' := hB.trans (hB4.mono hs2); have hc4 := HC.out _ hB4'))
                  have hB6 := hB4'.trans (hB5.mono hs2)
                  rw [← HV.out] at ht5
                  clear ht hB hB4 hcr cG HC hB4' hc4 ht4 hB5 cD
                  go_roundw
                  case rel => exact ⟨j + 1, by omega, by go_num, ht5, hB6⟩
                  case measure => simp [intOf]; omega
              · obtain rfl : J = j := by omega
                rw [List.take_of_length_le (by rw [HMK.out]; exact Nat.le_refl _), HEQ.out] at ht
                have k1 := Lib.hid (fun W h => two_keys1 (W := W) (a := A) (b := B) (xs := X) (ys := X) n HKN.out (by omega) h)
                have k2 := Lib.hid (fun W h => two_keys2 (W := W) (a := A) (b := B) (xs := X) (ys := X) n HKN.out (by omega) h)
                have hn1000 : n ≤ 1000000 := by
                  have h1 := HKN.out
                  have h2 : (keysL X).length ≤ X.length := by
                    unfold keysL
                    refine Nat.le_trans (List.length_filter_le _ _) ?_
                    unfold T.vis
                    rw [List.length_map]
                    exact List.length_filter_le _ _
                  omega
                go_wp2_with (first
                  | (go_at_call 21; (with_reducible refine Calls.mono (same_true (keysL X) _ _ n _ _ _ HKN.out hn1000 (hl4.out.below hB5) hl5.out) ?_); rintro e w6 ⟨rfl, hB6⟩)
                  | (go_at_call 20; (with_reducible refine Calls.mono (k2.out _ ht4.out) ?_); rintro e w5 ⟨p5, c5, rfl, hl5, ht5, hB5⟩)
                  | (go_at_call 20; (with_reducible refine Calls.mono (k1.out _ ht.out) ?_); rintro e w4 ⟨p4, c4, rfl, hl4, ht4, hB4⟩))
                have hB6' : Below w.heap.size w w6 := below_th (below_th (hB.trans (hB4.mono hs2)) hB5) hB6
                have ht6 : Hid (Two w6 A B X X) := two_below ht5.out hB6
                clear ht hB hB4 hB5 hB6 ht4 ht5 hl4 hl5 k1 k2
                -- each of the first stands in the second, with itself
                go_loopw [15] (fun i wr => ∃ j : Nat, j ≤ K ∧ i = .int .i64 (j : Int) ∧ Hid (Two wr A B X X) ∧ Below w.heap.size w wr) (fun i _ => K - (intOf i).toNat)
                case atStart => exact ⟨0, Nat.zero_le _, rfl, ht6, hB6'⟩
                case round =>
                  obtain ⟨k, hk, rfl, ht, hB⟩ := hrel
                  clear ht6 hB6'
                  by_cases hlt : k < K
                  · obtain ⟨x, hx⟩ : ∃ x, l[k]? = some x := ⟨l[k]'(by rw [HLK.out]; exact hlt), by simp⟩
                    obtain ⟨b, off, rfl, hc⟩ := HL.out.read (j := k) (u := .int .i64 x) (by unfold intsL; rw [List.getElem?_map, hx]; rfl)
                    have hgx : T.get x X = some x := by rw [← HX.out, get_fillL, if_pos (List.mem_of_getElem? hx)]
                    have cG := Lib.hid (fun W h => two_get2 (W := W) (a := A) (b := B) (xs := X) (ys := X) x x true (by omega) (by rw [hgx]; rfl) (by rw [hgx]; rfl) h)
                    have hbs := World.block_lt_of_cell? _ _ hc
                    have HC : Hid (∀ W, Below w.heap.size w W → W.cell? ⟨b, off + k, none⟩ = some (.int .i64 x)) := fun W h => (World.cell?_of_block (h.block b hbs)).trans hc
                    have hcr := HC.out _ hB
                    clear hx hc hbs hgx
                    go_wp2_with (first
                      | (go_at_call 18; (with_reducible refine Calls.mono (cG.out _ ht.out) ?_); rintro e w7 ⟨rfl, ht7, hB7⟩; have hB7' := hB.trans (hB7.mono hs2); have hc7 := HC.out _ hB7'))
                    exact ⟨⟨k + 1, by omega, by go_num, ht7, hB7'⟩, by simp [intOf]; omega⟩
                  · obtain rfl : K = k := by omega
                    have n1 := Lib.hid (fun W h => two_len1 (W := W) (a := A) (b := B) (xs := X) (ys := X) X.length rfl h)
                    have n2 := Lib.hid (fun W h => two_len2 (W := W) (a := A) (b := B) (xs := X) (ys := X) X.length rfl h)
                    have s1 := Lib.hid (fun W h => two_shape1 (W := W) (a := A) (b := B) (xs := X) (ys := X) (by omega) h)
                    have s2 := Lib.hid (fun W h => two_shape2 (W := W) (a := A) (b := B) (xs := X) (ys := X) (by omega) h)
                    have hX1000 : X.length ≤ 1000 := by omega
                    go_wp2_with (first
                      | (go_at_call 13; (with_reducible refine Calls.mono (shaped_true _ _ _ _ hr9.out ho9.out hX1000) ?_); rintro e w10 ⟨rfl, hB10⟩)
                      | (go_at_call 22; (with_reducible refine Calls.mono (n2.out _ ht9.out) ?_); rintro e w11 ⟨rfl, rfl⟩)
                      | (go_at_call 23; (with_reducible refine Calls.mono (s2.out _ ht8.out) ?_); rintro e w9 ⟨v9, cs9, rfl, hr9, ho9, ht9, hB9⟩)
                      | (go_at_call 13; (with_reducible refine Calls.mono (shaped_true _ _ _ _ hr7.out ho7.out hX1000) ?_); rintro e w8 ⟨rfl, hB8⟩; have ht8 := Lib.hid (two_below ht7.out hB8))
                      | (go_at_call 22; (with_reducible refine Calls.mono (n1.out _ ht7.out) ?_); rintro e w11 ⟨rfl, rfl⟩)
                      | (go_at_call 23; (with_reducible refine Calls.mono (s1.out _ ht.out) ?_); rintro e w7 ⟨v7, cs7, rfl, hr7, ho7, ht7, hB7⟩)
                      | (go_at_call 22; (with_reducible refine Calls.mono (n1.out _ ht.out) ?_); rintro e w11 ⟨rfl, rfl⟩)
                      | (go_at_call 22; (with_reducible refine Calls.mono (n2.out _ ht.out) ?_); rintro e w11 ⟨rfl, rfl⟩))
                    go_ret
                    exact ⟨rfl, below_th ((below_th (hB.trans (hB7.mono hs2)) hB8).trans (hB9.mono hs2)) hB10⟩
          · obtain ⟨x, hx⟩ : ∃ x, l[k']? = some x := ⟨l[k']'(by rw [HLK.out]; omega), by simp⟩
            obtain ⟨b, off, rfl, hc⟩ := (HL.out.below hB).read (j := k') (u := .int .i64 x) (by unfold intsL; rw [List.getElem?_map, hx]; rfl)
            have htk : T.put x x (backL (l.drop (k' + 1)) Y) = backL (l.drop k') Y := by
              have hlt := (List.getElem?_eq_some_iff.1 hx).1
              rw [List.drop_eq_getElem_cons hlt, (List.getElem?_eq_some_iff.1 hx).2]
              rfl
            have hlen : (backL (l.drop (k' + 1)) Y).length ≤ 1000 := by have := backL_len (l.drop (k' + 1)) Y; rw [List.length_drop, HLK.out] at this; omega
            have cP := Lib.hid (fun W h => two_put (W := W) (a := A) (b := B) (xs := fillL l) x x _ hlen htk h)
            have htd : Hid (Two wr.drew A B (fillL l) (backL (l.drop (k' + 1)) Y)) := two_below ht.out (below_drew (Below.refl _ wr))
            have hBd := below_drew hB
            have hkK : k' < K := by omega
            clear hx htk hlen ht hk
            go_wp2
            go_region_with (go_at_call 17; (with_reducible refine Calls.mono (cP.out _ htd.out) ?_); rintro e w4 ⟨q, rfl, ht4, hB4⟩)
            all_goals
              go_wp2
              have hB5 := hBd.trans (hB4.mono hs2)
              cases k' with
              | zero =>
                go_roundw
                case rel => exact ⟨0, Nat.zero_le _, .inl ⟨rfl, rfl⟩, ht4, hB5⟩
                case measure => simp [intOf]
              | succ k2 =>
                go_roundw
                case rel => exact ⟨k2 + 1, by omega, .inr ⟨k2, rfl, by go_num⟩, ht4, hB5⟩
                case measure => simp [intOf]; omega
end Go.Proofs.Ytbelgkccfajjoaa
