/- The walk of DiskOf: it answers true. -/
import Derived.Laws.AppendOwnNone
import Derived.Test.YtbidhiefgbddeaaDiskOfB
namespace Go.Proofs.Ytbidhiefgbddeaa.Disk
open Go.RowKit Go.Shelf
set_option linter.unusedVariables false

section
set_option maxRecDepth 100000
set_option maxHeartbeats 4000000
theorem take_lies {w : World} {a : Option Addr} {cap K : Nat} {L : List ByteArray} (hL : Lies w (.slice a L.length cap) L.length 1 (strs L)) (hK : K ≤ L.length) (hn : L.length ≤ cap) : Lies w (.slice a K cap) K 1 (strs (L.take K)) := by
  obtain ⟨a', cap', e, _, hm, hlen, hcells⟩ := hL
  cases e
  refine ⟨a, cap, rfl, by omega, hm, by simp [strs]; omega, fun hp => ?_⟩
  obtain ⟨b, off, e, hc⟩ := hcells (by omega)
  refine ⟨b, off, e, fun j u hj => hc j u ?_⟩
  unfold strs at hj
  rw [List.map_take, List.getElem?_take] at hj
  split at hj
  · exact hj
  · cases hj
theorem make_any (base n : Nat) (C : Int) (hC : C = (n : Int)) (hn : n ≤ 4096) (W : World) (hb : base ≤ W.heap.size) : ∃ w2, (Instr.makeSlice 39 (.int .i64 0) (.int .i64 C)).run Try.prog W = .ok (.slice (some ⟨W.heap.size, 0, none⟩) 0 n) w2 ∧ w2.ownsRow base 9 1 (.slice (some ⟨W.heap.size, 0, none⟩) 0 n) 0 [] ∧ W.grownBy w2 none := by
  obtain ⟨i0, hi, hz0, hz1, hz2⟩ := info_parts infoS
  subst hC
  exact run_make_own (P := Try.prog) W base 39 9 i0 (.string ByteArray.empty) 1 Try.underlying39 hi hz0 hz1 .i64 .i64 n (by rw [hz2]; omega) (by unfold maxLen; omega) hb
theorem DiskOf_walk (v : Value) (L : List ByteArray) (a1 : Int) (w : World) (hL : Lies w v L.length 1 (strs L)) (wL : ∀ s ∈ L, s.size ≤ maxLen) (w1 : (Lit.int .i64 a1).wf = true) :
    Calls Try.prog 4 #[v, .int .i64 a1] w fun e w' => e = .returned (.bool true) ∧ Below w.heap.size w w' := by
  obtain ⟨i0, hi, hz0, hz1, hz2⟩ := info_parts infoS
  obtain ⟨a, cap, rfl, hlh, hn, hm0⟩ := hL.parts
  obtain ⟨K, hK⟩ : ∃ K, min L.length 300 = K := ⟨_, rfl⟩
  have HL := Lib.hid (take_lies (K := K) hlh.out (by omega) hn)
  obtain ⟨l, hl⟩ : ∃ l, L.take K = l := ⟨_, rfl⟩
  rw [hl] at HL
  have hlk : l.length = K := by rw [← hl]; simp; omega
  have hK2 : K ≤ 300 := by omega
  have hls : ∀ s ∈ l, s.size ≤ 9223372036854775807 := fun s hs => by
    rw [← hl] at hs
    exact wL s (List.mem_of_mem_take hs)
  have HLS := Lib.hid hls
  have hvl : (strs l).length = K := by rw [strs_length, hlk]
  have HVL := Lib.hid hvl
  obtain ⟨W0, rfl⟩ : ∃ W0 : World, W0 = w := ⟨_, rfl⟩
  have hsrc : (a = none ∧ L = [] ∧ l = [] ∧ K = 0 ∧ cap = 0) ∨ ∃ ad, a = some ad ∧ Hid (∀ W', Below W0.heap.size W0 W' → ∀ j u, (strs l)[j]? = some u → W'.cell? (ad.add j) = some u) := by
    cases L with
    | nil =>
      have hl0 : l = [] := by rw [← hl]; simp
      cases a with
      | none => exact .inl ⟨rfl, rfl, hl0, by rw [← hK]; simp, hlh.out.none_cap⟩
      | some ad =>
        rw [hl0]
        exact .inr ⟨ad, rfl, fun W' _ j u hj => by simp [strs] at hj⟩
    | cons y L' =>
      obtain ⟨b, off, rfl, hc⟩ := hlh.out.read (j := 0) (u := .string y) rfl
      exact .inr ⟨⟨b, off, none⟩, rfl, fun W' hB => HL.out.all (by rw [List.length_cons] at hK; omega) hB⟩
  have hkq : K = (if (300 : Int) < (L.length : Int) then 300 else (L.length : Int)).toNat := by split <;> omega
  have HKQ := Lib.hid hkq
  have hmk : ∀ W, Below W0.heap.size W0 W → ∃ w2, (Instr.makeSlice 39 (.int .i64 0) (.int .i64 600)).run Try.prog W = .ok (.slice (some ⟨W.heap.size, 0, none⟩) 0 600) w2 ∧ w2.ownsRow W0.heap.size 9 1 (.slice (some ⟨W.heap.size, 0, none⟩) 0 600) 0 [] ∧ W.grownBy w2 none := fun W hB =>
    make_any W0.heap.size 600 600 (by omega) (by omega) W hB.size
  have HMK := Lib.hid hmk
  clear hL hlh hls hvl hl wL hmk hK hkq
  rcases hsrc with ⟨rfl, rfl, hl0, rfl, rfl⟩ | ⟨ad, rfl, HC⟩
  all_goals
    go_enter Try.func4, Try.ntmps4
    go_wp2_with (first
      | (go_at_call 9; refine (shown_any _).mono ?_; rintro e w1 ⟨rfl, hB1⟩; obtain ⟨w2, hm2, hown2, hgrow2⟩ := HMK.out w1 hB1; have hB2 := hB1.grown hgrow2 hB1.size (fun k e => by cases e))
      | (at_builtin; (refine wpList_append_own_none rfl _ _ 39 rfl W0.heap.size 9 i0 1 Try.underlying39 hi _ _ _ rfl hown2 rfl ?_))
      | (at_builtin; (refine wpList_append_own _ rfl _ _ 39 rfl W0.heap.size 9 i0 (.string ByteArray.empty) 1 16 Try.underlying39 hi hz0 hz1 hz2 rfl (by decide) _ 0 [] rfl hown2 ad K cap (strs l) (by rw [HKQ.out]; rfl) (by rw [HVL.out]; omega) (HC.out _ hB2) (by simp [strs, Value.oneCell']) (by unfold maxLen; omega) (by omega) hB2.size ?_; intro v3 w3 hown3 hgrow3 _)))
  all_goals
    first
      | (rw [Nat.zero_add, List.nil_append] at hown3
         have hB3 := hB2.grown hgrow3 hB2.size (fun r e => (hown2.lt r e).1))
      | (have hown3 := hown2
         have hB3 := hB2
         rw [show ([] : List Value) = strs l by rw [hl0]; rfl] at hown3)
    clear hown2 hgrow2
    go_loopw [6, 7] (fun v i wr => ∃ k : Nat, k ≤ 300 ∧ i = .int .i64 (k : Int) ∧ Hid (wr.ownsRow W0.heap.size 9 1 v (l.length + k) (strs (l ++ List.replicate k ByteArray.empty))) ∧ Below W0.heap.size W0 wr) (fun _ i _ => 300 - (intOf i).toNat)
    case atStart => exact ⟨0, by omega, rfl, by rw [List.replicate_zero, List.append_nil, hlk]; exact hown3, hB3⟩
    case round =>
      obtain ⟨k, hk, rfl, hown, hB⟩ := hrel
      by_cases hlt : (k : Int) < a1 ∧ k < 300
      · obtain ⟨hl1, hl2⟩ := hlt
        go_wp2_with (at_builtin; go_must (refine wpList_append_own _ rfl _ _ 39 rfl W0.heap.size 9 i0 (.string ByteArray.empty) 1 16 Try.underlying39 hi hz0 hz1 hz2 rfl (by decide) _ _ _ rfl (hown.out.alloc _) ⟨wr.heap.size, 0, none⟩ 1 1 [.string ByteArray.empty] rfl rfl (cell_one_new _ _ _) (by simp [Value.oneCell']) (by unfold maxLen; omega) (by omega) (by have := hB.size; simp; omega) ?_; intro v' w4 hown' hgrow _))
        have hs4 := hB.size
        have HB4 : Below W0.heap.size W0 w4 := (hB.alloc hs4 _).grown hgrow (by simp; omega) (fun r e => (hown.out.lt r e).1)
        have HO : Hid (w4.ownsRow W0.heap.size 9 1 v' (l.length + (k + 1)) (strs (l ++ List.replicate (k + 1) ByteArray.empty))) := by
          rw [List.replicate_succ', ← List.append_assoc, show strs ((l ++ List.replicate k ByteArray.empty) ++ [ByteArray.empty]) = strs (l ++ List.replicate k ByteArray.empty) ++ [.string ByteArray.empty] by simp [strs]]
          exact hown'
        clear hown hown' hgrow
        go_roundw
        case rel => exact ⟨k + 1, by omega, by go_num, HO, HB4⟩
        case measure => simp [intOf]; omega
      · obtain ⟨a3, c3, rfl, H3, hn3, hm3⟩ := lies_own hown.out
        obtain ⟨B, hBl⟩ : ∃ B, l ++ List.replicate k ByteArray.empty = B := ⟨_, rfl⟩
        have hlen : l.length + k = B.length := by rw [← hBl]; simp
        have hBs : ∀ s ∈ B, s.size ≤ 9223372036854775807 := fun s hs => by
          rw [← hBl] at hs
          rcases List.mem_append.1 hs with hs | hs
          · exact HLS.out s hs
          · obtain ⟨_, rfl⟩ := List.mem_replicate.1 hs
            decide
        clear hown
        rw [hlen] at H3 hn3 ⊢
        rw [hBl] at H3
        have HB := Lib.hid hB
        have HBS := Lib.hid hBs
        have hs3 := hB.size
        clear hB hBs hBl hlen
        have hstop : ((k : Int) < a1 ∧ ¬ (k : Int) < 300) ∨ ¬ (k : Int) < a1 := by omega
        clear hlt
        rcases hstop with ⟨hk1, hk2⟩ | hk1
        all_goals
          by_cases hsz : sizeOk B.length
          · by_cases hal : ∀ s ∈ B, s.size ≤ 512
            · have hbl : B.length ≤ 4096 := by have := hsz.2.1; omega
              have ho1 := of_yes B _ wr H3.out hsz hal
              have ho2 := fun W h => R.of_r_l B (.slice a3 B.length c3) W h hsz HBS.out
              obtain ⟨d, hd⟩ : ∃ d, D.of (B.map fit) = d := ⟨_, rfl⟩
              have hop : d.ops ≤ 1099511627776 := by rw [← hd]; simp [D.of]
              have hnl : d.now.length = B.length := by rw [D.now_length, ← hd]; simp [D.of]
              unfold OfPost at ho1
              unfold R.OfPost at ho2
              rw [hd] at ho1 ho2
              have HO1 := Lib.hid ho1
              have HO2 := Lib.hid ho2
              have HAL := Lib.hid hal
              have HNL := Lib.hid hnl
              clear ho1 ho2 hal hnl hd hsz
              go_wp2_with (first
                | (go_at_call 15; ((with_reducible refine Calls.mono (R.same_any d.now _ _ _ hS7 hS8 HSz) ?_); rintro e w9 ⟨rfl, hB9⟩))
                | (go_at_call 17; ((with_reducible refine Calls.mono (R.image_r hq7 hop) ?_); rintro e w8 ⟨v8, rfl, hown8, hB8⟩; have hS8 := Lies.own hown8; have hS7 := lies_row (hr7.of_heap (hB8.block _ hr7.lt)) (by rw [HNL.out]; omega)))
                | (go_at_call 16; ((with_reducible refine Calls.mono (image_d hp6) ?_); rintro e w7 ⟨g7, rfl, hr7, _, hB7⟩; have hq7 := hq6.below hB7))
                | (go_at_call 20; ((with_reducible refine Calls.mono (HO2.out _ (H3.out.below hB5)) ?_); rintro e w6 ⟨h6, _, hB6⟩; obtain ⟨q, rfl, hq6, _⟩ := h6 HAL.out; clear h6; have hp6 := hp5.below hB6; have HSz : ∀ s ∈ d.now, s.size ≤ 1000000 := fun s hs => (by have := hp6.ok.now_sizes s hs; omega)))
                | (go_at_call 19; ((with_reducible refine Calls.mono HO1.out ?_); rintro e w5 ⟨p, rfl, hp5, _, hB5⟩)))
              go_ret
              exact ⟨rfl, below_th (below_th (below_th (below_trans' (HB.out.trans (hB5.mono hs3)) hB6 (by have := hB5.size; omega)) hB7) hB8) hB9⟩
            · have ho1 := of_not_l B _ wr H3.out HBS.out (fun hh => hal hh.2)
              have ho2 := fun W h => R.of_r_l B (.slice a3 B.length c3) W h hsz HBS.out
              unfold R.OfPost at ho2
              have HO1 := Lib.hid ho1
              have HO2 := Lib.hid ho2
              have HAL := Lib.hid hal
              clear ho1 ho2 hal hsz
              go_wp2_with (first
                | (go_at_call 20; ((with_reducible refine Calls.mono (HO2.out _ H3.out) ?_); rintro e w6 ⟨_, h6, hB6⟩; obtain rfl := h6 HAL.out; clear h6))
                | (go_at_call 19; ((with_reducible refine Calls.mono HO1.out ?_); rintro e w5 ⟨rfl, rfl⟩)))
              go_ret
              exact ⟨rfl, below_trans' HB.out hB6 hs3⟩
          · have ho1 := of_not_l B _ wr H3.out HBS.out (fun hh => hsz hh.1)
            have ho2 := R.of_small B _ wr H3.out hsz
            have HO1 := Lib.hid ho1
            have HO2 := Lib.hid ho2
            clear ho1 ho2 hsz
            go_wp2_with (first
              | (go_at_call 20; ((with_reducible refine Calls.mono HO2.out ?_); rintro e w6 ⟨rfl, rfl⟩))
              | (go_at_call 19; ((with_reducible refine Calls.mono HO1.out ?_); rintro e w5 ⟨rfl, rfl⟩)))
            go_ret
            exact ⟨rfl, HB.out⟩
end
end Go.Proofs.Ytbidhiefgbddeaa.Disk
