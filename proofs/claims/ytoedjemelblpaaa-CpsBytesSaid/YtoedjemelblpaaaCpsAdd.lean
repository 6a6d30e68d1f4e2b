/- Add, Expire of the program. -/
import Derived.Deep.RegionLaw
import Derived.Test.YtoedjemelblpaaaCpsDo
namespace Go.Proofs.Ytoedjemelblpaaa.Cps
open Go.RowKit Go.Shelf
attribute [local go_sem] Oper.semAt_some
set_option linter.unusedVariables false
set_option linter.unusedSimpArgs false

theorem eqlS (a : Option Addr) (n c : Nat) (w : World) : (binOp .eql 22 (.slice a n c) (.slice none 0 0)).run Try.prog w = .ok (.bool a.isNone) w :=
  Lib.run_eql_slice_nil w _ _ a n c 0 0 Try.underlying22
/-- what Expire leaves -/
def ExpPost (L : List C) (now keep : Nat) (w : World) (e : Ending) (w' : World) : Prop := ∃ v, e = .returned (.tuple #[v, .int .i64 (expN L now keep : Nat), .int .i64 (expE L)]) ∧ Chs w' v (expV L now keep) ∧ Below w.heap.size w w'
section
set_option maxRecDepth 100000
set_option maxHeartbeats 4000000
theorem cloneT_any (v : Value) (L : List C) (w : World) (hL : Chs w v L) (h2 : L.length ≤ 4096) :
    Calls Try.prog 35 #[v] w fun e w' => ∃ v', e = .returned v' ∧ w'.ownsRow w.heap.size 25 4 v' L.length (cellsL L) ∧ Below w.heap.size w w' := by
  obtain ⟨i0, hi, hz0, hz1, hz2⟩ := info_parts infoCh
  obtain ⟨a, cap, rfl, hcap1, hcap2⟩ := hL.parts
  obtain ⟨N, hN⟩ : ∃ N, L.length = N := ⟨_, rfl⟩
  cases a with
  | none =>
    have hc0 : cap = 0 := Lies.none_cap hL
    subst hc0
    have hl0 : L = [] := List.eq_nil_of_length_eq_zero (by omega)
    subst hl0
    have hq := eqlS none 0 0
    clear hL hN
    go_enter Try.func35, Try.ntmps35
    go_wp2
    go_ret
    exact ⟨_, rfl, World.ownsRow_nil _ _ _ _, Below.refl _ _⟩
  | some ad =>
    have HC := Lib.hid (fun W (hB : Below w.heap.size w W) => (hL.below hB).news)
    have HV := Lib.hid (cellsL_length L)
    have HO := Lib.hid (cellsL_one L)
    rw [hN] at HV h2 hcap1 ⊢
    obtain ⟨xs, hxs⟩ : ∃ xs, cellsL L = xs := ⟨_, rfl⟩
    simp only [hxs] at HC HV HO ⊢
    clear hL hN hxs
    obtain ⟨W0, rfl⟩ : ∃ W0 : World, W0 = w := ⟨_, rfl⟩
    go_enter Try.func35, Try.ntmps35
    have hq := eqlS (some ad) N cap
    have hmade : (W0.alloc (.cells #[] 25)).ownsRow W0.heap.size 25 4 (.slice (some ⟨W0.heap.size, 0, none⟩) 0 0) 0 [] := World.ownsRow_made W0 #[] 0 (Nat.le_refl _) (Nat.zero_le _) (by simp)
    go_wp2_with (at_builtin; refine wpList_append_own _ rfl _ _ 22 rfl W0.heap.size 25 i0 (.agg #[.int .u64 0, .int .u64 0, .bool false, .string ⟨#[]⟩]) 4 40 Try.underlying22 hi hz0 hz1 hz2 rfl (by decide) (.slice (some ⟨W0.heap.size, 0, none⟩) 0 0) 0 [] rfl hmade ad N cap xs rfl HV.out (HC.out _ (below_new _ _)) HO.out (by unfold maxLen; omega) (by omega) (by simp) ?_; intro v1 w1 hown1 hgrow _; simp only [Nat.zero_add, List.nil_append] at hown1; have HW := Lib.hid hown1; have HG := Lib.hid (((Below.refl W0.heap.size W0).alloc (Nat.le_refl _) (.cells #[] 25)).grown hgrow (by simp) (fun k hk => by simp [Value.ownBlock] at hk; omega)); clear hown1 hgrow)
    go_ret
    exact ⟨v1, by simp, HW.out, HG.out⟩
theorem expire_any (v : Value) (L : List C) (now keep : Nat) (w : World) (hL : Chs w v L) (hnow : now < 18446744073709551616) : Calls Try.prog 27 #[v, .int .u64 now, .int .u64 keep] w (ExpPost L now keep w) := by
  obtain ⟨W1, hW1⟩ : ∃ W1, (w.alloc (.cells #[.int .u64 now] 23)).alloc (.cells #[.int .u64 keep] 23) = W1 := ⟨_, rfl⟩
  have hB1 : Below w.heap.size w W1 := by rw [← hW1]; exact below_al (below_new _ _) _
  have b1 : CellAt W1 w.heap.size 23 (.int .u64 now) := by
    rw [← hW1]
    exact (CellAt.new w _ _).of_heap (Below.heap_alloc _ _ _ (by simp))
  have b2 : CellAt W1 (w.heap.size + 1) 23 (.int .u64 keep) := by
    rw [← hW1]
    have := CellAt.new (w.alloc (.cells #[.int .u64 now] 23)) 23 (.int .u64 keep)
    rwa [World.size_alloc] at this
  have hR := fun W (h : Below w.heap.size w W) => right_any v L W (hL.below h)
  have HB1 := Lib.hid hB1
  by_cases hr : RightP L
  · rw [rightB_yes hr] at hR
    have h8 := hr.1
    have hN := fun W (h : Below w.heap.size w W) => newest_any v L W (hL.below h)
    have hO := fun W (hB : Below W1.heap.size W1 W) => expout_any v L (dropB (lastCp L) now keep) W.heap.size w.heap.size (w.heap.size + 1) (W.alloc (.cells #[.int .u64 (lastCp L : Nat)] 23)) (hL.below (below_al (below_th hB1 hB) _)) (by omega) (fine_sizes hr) (fun c W' hk => by
      have hB2 : Below W1.heap.size W1 (W.alloc (.cells #[.int .u64 (lastCp L : Nat)] 23)) := below_al hB _
      exact exp1_any c (lastCp L) now keep W.heap.size w.heap.size (w.heap.size + 1) W' hnow (hk.cell_some (CellAt.new W _ _).c) (hk.cell_some (b1.th hB2).c) (hk.cell_some (b2.th hB2).c))
    have hF : ∀ W v n, n = (L.filter (fun c => !dropB (lastCp L) now keep c)).length → Chs W v (L.filter (fun c => !dropB (lastCp L) now keep c)) → Below w.heap.size w W → ExpPost L now keep w (.returned (.tuple #[v, .int .i64 ((L.length - n : Nat) : Int), .int .i64 0])) W := fun W v n hn hT hB => by
      have hV : expV L now keep = L.filter (fun c => !dropB (lastCp L) now keep c) := if_pos hr
      refine ⟨v, by rw [show expE L = 0 from if_pos hr, show expN L now keep = L.length - (expV L now keep).length from if_pos hr, hV, ← hn], ?_, hB⟩
      rw [hV]
      exact hT
    have hle := filt_le (fun c => !dropB (lastCp L) now keep c) L
    obtain ⟨M, hM⟩ : ∃ M, L.filter (fun c => !dropB (lastCp L) now keep c) = M := ⟨_, rfl⟩
    simp only [hM] at hO hF hle
    obtain ⟨a, cap, rfl, hn, hm⟩ := hL.parts
    obtain ⟨N, hN2⟩ : ∃ N, L.length = N := ⟨_, rfl⟩
    simp only [hN2] at hR hN hO hF hn h8 hle ⊢
    generalize lastCp L = last at hN hO
    have HR := Lib.hid hR
    have HNW := Lib.hid hN
    have HO := Lib.hid hO
    have HF := Lib.hid hF
    have HCP := Lib.hid (fun W v (h : Chs W v M) => h.parts)
    obtain ⟨K, hK⟩ : ∃ K, M.length = K := ⟨_, rfl⟩
    rw [hK] at hle
    simp only [hK] at HCP
    have HK := Lib.hid hK
    have hw : IntKind.i64.wrap ((N : Int) - (K : Int)) = ((N - K : Nat) : Int) := by rw [IntKind.wrap_i64]; omega
    have hw2 : IntKind.i64.wrap ((N - K : Nat) : Int) = ((N - K : Nat) : Int) := by rw [IntKind.wrap_i64]; omega
    subst hW1
    clear hR hN hO hF hL hr b1 b2 hB1 hN2 hM hK
    go_enter Try.func27, Try.ntmps27
    go_wp2_with (first
      | (go_at_call 17; (with_reducible refine Calls.mono (HR.out _ HB1.out) ?_); rintro e w1 ⟨rfl, hB2⟩; have hB3 := below_th HB1.out hB2)
      | (go_at_call 45; (with_reducible refine Calls.mono (HNW.out _ hB3) ?_); rintro e w2 ⟨rfl, rfl⟩)
      | (go_at_call 42; (with_reducible refine Calls.mono (HO.out _ hB2) ?_); rintro e w3 ⟨v3, rfl, hT, hB4⟩; obtain ⟨a3, cap3, rfl, g1, g2⟩ := HCP.out _ _ hT))
    go_returns
    exact HF.out _ _ K HK.out.symm hT (below_th (below_al hB3 _) hB4)
  · rw [rightB_no hr] at hR
    have HF : Hid (∀ W, Below w.heap.size w W → ExpPost L now keep w (.returned (.tuple #[.slice none 0 0, .int .i64 0, .int .i64 90])) W) := fun W h => ⟨_, by rw [show expE L = 90 from if_neg hr, show expN L now keep = 0 from if_neg hr]; rfl, by rw [show expV L now keep = [] from if_neg hr]; exact Chs.nil W, h⟩
    obtain ⟨a, cap, rfl, hn, hm⟩ := hL.parts
    obtain ⟨N, hN2⟩ : ∃ N, L.length = N := ⟨_, rfl⟩
    rw [hN2] at hR hn ⊢
    have HR := Lib.hid hR
    subst hW1
    clear hR hL hr b1 b2 hB1 hN2
    go_enter Try.func27, Try.ntmps27
    go_wp2_with (go_at_call 17; (with_reducible refine Calls.mono (HR.out _ HB1.out) ?_); rintro e w1 ⟨rfl, hB2⟩)
    go_returns
    exact HF.out _ (below_th HB1.out hB2)
theorem add_any (v : Value) (L : List C) (c : C) (w : World) (hL : Chs w v L) : Calls Try.prog 13 #[v, c.val] w (TabPost (addV L c) (addE L c) w) := by
  have HB0 := Lib.hid (below_new w (boxO c))
  have hAA := Lib.hid (fun W (h : Below (w.alloc (boxO c)).heap.size (w.alloc (boxO c)) W) => (At.new w c).th h)
  have hR := fun W (h : Below w.heap.size w W) => right_any v L W (hL.below h)
  obtain ⟨a, cap, rfl, hn, hm⟩ := hL.parts
  by_cases hr : RightP L
  · rw [rightB_yes hr] at hR
    have h8 := hr.1
    obtain ⟨N, hN⟩ : ∃ N, L.length = N := ⟨_, rfl⟩
    by_cases h1 : N = 108
    · have hE : addE L c = 91 := by unfold addE; rw [if_pos hr, if_pos (by rw [hN]; exact h1)]
      have HF : Hid (∀ W, Below w.heap.size w W → TabPost (addV L c) (addE L c) w (.returned (.tuple #[.slice none 0 0, .int .i64 91])) W) := fun W hB => tab_no (if_neg (by rw [hE]; decide)) hE hB
      rw [hN] at hR hn ⊢
      subst h1
      have HR := Lib.hid hR
      clear hR hL hr hE hN h8
      obtain ⟨ncp, ti, sn, ro⟩ := c
      unfold C.val
      unfold boxO at HB0 hAA
      dsimp only at HB0 hAA ⊢
      go_enter Try.func13, Try.ntmps13
      go_wp2_with (go_at_call 17; (with_reducible refine Calls.mono (HR.out _ HB0.out) ?_); rintro e w1 ⟨rfl, hB1⟩)
      go_returns
      exact HF.out _ (below_th HB0.out hB1)
    · have hq : ((N : Int) == 108) = false := by simp; omega
      obtain ⟨i0, hin, hz0, hz1, hz2⟩ := info_parts infoCh
      have hCl := fun W (h : Below w.heap.size w W) => cloneT_any _ L W (hL.below h) (by omega)
      have hl : (L ++ [c]).length = N + 1 := by rw [List.length_append, hN]; rfl
      have hcat : cellsL L ++ c.cells = cellsL (L ++ [c]) := (cellsL_snoc L c).symm
      have hRA := fun W v (h : Chs W v (L ++ [c])) => right_any v (L ++ [c]) W h
      have hown : ∀ W base v, W.ownsRow base 25 4 v (N + 1) (cellsL L ++ c.cells) → Chs W v (L ++ [c]) := fun W base v h => by
        rw [hcat] at h
        exact Chs.own (base := base) (by rw [hl]; exact h)
      have HOWN := Lib.hid hown
      have hE : addE L c = if RightP (L ++ [c]) then 0 else 90 := by unfold addE; rw [if_pos hr, if_neg (by rw [hN]; exact h1)]
      have hHB := fun W1 W (h : Below w.heap.size w W1) (k : Below W1.heap.size W1 W) => below_th h k
      have rest : ∀ (x : Bool), (∀ W v, Chs W v (L ++ [c]) → Calls Try.prog 17 #[v] W (Ans W (.bool x))) →
          (x = true → ∀ W a cap, Chs W (.slice a (N + 1) cap) (L ++ [c]) → Calls Try.prog 36 #[.func (.func 57) #[] #[.pointer (some ⟨W.heap.size, 0, none⟩)]] (W.alloc (.cells #[.slice a (N + 1) cap] 22)) fun e w' => ∃ v', e = .returned v' ∧ Chs w' v' (L ++ [c]) ∧ Below W.heap.size W w') →
          (x = true → ∀ W v, Chs W v (L ++ [c]) → Below w.heap.size w W → TabPost (addV L c) (addE L c) w (.returned (.tuple #[v, .int .i64 0])) W) →
          (x = false → ∀ W, Below w.heap.size w W → TabPost (addV L c) (addE L c) w (.returned (.tuple #[.slice none 0 0, .int .i64 90])) W) →
          Calls Try.prog 13 #[.slice a L.length cap, c.val] w (TabPost (addV L c) (addE L c) w) := fun x hRX hTX hY hNo => by
        have hN1 : N ≤ 108 := by omega
        simp only [hN] at hR hCl hn ⊢
        have HR := Lib.hid hR
        have HCl := Lib.hid hCl
        have HRX := Lib.hid hRX
        clear hR hCl hRX hL hr hE hN h8 hcat hRA hown hl hHB
        obtain ⟨ncp, ti, sn, ro⟩ := c
        unfold C.val
        unfold boxO at HB0 hAA
        unfold C.cells at HOWN
        dsimp only at HB0 hAA HOWN ⊢
        go_enter Try.func13, Try.ntmps13
        go_wp2_with (go_at_call 17; (with_reducible refine Calls.mono (HR.out _ HB0.out) ?_); rintro e w1 ⟨rfl, hB1⟩)
        have hX := Lib.hid (fun W (h : Below w1.heap.size w1 W) => (hAA.out _ (below_th hB1 h)).c)
        have hB2 := Lib.hid (fun W (h : Below w1.heap.size w1 W) => below_th HB0.out (below_th hB1 h))
        have hself : Below w1.heap.size w1 w1.drew := (Below.refl _ w1).drew
        obtain ⟨x0, x1, x2, x3⟩ := hX.out _ hself
        go_region_law (first
          | (refine step_append_lies _ rfl (.tmp 16) (.tmp 18) 22 rfl w1.heap.size 25 i0 (.agg #[.int .u64 0, .int .u64 0, .bool false, .string ⟨#[]⟩]) 4 40 Try.underlying22 hin hz0 hz1 hz2 rfl (by decide) v2 N (cellsL L) rfl (HO2.out.alloc _) ⟨w2.heap.size, 0, none⟩ 1 1 [.int .u64 ncp, .int .u64 ti, .bool sn, .string ro] rfl rfl (World.news_of_block (World.alloc_heap_new w2 _)) (by simp [Value.oneCell']) (by decide) (by unfold maxLen; omega) (by omega) (by have := HB2.out.size; simp; omega) _ rfl ?_; intro g2 cap2 w4 hown4 hgrow4 hat4 hlt4; have hT4 := HOWN.out _ _ _ hown4; have hB4 : Below w1.heap.size w1 w4 := (below_al HB2.out (.cells #[.int .u64 ncp, .int .u64 ti, .bool sn, .string ro] 25)).grown hgrow4 (by have := HB2.out.size; simp; omega) (fun r e => (HO2.out.lt r e).1))
          | (refine step_append_lies _ rfl (.tmp 16) (.tmp 18) 22 rfl w1.heap.size 25 i0 (.agg #[.int .u64 0, .int .u64 0, .bool false, .string ⟨#[]⟩]) 4 40 Try.underlying22 hin hz0 hz1 hz2 rfl (by decide) v2 N (cellsL L) rfl HO2.out ⟨w1.heap.size, 0, none⟩ 1 1 [.int .u64 ncp, .int .u64 ti, .bool sn, .string ro] rfl rfl (World.news_of_block hnb.out) (by simp [Value.oneCell']) (by decide) (by unfold maxLen; omega) (by omega) HB2.out.size _ rfl ?_; intro g2 cap2 w4 hown4 hgrow4 hat4 hlt4; have hT4 := HOWN.out _ _ _ hown4; have hB4 : Below w1.heap.size w1 w4 := HB2.out.grown hgrow4 HB2.out.size (fun r e => (HO2.out.lt r e).1))
          | (go_simp; go_at_call 35; refine (HCl.out _ (hB2.out _ hself)).mono ?_; rintro e w2 ⟨v2, rfl, hown2, hB2c⟩; have hb2 : Below w1.heap.size w1 w2 := below_th hself hB2c; obtain ⟨y0, y1, y2, y3⟩ := hX.out _ hb2; have HO2 : Hid (w2.ownsRow w1.heap.size 25 4 v2 N (cellsL L)) := own_lower hown2 hself.size; have HB2 := Lib.hid hb2; clear hown2 hB2c hb2)
          | (go_simp; go_at_call 35; refine (HCl.out _ (hB2.out _ (below_al hself _))).mono ?_; rintro e w2 ⟨v2, rfl, hown2, hB2c⟩; have hb2 : Below w1.heap.size w1 w2 := below_th (below_al hself _) hB2c; have hnb : Hid (w2.heap[w1.heap.size]? = some (.cells #[.int .u64 ncp, .int .u64 ti, .bool sn, .string ro] 25 (0, 0))) := (hB2c.block w1.heap.size (by simp)).trans (World.alloc_heap_new w1.drew _); have HO2 : Hid (w2.ownsRow w1.heap.size 25 4 v2 N (cellsL L)) := own_lower hown2 (by simp); have HB2 := Lib.hid hb2; clear hown2 hB2c hb2))
        all_goals
          have hRX := HRX.out _ _ hT4
          have HT4 := Lib.hid hT4
          have HB4 := Lib.hid hB4
          clear hT4 hB4 hown4 hgrow4
          cases x with
          | true =>
            have hTX2 := hTX rfl
            have hY2 := hY rfl
            go_wp2_with (first
              | (go_at_call 17; (with_reducible refine Calls.mono hRX ?_); rintro e w5 ⟨rfl, hB5⟩; have hT5 := HT4.out.below hB5)
              | (go_at_call 37; (with_reducible refine Calls.mono (values_any _ _ _ _) ?_); rintro e w6 ⟨rfl, rfl⟩)
              | (go_at_call 36; (with_reducible refine Calls.mono (hTX2 _ _ _ hT5) ?_); rintro e w7 ⟨v7, rfl, hT7, hB7⟩))
            go_returns
            exact hY2 _ _ hT7 (below_th (hB2.out _ HB4.out) (below_th hB5 hB7))
          | false =>
            have hN2 := hNo rfl
            go_wp2_with (go_at_call 17; (with_reducible refine Calls.mono hRX ?_); rintro e w5 ⟨rfl, hB5⟩)
            go_returns
            exact hN2 _ (below_th (hB2.out _ HB4.out) hB5)
      by_cases h2 : RightP (L ++ [c])
      · rw [if_pos h2] at hE
        rw [rightB_yes h2] at hRA
        refine rest true hRA (fun _ W a cap h => ?_) (fun _ W v hT hB => tab_yes (if_pos hE) hE hT hB) (fun h => by cases h)
        refine (tabV_any a (N + 1) cap (L ++ [c]) W h (by rw [hl]; omega) (fine_sizes h2)).mono ?_
        rintro e w' ⟨v', rfl, hown', hB⟩
        exact ⟨v', rfl, Chs.own hown', hB⟩
      · rw [if_neg h2] at hE
        rw [rightB_no h2] at hRA
        exact rest false hRA (fun h => by cases h) (fun h => by cases h) (fun _ W hB => tab_no (if_neg (by rw [hE]; decide)) hE hB)
  · rw [rightB_no hr] at hR
    have hE : addE L c = 90 := if_neg hr
    have HF : Hid (∀ W, Below w.heap.size w W → TabPost (addV L c) (addE L c) w (.returned (.tuple #[.slice none 0 0, .int .i64 90])) W) := fun W hB => tab_no (if_neg (by rw [hE]; decide)) hE hB
    obtain ⟨N, hN⟩ : ∃ N, L.length = N := ⟨_, rfl⟩
    rw [hN] at hR hn ⊢
    have HR := Lib.hid hR
    clear hR hL hr hE hN
    obtain ⟨ncp, ti, sn, ro⟩ := c
    unfold C.val
    unfold boxO at HB0 hAA
    dsimp only at HB0 hAA ⊢
    go_enter Try.func13, Try.ntmps13
    go_wp2_with (go_at_call 17; (with_reducible refine Calls.mono (HR.out _ HB0.out) ?_); rintro e w1 ⟨rfl, hB1⟩)
    go_returns
    exact HF.out _ (below_th HB0.out hB1)
end
end Go.Proofs.Ytoedjemelblpaaa.Cps
