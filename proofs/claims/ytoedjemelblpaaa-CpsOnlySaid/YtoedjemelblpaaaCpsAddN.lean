/- Add of the program: what it answers lies in blocks of its own. -/
import Derived.Test.YtoedjemelblpaaaCpsAdd
namespace Go.Proofs.Ytoedjemelblpaaa.Cps
open Go.RowKit Go.Shelf
attribute [local go_sem] Oper.semAt_some
set_option linter.unusedVariables false
set_option linter.unusedSimpArgs false

/-- a slice that lies in newer blocks, if anywhere -/
def NewV (n : Nat) (v : Value) : Prop := ∀ g o k c, v = .slice (some ⟨g, o, none⟩) k c → n ≤ g
theorem NewV.of_own {W : World} {base e size n m : Nat} {v : Value} {xs : List Value} (h : W.ownsRow base e size v n xs) (hm : m ≤ base) : NewV m v := fun g o k c he => by
  subst he
  rcases h.2 with ⟨h0, _⟩ | ⟨g1, _, _, h0, hb, _⟩
  · cases h0
  · cases h0; omega
theorem NewV.mono {n m : Nat} {v : Value} (h : NewV n v) (hm : m ≤ n) : NewV m v := fun g o k c he => Nat.le_trans hm (h g o k c he)
def TabN (M : List C) (n : Int) (w : World) (e : Ending) (w' : World) : Prop := ∃ v, e = .returned (.tuple #[v, .int .i64 n]) ∧ Chs w' v M ∧ NewV w.heap.size v ∧ Below w.heap.size w w'
theorem tabn_no {M : List C} {n m : Int} {w w' : World} (hM : M = []) (hn : n = m) (hB : Below w.heap.size w w') : TabN M n w (.returned (.tuple #[.slice none 0 0, .int .i64 m])) w' := ⟨_, by rw [hn], by rw [hM]; exact Chs.nil w', fun g o k c he => (by cases he), hB⟩
theorem tabn_yes {M K : List C} {n : Int} {w w' : World} {v : Value} (hM : M = K) (hn : n = 0) (hL : Chs w' v K) (hV : NewV w.heap.size v) (hB : Below w.heap.size w w') : TabN M n w (.returned (.tuple #[v, .int .i64 0])) w' := ⟨_, by rw [hn], by rw [hM]; exact hL, hV, hB⟩
section
set_option maxRecDepth 100000
set_option maxHeartbeats 4000000
theorem add_newv (v : Value) (L : List C) (c : C) (w : World) (hL : Chs w v L) : Calls Try.prog 13 #[v, c.val] w (TabN (addV L c) (addE L c) w) := by
  have HB0 := Lib.hid (below_new w (boxO c))
  have hAA := Lib.hid (fun W (h : Below (w.alloc (boxO c)).heap.size (w.alloc (boxO c)) W) => (At.new w c).th h)
  have hR := fun W (h : Below w.heap.size w W) => right_any v L W (hL.below h)
  obtain ⟨a, cap, rfl, hn, hm⟩ := hL.parts
  by_cases hr : RightP L
  · rw [rightB_yes hr] at hR
    have h8 := hr.1
    obtain ⟨N, hN⟩ : ∃ N, L.length = N := ⟨_, rfl⟩
    by_cases h1 : N = 108
    · have hE : addE L c = 91 := by unfold addE; rw [if_pos hr, if_pos (by rw [hN]; exact h1)]
      have HF : Hid (∀ W, Below w.heap.size w W → TabN (addV L c) (addE L c) w (.returned (.tuple #[.slice none 0 0, .int .i64 91])) W) := fun W hB => tabn_no (if_neg (by rw [hE]; decide)) hE hB
      rw [hN] at hR hn ⊢
      subst h1
      have HR := Lib.hid hR
      clear hR hL hr hE hN h8
      obtain ⟨ncp, ti, sn, ro⟩ := c
      unfold C.val
      unfold boxO at HB0 hAA
      dsimp only at HB0 hAA ⊢
      go_enter Try.func13, Try.ntmps13
      go_wp2_with (go_at_call 17; (with_reducible refine Calls.mono (HR.out _ HB0.out) ?_); rintro e w1 ⟨rfl, hB1⟩)
      go_returns
      exact HF.out _ (below_th HB0.out hB1)
    · have hq : ((N : Int) == 108) = false := by simp; omega
      obtain ⟨i0, hin, hz0, hz1, hz2⟩ := info_parts infoCh
      have hCl := fun W (h : Below w.heap.size w W) => cloneT_any _ L W (hL.below h) (by omega)
      have hl : (L ++ [c]).length = N + 1 := by rw [List.length_append, hN]; rfl
      have hcat : cellsL L ++ c.cells = cellsL (L ++ [c]) := (cellsL_snoc L c).symm
      have hRA := fun W v (h : Chs W v (L ++ [c])) => right_any v (L ++ [c]) W h
      have hown : ∀ W base v, W.ownsRow base 25 4 v (N + 1) (cellsL L ++ c.cells) → Chs W v (L ++ [c]) := fun W base v h => by
        rw [hcat] at h
        exact Chs.own (base := base) (by rw [hl]; exact h)
      have HOWN := Lib.hid hown
      have hE : addE L c = if RightP (L ++ [c]) then 0 else 90 := by unfold addE; rw [if_pos hr, if_neg (by rw [hN]; exact h1)]
      have hHB := fun W1 W (h : Below w.heap.size w W1) (k : Below W1.heap.size W1 W) => below_th h k
      have rest : ∀ (x : Bool), (∀ W v, Chs W v (L ++ [c]) → Calls Try.prog 17 #[v] W (Ans W (.bool x))) →
          (x = true → ∀ W a cap, Chs W (.slice a (N + 1) cap) (L ++ [c]) → Calls Try.prog 36 #[.func (.func 57) #[] #[.pointer (some ⟨W.heap.size, 0, none⟩)]] (W.alloc (.cells #[.slice a (N + 1) cap] 22)) fun e w' => ∃ v', e = .returned v' ∧ Chs w' v' (L ++ [c]) ∧ NewV W.heap.size v' ∧ Below W.heap.size W w') →
          (x = true → ∀ W v, Chs W v (L ++ [c]) → NewV w.heap.size v → Below w.heap.size w W → TabN (addV L c) (addE L c) w (.returned (.tuple #[v, .int .i64 0])) W) →
          (x = false → ∀ W, Below w.heap.size w W → TabN (addV L c) (addE L c) w (.returned (.tuple #[.slice none 0 0, .int .i64 90])) W) →
          Calls Try.prog 13 #[.slice a L.length cap, c.val] w (TabN (addV L c) (addE L c) w) := fun x hRX hTX hY hNo => by
        have hN1 : N ≤ 108 := by omega
        simp only [hN] at hR hCl hn ⊢
        have HR := Lib.hid hR
        have HCl := Lib.hid hCl
        have HRX := Lib.hid hRX
        clear hR hCl hRX hL hr hE hN h8 hcat hRA hown hl hHB
        obtain ⟨ncp, ti, sn, ro⟩ := c
        unfold C.val
        unfold boxO at HB0 hAA
        unfold C.cells at HOWN
        dsimp only at HB0 hAA HOWN ⊢
        go_enter Try.func13, Try.ntmps13
        go_wp2_with (go_at_call 17; (with_reducible refine Calls.mono (HR.out _ HB0.out) ?_); rintro e w1 ⟨rfl, hB1⟩)
        have hX := Lib.hid (fun W (h : Below w1.heap.size w1 W) => (hAA.out _ (below_th hB1 h)).c)
        have hB2 := Lib.hid (fun W (h : Below w1.heap.size w1 W) => below_th HB0.out (below_th hB1 h))
        have hself : Below w1.heap.size w1 w1.drew := (Below.refl _ w1).drew
        obtain ⟨x0, x1, x2, x3⟩ := hX.out _ hself
        go_region_law (first
          | (refine step_append_lies _ rfl (.tmp 16) (.tmp 18) 22 rfl w1.heap.size 25 i0 (.agg #[.int .u64 0, .int .u64 0, .bool false, .string ⟨#[]⟩]) 4 40 Try.underlying22 hin hz0 hz1 hz2 rfl (by decide) v2 N (cellsL L) rfl (HO2.out.alloc _) ⟨w2.heap.size, 0, none⟩ 1 1 [.int .u64 ncp, .int .u64 ti, .bool sn, .string ro] rfl rfl (World.news_of_block (World.alloc_heap_new w2 _)) (by simp [Value.oneCell']) (by decide) (by unfold maxLen; omega) (by omega) (by have := HB2.out.size; simp; omega) _ rfl ?_; intro g2 cap2 w4 hown4 hgrow4 hat4 hlt4; have hT4 := HOWN.out _ _ _ hown4; have hB4 : Below w1.heap.size w1 w4 := (below_al HB2.out (.cells #[.int .u64 ncp, .int .u64 ti, .bool sn, .string ro] 25)).grown hgrow4 (by have := HB2.out.size; simp; omega) (fun r e => (HO2.out.lt r e).1))
          | (refine step_append_lies _ rfl (.tmp 16) (.tmp 18) 22 rfl w1.heap.size 25 i0 (.agg #[.int .u64 0, .int .u64 0, .bool false, .string ⟨#[]⟩]) 4 40 Try.underlying22 hin hz0 hz1 hz2 rfl (by decide) v2 N (cellsL L) rfl HO2.out ⟨w1.heap.size, 0, none⟩ 1 1 [.int .u64 ncp, .int .u64 ti, .bool sn, .string ro] rfl rfl (World.news_of_block hnb.out) (by simp [Value.oneCell']) (by decide) (by unfold maxLen; omega) (by omega) HB2.out.size _ rfl ?_; intro g2 cap2 w4 hown4 hgrow4 hat4 hlt4; have hT4 := HOWN.out _ _ _ hown4; have hB4 : Below w1.heap.size w1 w4 := HB2.out.grown hgrow4 HB2.out.size (fun r e => (HO2.out.lt r e).1))
          | (go_simp; go_at_call 35; refine (HCl.out _ (hB2.out _ hself)).mono ?_; rintro e w2 ⟨v2, rfl, hown2, hB2c⟩; have hb2 : Below w1.heap.size w1 w2 := below_th hself hB2c; obtain ⟨y0, y1, y2, y3⟩ := hX.out _ hb2; have HO2 : Hid (w2.ownsRow w1.heap.size 25 4 v2 N (cellsL L)) := own_lower hown2 hself.size; have HB2 := Lib.hid hb2; clear hown2 hB2c hb2)
          | (go_simp; go_at_call 35; refine (HCl.out _ (hB2.out _ (below_al hself _))).mono ?_; rintro e w2 ⟨v2, rfl, hown2, hB2c⟩; have hb2 : Below w1.heap.size w1 w2 := below_th (below_al hself _) hB2c; have hnb : Hid (w2.heap[w1.heap.size]? = some (.cells #[.int .u64 ncp, .int .u64 ti, .bool sn, .string ro] 25 (0, 0))) := (hB2c.block w1.heap.size (by simp)).trans (World.alloc_heap_new w1.drew _); have HO2 : Hid (w2.ownsRow w1.heap.size 25 4 v2 N (cellsL L)) := own_lower hown2 (by simp); have HB2 := Lib.hid hb2; clear hown2 hB2c hb2))
        all_goals
          have hRX := HRX.out _ _ hT4
          have HT4 := Lib.hid hT4
          have HB4 := Lib.hid hB4
          clear hT4 hB4 hown4 hgrow4
          cases x with
          | true =>
            have hTX2 := hTX rfl
            have hY2 := hY rfl
            go_wp2_with (first
              | (go_at_call 17; (with_reducible refine Calls.mono hRX ?_); rintro e w5 ⟨rfl, hB5⟩; have hT5 := HT4.out.below hB5)
              | (go_at_call 37; (with_reducible refine Calls.mono (values_any _ _ _ _) ?_); rintro e w6 ⟨rfl, rfl⟩)
              | (go_at_call 36; (with_reducible refine Calls.mono (hTX2 _ _ _ hT5) ?_); rintro e w7 ⟨v7, rfl, hT7, hNV7, hB7⟩))
            go_returns
            exact hY2 _ _ hT7 (hNV7.mono (below_th (hB2.out _ HB4.out) hB5).size) (below_th (hB2.out _ HB4.out) (below_th hB5 hB7))
          | false =>
            have hN2 := hNo rfl
            go_wp2_with (go_at_call 17; (with_reducible refine Calls.mono hRX ?_); rintro e w5 ⟨rfl, hB5⟩)
            go_returns
            exact hN2 _ (below_th (hB2.out _ HB4.out) hB5)
      by_cases h2 : RightP (L ++ [c])
      · rw [if_pos h2] at hE
        rw [rightB_yes h2] at hRA
        refine rest true hRA (fun _ W a cap h => ?_) (fun _ W v hT hV hB => tabn_yes (if_pos hE) hE hT hV hB) (fun h => by cases h)
        refine (tabV_any a (N + 1) cap (L ++ [c]) W h (by rw [hl]; omega) (fine_sizes h2)).mono ?_
        rintro e w' ⟨v', rfl, hown', hB⟩
        exact ⟨v', rfl, Chs.own hown', NewV.of_own hown' (Nat.le_refl _), hB⟩
      · rw [if_neg h2] at hE
        rw [rightB_no h2] at hRA
        exact rest false hRA (fun h => by cases h) (fun h => by cases h) (fun _ W hB => tabn_no (if_neg (by rw [hE]; decide)) hE hB)
  · rw [rightB_no hr] at hR
    have hE : addE L c = 90 := if_neg hr
    have HF : Hid (∀ W, Below w.heap.size w W → TabN (addV L c) (addE L c) w (.returned (.tuple #[.slice none 0 0, .int .i64 90])) W) := fun W hB => tabn_no (if_neg (by rw [hE]; decide)) hE hB
    obtain ⟨N, hN⟩ : ∃ N, L.length = N := ⟨_, rfl⟩
    rw [hN] at hR hn ⊢
    have HR := Lib.hid hR
    clear hR hL hr hE hN
    obtain ⟨ncp, ti, sn, ro⟩ := c
    unfold C.val
    unfold boxO at HB0 hAA
    dsimp only at HB0 hAA ⊢
    go_enter Try.func13, Try.ntmps13
    go_wp2_with (go_at_call 17; (with_reducible refine Calls.mono (HR.out _ HB0.out) ?_); rintro e w1 ⟨rfl, hB1⟩)
    go_returns
    exact HF.out _ (below_th HB0.out hB1)
end
end Go.Proofs.Ytoedjemelblpaaa.Cps
