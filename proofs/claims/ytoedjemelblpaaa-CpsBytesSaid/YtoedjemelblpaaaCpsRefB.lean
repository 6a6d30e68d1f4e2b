/- The document's Mark, Numbers, Add; a table laid behind another one. -/
import Derived.Test.YtoedjemelblpaaaCpsRefA
namespace Go.Proofs.Ytoedjemelblpaaa.Cps.R
open Go.RowKit
attribute [local go_sem] Oper.semAt_some
set_option linter.unusedVariables false
set_option linter.unusedSimpArgs false

theorem make_fun (n : Nat) (hn : n ≤ 4096) : ∃ X : Array Value, X.size = n * 4 ∧ ∀ W : World, (Instr.makeSlice 22 (.int .i64 0) (.int .i64 (n : Int))).run Try.prog W = .ok (.slice (some ⟨W.heap.size, 0, none⟩) 0 n) (W.alloc (.cells X 25)) := by
  obtain ⟨i0, hi, hz0, hz1, hz2⟩ := info_parts infoCh
  refine ⟨madeCells (Value.agg #[.int .u64 0, .int .u64 0, .bool false, .string ⟨#[]⟩]).cells (n * 4), by rw [size_madeCells], fun W => ?_⟩
  have hr := run_make (P := Try.prog) W 22 25 i0 (.agg #[.int .u64 0, .int .u64 0, .bool false, .string ⟨#[]⟩]) Try.underlying22 hi hz0 .i64 .i64 0 n (Int.le_refl _) (by omega) (by rw [hz2]; omega) (by omega)
  simp only [Int.toNat_zero, Int.toNat_natCast, hz1] at hr
  exact hr
theorem run_append_tab (w : World) (base : Nat) (v : Value) (n : Nat) (xs : List Value) (hown : w.ownsRow base 25 4 v n xs) (vL : Value) (L : List C) (hL : Chs w vL L) (h1 : n + L.length ≤ 100000) (hb : base ≤ w.heap.size) :
    ∃ v' w', (Builtin.append_ #[22, 22] 22 #[v, vL]).run Try.prog w = .ok v' w' ∧ w'.ownsRow base 25 4 v' (n + L.length) (xs ++ cellsL L) ∧ w.grownBy w' v.ownBlock := by
  obtain ⟨i0, hi, hz0, hz1, hz2⟩ := info_parts infoCh
  obtain ⟨a, cap, rfl, hc1, hc2⟩ := hL.parts
  cases a with
  | none =>
    have hc0 : cap = 0 := Lies.none_cap hL
    have hl0 : L = [] := List.eq_nil_of_length_eq_zero (by omega)
    subst hl0
    subst hc0
    refine ⟨v, w, run_append_owned_none (P := Try.prog) w base 22 22 25 i0 4 Try.underlying22 hi v n xs hown, ?_, ⟨rfl, rfl, rfl, Nat.le_refl _, fun _ _ _ => rfl⟩⟩
    simpa [cellsL] using hown
  | some ad =>
    obtain ⟨v', w', hr, h2, h3, _⟩ := run_append_own (P := Try.prog) w base 22 22 25 i0 (.agg #[.int .u64 0, .int .u64 0, .bool false, .string ⟨#[]⟩]) 4 40 Try.underlying22 hi hz0 hz1 hz2 rfl (by decide) v n xs hown ad L.length cap (cellsL L) (cellsL_length L) hL.news (cellsL_one L) (by unfold maxLen; omega) (by omega) hb
    exact ⟨v', w', hr, h2, h3⟩
theorem wp_append_tab {w : World} {o : Oper} {a : Act} {K : Act → World → Prop} {Q : Exit → Act → World → Prop} (s x : Operand)
    (ho : o.op = .call { callee := .builtin .append, args := #[s, x], argTypes := #[22, 22] }) (hty : o.type = 22)
    (base : Nat) (v : Value) (n : Nat) (xs : List Value) (hs : a.eval s = v) (hown : w.ownsRow base 25 4 v n xs) (vL : Value) (L : List C) (hx : a.eval x = vL) (hL : Chs w vL L) (h1 : n + L.length ≤ 100000) (hb : base ≤ w.heap.size)
    (h : ∀ v' w', w'.ownsRow base 25 4 v' (n + L.length) (xs ++ cellsL L) → w.grownBy w' v.ownBlock → K (a.put o.dst v') w') : o.wp Try.prog a w K Q := by
  obtain ⟨v', w', hr, h2, h3⟩ := run_append_tab w base v n xs hown vL L hL h1 hb
  unfold Oper.wp execOp
  simp only [ho, hty, resolve, invoke, builtin, Sem.run_bind, Sem.run_pure, Result.andThen_ok, List.map_toArray, List.map_cons, List.map_nil, hs, hx, hr]
  exact h v' w' h2 h3
theorem wpList_append_tab {w : World} {ops : Array Oper} {rest : List Oper} {o : Oper} {a : Act} {Q : Exit → Act → World → Prop} (hgd : o.guard = none) (s x : Operand)
    (ho : o.op = .call { callee := .builtin .append, args := #[s, x], argTypes := #[22, 22] }) (hty : o.type = 22)
    (base : Nat) (v : Value) (n : Nat) (xs : List Value) (hs : a.eval s = v) (hown : w.ownsRow base 25 4 v n xs) (vL : Value) (L : List C) (hx : a.eval x = vL) (hL : Chs w vL L) (h1 : n + L.length ≤ 100000) (hb : base ≤ w.heap.size)
    (h : ∀ v' w', w'.ownsRow base 25 4 v' (n + L.length) (xs ++ cellsL L) → w.grownBy w' v.ownBlock → wpList Try.prog ops Q rest (a.put o.dst v') w') : wpList Try.prog ops Q (o :: rest) a w :=
  wpList_plain hgd fun _ hK => wp_append_tab s x ho hty base v n xs hs hown vL L hx hL h1 hb fun v' w' h2 h3 => hK _ _ (h v' w' h2 h3)
theorem step_append_tab {w : World} {ops : Array Oper} {o : Oper} {a : Act} {K : Act → World → Prop} {Q : Exit → Act → World → Prop} {E : Prop} (hgd : o.guard = none) (s x : Operand)
    (ho : o.op = .call { callee := .builtin .append, args := #[s, x], argTypes := #[22, 22] }) (hty : o.type = 22)
    (base : Nat) (v : Value) (n : Nat) (xs : List Value) (hs : a.eval s = v) (hown : w.ownsRow base 25 4 v n xs) (vL : Value) (L : List C) (hx : a.eval x = vL) (hL : Chs w vL L) (h1 : n + L.length ≤ 100000) (hb : base ≤ w.heap.size)
    (h : ∀ v' w', w'.ownsRow base 25 4 v' (n + L.length) (xs ++ cellsL L) → w.grownBy w' v.ownBlock → K (a.put o.dst v') w') :
    if Region.wanted o (yielded ops a.tmps) = true then Oper.wp Try.prog o a w K Q else E := by
  have hw : Region.wanted o (yielded ops a.tmps) = true := by simp [Region.wanted, hgd]
  rw [if_pos hw]
  exact wp_append_tab s x ho hty base v n xs hs hown vL L hx hL h1 hb h
theorem own_below {W W' : World} {base : Nat} {e : TypeId} {sz : Nat} {v : Value} {n : Nat} {xs : List Value} (h : W.ownsRow base e sz v n xs) (hB : Below W.heap.size W W') : W'.ownsRow base e sz v n xs := h.kept (grown_of_below hB) (by cases hv : v.ownBlock <;> simp)
section
set_option maxRecDepth 100000
set_option maxHeartbeats 4000000
theorem numbers_any (v : Value) (L : List C) (w : World) (hL : Chs w v L) (h9 : L.length ≤ 1000) : Calls Try.prog 22 #[v] w (NumPost L w) := by
  obtain ⟨a, cap, rfl, hn, hm⟩ := hL.parts
  obtain ⟨i0, hin, hz0, hz1, hz2⟩ := info_parts infoU
  have HX := Lib.hid (fun W k (h : Below w.heap.size w W) (hk : k < L.length) => (hL.below h).at hk)
  have HSU : Hid (∀ k, k < L.length → (numV (L.take (k + 1))).map (Value.int .u64) = (numV (L.take k)).map (Value.int .u64) ++ [.int .u64 ((ck L k).cp : Int)]) := fun k hk => by
    rw [take_snoc hk]
    simp [numV]
  have HFin : Hid (∀ W v, W.ownsRow w.heap.size 23 1 v L.length ((numV (L.take L.length)).map (Value.int .u64)) → Below w.heap.size w W → NumPost L w (.returned v) W) := fun W v hown hB => by
    refine ⟨v, rfl, ?_, hB⟩
    rw [List.take_length] at hown
    have := Lies.own hown
    unfold Nums
    rw [show (numV L).length = L.length by simp [numV]]
    exact this
  obtain ⟨N, hN⟩ : ∃ N, L.length = N := ⟨_, rfl⟩
  simp only [hN] at HX HSU HFin hn h9 ⊢
  clear hL hN
  obtain ⟨W0, rfl⟩ : ∃ W0 : World, W0 = w := ⟨_, rfl⟩
  go_enter Try.func22, Try.ntmps22
  go_wp2
  go_loopw [3, 4] (fun v i wr => ∃ k : Nat, k ≤ N ∧ i = .int .i64 (k : Int) ∧ Hid (wr.ownsRow W0.heap.size 23 1 v k ((numV (L.take k)).map (Value.int .u64))) ∧ Hid (Below W0.heap.size W0 wr)) (fun _ i _ => N - (intOf i).toNat)
  case atStart => exact ⟨0, by omega, rfl, World.ownsRow_nil _ _ _ _, Below.refl _ _⟩
  case round =>
    obtain ⟨k, hk, rfl, HOW, HBk⟩ := hrel
    by_cases hlt : k < N
    · obtain ⟨b, off, cap2, e2, c0, c1, c2, c3⟩ := HX.out wr k HBk.out hlt
      cases e2
      have hsu := HSU.out k hlt
      obtain ⟨s, hs⟩ : ∃ s, ck L k = s := ⟨_, rfl⟩
      rw [hs] at c0 c1 c2 c3 hsu
      clear hs
      obtain ⟨ncp, ti, sn, ro⟩ := s
      dsimp only at c0 c1 c2 c3 hsu
      have HS := Lib.hid hsu
      have hown2 := HOW.out.alloc (.cells #[.int .u64 ncp] 23)
      have hnew : ∀ j u, ([.int .u64 (ncp : Int)] : List Value)[j]? = some u → (wr.alloc (.cells #[.int .u64 ncp] 23)).cell? ((⟨wr.heap.size, 0, none⟩ : Addr).add j) = some u := World.news_of_block (cs := #[.int .u64 (ncp : Int)]) (World.alloc_heap_new wr _)
      have HOWN := Lib.hid hown2
      have HNEW := Lib.hid hnew
      have HB2 := Lib.hid (below_al HBk.out (.cells #[.int .u64 ncp] 23))
      clear hown2 hnew hsu
      go_wp2_with (at_builtin; (refine wpList_append_own _ rfl _ _ 36 rfl W0.heap.size 23 i0 (.int .u64 0) 1 8 Try.underlying36 hin hz0 hz1 hz2 rfl (by decide) _ k ((numV (L.take k)).map (Value.int .u64)) rfl HOWN.out ⟨wr.heap.size, 0, none⟩ 1 1 [.int .u64 ncp] rfl rfl HNEW.out (by simp [Value.oneCell']) (by unfold maxLen; omega) (by omega) HB2.out.size ?_; intro v3 w3 hown3 hgrow3 _; have HO3 := Lib.hid hown3; have HB3 := Lib.hid (HB2.out.grown hgrow3 HB2.out.size (fun r e => ((HOWN.out).lt r e).1)); clear hown3 hgrow3))
      go_roundw
      case rel => exact ⟨k + 1, by omega, by go_num, by rw [HS.out]; exact HO3.out, HB3.out⟩
      case measure => simp [intOf]; omega
    · obtain rfl : N = k := by omega
      have HF := Lib.hid (HFin.out wr _ HOW.out HBk.out)
      go_wp2
      go_returns
      exact HF.out
theorem mark_any (v : Value) (L : List C) (cp : Nat) (s : Bool) (w : World) (hL : Chs w v L) : Calls Try.prog 24 #[v, .int .u64 cp, .bool s] w (TabPost (mrkV L cp s) (fndE L cp) w) := by
  have hf := Find_any v L cp w hL
  have hp := fun W (h : Below w.heap.size w W) => place_any v L cp W (hL.below h)
  obtain ⟨a, cap, rfl, hn, hm⟩ := hL.parts
  have HBX := Lib.hid (fun W : World => below_new W (boxO (fndC L cp)))
  by_cases h : fndE L cp = 0
  · obtain ⟨hr, h1⟩ := fndE_zero.1 h
    rw [h] at hf
    have hV : mrkV L cp s = L.set (at_ L cp) (markC (ck L (at_ L cp)) s) := if_pos h
    have hi0 : idxI L cp = at_ L cp := if_pos h1
    simp only [hi0] at hp
    have h8 := hr.1
    have hfin : ∀ W g cg, W.ownsRow w.heap.size 25 4 (.slice (some ⟨g, 0, none⟩) L.length cg) L.length (cellsL L) → Below w.heap.size w W → (∃ u, W.cell? ⟨g, at_ L cp * 4 + 2, none⟩ = some u) ∧ W.frozen? ⟨g, at_ L cp * 4 + 2, none⟩ = false ∧ Hid (TabPost (mrkV L cp s) (fndE L cp) w (.returned (.tuple #[.slice (some ⟨g, 0, none⟩) L.length cg, .int .i64 0])) (W.setCell ⟨g, at_ L cp * 4 + 2, none⟩ (.bool s))) := fun W g cg hown hB => by
      obtain ⟨q1, q2, q3, q4⟩ := own_snap rfl hown h1 s
      have hg := (hown.lt g rfl).1
      refine ⟨q1, q2, tab_yes hV h ?_ (hB.trans (q4.mono hg))⟩
      have := Chs.own (L := L.set (at_ L cp) (markC (ck L (at_ L cp)) s)) (by rw [List.length_set]; exact q3)
      exact this
    have hlb := fun W (hB : Below w.heap.size w W) => hL.below hB
    obtain ⟨i, hi⟩ : ∃ i, at_ L cp = i := ⟨_, rfl⟩
    rw [hi] at hfin h1
    simp only [hi] at hp
    obtain ⟨N, hN⟩ : ∃ N, L.length = N := ⟨_, rfl⟩
    obtain ⟨X, hX, hmk⟩ := make_fun N (by omega)
    rw [hN] at hf hfin hn h1 h8 ⊢
    simp only [hN] at hp hlb
    have HP := Lib.hid hp
    have HFIN := Lib.hid hfin
    have HF := Lib.hid hf
    have HLB := Lib.hid hlb
    have HOM := Lib.hid (fun W : World => World.ownsRow_made (base := W.heap.size) (e := 25) (size := 4) W X N (Nat.le_refl _) (by unfold maxLen; omega) hX)
    have g2 : (0 : Int) ≤ (i : Int) := by omega
    have g3 : (i : Int) < (N : Int) := by omega
    clear hfin hf hp hlb hL hr h hV hi hi0
    obtain ⟨y, hy⟩ : ∃ y, fndC L cp = y := ⟨_, rfl⟩
    rw [hy] at HF HBX
    clear hy
    obtain ⟨yc, yt, ys, yr⟩ := y
    unfold C.val at HF
    unfold boxO at HBX
    dsimp only at HF HBX
    have hN2 : 0 + L.length ≤ 100000 := by omega
    have HN := Lib.hid hN
    clear hN
    go_enter Try.func24, Try.ntmps24
    go_wp2_with (first
      | (go_at_call 16; (with_reducible refine Calls.mono HF.out ?_); rintro e w1 ⟨rfl, hB1⟩; have HB1 := Lib.hid (below_th hB1 (HBX.out w1)); clear hB1)
      | (at_builtin; go_loud (refine wpList_append_tab rfl _ _ rfl rfl (w1.heap.size + 1) (.slice (some ⟨w1.heap.size + 1, 0, none⟩) 0 N) 0 [] rfl (by have := HOM.out (w1.alloc (.cells #[.int .u64 (yc : Nat), .int .u64 (yt : Nat), .bool ys, .string yr] 25)); rw [World.size_alloc] at this; exact this) _ L rfl (HLB.out _ (below_al HB1.out _)) hN2 (by simp) ?_; intro v4 w4 hown4 hgrow4; rw [Nat.zero_add, List.nil_append, HN.out] at hown4; have HB4 := Lib.hid ((below_al HB1.out (.cells X 25)).grown hgrow4 (by have := HB1.out.size; simp at this ⊢; omega) (fun r e => Nat.le_trans HB1.out.size (Nat.le_of_eq (by simpa [Value.ownBlock] using e)))); obtain ⟨g, cg, rfl, hg, hcg1, hcg2⟩ := own_open hown4 (by omega); have HO4 := Lib.hid (own_lower hown4 (base := w.heap.size) (by have := HB1.out.size; simp at this ⊢; omega)); clear hown4 hgrow4))
      | (go_at_call 40; (with_reducible refine Calls.mono (HP.out _ HB4.out) ?_); rintro e w5 ⟨rfl, hB5⟩; obtain ⟨⟨u, hu⟩, hfz, HPP⟩ := HFIN.out _ _ _ (own_below HO4.out hB5) (below_th HB4.out hB5)))
    go_returns
    exact HPP.out
  · have HF : Hid (∀ W, Below w.heap.size w W → TabPost (mrkV L cp s) (fndE L cp) w (.returned (.tuple #[.slice none 0 0, .int .i64 (fndE L cp)])) W) := fun W hB => tab_no (if_neg h) rfl hB
    obtain ⟨n, hne⟩ : ∃ n, fndE L cp = n := ⟨_, rfl⟩
    rw [hne] at hf HF h ⊢
    have g1 : (n == 0) = false := by simp [h]
    have g2 : (n != 0) = true := by simp [h]
    obtain ⟨N, hN⟩ : ∃ N, L.length = N := ⟨_, rfl⟩
    rw [hN] at hf hn ⊢
    have HFD := Lib.hid hf
    clear hf hL hN h hne hp
    obtain ⟨y, hy⟩ : ∃ y, fndC L cp = y := ⟨_, rfl⟩
    rw [hy] at HFD HBX
    clear hy
    obtain ⟨yc, yt, ys, yr⟩ := y
    unfold C.val at HFD
    unfold boxO at HBX
    dsimp only at HFD HBX
    go_enter Try.func24, Try.ntmps24
    go_wp2_with (go_at_call 16; (with_reducible refine Calls.mono HFD.out ?_); rintro e w1 ⟨rfl, hB1⟩)
    go_returns
    exact HF.out _ (below_th hB1 (HBX.out w1))
end
end Go.Proofs.Ytoedjemelblpaaa.Cps.R
