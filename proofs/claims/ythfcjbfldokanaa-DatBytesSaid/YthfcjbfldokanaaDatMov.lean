/- Move, End of the program. -/
import Derived.Test.YthfcjbfldokanaaDatDo
namespace Go.Proofs.Ythfcjbfldokanaa.Dat
open Go.RowKit
attribute [local go_sem] Oper.semAt_some
set_option linter.unusedVariables false

section
set_option maxRecDepth 100000
set_option maxHeartbeats 2000000
theorem find_yes {L : List T} {i : Nat} (hr : RightP L) (hh : hasP L i) : findT L i = tr L i ∧ findE L i = 0 := ⟨if_pos ⟨hr, hh⟩, by unfold findE; rw [if_pos hr, if_pos hh]⟩
theorem find_no {L : List T} {i : Nat} (hh : ¬ (RightP L ∧ hasP L i)) : findT L i = T.zero ∧ (findE L i = 80 ∧ ¬ RightP L ∨ findE L i = 82 ∧ RightP L) := by
  refine ⟨if_neg hh, ?_⟩
  unfold findE
  by_cases hr : RightP L
  · rw [if_pos hr, if_neg (fun h => hh ⟨hr, h⟩)]; exact .inr ⟨rfl, hr⟩
  · rw [if_neg hr]; exact .inl ⟨rfl, hr⟩
theorem mov_yes {L : List T} {i ph : Nat} {w w' : World} {v : Value} (h : movOk L i ph) (hT : Trs w' v (putAt L i (movT L i ph))) (hB : Below w.heap.size w w') : TabPost (movV L i ph) (movE L i ph) w (.returned (.tuple #[v, .int .i64 0])) w' := by
  refine ⟨v, by rw [movE_ok.2 h], ?_, hB⟩
  unfold movV
  rw [if_pos h, ← putAt_lt h.2.1.1]
  exact hT
theorem move_any (v : Value) (L : List T) (i ph : Nat) (w : World) (hL : Trs w v L) (hi : i < 4294967296) : Calls Try.prog 13 #[v, .int .u32 i, .int .u32 ph] w (TabPost (movV L i ph) (movE L i ph) w) := by
  have hF := find_any v L i w hL hi
  obtain ⟨a, cap, rfl, hn, hm⟩ := hL.parts
  obtain ⟨N, hN⟩ : ∃ N, L.length = N := ⟨_, rfl⟩
  have HB0 := Lib.hid (fun (w1 : World) (y : T) (h : Below w.heap.size w w1) => below_th h (below_new w1 (boxO y)))
  by_cases hh : RightP L ∧ hasP L i
  · obtain ⟨hr, hh⟩ := hh
    have hw1 : IntKind.i64.wrap (i : Int) = (i : Int) := by rw [IntKind.wrap_i64]; omega
    obtain ⟨e1, e2⟩ := find_yes hr hh
    rw [e1, e2] at hF
    have hWi := fun W (h : Below w.heap.size w W) => with_any _ L i (movT L i ph) W (hL.below h) hr.1.1 (by have := hr.1; omega) (by have := hh.1; omega)
    have hSt := fun W => stands_any (movT L i ph) W
    have HA2 := Lib.hid (fun (W : World) => At.new W (movT L i ph))
    have HBn2 := Lib.hid (fun (W : World) => below_new W (boxO (movT L i ph)))
    have HYes := Lib.hid (fun (W : World) (v : Value) (h0 : movOk L i ph) (h1 : Trs W v (putAt L i (movT L i ph))) (h2 : Below w.heap.size w W) => mov_yes h0 h1 h2)
    have hOk : movOk L i ph ↔ standsP (movT L i ph) := ⟨fun h => h.2.2, fun h => ⟨hr, hh, h⟩⟩
    have hE : movE L i ph = if standsP (movT L i ph) then 0 else 80 := by unfold movE; rw [if_pos hr, if_pos hh]
    unfold movT at hWi hSt HYes hOk hE HA2 HBn2
    obtain ⟨y, hy⟩ : ∃ y, tr L i = y := ⟨_, rfl⟩
    rw [hy] at hF hOk hE
    simp only [hy] at hWi hSt HYes HA2 HBn2
    clear e1 e2 hr hh hy
    rw [hN] at hF hWi hn ⊢
    have HA := Lib.hid (fun (W : World) => At.new W y)
    have HBn := Lib.hid (fun (W : World) => below_new W (boxO y))
    obtain ⟨p0, st, fi⟩ := y
    unfold T.val at hF hSt hWi
    unfold boxO at HA HBn HA2 HBn2
    dsimp only at hF hSt hWi HA HBn HA2 HBn2 HYes hOk hE
    have HF := Lib.hid hF
    have HWi := Lib.hid hWi
    by_cases hs : standsP ⟨ph, st, fi⟩
    · rw [show standsB ⟨ph, st, fi⟩ = true from decide_eq_true hs] at hSt
      have HOk := Lib.hid (hOk.2 hs)
      have HSt := Lib.hid hSt
      clear hF hWi hL hN hs hOk hE hSt HB0
      go_enter Try.func13, Try.ntmps13
      go_wp2_with (first
        | (go_at_call 35; (with_reducible refine Calls.mono HF.out ?_); rintro e w1 ⟨rfl, hB1⟩; have hA1 := HA.out w1; obtain ⟨c0, c1, c2⟩ := hA1.c; dsimp only at c0 c1 c2; have f0 := hA1.f 0; have hA2 := HA2.out w1; obtain ⟨d0, d1, d2⟩ := hA2.c; dsimp only at d0 d1 d2; have HA2 := Lib.hid hA2; have HB2 := Lib.hid (below_th hB1 (HBn2.out w1)); clear hA1 hA2)
        | (go_at_call 31; (with_reducible refine Calls.mono (HSt.out _) ?_); rintro e w3 ⟨rfl, hB3⟩; have hA3 := (HA2.out).th hB3; obtain ⟨g0, g1, g2⟩ := hA3.c; dsimp only at g0 g1 g2; clear hA3; have HB3 := Lib.hid (below_th HB2.out hB3))
        | (go_at_call 32; (with_reducible refine Calls.mono (HWi.out _ HB3.out) ?_); rintro e w4 ⟨v4, rfl, hT4, hB4⟩))
      go_returns
      exact HYes.out _ _ HOk.out hT4 (below_th HB3.out hB4)
    · rw [show standsB ⟨ph, st, fi⟩ = false from decide_eq_false hs] at hSt
      have HFN := Lib.hid (show ∀ W, Below w.heap.size w W → TabPost (movV L i ph) (movE L i ph) w (.returned (.tuple #[.slice none 0 0, .int .i64 80])) W from fun W h => by rw [hE, if_neg hs]; exact tab_no _ (movV_no (fun hh => hs (hOk.1 hh))) h)
      have HSt := Lib.hid hSt
      clear hF hWi hL hN hs hOk hE hSt HB0
      go_enter Try.func13, Try.ntmps13
      go_wp2_with (first
        | (go_at_call 35; (with_reducible refine Calls.mono HF.out ?_); rintro e w1 ⟨rfl, hB1⟩; have hA1 := HA.out w1; obtain ⟨c0, c1, c2⟩ := hA1.c; dsimp only at c0 c1 c2; have f0 := hA1.f 0; have hA2 := HA2.out w1; obtain ⟨d0, d1, d2⟩ := hA2.c; dsimp only at d0 d1 d2; have HB2 := Lib.hid (below_th hB1 (HBn2.out w1)); clear hA1 hA2)
        | (go_at_call 31; (with_reducible refine Calls.mono (HSt.out _) ?_); rintro e w3 ⟨rfl, hB3⟩; have HB3 := Lib.hid (below_th HB2.out hB3)))
      go_returns
      exact HFN.out _ HB3.out
  · obtain ⟨e1, e2⟩ := find_no hh
    have hno : movV L i ph = [] := movV_no (fun h => hh ⟨h.1, h.2.1⟩)
    rw [e1] at hF
    have hE : movE L i ph = findE L i := by
      unfold movE findE
      by_cases hr : RightP L
      · rw [if_pos hr, if_pos hr, if_neg (fun h => hh ⟨hr, h⟩), if_neg (fun h => hh ⟨hr, h⟩)]
      · rw [if_neg hr, if_neg hr]
    rw [hE]
    have HBn := Lib.hid (fun (W : World) => below_new W boxZ)
    unfold boxZ at HBn
    have HNo := Lib.hid (fun (W : World) (n : Int) (h : Below w.heap.size w W) => tab_no (n := n) (movV L i ph) hno h)
    have hZ : T.zero.val = .agg #[.int .u32 0, .int .u64 0, .int .u64 0] := rfl
    rw [hZ] at hF
    rw [hN] at hF hn ⊢
    clear e1 hh hno hE hL hN HB0 hZ
    rcases e2 with ⟨e, _⟩ | ⟨e, _⟩
    all_goals
      rw [e] at hF ⊢
      have HF := Lib.hid hF
      clear hF e
      go_enter Try.func13, Try.ntmps13
      go_wp2_with (go_at_call 35; (with_reducible refine Calls.mono HF.out ?_); rintro e w1 ⟨rfl, hB1⟩; have HB1 := Lib.hid (below_th hB1 (HBn.out w1)))
      go_returns
      exact HNo.out _ _ HB1.out
theorem end_yes {L : List T} {i cp : Nat} {w w' : World} {v : Value} (h : endOk L i cp) (hT : Trs w' v (putAt L i (endT L i cp))) (hB : Below w.heap.size w w') : TabPost (endV L i cp) (endE L i cp) w (.returned (.tuple #[v, .int .i64 0])) w' := by
  refine ⟨v, by rw [endE_ok.2 h], ?_, hB⟩
  unfold endV
  rw [if_pos h, ← putAt_lt h.2.1.1]
  exact hT
theorem end_no {L : List T} {i cp : Nat} {w w' : World} {n : Int} (h : ¬ endOk L i cp) (hn : n = endE L i cp) (hB : Below w.heap.size w w') : TabPost (endV L i cp) (endE L i cp) w (.returned (.tuple #[.slice none 0 0, .int .i64 n])) w' := by
  rw [← hn]
  exact tab_no _ (endV_no h) hB
theorem end_any (v : Value) (L : List T) (i cp : Nat) (w : World) (hL : Trs w v L) (hi : i < 4294967296) : Calls Try.prog 18 #[v, .int .u32 i, .int .u64 cp] w (TabPost (endV L i cp) (endE L i cp) w) := by
  have hF := find_any v L i w hL hi
  obtain ⟨a, cap, rfl, hn, hm⟩ := hL.parts
  obtain ⟨N, hN⟩ : ∃ N, L.length = N := ⟨_, rfl⟩
  by_cases hh : RightP L ∧ hasP L i
  · obtain ⟨hr, hh⟩ := hh
    have hw1 : IntKind.i64.wrap (i : Int) = (i : Int) := by rw [IntKind.wrap_i64]; omega
    obtain ⟨e1, e2⟩ := find_yes hr hh
    rw [e1, e2] at hF
    have hWi := fun W t (h : Below w.heap.size w W) => with_any _ L i t W (hL.below h) hr.1.1 (by have := hr.1; omega) (by have := hh.1; omega)
    have HA2 := Lib.hid (fun (W : World) => At.new W ⟨(tr L i).phys, (tr L i).start, cp⟩)
    have HBn2 := Lib.hid (fun (W : World) => below_new W (boxO ⟨(tr L i).phys, (tr L i).start, cp⟩))
    have HYes := Lib.hid (fun (W : World) (v : Value) (h0 : endOk L i cp) (h1 : Trs W v (putAt L i (endT L i cp))) (h2 : Below w.heap.size w W) => end_yes h0 h1 h2)
    have HNo := Lib.hid (fun (W : World) (n : Int) (h0 : ¬ endOk L i cp) (h1 : n = endE L i cp) (h2 : Below w.heap.size w W) => end_no h0 h1 h2)
    have hOk : endOk L i cp ↔ (tr L i).fin = 0 ∧ ¬ cp = 0 ∧ oneP (endT L i cp) := ⟨fun h => h.2.2, fun h => ⟨hr, hh, h⟩⟩
    have hE : endE L i cp = if (tr L i).fin = 0 then (if ¬ cp = 0 ∧ oneP (endT L i cp) then 0 else 80) else 82 := by
      unfold endE
      rw [if_pos hr]
      by_cases hz : (tr L i).fin = 0
      · rw [if_pos ⟨hh, hz⟩, if_pos hz]
      · rw [if_neg (fun h => hz h.2), if_neg hz]
    have hS := hr.stands hh.2
    unfold endT at HYes hOk hE
    obtain ⟨y, hy⟩ : ∃ y, tr L i = y := ⟨_, rfl⟩
    rw [hy] at hF hOk hE hS
    simp only [hy] at HYes HA2 HBn2
    clear e1 e2 hr hh hy
    rw [hN] at hF hWi hn ⊢
    have HA := Lib.hid (fun (W : World) => At.new W y)
    have HBn := Lib.hid (fun (W : World) => below_new W (boxO y))
    obtain ⟨p0, st, fi⟩ := y
    unfold T.val at hF
    unfold boxO at HA HBn HA2 HBn2
    dsimp only at hF HA HBn HA2 HBn2 HYes hOk hE hS
    have HF := Lib.hid hF
    have HWi := Lib.hid hWi
    have hst1 : 1 ≤ st := hS.2.1.1
    by_cases hz : fi = 0
    · have q1 : ((fi : Int) != 0) = false := by simp [hz]
      by_cases hc : cp = 0
      · have q2 : ((cp : Int) == 0) = true := by simp [hc]
        have hne : ¬ endOk L i cp := fun h => (hOk.1 h).2.1 hc
        have HFN := Lib.hid (fun W h => HNo.out W 80 hne (by rw [hE, if_pos hz, if_neg (fun h => h.1 hc)]) h)
        clear hF hWi hL hN hOk hE hS hz hc hne HNo
        go_enter Try.func18, Try.ntmps18
        go_wp2_with (first
          | (go_at_call 35; (with_reducible refine Calls.mono HF.out ?_); rintro e w1 ⟨rfl, hB1⟩; have hA1 := HA.out w1; obtain ⟨c0, c1, c2⟩ := hA1.c; dsimp only at c0 c1 c2; have HB2 := Lib.hid (below_th hB1 (HBn.out w1)); clear hA1))
        go_returns
        exact HFN.out _ HB2.out
      · have q2 : ((cp : Int) == 0) = false := by simp [hc]
        by_cases hcs : cp = st
        · have q3 : ((cp : Int) == (st : Int)) = true := by simp [hcs]
          rw [if_pos hcs] at hOk hE
          have hyes : endOk L i cp := hOk.2 ⟨hz, hc, zero_one⟩
          have hWZ := fun W h => hWi W T.zero h
          have HWZ := Lib.hid (show ∀ W, Below w.heap.size w W → Calls Try.prog 32 #[.slice a N cap, .int .i64 i, .agg #[.int .u32 0, .int .u64 0, .int .u64 0]] W (WithPost (putAt L i T.zero) W) from hWZ)
          have HY2 := Lib.hid (fun (W : World) (v : Value) (h1 : Trs W v (putAt L i T.zero)) h2 => HYes.out W v hyes (by rw [if_pos hcs]; exact h1) h2)
          clear hF hWi hL hN hOk hE hS hz hc hWZ HNo HYes hyes hcs
          go_enter Try.func18, Try.ntmps18
          go_wp2_with (first
            | (go_at_call 35; (with_reducible refine Calls.mono HF.out ?_); rintro e w1 ⟨rfl, hB1⟩; have hA1 := HA.out w1; obtain ⟨c0, c1, c2⟩ := hA1.c; dsimp only at c0 c1 c2; have HB2 := Lib.hid (below_th hB1 (HBn.out w1)); clear hA1)
            | (go_at_call 32; (with_reducible refine Calls.mono (HWZ.out _ HB2.out) ?_); rintro e w4 ⟨v4, rfl, hT4, hB4⟩))
          go_returns
          exact HY2.out _ _ hT4 (below_th HB2.out hB4)
        · have q3 : ((cp : Int) == (st : Int)) = false := by simp; omega
          rw [if_neg hcs] at hOk hE
          have hSt := fun W => stands_any ⟨p0, st, cp⟩ W
          have hone : oneP ⟨p0, st, cp⟩ ↔ standsP ⟨p0, st, cp⟩ := ⟨fun h => h.resolve_left (fun e => by have := congrArg T.start e; simp [T.zero] at this; omega), .inr⟩
          rw [hone] at hOk
          by_cases hs : standsP ⟨p0, st, cp⟩
          · rw [show standsB ⟨p0, st, cp⟩ = true from decide_eq_true hs] at hSt
            have hyes : endOk L i cp := hOk.2 ⟨hz, hc, hs⟩
            have hWZ := fun W h => hWi W ⟨p0, st, cp⟩ h
            have HY2 := Lib.hid (fun (W : World) (v : Value) (h1 : Trs W v (putAt L i ⟨p0, st, cp⟩)) h2 => HYes.out W v hyes (by rw [if_neg hcs]; exact h1) h2)
            unfold T.val at hSt hWZ
            dsimp only at hSt hWZ
            have HSt := Lib.hid hSt
            have HWZ := Lib.hid hWZ
            clear hF hWi hL hN hOk hE hS hz hc hWZ HNo HYes hyes hcs hSt hone hs
            go_enter Try.func18, Try.ntmps18
            go_wp2_with (first
              | (go_at_call 35; (with_reducible refine Calls.mono HF.out ?_); rintro e w1 ⟨rfl, hB1⟩; have hA1 := HA.out w1; obtain ⟨c0, c1, c2⟩ := hA1.c; dsimp only at c0 c1 c2; have f2 := hA1.f 2; have hA2 := HA2.out w1; obtain ⟨d0, d1, d2⟩ := hA2.c; dsimp only at d0 d1 d2; have HA2 := Lib.hid hA2; have HB2 := Lib.hid (below_th hB1 (HBn2.out w1)); clear hA1 hA2)
              | (go_at_call 31; (with_reducible refine Calls.mono (HSt.out _) ?_); rintro e w3 ⟨rfl, hB3⟩; have hA3 := (HA2.out).th hB3; obtain ⟨g0, g1, g2⟩ := hA3.c; dsimp only at g0 g1 g2; clear hA3; have HB3 := Lib.hid (below_th HB2.out hB3))
              | (go_at_call 32; (with_reducible refine Calls.mono (HWZ.out _ HB3.out) ?_); rintro e w4 ⟨v4, rfl, hT4, hB4⟩))
            go_returns
            exact HY2.out _ _ hT4 (below_th HB3.out hB4)
          · rw [show standsB ⟨p0, st, cp⟩ = false from decide_eq_false hs] at hSt
            have hne : ¬ endOk L i cp := fun h => hs (hOk.1 h).2.2
            have HFN := Lib.hid (fun W h => HNo.out W 80 hne (by rw [hE, if_pos hz, if_neg (fun h => hs (hone.1 h.2))]) h)
            unfold T.val at hSt
            dsimp only at hSt
            have HSt := Lib.hid hSt
            clear hF hWi hL hN hOk hE hS hz hc HNo HYes hne hcs hSt hone hs
            go_enter Try.func18, Try.ntmps18
            go_wp2_with (first
              | (go_at_call 35; (with_reducible refine Calls.mono HF.out ?_); rintro e w1 ⟨rfl, hB1⟩; have hA1 := HA.out w1; obtain ⟨c0, c1, c2⟩ := hA1.c; dsimp only at c0 c1 c2; have f2 := hA1.f 2; have hA2 := HA2.out w1; obtain ⟨d0, d1, d2⟩ := hA2.c; dsimp only at d0 d1 d2; have HB2 := Lib.hid (below_th hB1 (HBn2.out w1)); clear hA1 hA2)
              | (go_at_call 31; (with_reducible refine Calls.mono (HSt.out _) ?_); rintro e w3 ⟨rfl, hB3⟩; have HB3 := Lib.hid (below_th HB2.out hB3)))
            go_returns
            exact HFN.out _ HB3.out
    · have q1 : ((fi : Int) != 0) = true := by simp [hz]
      have hne : ¬ endOk L i cp := fun h => hz (hOk.1 h).1
      have HFN := Lib.hid (fun W h => HNo.out W 82 hne (by rw [hE, if_neg hz]) h)
      clear hF hWi hL hN hOk hE hS hz hne HNo
      go_enter Try.func18, Try.ntmps18
      go_wp2_with (first
        | (go_at_call 35; (with_reducible refine Calls.mono HF.out ?_); rintro e w1 ⟨rfl, hB1⟩; have hA1 := HA.out w1; obtain ⟨c0, c1, c2⟩ := hA1.c; dsimp only at c0 c1 c2; have HB2 := Lib.hid (below_th hB1 (HBn.out w1)); clear hA1))
      go_returns
      exact HFN.out _ HB2.out
  · obtain ⟨e1, e2⟩ := find_no hh
    have hno : ¬ endOk L i cp := fun h => hh ⟨h.1, h.2.1⟩
    rw [e1] at hF
    have hE : endE L i cp = findE L i := by
      unfold endE findE
      by_cases hr : RightP L
      · rw [if_pos hr, if_pos hr, if_neg (fun h => hh ⟨hr, h.1⟩), if_neg (fun h => hh ⟨hr, h⟩)]
      · rw [if_neg hr, if_neg hr]
    have HBn := Lib.hid (fun (W : World) => below_new W boxZ)
    unfold boxZ at HBn
    have HNo := Lib.hid (fun (W : World) (n : Int) (h1 : n = findE L i) (h : Below w.heap.size w W) => end_no (n := n) hno (by rw [hE]; exact h1) h)
    have hZ : T.zero.val = .agg #[.int .u32 0, .int .u64 0, .int .u64 0] := rfl
    rw [hZ] at hF
    rw [hN] at hF hn ⊢
    clear e1 hh hno hE hL hN hZ
    rcases e2 with ⟨e, _⟩ | ⟨e, _⟩
    all_goals
      rw [e] at hF
      have HF := Lib.hid hF
      have HE := Lib.hid e
      clear hF e
      go_enter Try.func18, Try.ntmps18
      go_wp2_with (go_at_call 35; (with_reducible refine Calls.mono HF.out ?_); rintro e w1 ⟨rfl, hB1⟩; have HB1 := Lib.hid (below_th hB1 (HBn.out w1)))
      go_returns
      exact HNo.out _ _ HE.out.symm HB1.out
end
end Go.Proofs.Ythfcjbfldokanaa.Dat
