/- The document's Counts, SameTexts, SameInts. -/
import Derived.Test.YthfcjbfldokanaaDatRefW
import Derived.Test.YthfcjbfldokanaaDatEnc
import Derived.Test.YthfcjbfldokanaaDatCnt
namespace Go.Proofs.Ythfcjbfldokanaa.Dat.R
open Go.RowKit
attribute [local go_sem] Oper.semAt_some
set_option linter.unusedVariables false
section
set_option maxRecDepth 100000
set_option maxHeartbeats 4000000
theorem counts_yes (v : Value) (n : Nat) (L : List T) (w : World) (hL : Trs w v L) (hr : RightP L) (hn1 : 1 ≤ n) (hn2 : n ≤ 256) :
    Calls Try.prog 27 #[v, .int .i64 n] w (CntPost L n w) := by
  have hR := right_any v L w hL
  rw [rightB_yes hr] at hR
  obtain ⟨b, off, cap, rfl, _⟩ := hL.at (k := 0) (by have := hr.1; omega)
  obtain ⟨N, hN⟩ : ∃ N, L.length = N := ⟨_, rfl⟩
  have hN1 : 1 ≤ N := by have := hr.1; omega
  have hN9 : N ≤ 1860 := by have := hr.1; omega
  have hcaps : N ≤ cap ∧ cap ≤ 9223372036854775807 := by
    obtain ⟨a1, cap1, e, g1, g2⟩ := hL.parts
    cases e
    omega
  obtain ⟨hcap1, hcap2⟩ := hcaps
  have HX := Lib.hid (fun W k (h : Below w.heap.size w W) (hk : k < N) => (hL.below h).get rfl (show k < L.length by omega))
  have HFr := Lib.hid (fun k W => free_any (tr L k) W)
  have HFT := Lib.hid (fun i => hr.fit i)
  have hmk : ∀ W : World, (Instr.makeSlice 46 (.int .i64 (n : Int)) (.int .i64 (n : Int))).run Try.prog W = .ok (.slice (some ⟨W.heap.size, 0, none⟩) n n) (W.alloc (.cells (madeCells #[.int .i64 0] n) 3)) := fun W =>
    run_make_row' (P := Try.prog) 46 3 (.int .i64 0) 8 Try.underlying46 infoInt rfl .i64 .i64 n (by omega) (by omega) W
  have HCS := Lib.hid (fun k => cand_succ L k)
  have hcl : ∀ k sg, k ≤ N → cnt L (cand L k) sg ≤ 1860 := fun k sg h => by
    have h1 := cnt_le L (cand L k) sg
    have h2 : (cand L k).length ≤ k := cand_le L k
    omega
  have HCL := Lib.hid hcl
  have HBad : Hid (∀ k, k < N → usedP L k → ¬ segOf L k < n → ¬ cntOk L n) := fun k hk hu hs hh => hs (by have := hh.2.2 k (mem_cand (by omega) hu); rwa [Int.toNat_natCast] at this)
  have HZero : Hid (∀ k, ¬ segOf L k < n → usedP L k) := fun k hs h0 => hs (by unfold segOf; rw [h0]; show 0 / 16 < n; omega)
  have HFin : Hid (∀ (W : World) (g : Nat), fitP L (cand L N) n → Row W g 3 (cntC L (cand L N) n) → w.heap.size ≤ g → Below w.heap.size w W → CntPost L n w (.returned (.tuple #[.slice (some ⟨g, 0, none⟩) n n, .int .i64 0])) W) := fun W g hfit hrow hg hB => by
    have hfit' : fitP L (cnd L) n := by unfold cnd; rw [hN]; exact hfit
    have hrow' : Row W g 3 (cntC L (cnd L) n ++ []) := by rw [List.append_nil]; unfold cnd; rw [hN]; exact hrow
    have hok : cntOk L n := ⟨hr, by omega, by rw [Int.toNat_natCast]; exact hfit'⟩
    have hV : cntV L n = cntL L (cnd L) n := by unfold cntV; rw [if_pos hok, Int.toNat_natCast]
    have hlen := cntC_length L (cnd L) n
    have hown3 := own_of_row (n := n) (size := 1) (base := g) hrow' (by rw [List.append_nil, hlen, Nat.mul_one]) (Nat.le_refl _) (by unfold maxLen; omega) (by rw [hlen, Nat.mul_one]) (Nat.le_refl _)
    refine ⟨_, by rw [show cntE L n = 0 from if_pos hok], ?_, hB⟩
    rw [hV]
    have := Lies.own hown3
    unfold Ints
    rw [cntL_length]
    exact this
  have HNo := Lib.hid (fun (W : World) (h : ¬ cntOk L n) (hB : Below w.heap.size w W) => cnt_no h hB)
  have g1 : ¬ (n : Int) < 1 := by omega
  have g2 : ¬ (256 : Int) < (n : Int) := by omega
  have g1' : decide ((n : Int) < 1) = false := decide_eq_false g1
  have g2' : decide ((256 : Int) < (n : Int)) = false := decide_eq_false g2
  rw [hN] at hR ⊢
  have HR := Lib.hid hR
  clear hR hL hr hN hcl
  obtain ⟨W0, rfl⟩ : ∃ W0 : World, W0 = w := ⟨_, rfl⟩
  go_enter Try.func27, Try.ntmps27
  go_wp2_with (go_at_call 16; (with_reducible refine Calls.mono HR.out ?_); rintro e w1 ⟨rfl, hB1⟩)
  have hsz1 := hB1.size
  have hrow0 : Row (w1.alloc (.cells (madeCells #[.int .i64 0] n) 3)) w1.heap.size 3 (cntC L (cand L 0) n) := by
    rw [cand_zero, cntC_nil, ← toList_madeCells_one]
    exact World.alloc_heap_new w1 _
  have hB2 := below_al hB1 (.cells (madeCells #[.int .i64 0] n) 3)
  obtain ⟨g, hg⟩ : ∃ g, w1.heap.size = g := ⟨_, rfl⟩
  rw [hg] at hrow0 hsz1 ⊢
  go_loopw [8, 9] (fun i s wr => ∃ k : Nat, k ≤ N ∧ i = .int .i64 (k : Int) ∧ Hid (fitP L (cand L k) n) ∧ Hid (Row wr g 3 (cntC L (cand L k) n)) ∧ Hid (Below W0.heap.size W0 wr)) (fun i _ _ => N - (intOf i).toNat)
  case atStart => exact ⟨0, by omega, rfl, (show fitP L (cand L 0) n from fun i hi => by rw [cand_zero] at hi; cases hi), hrow0, hB2⟩
  case round =>
    obtain ⟨k, hk, rfl, HFit, HRow, HBk⟩ := hrel
    by_cases hlt : k < N
    · obtain ⟨x0, x1, x2⟩ := HX.out wr k HBk.out hlt
      have hf := fun W => HFr.out k W
      obtain ⟨o1, o2, o3⟩ := HFT.out k
      obtain ⟨sg, hsg⟩ : ∃ sg, segOf L k = sg := ⟨_, rfl⟩
      have hd1 : ((tr L k).phys : Int) / 16 = (sg : Int) := by have : (tr L k).phys / 16 = sg := hsg; omega
      have hd2 : ((tr L k).phys : Int).tdiv 16 = (sg : Int) := by rw [Int.tdiv_eq_ediv_of_nonneg (by omega)]; exact hd1
      have hsgb : sg < 268435456 := by have : (tr L k).phys / 16 = sg := hsg; omega
      have hw1 : IntKind.i64.wrap ((tr L k).phys : Int) = ((tr L k).phys : Int) := by rw [IntKind.wrap_i64]; omega
      have hw2 : IntKind.i64.wrap (sg : Int) = (sg : Int) := by rw [IntKind.wrap_i64]; omega
      by_cases hs : sg < n
      · have hge : ¬ (n : Int) ≤ (sg : Int) := by omega
        have hge' : decide ((n : Int) ≤ (sg : Int)) = false := decide_eq_false hge
        have hgeN : decide (n ≤ sg) = false := decide_eq_false (by omega)
        by_cases hz : tr L k = T.zero
        · rw [show freeB (tr L k) = true from decide_eq_true hz] at hf
          have hcs := HCS.out k
          rw [if_neg (show ¬ usedP L k from fun h => h hz), List.append_nil] at hcs
          have HC1 := Lib.hid hcs
          clear hcs hz hsg
          obtain ⟨y, hy⟩ : ∃ y, tr L k = y := ⟨_, rfl⟩
          rw [hy] at x0 x1 x2 hd1 hd2 hw1
          simp only [hy] at hf
          unfold T.val at hf
          obtain ⟨ph, st, fi⟩ := y
          dsimp only at x0 x1 x2 hd1 hd2 hw1 hf
          have HF := Lib.hid hf
          clear hf hy o1 o2 o3
          go_wp2_with (go_at_call 33; (with_reducible refine Calls.mono (HF.out _) ?_); rintro e w2 ⟨rfl, hB3⟩)
          go_roundw
          case rel => exact ⟨k + 1, by omega, by go_num, by rw [HC1.out]; exact HFit.out, by rw [HC1.out]; exact HRow.out.of_heap (hB3.block g HRow.out.lt), below_th HBk.out hB3⟩
          case measure => simp [intOf]; omega
        · rw [show freeB (tr L k) = false from decide_eq_false hz] at hf
          have hcs := HCS.out k
          rw [if_pos (show usedP L k from hz)] at hcs
          have HC1 := Lib.hid hcs
          obtain ⟨d, hd⟩ : ∃ d, cnt L (cand L k) sg = d := ⟨_, rfl⟩
          have hdl := HCL.out k sg hk
          have hw3 : IntKind.i64.wrap ((d : Int) + 1) = ((d + 1 : Nat) : Int) := by rw [IntKind.wrap_i64]; omega
          have hc4 : (cntC L (cand L k) n)[sg]? = some (.int .i64 (d : Int)) := by rw [cntC_get hs, hd]
          have HC2 : Hid (cntC L (cand L k ++ [k]) n = (cntC L (cand L k) n).set sg (.int .i64 ((d + 1 : Nat) : Int))) := by unfold Hid; rw [cntC_snoc (by rw [hsg]; exact hs), hsg, hd]
          have HF2 : Hid (fitP L (cand L k ++ [k]) n) := fit_snoc HFit.out (by rw [hsg]; exact hs)
          have HC4 := Lib.hid hc4
          clear hcs hz hsg hd hdl hc4
          obtain ⟨y, hy⟩ : ∃ y, tr L k = y := ⟨_, rfl⟩
          rw [hy] at x0 x1 x2 hd1 hd2 hw1
          simp only [hy] at hf
          unfold T.val at hf
          obtain ⟨ph, st, fi⟩ := y
          dsimp only at x0 x1 x2 hd1 hd2 hw1 hf
          have HF := Lib.hid hf
          clear hf hy o1 o2 o3
          go_wp2_with (go_at_call 33; (with_reducible refine Calls.mono (HF.out _) ?_); rintro e w2 ⟨rfl, hB3⟩; have hrw := HRow.out.of_heap (hB3.block g HRow.out.lt); have c4 := (hrw.at_ sg).trans HC4.out; have f4 := hrw.frozen sg; have HRW := Lib.hid hrw; have HB3 := Lib.hid (below_th HBk.out hB3); clear hrw)
          go_roundw
          case rel => exact ⟨k + 1, by omega, by go_num, by rw [HC1.out]; exact HF2.out, by rw [HC1.out, HC2.out]; exact row_put HRW.out sg _, HB3.out.setCell (p := ⟨g, sg, none⟩) hsz1 _⟩
          case measure => simp [intOf]; omega
      · have hge : (n : Int) ≤ (sg : Int) := by omega
        have hge' : decide ((n : Int) ≤ (sg : Int)) = true := decide_eq_true hge
        have hgeN : decide (n ≤ sg) = true := decide_eq_true (by omega)
        have HF := Lib.hid (HNo.out wr (HBad.out k hlt (HZero.out k (by rw [hsg]; exact hs)) (by rw [hsg]; exact hs)) HBk.out)
        clear hsg hf
        obtain ⟨y, hy⟩ : ∃ y, tr L k = y := ⟨_, rfl⟩
        rw [hy] at x0 x1 x2 hd1 hd2 hw1
        obtain ⟨ph, st, fi⟩ := y
        dsimp only at x0 x1 x2 hd1 hd2 hw1
        clear hy o1 o2 o3
        go_wp2
        go_returns
        exact HF.out
    · obtain rfl : N = k := by omega
      have HF := Lib.hid (HFin.out wr g HFit.out HRow.out hsz1 HBk.out)
      go_wp2
      go_returns
      exact HF.out
theorem counts_no (v : Value) (L : List T) (n : Int) (w : World) (hL : Trs w v L) (h : ¬ (RightP L ∧ 1 ≤ n ∧ n ≤ 256)) : Calls Try.prog 27 #[v, .int .i64 n] w (CntPost L n w) := by
  obtain ⟨a, cap, rfl, hn, hm⟩ := hL.parts
  obtain ⟨N, hN⟩ : ∃ N, L.length = N := ⟨_, rfl⟩
  have hR := right_any _ L w hL
  rw [hN] at hR hn ⊢
  have HF : Hid (∀ W, Below w.heap.size w W → CntPost L n w (.returned (.tuple #[.slice none 0 0, .int .i64 80])) W) := fun W hB => cnt_no (fun hh => h ⟨hh.1, hh.2.1⟩) hB
  have fin : ∀ x : Bool, (x = true → decide (n < 1) = true ∨ decide (n < 1) = false ∧ decide (256 < n) = true) → Calls Try.prog 16 #[.slice a N cap] w (Ans w (.bool x)) → Calls Try.prog 27 #[.slice a N cap, .int .i64 n] w (CntPost L n w) := fun x hx hR => by
    have HR := Lib.hid hR
    clear hR hL hN h
    cases x with
    | true =>
      rcases hx rfl with g1 | ⟨g1, g2⟩
      · go_enter Try.func27, Try.ntmps27
        go_wp2_with (go_at_call 16; (with_reducible refine Calls.mono HR.out ?_); rintro e w1 ⟨rfl, hB1⟩)
        go_returns
        exact HF.out _ hB1
      · go_enter Try.func27, Try.ntmps27
        go_wp2_with (go_at_call 16; (with_reducible refine Calls.mono HR.out ?_); rintro e w1 ⟨rfl, hB1⟩)
        go_returns
        exact HF.out _ hB1
    | false =>
      clear hx
      go_enter Try.func27, Try.ntmps27
      go_wp2_with (go_at_call 16; (with_reducible refine Calls.mono HR.out ?_); rintro e w1 ⟨rfl, hB1⟩)
      go_returns
      exact HF.out _ hB1
  refine fin (rightB L) (fun hx => ?_) hR
  have hr : RightP L := of_decide_eq_true hx
  by_cases h1 : n < 1
  · exact .inl (decide_eq_true h1)
  · exact .inr ⟨decide_eq_false h1, decide_eq_true (Classical.byContradiction fun h2 => h ⟨hr, by omega, by omega⟩)⟩
theorem counts_any (v : Value) (L : List T) (n : Int) (w : World) (hL : Trs w v L) : Calls Try.prog 27 #[v, .int .i64 n] w (CntPost L n w) := by
  by_cases h : RightP L ∧ 1 ≤ n ∧ n ≤ 256
  · obtain ⟨hr, h1, h2⟩ := h
    obtain ⟨n, rfl⟩ := Int.eq_ofNat_of_zero_le (show 0 ≤ n by omega)
    exact counts_yes v n L w hL hr (by omega) (by omega)
  · exact counts_no v L n w hL h
end
end Go.Proofs.Ythfcjbfldokanaa.Dat.R
