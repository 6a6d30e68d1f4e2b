/- The document's Begin. -/
import Derived.Test.YthfcjbfldokanaaDatRefM
import Derived.Test.YthfcjbfldokanaaDatShown
namespace Go.Proofs.Ythfcjbfldokanaa.Dat.R
open Go.RowKit
attribute [local go_sem] Oper.semAt_some
set_option linter.unusedVariables false

theorem beg_eq {L : List T} {ph cp : Nat} (hr : RightP L) (hl : ¬ low L = 1860) (hp : ¬ ph = 0) : wiV (putAt L (low L) ⟨ph, cp, 0⟩) = begV L ph cp ∧ wiE (putAt L (low L) ⟨ph, cp, 0⟩) = begE L ph cp := by
  have hlo := low_le hr.1.1
  have h0 : ¬ (⟨ph, cp, 0⟩ : T) = T.zero := fun e => by have := congrArg T.phys e; simp [T.zero] at this; exact hp this
  have h1 : RightP (putAt L (low L) ⟨ph, cp, 0⟩) ↔ standsP ⟨ph, cp, 0⟩ := by
    rw [putAt_right hr hlo.1 hlo.2 (by have := hr.1; omega)]
    exact ⟨fun h => h.resolve_left h0, .inr⟩
  unfold wiV wiE begV begE
  by_cases h : standsP ⟨ph, cp, 0⟩
  · rw [if_pos (h1.2 h), if_pos (h1.2 h), if_pos (show begOk L ph cp from ⟨hr, hl, h⟩), if_pos hr, if_neg hl, if_pos h]; exact ⟨rfl, rfl⟩
  · rw [if_neg (fun hh => h (h1.1 hh)), if_neg (fun hh => h (h1.1 hh)), if_neg (fun hh : begOk L ph cp => h hh.2.2), if_pos hr, if_neg hl, if_neg h]; exact ⟨rfl, rfl⟩
theorem beg_bad {L : List T} {ph cp : Nat} (hr : RightP L) (hl : ¬ low L = 1860) (hp : ph = 0 ∨ cp = 0) : ¬ begOk L ph cp ∧ begE L ph cp = 80 := by
  have hs : ¬ standsP ⟨ph, cp, 0⟩ := fun h => by
    rcases hp with hp | hp
    · have := h.1.1; dsimp only at this; omega
    · have := h.2.1.1; dsimp only at this; omega
  exact ⟨fun h => hs h.2.2, by unfold begE; rw [if_pos hr, if_neg hl, if_neg hs]⟩
theorem cells_zero (L : List T) : cellsL L ++ [.int .u32 0, .int .u64 0, .int .u64 0] = cellsL (L ++ [T.zero]) := by
  unfold cellsL
  rw [List.flatMap_append]
  rfl
theorem put_snoc (L : List T) (t : T) : (L ++ [T.zero]).set L.length t = putAt L L.length t := by
  unfold putAt
  rw [if_neg (by omega), List.set_append_right _ _ (Nat.le_refl _), Nat.sub_self]
  rfl
section
set_option maxRecDepth 100000
set_option maxHeartbeats 4000000
theorem begin_any (v : Value) (L : List T) (ph cp : Nat) (w : World) (hL : Trs w v L) : Calls Try.prog 12 #[v, .int .u32 ph, .int .u64 cp] w (BegPost L ph cp w) := by
  have hR := right_any v L w hL
  have HNo := Lib.hid (fun (w' : World) (n : Int) => beg_no (L := L) (ph := ph) (cp := cp) (w := w) (w' := w') (n := n))
  by_cases hr : RightP L
  · rw [rightB_yes hr] at hR
    obtain ⟨i0, hin, hz0, hz1, hz2⟩ := info_parts infoTr
    obtain ⟨b, off, cap, rfl, _⟩ := hL.at (k := 0) (by have := hr.1; omega)
    obtain ⟨N, hN⟩ : ∃ N, L.length = N := ⟨_, rfl⟩
    have hN1 : 1 ≤ N := by have := hr.1; omega
    have hN9 : N ≤ 1860 := by have := hr.1; omega
    have hcaps : N ≤ cap ∧ cap ≤ 9223372036854775807 := by
      obtain ⟨a1, cap1, e, g1, g2⟩ := hL.parts
      cases e
      omega
    obtain ⟨hcap1, hcap2⟩ := hcaps
    have HX := Lib.hid (fun W k (h : Below w.heap.size w W) (hk : k < N) => (hL.below h).get rfl (show k < L.length by omega))
    have HNews := Lib.hid (fun W (h : Below w.heap.size w W) => (hL.below h).news)
    have HV : Hid ((cellsL L).length = N * 3) := by unfold Hid; rw [cellsL_length, hN]
    have HO := Lib.hid (cellsL_one L)
    have HFr := Lib.hid (fun k W => free_any (tr L k) W)
    have HLow : Hid (∀ k, 1 ≤ k → k ≤ N → (∀ j, 1 ≤ j → j < k → usedP L j) → (k < N → tr L k = T.zero) → k = low L) := fun k h1 h2 h3 h4 => low_eq ⟨h1, by omega, h3, fun h => h4 (by omega)⟩
    have hwn : IntKind.i64.wrap ((N : Int) + 1) = (N : Int) + 1 := by rw [IntKind.wrap_i64]; omega
    have HMK := Lib.hid (fun (W : World) => make_any W.heap.size (N + 1) ((N : Int) + 1) rfl (by omega) W (Nat.le_refl _))
    have HOwn : Hid (∀ (W : World) (base : Nat) (v : Value), W.ownsRow base 40 3 v N (cellsL L) → Trs W v L) := fun W base v h => Trs.own (base := base) (by rw [hN]; exact h)
    have HOwn2 : Hid (∀ (W : World) (base : Nat) (v : Value), W.ownsRow base 40 3 v (N + 1) (cellsL L ++ [.int .u32 0, .int .u64 0, .int .u64 0]) → Trs W v (L ++ [T.zero])) := fun W base v h => Trs.own (base := base) (by rw [List.length_append, hN, ← cells_zero]; exact h)
    have HW1 : Hid (∀ (hl : ¬ low L = 1860) (hp : ¬ ph = 0) (v : Value) (k : Nat) (W : World), Trs W v L → k < N → k = low L → Calls Try.prog 34 #[v, .int .i64 k, .agg #[.int .u32 ph, .int .u64 cp, .int .u64 0]] W (TabPost (begV L ph cp) (begE L ph cp) W)) := fun hl hp v k W h hk hkl => by
      have := with_any v L k ⟨ph, cp, 0⟩ W h (by omega) (by omega)
      obtain ⟨e1, e2⟩ := beg_eq (cp := cp) hr hl hp
      rw [← putAt_lt (by omega), hkl, e1, e2, ← hkl] at this
      exact this
    have HW2 : Hid (∀ (hl : ¬ low L = 1860) (hp : ¬ ph = 0) (v : Value) (W : World), Trs W v (L ++ [T.zero]) → N = low L → Calls Try.prog 34 #[v, .int .i64 N, .agg #[.int .u32 ph, .int .u64 cp, .int .u64 0]] W (TabPost (begV L ph cp) (begE L ph cp) W)) := fun hl hp v W h hkl => by
      have := with_any v (L ++ [T.zero]) L.length ⟨ph, cp, 0⟩ W h (by rw [List.length_append]; exact Nat.lt_succ_self _) (by rw [List.length_append]; show L.length + 1 ≤ _; omega)
      obtain ⟨e1, e2⟩ := beg_eq (cp := cp) hr hl hp
      rw [put_snoc, hN, hkl, e1, e2, ← hkl] at this
      exact this
    have HBad := Lib.hid (fun (hl : ¬ low L = 1860) (hp : ph = 0 ∨ cp = 0) => beg_bad hr hl hp)
    have HOkE : Hid (∀ hl : ¬ low L = 1860, begE L ph cp = 0 ∨ begE L ph cp = 80) := fun hl => by
      unfold begE
      rw [if_pos hr, if_neg hl]
      split
      · exact .inl rfl
      · exact .inr rfl
    have HFull : Hid (low L = 1860 → ¬ begOk L ph cp ∧ begE L ph cp = 81) := fun h => ⟨fun hh => hh.2.1 h, by unfold begE; rw [if_pos hr, if_pos h]⟩
    have HB := Lib.hid (fun (hl : begE L ph cp = 0) => show begOk L ph cp from begE_ok.1 hl)
    rw [hN] at hR ⊢
    have HR := Lib.hid hR
    clear hR hL hr hN
    obtain ⟨W0, rfl⟩ : ∃ W0 : World, W0 = w := ⟨_, rfl⟩
    go_enter Try.func12, Try.ntmps12
    go_wp2_with (go_at_call 16; (with_reducible refine Calls.mono HR.out ?_); rintro e w1 ⟨rfl, hB1⟩)
    go_loopw [10] (fun j wr => ∃ k : Nat, 1 ≤ k ∧ k ≤ N ∧ j = .int .i64 (k : Int) ∧ Hid (∀ m, 1 ≤ m → m < k → usedP L m) ∧ Hid (Below W0.heap.size W0 wr)) (fun j _ => N - (intOf j).toNat)
    case atStart => exact ⟨1, by omega, by omega, rfl, fun m h1 h2 => by omega, hB1⟩
    case round =>
      obtain ⟨k, hk1, hk, rfl, HU, HBk⟩ := hrel
      by_cases hlt : k < N
      · obtain ⟨x0, x1, x2⟩ := HX.out wr k HBk.out hlt
        have hf := fun W => HFr.out k W
        unfold T.val at hf
        by_cases hz : tr L k = T.zero
        · rw [show freeB (tr L k) = true from decide_eq_true hz] at hf
          have hlow := HLow.out k hk1 hk HU.out (fun _ => hz)
          have HF := Lib.hid hf
          have hne : ((k : Int) == (N : Int)) = false := by simp; omega
          have hk18 : ¬ (1860 : Int) ≤ (k : Int) := by omega
          have hk18d : decide ((1860 : Int) ≤ (k : Int)) = false := decide_eq_false hk18
          have HL18 : Hid (¬ low L = 1860) := by unfold Hid; omega
          have HLK := Lib.hid hlow
          have hwk : IntKind.u32.wrap (k : Int) = (k : Int) := by rw [IntKind.wrap_u32]; omega
          clear hf hz hlow
          by_cases hp0 : ph = 0
          · have q1 : ((ph : Int) == 0) = true := by simp [hp0]
            have HBd := Lib.hid (HBad.out HL18.out (.inl hp0))
            clear hp0
            go_wp2_with (first
              | (go_at_call 33; (with_reducible refine Calls.mono (HF.out _) ?_); rintro e w4 ⟨rfl, hB4⟩; have HBm := Lib.hid (below_th HBk.out hB4); obtain ⟨w5, hm5, hown5, hgrow5⟩ := HMK.out w4; have hB5 := make_below hgrow5)
              | (at_builtin; (refine wpList_append_own _ rfl _ _ 22 rfl w4.heap.size 40 i0 (.agg #[.int .u32 0, .int .u64 0, .int .u64 0]) 3 24 Try.underlying22 hin hz0 hz1 hz2 rfl (by decide) (.slice (some ⟨w4.heap.size, 0, none⟩) 0 (N + 1)) 0 [] rfl hown5 ⟨b, off, none⟩ N cap (cellsL L) rfl HV.out (HNews.out _ (below_th HBm.out hB5)) HO.out (by unfold maxLen; omega) (by omega) hB5.size ?_; intro v3 w6 hown6 hgrow6 _; rw [Nat.zero_add, List.nil_append] at hown6; obtain ⟨g, cap3, rfl, hg, hc1, hc2⟩ := own_open hown6 (by omega); have hB6 := hB5.grown hgrow6 hB5.size (fun r e => Nat.le_of_eq (by simpa [Value.ownBlock] using e)))))
            go_returns
            exact HNo.out _ 80 HBd.out.1 HBd.out.2.symm (below_th HBm.out hB6)
          · have q1 : ((ph : Int) == 0) = false := by simp [hp0]
            by_cases hc0 : cp = 0
            · have q2 : ((cp : Int) == 0) = true := by simp [hc0]
              have HBd := Lib.hid (HBad.out HL18.out (.inr hc0))
              clear hp0 hc0
              go_wp2_with (first
                | (go_at_call 33; (with_reducible refine Calls.mono (HF.out _) ?_); rintro e w4 ⟨rfl, hB4⟩; have HBm := Lib.hid (below_th HBk.out hB4); obtain ⟨w5, hm5, hown5, hgrow5⟩ := HMK.out w4; have hB5 := make_below hgrow5)
                | (at_builtin; (refine wpList_append_own _ rfl _ _ 22 rfl w4.heap.size 40 i0 (.agg #[.int .u32 0, .int .u64 0, .int .u64 0]) 3 24 Try.underlying22 hin hz0 hz1 hz2 rfl (by decide) (.slice (some ⟨w4.heap.size, 0, none⟩) 0 (N + 1)) 0 [] rfl hown5 ⟨b, off, none⟩ N cap (cellsL L) rfl HV.out (HNews.out _ (below_th HBm.out hB5)) HO.out (by unfold maxLen; omega) (by omega) hB5.size ?_; intro v3 w6 hown6 hgrow6 _; rw [Nat.zero_add, List.nil_append] at hown6; obtain ⟨g, cap3, rfl, hg, hc1, hc2⟩ := own_open hown6 (by omega); have hB6 := hB5.grown hgrow6 hB5.size (fun r e => Nat.le_of_eq (by simpa [Value.ownBlock] using e)))))
              go_returns
              exact HNo.out _ 80 HBd.out.1 HBd.out.2.symm (below_th HBm.out hB6)
            · have q2 : ((cp : Int) == 0) = false := by simp [hc0]
              have hW := fun v W h => HW1.out HL18.out hp0 v k W h hlt HLK.out
              unfold TabPost at hW
              clear hp0 hc0
              rcases HOkE.out HL18.out with e | e
              · rw [e] at hW
                have HW := Lib.hid hW
                have HZ := Lib.hid e
                clear e hW
                go_wp2_with (first
                  | (go_at_call 33; (with_reducible refine Calls.mono (HF.out _) ?_); rintro e w4 ⟨rfl, hB4⟩; have HBm := Lib.hid (below_th HBk.out hB4); obtain ⟨w5, hm5, hown5, hgrow5⟩ := HMK.out w4; have hB5 := make_below hgrow5)
                  | (at_builtin; (refine wpList_append_own _ rfl _ _ 22 rfl w4.heap.size 40 i0 (.agg #[.int .u32 0, .int .u64 0, .int .u64 0]) 3 24 Try.underlying22 hin hz0 hz1 hz2 rfl (by decide) (.slice (some ⟨w4.heap.size, 0, none⟩) 0 (N + 1)) 0 [] rfl hown5 ⟨b, off, none⟩ N cap (cellsL L) rfl HV.out (HNews.out _ (below_th HBm.out hB5)) HO.out (by unfold maxLen; omega) (by omega) hB5.size ?_; intro v3 w6 hown6 hgrow6 _; rw [Nat.zero_add, List.nil_append] at hown6; obtain ⟨g, cap3, rfl, hg, hc1, hc2⟩ := own_open hown6 (by omega); have hB6 := hB5.grown hgrow6 hB5.size (fun r e => Nat.le_of_eq (by simpa [Value.ownBlock] using e))))
                  | (go_at_call 34; (with_reducible refine Calls.mono (HW.out _ _ (HOwn.out _ _ _ hown6)) ?_); rintro e w8 ⟨v8, rfl, hT8, hB8⟩))
                go_returns
                exact ⟨v8, by rw [HZ.out]; unfold begI; rw [if_pos (HB.out HZ.out), ← HLK.out]; rfl, hT8, below_th (below_th HBm.out hB6) hB8⟩
              · rw [e] at hW
                have HW := Lib.hid hW
                have HZ := Lib.hid e
                clear e hW
                go_wp2_with (first
                  | (go_at_call 33; (with_reducible refine Calls.mono (HF.out _) ?_); rintro e w4 ⟨rfl, hB4⟩; have HBm := Lib.hid (below_th HBk.out hB4); obtain ⟨w5, hm5, hown5, hgrow5⟩ := HMK.out w4; have hB5 := make_below hgrow5)
                  | (at_builtin; (refine wpList_append_own _ rfl _ _ 22 rfl w4.heap.size 40 i0 (.agg #[.int .u32 0, .int .u64 0, .int .u64 0]) 3 24 Try.underlying22 hin hz0 hz1 hz2 rfl (by decide) (.slice (some ⟨w4.heap.size, 0, none⟩) 0 (N + 1)) 0 [] rfl hown5 ⟨b, off, none⟩ N cap (cellsL L) rfl HV.out (HNews.out _ (below_th HBm.out hB5)) HO.out (by unfold maxLen; omega) (by omega) hB5.size ?_; intro v3 w6 hown6 hgrow6 _; rw [Nat.zero_add, List.nil_append] at hown6; obtain ⟨g, cap3, rfl, hg, hc1, hc2⟩ := own_open hown6 (by omega); have hB6 := hB5.grown hgrow6 hB5.size (fun r e => Nat.le_of_eq (by simpa [Value.ownBlock] using e))))
                  | (go_at_call 34; (with_reducible refine Calls.mono (HW.out _ _ (HOwn.out _ _ _ hown6)) ?_); rintro e w8 ⟨v8, rfl, hT8, hB8⟩))
                go_returns
                exact HNo.out _ 80 (fun hh => by have := begE_ok.2 hh; rw [HZ.out] at this; cases this) HZ.out.symm (below_th (below_th HBm.out hB6) hB8)
        · rw [show freeB (tr L k) = false from decide_eq_false hz] at hf
          have HF := Lib.hid hf
          have HU2 : Hid (∀ m, 1 ≤ m → m < k + 1 → usedP L m) := fun m h1 h2 => by
            rcases Nat.lt_succ_iff_lt_or_eq.1 h2 with h | h
            · exact HU.out m h1 h
            · rw [h]; exact hz
          clear hf hz
          go_wp2_with (go_at_call 33; (with_reducible refine Calls.mono (HF.out _) ?_); rintro e w2 ⟨rfl, hB2⟩)
          go_roundw
          case rel => exact ⟨k + 1, by omega, by omega, by go_num, HU2.out, below_th HBk.out hB2⟩
          case measure => simp [intOf]; omega
      · obtain rfl : N = k := by omega
        have hlow := HLow.out N hk1 hk HU.out (fun h => absurd h (Nat.lt_irrefl _))
        have hne : ((N : Int) == (N : Int)) = true := by simp
        have HLK := Lib.hid hlow
        have hwk : IntKind.u32.wrap (N : Int) = (N : Int) := by rw [IntKind.wrap_u32]; omega
        by_cases h18 : N = 1860
        · have q0 : (1860 : Int) ≤ (N : Int) := by omega
          have q0d : decide ((1860 : Int) ≤ (N : Int)) = true := decide_eq_true q0
          have HBd := Lib.hid (HFull.out (by omega))
          clear hlow h18
          go_wp2
          go_returns
          exact HNo.out _ 81 HBd.out.1 HBd.out.2.symm HBk.out
        · have HL18 : Hid (¬ low L = 1860) := by unfold Hid; omega
          have q0 : ¬ (1860 : Int) ≤ (N : Int) := by omega
          have q0d : decide ((1860 : Int) ≤ (N : Int)) = false := decide_eq_false q0
          clear hlow h18
          by_cases hp0 : ph = 0
          · have q1 : ((ph : Int) == 0) = true := by simp [hp0]
            have HBd := Lib.hid (HBad.out HL18.out (.inl hp0))
            clear hp0
            obtain ⟨w5, hm5, hown5, hgrow5⟩ := HMK.out wr
            have hB5 := make_below hgrow5
            have HBm := HBk
            go_wp2_with (first
              | (at_builtin; (refine wpList_append_own _ rfl _ _ 22 rfl wr.heap.size 40 i0 (.agg #[.int .u32 0, .int .u64 0, .int .u64 0]) 3 24 Try.underlying22 hin hz0 hz1 hz2 rfl (by decide) (.slice (some ⟨g, 0, none⟩) N cap3) N (cellsL L) rfl (hown6.alloc _) ⟨w6.heap.size, 0, none⟩ 1 1 [.int .u32 0, .int .u64 0, .int .u64 0] rfl rfl (trs_new w6 [T.zero] #[.int .u32 0, .int .u64 0, .int .u64 0] rfl (by decide)).news (by simp [Value.oneCell']) (by unfold maxLen; omega) (by omega) (by have := hB6.size; simp; omega) ?_; intro v7 w7 hown7 hgrow7 _; obtain ⟨g7, cap7, rfl, hg7, hc7, hc8⟩ := own_open hown7 (by omega); have hB7 := (below_al hB6 (.cells #[.int .u32 0, .int .u64 0, .int .u64 0] 40)).grown hgrow7 (below_al hB6 _).size (fun r e => by have e2 : some g = some r := e; cases e2; exact hg)))
              | (at_builtin; (refine wpList_append_own _ rfl _ _ 22 rfl wr.heap.size 40 i0 (.agg #[.int .u32 0, .int .u64 0, .int .u64 0]) 3 24 Try.underlying22 hin hz0 hz1 hz2 rfl (by decide) (.slice (some ⟨wr.heap.size, 0, none⟩) 0 (N + 1)) 0 [] rfl hown5 ⟨b, off, none⟩ N cap (cellsL L) rfl HV.out (HNews.out _ (below_th HBm.out hB5)) HO.out (by unfold maxLen; omega) (by omega) hB5.size ?_; intro v3 w6 hown6 hgrow6 _; rw [Nat.zero_add, List.nil_append] at hown6; obtain ⟨g, cap3, rfl, hg, hc1, hc2⟩ := own_open hown6 (by omega); have hB6 := hB5.grown hgrow6 hB5.size (fun r e => Nat.le_of_eq (by simpa [Value.ownBlock] using e)))))
            go_returns
            exact HNo.out _ 80 HBd.out.1 HBd.out.2.symm (below_th HBm.out hB7)
          · have q1 : ((ph : Int) == 0) = false := by simp [hp0]
            by_cases hc0 : cp = 0
            · have q2 : ((cp : Int) == 0) = true := by simp [hc0]
              have HBd := Lib.hid (HBad.out HL18.out (.inr hc0))
              clear hp0 hc0
              obtain ⟨w5, hm5, hown5, hgrow5⟩ := HMK.out wr
              have hB5 := make_below hgrow5
              have HBm := HBk
              go_wp2_with (first
                | (at_builtin; (refine wpList_append_own _ rfl _ _ 22 rfl wr.heap.size 40 i0 (.agg #[.int .u32 0, .int .u64 0, .int .u64 0]) 3 24 Try.underlying22 hin hz0 hz1 hz2 rfl (by decide) (.slice (some ⟨g, 0, none⟩) N cap3) N (cellsL L) rfl (hown6.alloc _) ⟨w6.heap.size, 0, none⟩ 1 1 [.int .u32 0, .int .u64 0, .int .u64 0] rfl rfl (trs_new w6 [T.zero] #[.int .u32 0, .int .u64 0, .int .u64 0] rfl (by decide)).news (by simp [Value.oneCell']) (by unfold maxLen; omega) (by omega) (by have := hB6.size; simp; omega) ?_; intro v7 w7 hown7 hgrow7 _; obtain ⟨g7, cap7, rfl, hg7, hc7, hc8⟩ := own_open hown7 (by omega); have hB7 := (below_al hB6 (.cells #[.int .u32 0, .int .u64 0, .int .u64 0] 40)).grown hgrow7 (below_al hB6 _).size (fun r e => by have e2 : some g = some r := e; cases e2; exact hg)))
                | (at_builtin; (refine wpList_append_own _ rfl _ _ 22 rfl wr.heap.size 40 i0 (.agg #[.int .u32 0, .int .u64 0, .int .u64 0]) 3 24 Try.underlying22 hin hz0 hz1 hz2 rfl (by decide) (.slice (some ⟨wr.heap.size, 0, none⟩) 0 (N + 1)) 0 [] rfl hown5 ⟨b, off, none⟩ N cap (cellsL L) rfl HV.out (HNews.out _ (below_th HBm.out hB5)) HO.out (by unfold maxLen; omega) (by omega) hB5.size ?_; intro v3 w6 hown6 hgrow6 _; rw [Nat.zero_add, List.nil_append] at hown6; obtain ⟨g, cap3, rfl, hg, hc1, hc2⟩ := own_open hown6 (by omega); have hB6 := hB5.grown hgrow6 hB5.size (fun r e => Nat.le_of_eq (by simpa [Value.ownBlock] using e)))))
              go_returns
              exact HNo.out _ 80 HBd.out.1 HBd.out.2.symm (below_th HBm.out hB7)
            · have q2 : ((cp : Int) == 0) = false := by simp [hc0]
              have hW := fun v W h => HW2.out HL18.out hp0 v W h HLK.out
              unfold TabPost at hW
              clear hp0 hc0
              rcases HOkE.out HL18.out with e | e
              · rw [e] at hW
                have HW := Lib.hid hW
                have HZ := Lib.hid e
                clear e hW
                obtain ⟨w5, hm5, hown5, hgrow5⟩ := HMK.out wr
                have hB5 := make_below hgrow5
                have HBm := HBk
                go_wp2_with (first
                  | (at_builtin; (refine wpList_append_own _ rfl _ _ 22 rfl wr.heap.size 40 i0 (.agg #[.int .u32 0, .int .u64 0, .int .u64 0]) 3 24 Try.underlying22 hin hz0 hz1 hz2 rfl (by decide) (.slice (some ⟨g, 0, none⟩) N cap3) N (cellsL L) rfl (hown6.alloc _) ⟨w6.heap.size, 0, none⟩ 1 1 [.int .u32 0, .int .u64 0, .int .u64 0] rfl rfl (trs_new w6 [T.zero] #[.int .u32 0, .int .u64 0, .int .u64 0] rfl (by decide)).news (by simp [Value.oneCell']) (by unfold maxLen; omega) (by omega) (by have := hB6.size; simp; omega) ?_; intro v7 w7 hown7 hgrow7 _; obtain ⟨g7, cap7, rfl, hg7, hc7, hc8⟩ := own_open hown7 (by omega); have hB7 := (below_al hB6 (.cells #[.int .u32 0, .int .u64 0, .int .u64 0] 40)).grown hgrow7 (below_al hB6 _).size (fun r e => by have e2 : some g = some r := e; cases e2; exact hg)))
                  | (at_builtin; (refine wpList_append_own _ rfl _ _ 22 rfl wr.heap.size 40 i0 (.agg #[.int .u32 0, .int .u64 0, .int .u64 0]) 3 24 Try.underlying22 hin hz0 hz1 hz2 rfl (by decide) (.slice (some ⟨wr.heap.size, 0, none⟩) 0 (N + 1)) 0 [] rfl hown5 ⟨b, off, none⟩ N cap (cellsL L) rfl HV.out (HNews.out _ (below_th HBm.out hB5)) HO.out (by unfold maxLen; omega) (by omega) hB5.size ?_; intro v3 w6 hown6 hgrow6 _; rw [Nat.zero_add, List.nil_append] at hown6; obtain ⟨g, cap3, rfl, hg, hc1, hc2⟩ := own_open hown6 (by omega); have hB6 := hB5.grown hgrow6 hB5.size (fun r e => Nat.le_of_eq (by simpa [Value.ownBlock] using e))))
                  | (go_at_call 34; (with_reducible refine Calls.mono (HW.out _ _ (HOwn2.out _ _ _ hown7)) ?_); rintro e w8 ⟨v8, rfl, hT8, hB8⟩))
                go_returns
                exact ⟨v8, by rw [HZ.out]; unfold begI; rw [if_pos (HB.out HZ.out), ← HLK.out]; rfl, hT8, below_th (below_th HBm.out hB7) hB8⟩
              · rw [e] at hW
                have HW := Lib.hid hW
                have HZ := Lib.hid e
                clear e hW
                obtain ⟨w5, hm5, hown5, hgrow5⟩ := HMK.out wr
                have hB5 := make_below hgrow5
                have HBm := HBk
                go_wp2_with (first
                  | (at_builtin; (refine wpList_append_own _ rfl _ _ 22 rfl wr.heap.size 40 i0 (.agg #[.int .u32 0, .int .u64 0, .int .u64 0]) 3 24 Try.underlying22 hin hz0 hz1 hz2 rfl (by decide) (.slice (some ⟨g, 0, none⟩) N cap3) N (cellsL L) rfl (hown6.alloc _) ⟨w6.heap.size, 0, none⟩ 1 1 [.int .u32 0, .int .u64 0, .int .u64 0] rfl rfl (trs_new w6 [T.zero] #[.int .u32 0, .int .u64 0, .int .u64 0] rfl (by decide)).news (by simp [Value.oneCell']) (by unfold maxLen; omega) (by omega) (by have := hB6.size; simp; omega) ?_; intro v7 w7 hown7 hgrow7 _; obtain ⟨g7, cap7, rfl, hg7, hc7, hc8⟩ := own_open hown7 (by omega); have hB7 := (below_al hB6 (.cells #[.int .u32 0, .int .u64 0, .int .u64 0] 40)).grown hgrow7 (below_al hB6 _).size (fun r e => by have e2 : some g = some r := e; cases e2; exact hg)))
                  | (at_builtin; (refine wpList_append_own _ rfl _ _ 22 rfl wr.heap.size 40 i0 (.agg #[.int .u32 0, .int .u64 0, .int .u64 0]) 3 24 Try.underlying22 hin hz0 hz1 hz2 rfl (by decide) (.slice (some ⟨wr.heap.size, 0, none⟩) 0 (N + 1)) 0 [] rfl hown5 ⟨b, off, none⟩ N cap (cellsL L) rfl HV.out (HNews.out _ (below_th HBm.out hB5)) HO.out (by unfold maxLen; omega) (by omega) hB5.size ?_; intro v3 w6 hown6 hgrow6 _; rw [Nat.zero_add, List.nil_append] at hown6; obtain ⟨g, cap3, rfl, hg, hc1, hc2⟩ := own_open hown6 (by omega); have hB6 := hB5.grown hgrow6 hB5.size (fun r e => Nat.le_of_eq (by simpa [Value.ownBlock] using e))))
                  | (go_at_call 34; (with_reducible refine Calls.mono (HW.out _ _ (HOwn2.out _ _ _ hown7)) ?_); rintro e w8 ⟨v8, rfl, hT8, hB8⟩))
                go_returns
                exact HNo.out _ 80 (fun hh => by have := begE_ok.2 hh; rw [HZ.out] at this; cases this) HZ.out.symm (below_th (below_th HBm.out hB7) hB8)
  · rw [rightB_no hr] at hR
    have HF := Lib.hid (fun W h => HNo.out W 80 (fun hh => hr hh.1) (by unfold begE; rw [if_neg hr]) h)
    obtain ⟨a, cap, rfl, hn, hm⟩ := hL.parts
    obtain ⟨N, hN⟩ : ∃ N, L.length = N := ⟨_, rfl⟩
    rw [hN] at hR hn ⊢
    have HR := Lib.hid hR
    clear hR hL hr hN HNo
    go_enter Try.func12, Try.ntmps12
    go_wp2_with (go_at_call 16; (with_reducible refine Calls.mono HR.out ?_); rintro e w1 ⟨rfl, hB1⟩)
    go_returns
    exact HF.out _ hB1
end
end Go.Proofs.Ythfcjbfldokanaa.Dat.R
