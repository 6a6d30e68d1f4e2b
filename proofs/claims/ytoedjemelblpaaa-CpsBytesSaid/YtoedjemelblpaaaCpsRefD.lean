/- The document's Decode. -/
import Derived.Test.YtoedjemelblpaaaCpsRefM
namespace Go.Proofs.Ytoedjemelblpaaa.Cps.R
open Go.RowKit
attribute [local go_sem] Oper.semAt_some
set_option linter.unusedVariables false
set_option linter.unusedSimpArgs false
section
set_option maxRecDepth 100000
set_option maxHeartbeats 8000000
theorem decode_any (v : Value) (T : List ByteArray) (w : World) (hT : Strs w v T) : Calls Try.prog 32 #[v] w (DecPost T w) := by
  obtain ⟨a, cap, rfl, hn1, hn2⟩ := hT.parts
  obtain ⟨i0, hin, hz0, hz1, hz2⟩ := info_parts infoCh
  obtain ⟨n, hn⟩ : ∃ n, T.length = n := ⟨_, rfl⟩
  have HG : Hid (∀ k, k < n → ∃ b, T[k]? = some b ∧ (T.map Value.string)[k]? = some (Value.string b)) := fun k hk => ⟨T[k]'(by omega), List.getElem?_eq_getElem (by omega), by rw [List.getElem?_map, List.getElem?_eq_getElem (show k < T.length by omega)]; rfl⟩
  have HD := Lib.hid (fun (L : List C) (h : DecP T L) i b (hb : T[i]? = some b) => dec_at h hb)
  have HNO := Lib.hid (fun W (h : ¬ ∃ L, DecP T L) (hB : Below w.heap.size w W) => decp_no h hB)
  have HYES := Lib.hid (fun W v L (h : DecP T L) (hL : Chs W v L) (hB : Below w.heap.size w W) => decp_yes h hL hB)
  have H108 : Hid (108 < n → ¬ ∃ L, DecP T L) := fun h ⟨L, hL⟩ => by
    have h1 := enc_length hL.1
    rw [hL.2] at h1
    have h2 := hL.1.1
    unfold nBl at h1
    omega
  have HLN : Hid (∀ L, DecP T L → L.length ≤ 9 * n) := fun L hL => by have := dec_length hL; omega
  have HRD := Lib.hid (fun W (h : Below w.heap.size w W) k u (hu : (T.map Value.string)[k]? = some u) => Lies.read (hT.below h) hu)
  rw [hn] at hT hn1 ⊢
  have HT := Lib.hid hT
  have HE := Lib.hid (fun v X W (h : Chs W v X) => encode_any v X W h)
  unfold EncPost at HE
  have HST := Lib.hid (fun v1 v2 X W (h1 : Strs W v1 X) (h2 : Strs W v2 T) => sameTexts_any v1 v2 X T W h1 h2)
  clear hn hT
  obtain ⟨W0, rfl⟩ : ∃ W0 : World, W0 = w := ⟨_, rfl⟩
  have hself0 : Below W0.heap.size W0 W0 := Below.refl _ _
  obtain ⟨PP, hPP⟩ : ∃ P : Ending → World → Prop, DecPost T W0 = P := ⟨_, rfl⟩
  by_cases h108 : 108 < n
  · have HF := Lib.hid (HNO.out W0 (H108.out h108) hself0)
    clear hPP
    go_enter Try.func32, Try.ntmps32
    go_wp2
    go_returns
    exact HF.out
  clear hPP
  go_enter Try.func32, Try.ntmps32
  go_wp2
  go_loopw [4, 5, 6, 7] (fun l i _ _ wr => ∃ (k : Nat) (X : List C), k ≤ n ∧ i = .int .i64 (k : Int) ∧ Hid (wr.ownsRow W0.heap.size 25 4 l X.length (cellsL X)) ∧ Hid (Below W0.heap.size W0 wr) ∧ Hid (X.length ≤ 9 * k) ∧ Hid (∀ L, DecP T L → X = L.take (9 * k))) (fun _ i _ _ _ => n - (intOf i).toNat)
  case atStart => exact ⟨0, [], by omega, rfl, World.ownsRow_nil _ _ _ _, hself0, Nat.le_refl _, fun L _ => rfl⟩
  case round =>
    obtain ⟨k, X, hk, rfl, HOW, HBk, HXL, HXT⟩ := hrel
    by_cases hlt : k < n
    · obtain ⟨b, hb1, hb2⟩ := HG.out k hlt
      obtain ⟨bb, off, e1, c1⟩ := HRD.out _ HBk.out _ _ hb2
      subst e1
      have HDk := Lib.hid (fun L (h : DecP T L) => HD.out L h k b hb1)
      have HCK := Lib.hid (fun W' (h : Below W0.heap.size W0 W') => show W'.cell? ⟨bb, off + k, none⟩ = some (.string b) by
        obtain ⟨b3, o3, e3, c3⟩ := HRD.out _ h _ _ hb2
        cases e3
        exact c3)
      clear hb1 hb2
      by_cases hs : b.size = 508
      · have hx508 : ((b.size : Int) != 508) = false := by simp [hs]
        obtain ⟨WO, rfl⟩ : ∃ WO : World, WO = wr := ⟨_, rfl⟩
        go_wp2
        go_loopw [4, 6, 7] (fun l q _ wq => ∃ (m : Nat) (X : List C), m ≤ 9 ∧ q = .int .i64 (m : Int) ∧ Hid (wq.ownsRow W0.heap.size 25 4 l X.length (cellsL X)) ∧ Hid (Below W0.heap.size W0 wq) ∧ Hid (X.length ≤ 9 * k + m) ∧ Hid (∀ L, DecP T L → X = L.take (9 * k + m))) (fun _ q _ _ => 9 - (intOf q).toNat)
        case atStart => exact ⟨0, X, by omega, rfl, HOW.out, HBk.out, HXL.out, HXT.out⟩
        case round =>
          clear HOW HXL HXT X
          obtain ⟨m, X, hm, rfl, HOW, HBm, HXL, HXT⟩ := hrel
          have HB2 := HBm
          by_cases hm9 : m < 9
          · obtain ⟨p, hp⟩ : ∃ p, 55 * m = p := ⟨_, rfl⟩
            have hw55 : IntKind.i64.wrap (55 * (m : Int)) = (p : Int) := by rw [IntKind.wrap_i64]; omega
            have c1 := HCK.out _ HBm.out
            have hbr := fun W => bare_ref b (p : Int) W (by omega)
            simp only [Int.toNat_natCast] at hbr
            have HM := Lib.hid (fun L (h : DecP T L) => (HDk.out L h).2 m hm9)
            rw [hp] at HM
            by_cases hbare : bareB b p = true
            · rw [hbare] at hbr
              have HBR := Lib.hid hbr
              have HX2 : Hid (∀ L, DecP T L → X = L.take (9 * (k + 1))) := fun L h => by
                have h1 := (HM.out L h).1
                rw [hbare] at h1
                have h2 : L.length ≤ 9 * k + m := of_decide_eq_true h1.symm
                rw [HXT.out L h, List.take_of_length_le h2, List.take_of_length_le (by omega)]
              have HX3 : Hid (X.length ≤ 9 * (k + 1)) := by have := HXL.out; unfold Hid; omega
              clear hp hbr hbare
              go_wp2_with (go_at_call 55; (with_reducible refine Calls.mono (HBR.out _) ?_); rintro e w1 ⟨rfl, rfl⟩)
              go_roundw
              case rel => exact ⟨k + 1, X, by omega, by go_num, HOW.out, HB2.out, HX3.out, HX2.out⟩
              case measure => simp [intOf]; omega
            · have hbf : bareB b p = false := by simpa using hbare
              rw [hbf] at hbr
              have HBR := Lib.hid hbr
              obtain ⟨p6, hp6⟩ : ∃ q, p + 6 = q := ⟨_, rfl⟩
              obtain ⟨p12, hp12⟩ : ∃ q, p + 12 = q := ⟨_, rfl⟩
              obtain ⟨p13, hp13⟩ : ∃ q, p + 13 = q := ⟨_, rfl⟩
              obtain ⟨p55, hp55⟩ : ∃ q, p + 55 = q := ⟨_, rfl⟩
              have w6 : IntKind.i64.wrap ((p : Int) + 6) = (p6 : Int) := by rw [IntKind.wrap_i64]; omega
              have w12 : IntKind.i64.wrap ((p : Int) + 12) = (p12 : Int) := by rw [IntKind.wrap_i64]; omega
              have w13 : IntKind.i64.wrap ((p : Int) + 13) = (p13 : Int) := by rw [IntKind.wrap_i64]; omega
              have w55 : IntKind.i64.wrap ((p : Int) + 55) = (p55 : Int) := by rw [IntKind.wrap_i64]; omega
              have r1 : p13 ≤ p55 := by omega
              have r2 : p55 ≤ 508 := by omega
              have r3 : (p13 : Int) ≤ (p55 : Int) := by omega
              have r4 : (p55 : Int) ≤ 508 := by omega
              have r5 : (0 : Int) ≤ (p13 : Int) := by omega
              have r6 : p12 < b.size := by omega
              have r7 : (p12 : Int) < 508 := by omega
              have r8 : p12 < 508 := by omega
              have r9 : (0 : Int) ≤ (p12 : Int) := by omega
              have T0 := Lib.hid (fun W => take_any b p 6 W (by omega) (by omega) (by omega) (by omega))
              have T1 := Lib.hid (fun W => take_any b p6 6 W (by omega) (by omega) (by omega) (by omega))
              have e3 : ∀ h : p12 < b.size, (((b[p12]'h).toNat : Nat) : Int) = sbyte b p12 := fun h => by
                have : b.data.toList[p12]? = some (b[p12]'h) := Go.Proofs.byte_at b p12 h
                simp [sbyte, this]
              obtain ⟨x0, hx0⟩ : ∃ x, takeN b p 6 = x := ⟨_, rfl⟩
              obtain ⟨x1, hx1⟩ : ∃ x, takeN b p6 6 = x := ⟨_, rfl⟩
              obtain ⟨sn, hsn⟩ : ∃ x, decide (¬ sb b p12 = 0) = x := ⟨_, rfl⟩
              have u1 : (sbyte b p12 != 0) = sn := by rw [← hsn, sbyte_eq, Bool.eq_iff_iff]; simp
              have hchk : chkR b p = ⟨x0, x1, sn, b.extract p13 p55⟩ := by unfold chkR; rw [hp6, hp12, hp13, hp55, hx0, hx1, hsn]
              rw [hx0] at T0
              rw [hx1] at T1
              have HX2 : Hid (∀ L, DecP T L → X ++ [(⟨x0, x1, sn, b.extract p13 p55⟩ : C)] = L.take (9 * k + (m + 1))) := fun L h => by
                obtain ⟨h1, h2⟩ := HM.out L h
                rw [hbf] at h1
                have h3 : ¬ L.length ≤ 9 * k + m := of_decide_eq_false h1.symm
                rw [HXT.out L h, ← Nat.add_assoc, take_snoc (by omega), ← h2 (by omega), hchk]
              have HXL2 : Hid ((X ++ [(⟨x0, x1, sn, b.extract p13 p55⟩ : C)]).length ≤ 9 * k + (m + 1)) := by have := HXL.out; unfold Hid; rw [List.length_append]; simp; omega
              have hxl := HXL.out
              have HOWN := Lib.hid (fun (W : World) g cap (h : W.ownsRow W0.heap.size 25 4 (.slice (some ⟨g, 0, none⟩) (X.length + 1) cap) (X.length + 1) (cellsL X ++ [.int .u64 x0, .int .u64 x1, .bool sn, .string (b.extract p13 p55)])) => show W.ownsRow W0.heap.size 25 4 (.slice (some ⟨g, 0, none⟩) (X.length + 1) cap) (X ++ [(⟨x0, x1, sn, b.extract p13 p55⟩ : C)]).length (cellsL (X ++ [(⟨x0, x1, sn, b.extract p13 p55⟩ : C)])) by rw [List.length_append, cellsL_snoc]; exact h)
              have hself : Below W0.heap.size W0 wr := HB2.out
              have hself2 : Below W0.heap.size W0 wr.drew := hself.drew
              clear hp hbr hbare hbf hp6 hp12 hp13 hp55 hx0 hx1 hsn hchk
              go_wp2_with (go_at_call 55; (with_reducible refine Calls.mono (HBR.out _) ?_); rintro e w1 ⟨rfl, rfl⟩)
              go_region_held3 (fun w' => w'.cell? ⟨bb, off + k, none⟩ = some (.string b)) (first | exact HCK.out _ (by assumption) | exact HCK.out _ (below_al (by assumption) _) | exact HCK.out _ (below_al (by assumption) _).drew) (first
                | (refine step_append_lies _ rfl (.tmp 38) (.tmp 70) 22 rfl W0.heap.size 25 i0 (.agg #[.int .u64 0, .int .u64 0, .bool false, .string ⟨#[]⟩]) 4 40 Try.underlying22 hin hz0 hz1 hz2 rfl (by decide) _ X.length (cellsL X) rfl (by first | exact (HOW.out.alloc _) | exact own_below (HOW.out.alloc _) (Below.refl _ _).drew | exact own_below (own_below HOW.out (Below.refl _ _).drew) (below_new _ _)) ⟨_, 0, none⟩ 1 1 [.int .u64 x0, .int .u64 x1, .bool sn, .string (b.extract p13 p55)] rfl rfl (World.news_of_block (by first | exact World.alloc_heap_new wr _ | exact World.alloc_heap_new _ _)) (by simp [Value.oneCell']) (by decide) (by unfold maxLen; omega) (by omega) (by have := HB2.out.size; simp; omega) _ rfl ?_; intro g2 cap2 w4 hown4 hgrow4 hat4 hlt4; have hT4 := HOWN.out _ _ _ hown4; have hB4 : Below W0.heap.size W0 w4 := by first | exact (below_al hself (.cells #[.int .u64 x0, .int .u64 x1, .bool sn, .string (b.extract p13 p55)] 25)).drew.grown hgrow4 (by have := hself.size; simp; omega) (fun r e => (HOW.out.lt r e).1) | exact (below_al hself2 (.cells #[.int .u64 x0, .int .u64 x1, .bool sn, .string (b.extract p13 p55)] 25)).grown hgrow4 (by have := hself.size; simp; omega) (fun r e => (HOW.out.lt r e).1))
                | (go_at_call 56; (with_reducible refine Calls.mono (T0.out _) ?_); rintro e w' ⟨rfl, rfl⟩)
                | (go_at_call 56; (with_reducible refine Calls.mono (T1.out _) ?_); rintro e w' ⟨rfl, rfl⟩))
              all_goals
                go_wp2
                go_roundw
                case rel => exact ⟨m + 1, _, by omega, by go_num, hT4, hB4, HXL2.out, HX2.out⟩
                case measure => simp [intOf]; omega
          · have HX2 : Hid (∀ L, DecP T L → X = L.take (9 * (k + 1))) := fun L h => by rw [HXT.out L h, show 9 * (k + 1) = 9 * k + m by omega]
            have HX3 : Hid (X.length ≤ 9 * (k + 1)) := by have := HXL.out; unfold Hid; omega
            go_wp2
            go_roundw
            case rel => exact ⟨k + 1, X, by omega, by go_num, HOW.out, HB2.out, HX3.out, HX2.out⟩
            case measure => simp [intOf]; omega
      · have hx508 : ((b.size : Int) != 508) = true := by simp; omega
        have HF := Lib.hid (HNO.out wr (fun ⟨L, h⟩ => hs (HDk.out L h).1) HBk.out)
        clear hs
        go_wp2
        go_returns
        exact HF.out
    · obtain rfl : k = n := by omega
      have hXX := Chs.own HOW.out
      obtain ⟨al, cl, rfl, _⟩ := hXX.parts
      have he := HE.out _ _ _ hXX
      have HXL2 : Hid (∀ L, DecP T L → X = L) := fun L h => by rw [HXT.out L h, List.take_of_length_le (HLN.out L h)]
      have HXX := Lib.hid hXX
      by_cases hr : RightP X
      · rw [show encE X = 0 from if_pos hr] at he
        have HE2 := Lib.hid he
        have hst := HST.out
        by_cases hq : encV X = T
        · have HY := Lib.hid (fun W v hL hB => HYES.out W v X ⟨hr, hq⟩ hL hB)
          rw [hq] at HE2
          have hst2 := fun v1 v2 W h1 h2 => hst v1 v2 T W h1 h2
          simp only [decide_true] at hst2
          have HS := Lib.hid hst2
          clear hst hst2 he hXX hq hr
          go_wp2_with (first
            | (go_at_call 30; (with_reducible refine Calls.mono HE2.out ?_); rintro e w3 ⟨v3, rfl, hX3, hB3⟩; obtain ⟨a3, c3, rfl, _⟩ := hX3.parts; have HX3 := Lib.hid hX3; have HT3 := Lib.hid (HT.out.below (below_th HBk.out hB3)))
            | (go_at_call 33; (with_reducible refine Calls.mono (HS.out _ _ _ HX3.out HT3.out) ?_); rintro e w4 ⟨rfl, hB4⟩))
          go_returns
          exact HY.out _ _ (HXX.out.below (below_th hB3 hB4)) (below_th HBk.out (below_th hB3 hB4))
        · have HN := Lib.hid (fun W hB => HNO.out W (fun ⟨L, h⟩ => hq (by rw [HXL2.out L h]; exact h.2)) hB)
          have hst2 := fun v1 v2 W h1 h2 => hst v1 v2 (encV X) W h1 h2
          simp only [show decide (encV X = T) = false from decide_eq_false hq] at hst2
          have HS := Lib.hid hst2
          generalize encV X = Y at HS HE2
          clear hst hst2 he hXX hq hr
          go_wp2_with (first
            | (go_at_call 30; (with_reducible refine Calls.mono HE2.out ?_); rintro e w3 ⟨v3, rfl, hX3, hB3⟩; obtain ⟨a3, c3, rfl, _⟩ := hX3.parts; have HX3 := Lib.hid hX3; have HT3 := Lib.hid (HT.out.below (below_th HBk.out hB3)))
            | (go_at_call 33; (with_reducible refine Calls.mono (HS.out _ _ _ HX3.out HT3.out) ?_); rintro e w4 ⟨rfl, hB4⟩))
          go_returns
          exact HN.out _ (below_th HBk.out (below_th hB3 hB4))
      · have HN := Lib.hid (fun W hB => HNO.out W (fun ⟨L, h⟩ => hr (by rw [HXL2.out L h]; exact h.1)) hB)
        rw [show encE X = 90 from if_neg hr] at he
        have HE2 := Lib.hid he
        have hst2 := fun v1 v2 W h1 h2 => HST.out v1 v2 (encV X) W h1 h2
        generalize encV X = Y at hst2 HE2
        generalize decide (Y = T) = y at hst2
        have HS := Lib.hid hst2
        clear hst2 he hXX hr
        go_wp2_with (first
          | (go_at_call 30; (with_reducible refine Calls.mono HE2.out ?_); rintro e w3 ⟨v3, rfl, hX3, hB3⟩; obtain ⟨a3, c3, rfl, _⟩ := hX3.parts; have HX3 := Lib.hid hX3; have HT3 := Lib.hid (HT.out.below (below_th HBk.out hB3)))
          | (go_at_call 33; (with_reducible refine Calls.mono (HS.out _ _ _ HX3.out HT3.out) ?_); rintro e w4 ⟨rfl, hB4⟩))
        go_returns
        exact HN.out _ (below_th HBk.out (below_th hB3 hB4))
end
end Go.Proofs.Ytoedjemelblpaaa.Cps.R
