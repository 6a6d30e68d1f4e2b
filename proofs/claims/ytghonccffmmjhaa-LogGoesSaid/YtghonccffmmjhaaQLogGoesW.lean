/- A log that goes on where another one ended: the walk. -/
import Derived.Test.YtghonccffmmjhaaPk33
namespace Go.Proofs.Ytghonccffmmjhaa.Log
open Go.RowKit Go.Shelf
open Disk (D IsDisk)
open Record (Ans below_al below_new)
attribute [local go_sem] Oper.semAt_some
set_option linter.unusedVariables false
section
set_option maxRecDepth 100000
set_option maxHeartbeats 8000000
theorem LogGoes_walk (v : Value) (LL : List (Value × List It)) (a1 : Int) (w : World) (hL : Recs w v LL) (wL : ∀ o ∈ LL, ∀ x ∈ o.2, ItOk x) (w1 : (Lit.int .i64 a1).wf = true) :
    Calls Try.prog 5 #[v, .int .i64 a1] w fun e w' => e = .returned (.bool true) ∧ Below w.heap.size w w' := by
  obtain ⟨av, cap, rfl, hnc, hm⟩ := hL.parts
  obtain ⟨N, hN⟩ : ∃ N, LL.length = N := ⟨_, rfl⟩
  rw [hN] at hL hnc ⊢
  have HNn := Lib.hid hN
  have WL := Lib.hid wL
  have HL0 := Lib.hid hL
  obtain ⟨d0, hd0⟩ : ∃ d, D.of (List.replicate 256 (zeros 512)) = d := ⟨_, rfl⟩
  have hg0 : Good d0 ⟨16, 1, 2⟩ ⟨16, 1, 2⟩ 0 := by rw [← hd0]; exact good_new 256 _ (by decide) (lg_ok 256 (by decide) (by decide))
  have hlen : d0.B.length = 256 := by rw [← hd0]; exact List.length_replicate
  have hop : d0.ops = 0 := by rw [← hd0]; rfl
  have hcut : d0.cut < 0 := by rw [← hd0]; decide
  have HN : Hid (∀ W, Calls Try.prog 9 #[.int .i64 256] W (NewPost 0 256 W)) := fun W => new_disk 256 (by decide) W
  unfold NewPost at HN
  simp only [hd0] at HN
  clear hd0
  have HB : Hid (∀ W p G, IsDisk W p G d0 → (∀ k, G k → k < W.heap.size) → (∀ k, G k → w.heap.size ≤ k) → w.heap.size ≤ W.heap.size → Calls Try.prog 10 #[.pointer (some ⟨p, 0, none⟩), .int .i64 16, .int .u64 1, .int .i64 2] W fun e w' => ∃ q, e = .returned (.tuple #[.pointer (some ⟨q, 0, none⟩), .int .i64 0]) ∧ Sys w' w.heap.size p q G d0 ⟨16, 1, 2⟩ ⟨16, 1, 2⟩ 0 ∧ Below W.heap.size W w' ∧ W.heap.size ≤ q) := fun W p G h1 h2 h3 h4 =>
    sys_begin (nb := 256) ⟨16, 1, 2⟩ h1 hg0 (begin_ok _ (by omega)) h2 h3 h4
  have HD0 : Hid (d0.B.length = 256 ∧ d0.ops = 0 ∧ d0.cut < 0) := ⟨hlen, hop, hcut⟩
  clear hL hN wL w1 hg0 hlen hop hnc hcut
  go_enter Try.func5, Try.ntmps5
  go_wp2_with (first
    | (go_at_call 8; (with_reducible refine Calls.mono (shown_any _) ?_); rintro e wa ⟨rfl, hB1⟩; have hs1 := hB1.size)
    | (go_at_call 9; have tk := hD1; (with_reducible refine Calls.mono (HN.out _) ?_); rintro e wc ⟨p2, G2, rfl, hD2, hG21, hG22, hB3⟩; have hs3 := hB3.size; have hA3 := below_th hA2 hB3; have hD1 := hD1.below hB3; have hG14 : ∀ k, G1 k → k < wc.heap.size := (fun k hk => Nat.lt_of_lt_of_le (hG12 k hk) hs3); have hG23 : ∀ k, G2 k → w.heap.size ≤ k := (fun k hk => Nat.le_trans (Nat.le_trans hs1 hs2) (hG21 k hk)))
    | (go_at_call 9; (with_reducible refine Calls.mono (HN.out _) ?_); rintro e wb ⟨p1, G1, rfl, hD1, hG11, hG12, hB2⟩; have hs2 := hB2.size; have hA2 := below_th hB1 hB2; have hG13 : ∀ k, G1 k → w.heap.size ≤ k := fun k hk => Nat.le_trans hs1 (hG11 k hk))
    | (go_at_call 10; (with_reducible refine Calls.mono (HB.out _ _ _ hD1 hG14 hG13 hA3.size) ?_); rintro e wd ⟨q1, rfl, hS1, hB4, hq1⟩; have hs4 := hB4.size; have hA4 := below_th hA3 hB4; have hD2 := hD2.below hB4; have hG24 : ∀ k, G2 k → k < wd.heap.size := (fun k hk => Nat.lt_of_lt_of_le (hG22 k hk) hs4))
    | (go_at_call 10; (with_reducible refine Calls.mono (HB.out _ _ _ hD2 hG24 hG23 hA4.size) ?_); rintro e we ⟨q2, rfl, hS2, hB5, hq2⟩; have hlt1 := hS1.log.lt; have hA5 := below_th hA4 hB5; have hS1 := hS1.below hB5))
  have hT0 : Two w p1 q1 p2 q2 0 0 G1 G2 d0 ⟨16, 1, 2⟩ we := by
    obtain ⟨hlen, hop, hcut⟩ := HD0.out
    have hnr : Near ⟨16, 1, 2⟩ (0 + 2) := ⟨by decide, .inr ⟨by decide, by decide⟩⟩
    exact ⟨⟨hS1, Nat.le_refl _, hnr, hlen, by omega⟩, ⟨hS2, Nat.le_refl _, hnr, hlen, by omega⟩, fun i h1 h2 => by have := hG12 i h1; have := hG21 i h2; omega, fun i h1 e => by have := hG14 i h1; omega, fun i h1 e => by have := hG22 i h1; omega, fun e => by have := hlt1; omega, hcut, hA5⟩
  have HT0 := Lib.hid hT0
  clear hlt1 hT0 hS1 hS2 hD1 hD2 hG11 hG12 hG13 hG14 hG21 hG22 hG23 hG24 hB1 hB2 hB3 hB4 hB5 hA2 hA3 hA4 hA5 hs1 hs2 hs3 hs4 hq1 hq2 HB HN HD0
  go_loopw [12, 14, 15, 16, 17, 18, 19, 20, 21, 22] (fun sb si _ _ _ _ _ _ _ _ wr => ∃ n k qB G1 G2 d l, si = .int .i64 (k : Nat) ∧ sb = .pointer (some ⟨qB, 0, none⟩) ∧ k ≤ N ∧ k ≤ 6 ∧ Hid (Two w p1 q1 p2 qB n k G1 G2 d l wr)) (fun _ si _ _ _ _ _ _ _ _ _ => N - (intOf si).toNat)
  case atStart => exact ⟨0, 0, q2, _, _, _, _, rfl, rfl, Nat.zero_le _, Nat.zero_le _, HT0.out⟩
  case round =>
    obtain ⟨n, k, qB, G1, G2, d, l, rfl, rfl, hk1, hk2, hT⟩ := hrel
    by_cases hlt : k < N ∧ k < 6
    · obtain ⟨g1, g2⟩ := hlt
      have g1i : (k : Int) < (N : Int) := by omega
      have g2i : (k : Int) < 6 := by omega
      have hnk : ¬ (n : Int) > (k : Int) := by have := hT.out.r1.le; omega
      have hnk2 : ¬ (k : Int) < (n : Int) := by have := hT.out.r1.le; omega
      obtain ⟨b0, o0, ⟨rv, rl⟩, rfl, hr0, hcell, hits, hmem⟩ := Recs.get HNn.out HL0.out g1
      have HGET : Hid (∀ W, Below w.heap.size w W → W.cell? ⟨b0, o0 + k, none⟩ = some rv ∧ Its W rv rl) := fun W hB => ⟨cell_only hcell (Only.of_below hB (S := fun _ => False)) (fun h => h), hits.below hB⟩
      obtain ⟨M, hM⟩ : ∃ M, rl.take 20 = M := ⟨_, rfl⟩
      obtain ⟨NM, hNM⟩ : ∃ NM, M.length = NM := ⟨_, rfl⟩
      have HCU : Hid (∀ W, Its W rv rl → Calls Try.prog 15 #[rv] W fun e w' => ∃ a cap, e = .returned (.slice a NM cap) ∧ (∀ W, Its W rv rl → Its W (.slice a NM cap) M) ∧ NM ≤ cap ∧ cap ≤ 9223372036854775807 ∧ W = w') := fun W h => by
        have := cut_all rv rl NM (by rw [hM]; exact hNM) W h
        rw [hM] at this
        exact this
      have HMok : Hid (∀ x ∈ M, ItOk x) := fun x hx => WL.out _ hmem x (by rw [← hM] at hx; exact List.mem_of_mem_take hx)
      have HNM := Lib.hid hNM
      clear hcell hits hmem hr0 hM hNM
      have v2 : IntKind.i64.wrap (3 + (k : Int)) = 3 + (k : Int) := by rw [IntKind.wrap_i64]; omega
      have HRO : Hid (∀ W2 qq l2, Two w p1 q1 p2 qq n k G1 G2 d l2 W2 → ∃ rm : Nat, rm ≤ 15 ∧ Hid (Calls Try.prog 16 #[.pointer (some ⟨q1, 0, none⟩)] W2 fun e w' => e = .returned (.int .i64 (rm : Int)) ∧ W2 = w')) := fun W2 qq l2 h => by
        have hlo : l2.at_ < 256 := by have := h.r1.sys.good.ok.hi; rw [h.r1.len] at this; exact this
        exact ⟨15 - l2.at_ % 16, by omega, room_l h.r1.sys.log (by omega)⟩
      by_cases ha : (k : Int) = a1
      · have hka : ((k : Int) == a1) = true := by simp [ha]
        clear ha
        by_cases h0 : l.next = 0
        · have hz : ((l.next : Int) == 0) = true := by rw [h0]; rfl
          have hz2 : ((l.next : Int) != 0) = false := by rw [h0]; rfl
          have hn3 : (⟨l.at_, l.seq, k + 2 + 1⟩ : Lg).next ≠ 0 := by show k + 2 + 1 ≠ 0; omega
          have HSC := Lib.hid (hT.out.scan (by omega))
          have ea : ((l.at_ : Int) != (l.at_ : Int)) = false := by simp
          have es : ((l.seq : Int) != (l.seq : Int)) = false := by simp
          go_wp2_with (first
            | (go_at_call 19; (with_reducible refine Calls.mono HSC.out ?_); rintro e w9 ⟨a9, cap9, q9, m9, rfl, hl9, hm9, hq9, hB9⟩; have hlb := hT.out.r2.sys.log.th hB9; have hl9x : LAt w9 q9 p2 l := (by rcases hm9 with rfl | rfl; (have e9 : (⟨l.at_, l.seq, 0⟩ : Lg) = l := (by rw [← h0])); (rw [e9] at hl9; exact hl9); exact hl9); have HTw := Lib.hid (hT.out.swap hB9 hl9x hq9))
            | (go_at_call 17; (with_reducible refine Calls.mono (at_l hl9) ?_); rintro e wn ⟨rfl, rfl⟩)
            | (go_at_call 17; (with_reducible refine Calls.mono (at_l hlb) ?_); rintro e wn ⟨rfl, rfl⟩)
            | (go_at_call 21; (with_reducible refine Calls.mono (seq_l hl9) ?_); rintro e wn ⟨rfl, rfl⟩)
            | (go_at_call 21; (with_reducible refine Calls.mono (seq_l hlb) ?_); rintro e wn ⟨rfl, rfl⟩)
            | (go_at_call 13; (with_reducible refine Calls.mono (next_l hlb) ?_); rintro e wn ⟨rfl, rfl⟩)
            | (go_at_call 13; (with_reducible refine Calls.mono (next_l HTw.out.r1.sys.log) ?_); rintro e wn ⟨rfl, rfl⟩)
            | (go_at_call 13; (with_reducible refine Calls.mono (next_l HTw.out.r2.sys.log) ?_); rintro e wn ⟨rfl, rfl⟩)
            | (go_at_call 13; (with_reducible refine Calls.mono (next_l HMd.out.r2.sys.log) ?_); rintro e wn ⟨rfl, rfl⟩)
            | (go_at_call 14; (with_reducible refine Calls.mono (HTw.out.next1 h0 (by omega) _ rfl) ?_); rintro e w11 ⟨rfl, hMd⟩; have HMd := Lib.hid hMd; clear hMd)
            | (go_at_call 14; (with_reducible refine Calls.mono (HMd.out.next2 h0 (by omega) _ rfl) ?_); rintro e w12 ⟨rfl, hT12⟩; have HT3 := Lib.hid hT12; obtain ⟨c0, its0⟩ := HGET.out _ HT3.out.bel; obtain ⟨rm, hrm, HRM⟩ := HRO.out _ _ _ HT3.out)
            | (go_at_call 15; (with_reducible refine Calls.mono (HCU.out _ its0) ?_); rintro e w3 ⟨a3, cap3, rfl, hM3, hc3, hm3, rfl⟩; have hv1 : 0 ≤ min (NM : Int) (rm : Int) := (by omega); have hv2 : min (NM : Int) (rm : Int) ≤ (cap3 : Int) := (by omega); have hMM := its_take HNM.out (hM3 _ its0) (min (NM : Int) (rm : Int)).toNat (by omega); have HM3 := Lib.hid hM3; clear hM3)
            | (go_at_call 16; (with_reducible refine Calls.mono HRM.out ?_); rintro e w4 ⟨rfl, rfl⟩)
            | (go_at_call 18; (with_reducible refine Calls.mono (HT3.out.write1 hMM (fun x hx => HMok.out x (List.mem_of_mem_take hx)) hn3 (by omega) _) ?_); rintro e w5 ⟨c, v1, N1, X, d', l', n', G', rfl, hS, hH, hL1, hw1⟩; have hMM5 := its_take HNM.out (HM3.out _ (HGET.out _ hH.bel).2) (min (NM : Int) (rm : Int)).toNat (by omega); have HS := Lib.hid hS; have HH := Lib.hid hH; have HL1 := Lib.hid hL1; have HW1 := Lib.hid hw1; have hcc : (c != c) = false := (by simp); clear hMM hS hH hL1 hw1)
            | (go_at_call 18; (with_reducible refine Calls.mono (HH.out.write2 HS.out hMM5 (fun x hx => HMok.out x (List.mem_of_mem_take hx)) hn3 (by omega) HL1.out HW1.out) ?_); rintro e w6 ⟨v2, G'', rfl, hT6, hL61, hL62⟩; have HT6 := Lib.hid hT6; have HL61 := Lib.hid hL61; have HL62 := Lib.hid hL62; clear hT6 hL61 hL62)
            | (go_at_call 22; (with_reducible refine Calls.mono (ints_yes v1 v2 X N1 HS.out.ints _ HL61.out HL62.out) ?_); rintro e w7 ⟨rfl, hB7⟩; have HT7 := Lib.hid (HT6.out.below hB7); clear hB7))
          go_roundw
          case rel => exact ⟨n', k + 1, q9, _, _, _, _, by go_num, rfl, by omega, by omega, HT7.out⟩
          case measure => simp [intOf]; omega
        · have hz : ((l.next : Int) == 0) = false := by simp; omega
          have hz2 : ((l.next : Int) != 0) = true := by simp; omega
          have hn3 := h0
          have HSC := Lib.hid (hT.out.scan (by omega))
          have ea : ((l.at_ : Int) != (l.at_ : Int)) = false := by simp
          have es : ((l.seq : Int) != (l.seq : Int)) = false := by simp
          go_wp2_with (first
            | (go_at_call 19; (with_reducible refine Calls.mono HSC.out ?_); rintro e w9 ⟨a9, cap9, q9, m9, rfl, hl9, hm9, hq9, hB9⟩; have hlb := hT.out.r2.sys.log.th hB9)
            | (go_at_call 17; (with_reducible refine Calls.mono (at_l hl9) ?_); rintro e wn ⟨rfl, rfl⟩)
            | (go_at_call 17; (with_reducible refine Calls.mono (at_l hlb) ?_); rintro e wn ⟨rfl, rfl⟩)
            | (go_at_call 21; (with_reducible refine Calls.mono (seq_l hl9) ?_); rintro e wn ⟨rfl, rfl⟩)
            | (go_at_call 21; (with_reducible refine Calls.mono (seq_l hlb) ?_); rintro e wn ⟨rfl, rfl⟩)
            | (go_at_call 13; (with_reducible refine Calls.mono (next_l hlb) ?_); rintro e wn ⟨rfl, rfl⟩)
            | (go_at_call 14; (with_reducible refine Calls.mono (hT.out.reset h0 hl9 hq9 hB9) ?_); rintro e w10 ⟨rfl, hT10⟩; have HTw := Lib.hid hT10; clear hT10; have HT3 := Lib.hid HTw.out; obtain ⟨c0, its0⟩ := HGET.out _ HT3.out.bel; obtain ⟨rm, hrm, HRM⟩ := HRO.out _ _ _ HT3.out)
            | (go_at_call 13; (with_reducible refine Calls.mono (next_l HTw.out.r1.sys.log) ?_); rintro e wn ⟨rfl, rfl⟩)
            | (go_at_call 13; (with_reducible refine Calls.mono (next_l HTw.out.r2.sys.log) ?_); rintro e wn ⟨rfl, rfl⟩)
            | (go_at_call 15; (with_reducible refine Calls.mono (HCU.out _ its0) ?_); rintro e w3 ⟨a3, cap3, rfl, hM3, hc3, hm3, rfl⟩; have hv1 : 0 ≤ min (NM : Int) (rm : Int) := (by omega); have hv2 : min (NM : Int) (rm : Int) ≤ (cap3 : Int) := (by omega); have hMM := its_take HNM.out (hM3 _ its0) (min (NM : Int) (rm : Int)).toNat (by omega); have HM3 := Lib.hid hM3; clear hM3)
            | (go_at_call 16; (with_reducible refine Calls.mono HRM.out ?_); rintro e w4 ⟨rfl, rfl⟩)
            | (go_at_call 18; (with_reducible refine Calls.mono (HT3.out.write1 hMM (fun x hx => HMok.out x (List.mem_of_mem_take hx)) hn3 (by omega) _) ?_); rintro e w5 ⟨c, v1, N1, X, d', l', n', G', rfl, hS, hH, hL1, hw1⟩; have hMM5 := its_take HNM.out (HM3.out _ (HGET.out _ hH.bel).2) (min (NM : Int) (rm : Int)).toNat (by omega); have HS := Lib.hid hS; have HH := Lib.hid hH; have HL1 := Lib.hid hL1; have HW1 := Lib.hid hw1; have hcc : (c != c) = false := (by simp); clear hMM hS hH hL1 hw1)
            | (go_at_call 18; (with_reducible refine Calls.mono (HH.out.write2 HS.out hMM5 (fun x hx => HMok.out x (List.mem_of_mem_take hx)) hn3 (by omega) HL1.out HW1.out) ?_); rintro e w6 ⟨v2, G'', rfl, hT6, hL61, hL62⟩; have HT6 := Lib.hid hT6; have HL61 := Lib.hid hL61; have HL62 := Lib.hid hL62; clear hT6 hL61 hL62)
            | (go_at_call 22; (with_reducible refine Calls.mono (ints_yes v1 v2 X N1 HS.out.ints _ HL61.out HL62.out) ?_); rintro e w7 ⟨rfl, hB7⟩; have HT7 := Lib.hid (HT6.out.below hB7); clear hB7))
          go_roundw
          case rel => exact ⟨n', k + 1, q9, _, _, _, _, by go_num, rfl, by omega, by omega, HT7.out⟩
          case measure => simp [intOf]; omega
      · have hka : ((k : Int) == a1) = false := by simp [ha]
        clear ha
        by_cases h0 : l.next = 0
        · have HTw := Lib.hid hT.out
          have hz : ((l.next : Int) == 0) = true := by rw [h0]; rfl
          have hz2 : ((l.next : Int) != 0) = false := by rw [h0]; rfl
          have hn3 : (⟨l.at_, l.seq, k + 2 + 1⟩ : Lg).next ≠ 0 := by show k + 2 + 1 ≠ 0; omega
          go_wp2_with (first
            | (go_at_call 13; (with_reducible refine Calls.mono (next_l HTw.out.r1.sys.log) ?_); rintro e wn ⟨rfl, rfl⟩)
            | (go_at_call 13; (with_reducible refine Calls.mono (next_l HTw.out.r2.sys.log) ?_); rintro e wn ⟨rfl, rfl⟩)
            | (go_at_call 13; (with_reducible refine Calls.mono (next_l HMd.out.r2.sys.log) ?_); rintro e wn ⟨rfl, rfl⟩)
            | (go_at_call 14; (with_reducible refine Calls.mono (HTw.out.next1 h0 (by omega) _ rfl) ?_); rintro e w11 ⟨rfl, hMd⟩; have HMd := Lib.hid hMd; clear hMd)
            | (go_at_call 14; (with_reducible refine Calls.mono (HMd.out.next2 h0 (by omega) _ rfl) ?_); rintro e w12 ⟨rfl, hT12⟩; have HT3 := Lib.hid hT12; obtain ⟨c0, its0⟩ := HGET.out _ HT3.out.bel; obtain ⟨rm, hrm, HRM⟩ := HRO.out _ _ _ HT3.out)
            | (go_at_call 15; (with_reducible refine Calls.mono (HCU.out _ its0) ?_); rintro e w3 ⟨a3, cap3, rfl, hM3, hc3, hm3, rfl⟩; have hv1 : 0 ≤ min (NM : Int) (rm : Int) := (by omega); have hv2 : min (NM : Int) (rm : Int) ≤ (cap3 : Int) := (by omega); have hMM := its_take HNM.out (hM3 _ its0) (min (NM : Int) (rm : Int)).toNat (by omega); have HM3 := Lib.hid hM3; clear hM3)
            | (go_at_call 16; (with_reducible refine Calls.mono HRM.out ?_); rintro e w4 ⟨rfl, rfl⟩)
            | (go_at_call 18; (with_reducible refine Calls.mono (HT3.out.write1 hMM (fun x hx => HMok.out x (List.mem_of_mem_take hx)) hn3 (by omega) _) ?_); rintro e w5 ⟨c, v1, N1, X, d', l', n', G', rfl, hS, hH, hL1, hw1⟩; have hMM5 := its_take HNM.out (HM3.out _ (HGET.out _ hH.bel).2) (min (NM : Int) (rm : Int)).toNat (by omega); have HS := Lib.hid hS; have HH := Lib.hid hH; have HL1 := Lib.hid hL1; have HW1 := Lib.hid hw1; have hcc : (c != c) = false := (by simp); clear hMM hS hH hL1 hw1)
            | (go_at_call 18; (with_reducible refine Calls.mono (HH.out.write2 HS.out hMM5 (fun x hx => HMok.out x (List.mem_of_mem_take hx)) hn3 (by omega) HL1.out HW1.out) ?_); rintro e w6 ⟨v2, G'', rfl, hT6, hL61, hL62⟩; have HT6 := Lib.hid hT6; have HL61 := Lib.hid hL61; have HL62 := Lib.hid hL62; clear hT6 hL61 hL62)
            | (go_at_call 22; (with_reducible refine Calls.mono (ints_yes v1 v2 X N1 HS.out.ints _ HL61.out HL62.out) ?_); rintro e w7 ⟨rfl, hB7⟩; have HT7 := Lib.hid (HT6.out.below hB7); clear hB7))
          go_roundw
          case rel => exact ⟨n', k + 1, qB, _, _, _, _, by go_num, rfl, by omega, by omega, HT7.out⟩
          case measure => simp [intOf]; omega
        · have HTw := Lib.hid hT.out
          have hz : ((l.next : Int) == 0) = false := by simp; omega
          have hz2 : ((l.next : Int) != 0) = true := by simp; omega
          have hn3 := h0
          obtain ⟨W3, hW3⟩ : ∃ W3, wr = W3 := ⟨_, rfl⟩
          have HTx := HTw
          rw [hW3] at HTx
          subst hW3
          have HT3 := Lib.hid HTw.out
          obtain ⟨c0, its0⟩ := HGET.out _ HT3.out.bel
          obtain ⟨rm, hrm, HRM⟩ := HRO.out _ _ _ HT3.out
          go_wp2_with (first
            | (go_at_call 13; (with_reducible refine Calls.mono (next_l HTw.out.r1.sys.log) ?_); rintro e wn ⟨rfl, rfl⟩)
            | (go_at_call 13; (with_reducible refine Calls.mono (next_l HTw.out.r2.sys.log) ?_); rintro e wn ⟨rfl, rfl⟩)
            | (go_at_call 15; (with_reducible refine Calls.mono (HCU.out _ its0) ?_); rintro e w3 ⟨a3, cap3, rfl, hM3, hc3, hm3, rfl⟩; have hv1 : 0 ≤ min (NM : Int) (rm : Int) := (by omega); have hv2 : min (NM : Int) (rm : Int) ≤ (cap3 : Int) := (by omega); have hMM := its_take HNM.out (hM3 _ its0) (min (NM : Int) (rm : Int)).toNat (by omega); have HM3 := Lib.hid hM3; clear hM3)
            | (go_at_call 16; (with_reducible refine Calls.mono HRM.out ?_); rintro e w4 ⟨rfl, rfl⟩)
            | (go_at_call 18; (with_reducible refine Calls.mono (HT3.out.write1 hMM (fun x hx => HMok.out x (List.mem_of_mem_take hx)) hn3 (by omega) _) ?_); rintro e w5 ⟨c, v1, N1, X, d', l', n', G', rfl, hS, hH, hL1, hw1⟩; have hMM5 := its_take HNM.out (HM3.out _ (HGET.out _ hH.bel).2) (min (NM : Int) (rm : Int)).toNat (by omega); have HS := Lib.hid hS; have HH := Lib.hid hH; have HL1 := Lib.hid hL1; have HW1 := Lib.hid hw1; have hcc : (c != c) = false := (by simp); clear hMM hS hH hL1 hw1)
            | (go_at_call 18; (with_reducible refine Calls.mono (HH.out.write2 HS.out hMM5 (fun x hx => HMok.out x (List.mem_of_mem_take hx)) hn3 (by omega) HL1.out HW1.out) ?_); rintro e w6 ⟨v2, G'', rfl, hT6, hL61, hL62⟩; have HT6 := Lib.hid hT6; have HL61 := Lib.hid hL61; have HL62 := Lib.hid hL62; clear hT6 hL61 hL62)
            | (go_at_call 22; (with_reducible refine Calls.mono (ints_yes v1 v2 X N1 HS.out.ints _ HL61.out HL62.out) ?_); rintro e w7 ⟨rfl, hB7⟩; have HT7 := Lib.hid (HT6.out.below hB7); clear hB7))
          go_roundw
          case rel => exact ⟨n', k + 1, qB, _, _, _, _, by go_num, rfl, by omega, by omega, HT7.out⟩
          case measure => simp [intOf]; omega
    · have HX0 := hT
      by_cases hk3 : k < N
      · have hk4 : ¬ k < 6 := fun h => hlt ⟨hk3, h⟩
        have hk5 : (k : Int) < (N : Int) := by omega
        have hk6 : ¬ (k : Int) < 6 := by omega
        clear hlt
        go_wp2_with (first
          | (go_at_call 19; (with_reducible refine Calls.mono (HX0.out.scan1 (by omega)) ?_); rintro e x1 ⟨y1, z1, rfl, hF1, hB1⟩; have HX1 := Lib.hid (HX0.out.below hB1); have HF1 := Lib.hid hF1; clear hF1 hB1)
          | (go_at_call 19; (with_reducible refine Calls.mono (HX1.out.scan2 (by omega)) ?_); rintro e x2 ⟨y2, z2, rfl, hF2, hB2⟩; have HX2 := Lib.hid (HX1.out.below hB2); have HF1 := Lib.hid (HF1.out.below hB2); have HF2 := Lib.hid hF2; clear hF2 hB2)
          | (go_at_call 23; (with_reducible refine Calls.mono (HX2.out.same HF1.out HF2.out) ?_); rintro e x3 ⟨rfl, hB3⟩; have HX3 := Lib.hid (HX2.out.below hB3); clear hB3)
          | (go_at_call 25; (with_reducible refine Calls.mono HX3.out.image1 ?_); rintro e x4 ⟨y4, rfl, hI4, hB4⟩; have HX4 := Lib.hid (HX3.out.below hB4); have HI4 := Lib.hid hI4; clear hI4 hB4)
          | (go_at_call 25; (with_reducible refine Calls.mono HX4.out.image2 ?_); rintro e x5 ⟨y5, rfl, hI5, hB5⟩; have HX5 := Lib.hid (HX4.out.below hB5); have HI4 := Lib.hid (HI4.out.below hB5); have HI5 := Lib.hid hI5; clear hI5 hB5)
          | (go_at_call 24; (with_reducible refine Calls.mono (texts_yes d.now y4 y5 256 HX5.out.blocks _ HI4.out HI5.out) ?_); rintro e x6 ⟨rfl, hB6⟩; have HX6 := Lib.hid (HX5.out.below hB6); clear hB6))
        go_ret
        exact ⟨rfl, HX6.out.bel⟩
      · have hk5 : ¬ (k : Int) < (N : Int) := by omega
        clear hlt
        go_wp2_with (first
          | (go_at_call 19; (with_reducible refine Calls.mono (HX0.out.scan1 (by omega)) ?_); rintro e x1 ⟨y1, z1, rfl, hF1, hB1⟩; have HX1 := Lib.hid (HX0.out.below hB1); have HF1 := Lib.hid hF1; clear hF1 hB1)
          | (go_at_call 19; (with_reducible refine Calls.mono (HX1.out.scan2 (by omega)) ?_); rintro e x2 ⟨y2, z2, rfl, hF2, hB2⟩; have HX2 := Lib.hid (HX1.out.below hB2); have HF1 := Lib.hid (HF1.out.below hB2); have HF2 := Lib.hid hF2; clear hF2 hB2)
          | (go_at_call 23; (with_reducible refine Calls.mono (HX2.out.same HF1.out HF2.out) ?_); rintro e x3 ⟨rfl, hB3⟩; have HX3 := Lib.hid (HX2.out.below hB3); clear hB3)
          | (go_at_call 25; (with_reducible refine Calls.mono HX3.out.image1 ?_); rintro e x4 ⟨y4, rfl, hI4, hB4⟩; have HX4 := Lib.hid (HX3.out.below hB4); have HI4 := Lib.hid hI4; clear hI4 hB4)
          | (go_at_call 25; (with_reducible refine Calls.mono HX4.out.image2 ?_); rintro e x5 ⟨y5, rfl, hI5, hB5⟩; have HX5 := Lib.hid (HX4.out.below hB5); have HI4 := Lib.hid (HI4.out.below hB5); have HI5 := Lib.hid hI5; clear hI5 hB5)
          | (go_at_call 24; (with_reducible refine Calls.mono (texts_yes d.now y4 y5 256 HX5.out.blocks _ HI4.out HI5.out) ?_); rintro e x6 ⟨rfl, hB6⟩; have HX6 := Lib.hid (HX5.out.below hB6); clear hB6))
        go_ret
        exact ⟨rfl, HX6.out.bel⟩
end
end Go.Proofs.Ytghonccffmmjhaa.Log
