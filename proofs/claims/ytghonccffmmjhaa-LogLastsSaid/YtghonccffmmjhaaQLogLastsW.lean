/- A log that is cut off on its way: the walk. -/
import Derived.Test.YtghonccffmmjhaaPk32
namespace Go.Proofs.Ytghonccffmmjhaa.Log
open Go.RowKit Go.Shelf
open Disk (D IsDisk crash)
open Record (below_al below_new)
attribute [local go_sem] Oper.semAt_some
set_option linter.unusedVariables false
section
set_option maxRecDepth 100000
set_option maxHeartbeats 8000000
theorem LogLasts_walk (v : Value) (LL : List (Value × List It)) (a1 kp t : Int) (w : World) (hL : Recs w v LL) (wL : ∀ o ∈ LL, ∀ x ∈ o.2, ItOk x) (w1 : (Lit.int .i64 a1).wf = true) (w2 : 0 ≤ kp ∧ kp ≤ 18446744073709551615) (wt : -9223372036854775808 ≤ t ∧ t ≤ 9223372036854775807) :
    Calls Try.prog 3 #[v, .int .i64 a1, .agg #[.int .u64 kp, .int .i64 t]] w fun e w' => e = .returned (.bool true) ∧ Below w.heap.size w w' := by
  obtain ⟨i0, hi, hz0, hz1, hz2⟩ := info_parts infoI
  obtain ⟨av, cap, rfl, hnc, hm⟩ := hL.parts
  obtain ⟨N, hN⟩ : ∃ N, LL.length = N := ⟨_, rfl⟩
  rw [hN] at hL hnc ⊢
  have HNn := Lib.hid hN
  have WL := Lib.hid wL
  obtain ⟨kp, rfl⟩ := Int.eq_ofNat_of_zero_le w2.1
  have hkb : kp < 18446744073709551616 := by have := w2.2; omega
  have HPK := Lib.hid (fun W => pick_any a1 300 (by decide) (by decide) (bounds64 w1) W)
  obtain ⟨W0, hW0⟩ : ∃ W0, w.alloc (.cells #[.int .u64 (kp : Int), .int .i64 t] 25) = W0 := ⟨_, rfl⟩
  have hB0 : Below w.heap.size w W0 := by rw [← hW0]; exact (Below.refl _ w).alloc (Nat.le_refl _) _
  have hs0 : W0.heap.size = w.heap.size + 1 := by rw [← hW0]; simp
  have hf0 : W0.heap[w.heap.size]? = some (.cells #[.int .u64 (kp : Int), .int .i64 t] 25 (0, 0)) := by rw [← hW0]; exact heap_alloc_new w _
  have HFR : Hid (∀ W : World, Below W0.heap.size W0 W → W.cell? ⟨w.heap.size, 0, none⟩ = some (.int .u64 (kp : Int)) ∧ W.cell? ⟨w.heap.size, 1, none⟩ = some (.int .i64 t)) := fun W hB => by
    have := (hB.block w.heap.size (by omega)).trans hf0
    constructor <;> (simp only [World.cell?, this]; rfl)
  have HL0 : Hid (Recs W0 (.slice av N cap) LL) := hL.below hB0
  obtain ⟨d0, hd0⟩ : ∃ d, D.of (List.replicate 256 (zeros 512)) = d := ⟨_, rfl⟩
  have hg0 : Good d0 ⟨16, 1, 2⟩ ⟨16, 1, 2⟩ 0 := by rw [← hd0]; exact good_new 256 _ (by decide) (lg_ok 256 (by decide) (by decide))
  have hlen : d0.B.length = 256 := by rw [← hd0]; exact List.length_replicate
  have hop : d0.ops = 0 := by rw [← hd0]; rfl
  have HN : Hid (∀ W, Calls Try.prog 9 #[.int .i64 256] W (NewPost 0 256 W)) := fun W => new_disk 256 (by decide) W
  unfold NewPost at HN
  simp only [hd0] at HN
  clear hd0
  have HB : Hid (∀ W p G, IsDisk W p G d0 → (∀ k, G k → k < W.heap.size) → (∀ k, G k → W0.heap.size ≤ k) → W0.heap.size ≤ W.heap.size → Calls Try.prog 10 #[.pointer (some ⟨p, 0, none⟩), .int .i64 16, .int .u64 1, .int .i64 2] W fun e w' => ∃ q, e = .returned (.tuple #[.pointer (some ⟨q, 0, none⟩), .int .i64 0]) ∧ Sys w' W0.heap.size p q G d0 ⟨16, 1, 2⟩ ⟨16, 1, 2⟩ 0 ∧ Below W.heap.size W w' ∧ W.heap.size ≤ q) := fun W p G h1 h2 h3 h4 =>
    sys_begin (nb := 256) ⟨16, 1, 2⟩ h1 hg0 (begin_ok _ (by omega)) h2 h3 h4
  have HCT : Hid (∀ W p q G (c : Nat), c < 300 → Sys W W0.heap.size p q G d0 ⟨16, 1, 2⟩ ⟨16, 1, 2⟩ 0 → Below W0.heap.size W0 W → Calls Try.prog 11 #[.pointer (some ⟨p, 0, none⟩), .int .i64 (c : Int)] W fun e w' => e = .returned (.tuple #[]) ∧ LsI W0 p q (.slice none 0 0) 0 0 G (d0.cutAt c) ⟨16, 1, 2⟩ w') := fun W p q G c hc h1 h2 =>
    (sys_cut h1 c (by omega) (by omega)).mono fun e w' ⟨he, hs, hO⟩ => ⟨he, ⟨hs, Nat.le_refl _, ⟨by decide, .inr ⟨by decide, by decide⟩⟩, hlen, by show d0.ops ≤ _; omega⟩, World.ownsRow_nil _ _ _ _, (fun g hg => by cases hg), h2.trans (hO.below h2.size h1.lo)⟩
  clear hL hN wL w1 w2 hg0 hlen hop hnc
  go_enter Try.func3, Try.ntmps3
  go_wp2_with (first
    | (go_at_call 8; (with_reducible refine Calls.mono (shown_any _) ?_); rintro e wa ⟨rfl, hB1⟩)
    | (go_at_call 9; (with_reducible refine Calls.mono (HN.out _) ?_); rintro e wb ⟨p, G0, rfl, hD1, hG1, hG2, hB2⟩; have hs1 := hB1.size; have hA2 := below_th hB1 hB2; have hG3 : ∀ k, G0 k → W0.heap.size ≤ k := fun k hk => Nat.le_trans hs1 (hG1 k hk))
    | (go_at_call 10; (with_reducible refine Calls.mono (HB.out _ _ _ hD1 hG2 hG3 hA2.size) ?_); rintro e wc ⟨q, rfl, hS2, hB3, hq2⟩; have hA3 := below_th hA2 hB3)
    | (go_at_call 12; (with_reducible refine Calls.mono (HPK.out _) ?_); rintro e w9 ⟨c, hc, rfl, rfl⟩)
    | (go_at_call 11; (with_reducible refine Calls.mono (HCT.out _ _ _ _ _ hc hS2 hA3) ?_); rintro e wd ⟨rfl, hI0⟩))
  have HI0 := Lib.hid hI0
  clear hI0 hD1 hG1 hG2 hG3 hS2 hB1 hB2 hB3 hA2 hA3 hs1 HB HCT HN HPK
  go_loopw [12, 13, 14, 15, 16, 17, 18, 19] (fun sd su sw si _ _ _ _ wr => ∃ n k G d l, su = .int .i64 0 ∧ si = .int .i64 (k : Nat) ∧ sd = .int .i64 (n : Nat) ∧ k ≤ N ∧ k ≤ 12 ∧ Hid (LsI W0 p q sw n k G d l wr)) (fun _ _ _ si _ _ _ _ _ => N - (intOf si).toNat)
  case atStart => exact ⟨0, 0, G0, _, _, rfl, rfl, rfl, Nat.zero_le _, Nat.zero_le _, HI0.out⟩
  case round =>
    obtain ⟨n, k, G, d, l, rfl, rfl, rfl, hk1, hk2, hI⟩ := hrel
    by_cases hlt : k < N ∧ k < 12
    · obtain ⟨g1, g2⟩ := hlt
      have hn12 : n ≤ 12 := by have := hI.out.run.le; omega
      have g1i : (k : Int) < (N : Int) := by omega
      have g2i : (k : Int) < 12 := by omega
      obtain ⟨b0, o0, ⟨rv, rl⟩, rfl, hr0, hcell, hits, hmem⟩ := Recs.get HNn.out HL0.out g1
      have HGET : Hid (∀ W, Below W0.heap.size W0 W → W.cell? ⟨b0, o0 + k, none⟩ = some rv ∧ Its W rv rl) := fun W hB => ⟨cell_only hcell (Only.of_below hB (S := fun _ => False)) (fun h => h), hits.below hB⟩
      obtain ⟨M, hM⟩ : ∃ M, rl.take 20 = M := ⟨_, rfl⟩
      obtain ⟨NM, hNM⟩ : ∃ NM, M.length = NM := ⟨_, rfl⟩
      have HCU : Hid (∀ W, Its W rv rl → Calls Try.prog 15 #[rv] W fun e w' => ∃ a cap, e = .returned (.slice a NM cap) ∧ Its W (.slice a NM cap) M ∧ NM ≤ cap ∧ cap ≤ 9223372036854775807 ∧ W = w') := fun W h => by
        have := cut_at rv rl NM (by rw [hM]; exact hNM) W h
        rw [hM] at this
        exact this
      have HMok : Hid (∀ x ∈ M, ItOk x) := fun x hx => WL.out _ hmem x (by rw [← hM] at hx; exact List.mem_of_mem_take hx)
      have HNM := Lib.hid hNM
      clear hcell hits hmem hr0 hM hNM
      have v2 : IntKind.i64.wrap (2 + (k : Int)) = 2 + (k : Int) := by rw [IntKind.wrap_i64]; omega
      have HNX := Lib.hid (next_l hI.out.run.sys.log)
      have HST : Hid (∀ W2 l2, LsI W0 p q u14 n k G d l2 W2 → l2.next ≠ 0 → ∃ rm : Nat, rm ≤ 15 ∧ Hid (15 - l2.at_ % 16 = rm) ∧ (∃ at2 : Nat, Hid (l2.at_ = at2) ∧ at2 < 256 ∧ Hid (Calls Try.prog 17 #[.pointer (some ⟨q, 0, none⟩)] W2 fun e w' => e = .returned (.int .i64 (at2 : Int)) ∧ W2 = w')) ∧ Hid (Calls Try.prog 16 #[.pointer (some ⟨q, 0, none⟩)] W2 fun e w' => e = .returned (.int .i64 (rm : Int)) ∧ W2 = w')) := fun W2 l2 h _ => by
        have hlo : l2.at_ < 256 := by have := h.run.sys.good.ok.hi; rw [h.run.len] at this; exact this
        exact ⟨_, by omega, rfl, ⟨_, rfl, hlo, at_l h.run.sys.log⟩, room_l h.run.sys.log (by omega)⟩
      by_cases h0 : l.next = 0
      · have hz : ((l.next : Int) == 0) = true := by rw [h0]; rfl
        have HSN : Hid (Calls Try.prog 14 #[.pointer (some ⟨q, 0, none⟩), .int .i64 (2 + (k : Int))] wr fun e w' => ∃ l2, e = .returned (.int .i64 0) ∧ LsI W0 p q u14 n k G d l2 w' ∧ l2.next ≠ 0) :=
          (run_next hI.out.run h0 (by omega) (2 + (k : Int)) (by omega)).mono fun e w' ⟨he, hR, hO⟩ => ⟨_, he, hI.out.next hR hO, by show k + 1 + 1 ≠ 0; omega⟩
        clear h0
        go_wp2_with (first
          | (go_at_call 13; (with_reducible refine Calls.mono HNX.out ?_); rintro e wn ⟨rfl, rfl⟩)
          | (go_at_call 14; (with_reducible refine Calls.mono HSN.out ?_); rintro e W2 ⟨l2, rfl, hI2, hn2⟩; obtain ⟨c0, its0⟩ := HGET.out _ hI2.bel; obtain ⟨rm, hrm, HRM, ⟨at2, HA2, hat2, HAT⟩, HRO⟩ := HST.out _ _ hI2 hn2; have HI2 := Lib.hid hI2; clear hI2)
          | (go_at_call 15; (with_reducible refine Calls.mono (HCU.out _ its0) ?_); rintro e w3 ⟨a3, cap3, rfl, hM3, hc3, hm3, rfl⟩; have hv1 : 0 ≤ min (NM : Int) (rm : Int) := (by omega); have hv2 : min (NM : Int) (rm : Int) ≤ (cap3 : Int) := (by omega))
          | (go_at_call 16; (with_reducible refine Calls.mono HRO.out ?_); rintro e w4 ⟨rfl, rfl⟩)
          | (go_at_call 17; (with_reducible refine Calls.mono HAT.out ?_); rintro e w4 ⟨rfl, rfl⟩))
        have hMM := its_take HNM.out hM3 (min (NM : Int) (rm : Int)).toNat (by omega)
        refine Calls.mono (run_write HI2.out.run HI2.out.bel.size 1 _ (M.take (min (NM : Int) (rm : Int)).toNat) false false hMM (fun x hx => HMok.out x (List.mem_of_mem_take hx)) hn2 (by omega)) ?_
        rintro e w5 hP
        cases hP with
        | arg he hn hR hB =>
          subst he
          have HN5 := Lib.hid (HI2.out.up hR hB)
          clear hn hR hB hMM hM3 its0 c0
          go_wp2
          go_roundw
          case rel => exact ⟨n, k + 1, G, d, l2, rfl, by go_num, rfl, by omega, by omega, HN5.out⟩
          case measure => simp [intOf]; omega
        | off he hc G' d' hD hlo hlen hops hx hO =>
          subst he
          obtain ⟨m, hF⟩ := fell_off (W0 := W0) (n := n) (d := d) hD hlen (by omega) kp t (by omega) (hx kp t)
          have hOL : Lies w5 u14 n 1 (ats (fdsK d.B l1 n)) := Lies.own (own_only HI2.out.own hO (fun g hg h => h.elim (HI2.out.far g hg).1 (HI2.out.far g hg).2))
          have HBL : Hid (Below W0.heap.size W0 w5) := HI2.out.bel.trans (hO.below HI2.out.bel.size (fun i hi => hi.elim (HI2.out.run.sys.lo i) (fun e => by subst e; exact HI2.out.run.sys.qlo)))
          obtain ⟨fs, hfs⟩ : ∃ fs, fdsK d.B l1 n = fs := ⟨_, rfl⟩
          rw [hfs] at hF hOL
          have HF := Lib.hid hF
          have HOL := Lib.hid hOL
          clear hD hlo hlen hops hx hO hF hOL hfs hMM hM3 its0 c0 hc3 hm3
          obtain ⟨f0, f1⟩ := HFR.out w5 HBL.out
          have HCR := Lib.hid (fallen_crash HF.out hkb)
          have hm1 : ¬ (m : Int) < (n : Int) := by have := HF.out.m1; omega
          have hm2 : ¬ ((m : Int) > (n : Int) + 1) := by have := HF.out.m2; omega
          have hm3 : ¬ ((n : Int) + 1 < (m : Int)) := by have := HF.out.m2; omega
          go_wp2_with (first
            | (go_at_call 20; (with_reducible refine Calls.mono HCR.out ?_); rintro e wx ⟨r, rfl, ⟨FX, hDX⟩, hBX⟩; have HSCN := Lib.hid (fallen_scan HF.out hDX))
            | (go_at_call 19; (with_reducible refine Calls.mono HSCN.out ?_); rintro e wy ⟨ay, capy, lqy, rfl, hFY, hcy1, hcy2, hBY⟩))
          have HBY : Hid (Below W0.heap.size W0 wy) := below_th (below_th HBL.out hBX) hBY
          have HOY : Hid (Lies wy u14 n 1 (ats fs)) := (HOL.out.below hBX).below hBY
          have HFY := Lib.hid hFY
          clear hFY hBX hBY hDX HSCN HCR f0 f1
          go_loopw [23] (fun j wz => ∃ jj : Nat, jj ≤ n ∧ j = .int .i64 (jj : Int) ∧ Hid (Below wy.heap.size wy wz)) (fun j _ => n - (intOf j).toNat)
          case atStart => exact ⟨0, Nat.zero_le _, rfl, Below.refl _ _⟩
          case round =>
            obtain ⟨jj, hj, rfl, hBz⟩ := hrel
            by_cases hjn : jj < n
            · have hji : (jj : Int) < (n : Int) := by omega
              obtain ⟨b1, o1, b2, o2, c2, x, rfl, rfl, k0, k1, k2⟩ := fallen_at HF.out (HFY.out.below hBz.out) (HOY.out.below hBz.out) hjn
              have k1 : wr.cell? ⟨b1, o1 + jj * 8 + 1, none⟩ = some (.int .u64 ((jj : Int) + 1)) := by rw [k1]; congr 2; omega
              have e1 : ((x : Int) != (x : Int)) = false := by simp
              have e2 : (((jj : Int) + 1) != ((jj : Int) + 1)) = false := by simp
              have v1 : IntKind.i64.wrap ((jj : Int) + 1) = (jj : Int) + 1 := by rw [IntKind.wrap_i64]; omega
              have v2 : IntKind.u64.wrap ((jj : Int) + 1) = (jj : Int) + 1 := by rw [IntKind.wrap_u64]; omega
              have hjm : (jj : Int) < (m : Int) := by omega
              have hjm2 : jj < m := by omega
              have ho : o1 + jj * 8 + 0 = o1 + jj * 8 := rfl
              go_wp2
              go_quiet (fail)
              go_wp2
              go_roundw
              case rel => exact ⟨jj + 1, by omega, by go_num, below_drewN hBz.out _⟩
              case measure => simp [intOf]; omega
            · have hji : ¬ (jj : Int) < (n : Int) := by omega
              go_wp2
              go_ret
              exact ⟨rfl, hB0.trans ((below_th HBY.out hBz.out).mono hB0.size)⟩
        | done b he hk hb hbn G' d' hR hG hf hd hc hcut hO =>
          subst he
          have hown := own_only HI2.out.own hO (fun g hg h => h.elim (HI2.out.far g hg).1 (HI2.out.far g hg).2)
          have hsz5 : W0.heap.size ≤ w5.heap.size := Nat.le_trans HI2.out.bel.size hO.size
          have HR := Lib.hid hR
          have HGG := Lib.hid hG
          have HFF := Lib.hid hf
          have HOO := Lib.hid hO
          have HA2' := HA2.out
          clear hk hb hbn hR hG hf hd hc hcut hO hMM hM3 its0 c0
          go_wp2_with (at_builtin; go_must (refine wpList_append_own_at _ rfl _ _ 36 rfl W0.heap.size 3 i0 (.int .i64 0) 1 8 Try.underlying36 hi hz0 hz1 hz2 rfl (by decide) _ n _ rfl (hown.alloc _) ⟨w5.heap.size, 0, none⟩ 1 1 [.int .i64 (at2 : Int)] rfl rfl (cell_one_new _ _ _) (by simp [Value.oneCell']) (by unfold maxLen; omega) (by omega) (by simp; omega) ?_; intro v' w6 hown' hgrow _ hat))
          have HN6 := Lib.hid (LsI.more HI2.out HR.out HGG.out HFF.out HOO.out (v' := v') (W6 := w6) (by rw [show (fdW l2 1 (M.take (min (NM : Int) (rm : Int)).toNat) false false).at_ = at2 from HA2']; exact hown') hgrow hat)
          clear hown hown' hgrow hat HA2'
          go_wp2
          go_roundw
          case rel => exact ⟨n + 1, k + 1, _, _, _, rfl, by go_num, by go_num, by omega, by omega, HN6.out⟩
          case measure => simp [intOf]; omega
      · have hz : ((l.next : Int) == 0) = false := by simp; omega
        have hn2 := h0
        obtain ⟨l2, hl2⟩ : ∃ l2, l = l2 := ⟨_, rfl⟩
        rw [hl2] at hI hn2
        obtain ⟨W2, hW2⟩ : ∃ W2, wr = W2 := ⟨_, rfl⟩
        rw [hW2] at hI
        obtain ⟨c0, its0⟩ := HGET.out _ hI.out.bel
        obtain ⟨rm, hrm, HRM, ⟨at2, HA2, hat2, HAT⟩, HRO⟩ := HST.out _ _ hI.out hn2
        have HI2 := hI
        subst hl2 hW2
        clear h0
        go_wp2_with (first
          | (go_at_call 13; (with_reducible refine Calls.mono HNX.out ?_); rintro e wn ⟨rfl, rfl⟩)
          | (go_at_call 15; (with_reducible refine Calls.mono (HCU.out _ its0) ?_); rintro e w3 ⟨a3, cap3, rfl, hM3, hc3, hm3, rfl⟩; have hv1 : 0 ≤ min (NM : Int) (rm : Int) := (by omega); have hv2 : min (NM : Int) (rm : Int) ≤ (cap3 : Int) := (by omega))
          | (go_at_call 16; (with_reducible refine Calls.mono HRO.out ?_); rintro e w4 ⟨rfl, rfl⟩)
          | (go_at_call 17; (with_reducible refine Calls.mono HAT.out ?_); rintro e w4 ⟨rfl, rfl⟩))
        have hMM := its_take HNM.out hM3 (min (NM : Int) (rm : Int)).toNat (by omega)
        refine Calls.mono (run_write HI2.out.run HI2.out.bel.size 1 _ (M.take (min (NM : Int) (rm : Int)).toNat) false false hMM (fun x hx => HMok.out x (List.mem_of_mem_take hx)) hn2 (by omega)) ?_
        rintro e w5 hP
        cases hP with
        | arg he hn hR hB =>
          subst he
          have HN5 := Lib.hid (HI2.out.up hR hB)
          clear hn hR hB hMM hM3 its0 c0
          go_wp2
          go_roundw
          case rel => exact ⟨n, k + 1, G, d, l, rfl, by go_num, rfl, by omega, by omega, HN5.out⟩
          case measure => simp [intOf]; omega
        | off he hc G' d' hD hlo hlen hops hx hO =>
          subst he
          obtain ⟨m, hF⟩ := fell_off (W0 := W0) (n := n) (d := d) hD hlen (by omega) kp t (by omega) (hx kp t)
          have hOL : Lies w5 u14 n 1 (ats (fdsK d.B l1 n)) := Lies.own (own_only HI2.out.own hO (fun g hg h => h.elim (HI2.out.far g hg).1 (HI2.out.far g hg).2))
          have HBL : Hid (Below W0.heap.size W0 w5) := HI2.out.bel.trans (hO.below HI2.out.bel.size (fun i hi => hi.elim (HI2.out.run.sys.lo i) (fun e => by subst e; exact HI2.out.run.sys.qlo)))
          obtain ⟨fs, hfs⟩ : ∃ fs, fdsK d.B l1 n = fs := ⟨_, rfl⟩
          rw [hfs] at hF hOL
          have HF := Lib.hid hF
          have HOL := Lib.hid hOL
          clear hD hlo hlen hops hx hO hF hOL hfs hMM hM3 its0 c0 hc3 hm3
          obtain ⟨f0, f1⟩ := HFR.out w5 HBL.out
          have HCR := Lib.hid (fallen_crash HF.out hkb)
          have hm1 : ¬ (m : Int) < (n : Int) := by have := HF.out.m1; omega
          have hm2 : ¬ ((m : Int) > (n : Int) + 1) := by have := HF.out.m2; omega
          have hm3 : ¬ ((n : Int) + 1 < (m : Int)) := by have := HF.out.m2; omega
          go_wp2_with (first
            | (go_at_call 20; (with_reducible refine Calls.mono HCR.out ?_); rintro e wx ⟨r, rfl, ⟨FX, hDX⟩, hBX⟩; have HSCN := Lib.hid (fallen_scan HF.out hDX))
            | (go_at_call 19; (with_reducible refine Calls.mono HSCN.out ?_); rintro e wy ⟨ay, capy, lqy, rfl, hFY, hcy1, hcy2, hBY⟩))
          have HBY : Hid (Below W0.heap.size W0 wy) := below_th (below_th HBL.out hBX) hBY
          have HOY : Hid (Lies wy u14 n 1 (ats fs)) := (HOL.out.below hBX).below hBY
          have HFY := Lib.hid hFY
          clear hFY hBX hBY hDX HSCN HCR f0 f1
          go_loopw [23] (fun j wz => ∃ jj : Nat, jj ≤ n ∧ j = .int .i64 (jj : Int) ∧ Hid (Below wy.heap.size wy wz)) (fun j _ => n - (intOf j).toNat)
          case atStart => exact ⟨0, Nat.zero_le _, rfl, Below.refl _ _⟩
          case round =>
            obtain ⟨jj, hj, rfl, hBz⟩ := hrel
            by_cases hjn : jj < n
            · have hji : (jj : Int) < (n : Int) := by omega
              obtain ⟨b1, o1, b2, o2, c2, x, rfl, rfl, k0, k1, k2⟩ := fallen_at HF.out (HFY.out.below hBz.out) (HOY.out.below hBz.out) hjn
              have k1 : wr.cell? ⟨b1, o1 + jj * 8 + 1, none⟩ = some (.int .u64 ((jj : Int) + 1)) := by rw [k1]; congr 2; omega
              have e1 : ((x : Int) != (x : Int)) = false := by simp
              have e2 : (((jj : Int) + 1) != ((jj : Int) + 1)) = false := by simp
              have v1 : IntKind.i64.wrap ((jj : Int) + 1) = (jj : Int) + 1 := by rw [IntKind.wrap_i64]; omega
              have v2 : IntKind.u64.wrap ((jj : Int) + 1) = (jj : Int) + 1 := by rw [IntKind.wrap_u64]; omega
              have hjm : (jj : Int) < (m : Int) := by omega
              have hjm2 : jj < m := by omega
              have ho : o1 + jj * 8 + 0 = o1 + jj * 8 := rfl
              go_wp2
              go_quiet (fail)
              go_wp2
              go_roundw
              case rel => exact ⟨jj + 1, by omega, by go_num, below_drewN hBz.out _⟩
              case measure => simp [intOf]; omega
            · have hji : ¬ (jj : Int) < (n : Int) := by omega
              go_wp2
              go_ret
              exact ⟨rfl, hB0.trans ((below_th HBY.out hBz.out).mono hB0.size)⟩
        | done b he hk hb hbn G' d' hR hG hf hd hc hcut hO =>
          subst he
          have hown := own_only HI2.out.own hO (fun g hg h => h.elim (HI2.out.far g hg).1 (HI2.out.far g hg).2)
          have hsz5 : W0.heap.size ≤ w5.heap.size := Nat.le_trans HI2.out.bel.size hO.size
          have HR := Lib.hid hR
          have HGG := Lib.hid hG
          have HFF := Lib.hid hf
          have HOO := Lib.hid hO
          have HA2' := HA2.out
          clear hk hb hbn hR hG hf hd hc hcut hO hMM hM3 its0 c0
          go_wp2_with (at_builtin; go_must (refine wpList_append_own_at _ rfl _ _ 36 rfl W0.heap.size 3 i0 (.int .i64 0) 1 8 Try.underlying36 hi hz0 hz1 hz2 rfl (by decide) _ n _ rfl (hown.alloc _) ⟨w5.heap.size, 0, none⟩ 1 1 [.int .i64 (at2 : Int)] rfl rfl (cell_one_new _ _ _) (by simp [Value.oneCell']) (by unfold maxLen; omega) (by omega) (by simp; omega) ?_; intro v' w6 hown' hgrow _ hat))
          have HN6 := Lib.hid (LsI.more HI2.out HR.out HGG.out HFF.out HOO.out (v' := v') (W6 := w6) (by rw [show (fdW l 1 (M.take (min (NM : Int) (rm : Int)).toNat) false false).at_ = at2 from HA2']; exact hown') hgrow hat)
          clear hown hown' hgrow hat HA2'
          go_wp2
          go_roundw
          case rel => exact ⟨n + 1, k + 1, _, _, _, rfl, by go_num, by go_num, by omega, by omega, HN6.out⟩
          case measure => simp [intOf]; omega
    · have hn12 : n ≤ 12 := by have := hI.out.run.le; omega
      have hF := hI.out.fallen (by omega) kp t
      have hOL : Lies wr u14 n 1 (ats (fdsK d.B l1 n)) := Lies.own hI.out.own
      have HBL : Hid (Below W0.heap.size W0 wr) := hI.out.bel
      obtain ⟨m, hm0⟩ : ∃ m, n = m := ⟨_, rfl⟩
      have hF' : Fallen W0 p n 0 kp t d m wr (fdsK d.B l1 n) := by rw [← hm0]; exact hF
      clear hF hm0
      obtain ⟨fs, hfs⟩ : ∃ fs, fdsK d.B l1 n = fs := ⟨_, rfl⟩
      rw [hfs] at hF' hOL
      have HF := Lib.hid hF'
      have HOL := Lib.hid hOL
      clear hF' hOL hfs hI
      have hm4 : ¬ (n : Int) < (m : Int) := by have := HF.out.m2; omega
      by_cases hk3 : k < N
      · have hk4 : ¬ k < 12 := fun h => hlt ⟨hk3, h⟩
        have hk5 : (k : Int) < (N : Int) := by omega
        have hk6 : ¬ (k : Int) < 12 := by omega
        clear hlt
        obtain ⟨f0, f1⟩ := HFR.out wr HBL.out
        have HCR := Lib.hid (fallen_crash HF.out hkb)
        have hm1 : ¬ (m : Int) < (n : Int) := by have := HF.out.m1; omega
        have hm2 : ¬ ((m : Int) > (n : Int) + 0) := by have := HF.out.m2; omega
        have hm3 : ¬ ((n : Int) + 0 < (m : Int)) := by have := HF.out.m2; omega
        go_wp2_with (first
          | (go_at_call 20; (with_reducible refine Calls.mono HCR.out ?_); rintro e wx ⟨r, rfl, ⟨FX, hDX⟩, hBX⟩; have HSCN := Lib.hid (fallen_scan HF.out hDX))
          | (go_at_call 19; (with_reducible refine Calls.mono HSCN.out ?_); rintro e wy ⟨ay, capy, lqy, rfl, hFY, hcy1, hcy2, hBY⟩))
        have HBY : Hid (Below W0.heap.size W0 wy) := below_th (below_th HBL.out hBX) hBY
        have HOY : Hid (Lies wy u14 n 1 (ats fs)) := (HOL.out.below hBX).below hBY
        have HFY := Lib.hid hFY
        clear hFY hBX hBY hDX HSCN HCR f0 f1
        go_loopw [23] (fun j wz => ∃ jj : Nat, jj ≤ n ∧ j = .int .i64 (jj : Int) ∧ Hid (Below wy.heap.size wy wz)) (fun j _ => n - (intOf j).toNat)
        case atStart => exact ⟨0, Nat.zero_le _, rfl, Below.refl _ _⟩
        case round =>
          obtain ⟨jj, hj, rfl, hBz⟩ := hrel
          by_cases hjn : jj < n
          · have hji : (jj : Int) < (n : Int) := by omega
            obtain ⟨b1, o1, b2, o2, c2, x, rfl, rfl, k0, k1, k2⟩ := fallen_at HF.out (HFY.out.below hBz.out) (HOY.out.below hBz.out) hjn
            have k1 : wr.cell? ⟨b1, o1 + jj * 8 + 1, none⟩ = some (.int .u64 ((jj : Int) + 1)) := by rw [k1]; congr 2; omega
            have e1 : ((x : Int) != (x : Int)) = false := by simp
            have e2 : (((jj : Int) + 1) != ((jj : Int) + 1)) = false := by simp
            have v1 : IntKind.i64.wrap ((jj : Int) + 1) = (jj : Int) + 1 := by rw [IntKind.wrap_i64]; omega
            have v2 : IntKind.u64.wrap ((jj : Int) + 1) = (jj : Int) + 1 := by rw [IntKind.wrap_u64]; omega
            have hjm : (jj : Int) < (m : Int) := by omega
            have hjm2 : jj < m := by omega
            have ho : o1 + jj * 8 + 0 = o1 + jj * 8 := rfl
            go_wp2
            go_quiet (fail)
            go_wp2
            go_roundw
            case rel => exact ⟨jj + 1, by omega, by go_num, below_drewN hBz.out _⟩
            case measure => simp [intOf]; omega
          · have hji : ¬ (jj : Int) < (n : Int) := by omega
            go_wp2
            go_ret
            exact ⟨rfl, hB0.trans ((below_th HBY.out hBz.out).mono hB0.size)⟩
      · have hk5 : ¬ (k : Int) < (N : Int) := by omega
        clear hlt
        obtain ⟨f0, f1⟩ := HFR.out wr HBL.out
        have HCR := Lib.hid (fallen_crash HF.out hkb)
        have hm1 : ¬ (m : Int) < (n : Int) := by have := HF.out.m1; omega
        have hm2 : ¬ ((m : Int) > (n : Int) + 0) := by have := HF.out.m2; omega
        have hm3 : ¬ ((n : Int) + 0 < (m : Int)) := by have := HF.out.m2; omega
        go_wp2_with (first
          | (go_at_call 20; (with_reducible refine Calls.mono HCR.out ?_); rintro e wx ⟨r, rfl, ⟨FX, hDX⟩, hBX⟩; have HSCN := Lib.hid (fallen_scan HF.out hDX))
          | (go_at_call 19; (with_reducible refine Calls.mono HSCN.out ?_); rintro e wy ⟨ay, capy, lqy, rfl, hFY, hcy1, hcy2, hBY⟩))
        have HBY : Hid (Below W0.heap.size W0 wy) := below_th (below_th HBL.out hBX) hBY
        have HOY : Hid (Lies wy u14 n 1 (ats fs)) := (HOL.out.below hBX).below hBY
        have HFY := Lib.hid hFY
        clear hFY hBX hBY hDX HSCN HCR f0 f1
        go_loopw [23] (fun j wz => ∃ jj : Nat, jj ≤ n ∧ j = .int .i64 (jj : Int) ∧ Hid (Below wy.heap.size wy wz)) (fun j _ => n - (intOf j).toNat)
        case atStart => exact ⟨0, Nat.zero_le _, rfl, Below.refl _ _⟩
        case round =>
          obtain ⟨jj, hj, rfl, hBz⟩ := hrel
          by_cases hjn : jj < n
          · have hji : (jj : Int) < (n : Int) := by omega
            obtain ⟨b1, o1, b2, o2, c2, x, rfl, rfl, k0, k1, k2⟩ := fallen_at HF.out (HFY.out.below hBz.out) (HOY.out.below hBz.out) hjn
            have k1 : wr.cell? ⟨b1, o1 + jj * 8 + 1, none⟩ = some (.int .u64 ((jj : Int) + 1)) := by rw [k1]; congr 2; omega
            have e1 : ((x : Int) != (x : Int)) = false := by simp
            have e2 : (((jj : Int) + 1) != ((jj : Int) + 1)) = false := by simp
            have v1 : IntKind.i64.wrap ((jj : Int) + 1) = (jj : Int) + 1 := by rw [IntKind.wrap_i64]; omega
            have v2 : IntKind.u64.wrap ((jj : Int) + 1) = (jj : Int) + 1 := by rw [IntKind.wrap_u64]; omega
            have hjm : (jj : Int) < (m : Int) := by omega
            have hjm2 : jj < m := by omega
            have ho : o1 + jj * 8 + 0 = o1 + jj * 8 := rfl
            go_wp2
            go_quiet (fail)
            go_wp2
            go_roundw
            case rel => exact ⟨jj + 1, by omega, by go_num, below_drewN hBz.out _⟩
            case measure => simp [intOf]; omega
          · have hji : ¬ (jj : Int) < (n : Int) := by omega
            go_wp2
            go_ret
            exact ⟨rfl, hB0.trans ((below_th HBY.out hBz.out).mono hB0.size)⟩
end
end Go.Proofs.Ytghonccffmmjhaa.Log
