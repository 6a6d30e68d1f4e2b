/- What is logged stays: the walk. -/
import Derived.Test.YtghonccffmmjhaaPkTopLog
namespace Go.Proofs.Ytghonccffmmjhaa.Log
open Go.RowKit Go.Shelf
open Disk (D IsDisk)
open Record (wrapB below_al below_new)
attribute [local go_sem] Oper.semAt_some
set_option linter.unusedVariables false
theorem infoTxt : (Try.prog.info? 9).map (fun i => (i.zero, i.size, i.bytes)) = some (some (.string ByteArray.empty), 1, 16) := by kernel_rfl
section
set_option maxRecDepth 100000
set_option maxHeartbeats 8000000
theorem TopLogged_walk (v : Value) (LL : List (Value × List It)) (kp t : Int) (w : World) (hL : Recs w v LL) (wL : ∀ o ∈ LL, ∀ x ∈ o.2, ItOk x) (w2 : 0 ≤ kp ∧ kp ≤ 18446744073709551615) (wt : -9223372036854775808 ≤ t ∧ t ≤ 9223372036854775807) :
    Calls Try.prog 7 #[v, .agg #[.int .u64 kp, .int .i64 t]] w fun e w' => e = .returned (.bool true) ∧ Below w.heap.size w w' := by
  obtain ⟨i0, hi, hz0, hz1, hz2⟩ := info_parts infoI
  obtain ⟨s0, si, sz0, sz1, sz2⟩ := info_parts infoTxt
  obtain ⟨av, cap, rfl, hnc, hm⟩ := hL.parts
  obtain ⟨N, hN⟩ : ∃ N, LL.length = N := ⟨_, rfl⟩
  rw [hN] at hL hnc ⊢
  have HNn := Lib.hid hN
  have WL := Lib.hid wL
  obtain ⟨kp, rfl⟩ := Int.eq_ofNat_of_zero_le w2.1
  have hkb : kp < 18446744073709551616 := by have := w2.2; omega
  obtain ⟨W0, hW0⟩ : ∃ W0, w.alloc (.cells #[.int .u64 (kp : Int), .int .i64 t] 25) = W0 := ⟨_, rfl⟩
  have hB0 : Below w.heap.size w W0 := by rw [← hW0]; exact (Below.refl _ w).alloc (Nat.le_refl _) _
  have hs0 : W0.heap.size = w.heap.size + 1 := by rw [← hW0]; simp
  have hf0 : W0.heap[w.heap.size]? = some (.cells #[.int .u64 (kp : Int), .int .i64 t] 25 (0, 0)) := by rw [← hW0]; exact heap_alloc_new w _
  have HFR : Hid (∀ W : World, Below W0.heap.size W0 W → W.cell? ⟨w.heap.size, 0, none⟩ = some (.int .u64 (kp : Int)) ∧ W.cell? ⟨w.heap.size, 1, none⟩ = some (.int .i64 t)) := fun W hB => by
    have := (hB.block w.heap.size (by omega)).trans hf0
    constructor <;> (simp only [World.cell?, this]; rfl)
  have HL0 : Hid (Recs W0 (.slice av N cap) LL) := hL.below hB0
  obtain ⟨d0, hd0⟩ : ∃ d, D.of (List.replicate 256 (zeros 512)) = d := ⟨_, rfl⟩
  have hg0 : Good d0 ⟨16, 1, 2⟩ ⟨16, 1, 2⟩ 0 := by rw [← hd0]; exact good_new 256 _ (by decide) (lg_ok 256 (by decide) (by decide))
  have hlen : d0.B.length = 256 := by rw [← hd0]; exact List.length_replicate
  have hop : d0.ops = 0 := by rw [← hd0]; rfl
  have hcut : d0.cut < 0 := by rw [← hd0]; decide
  have HN : Hid (∀ W, Calls Try.prog 9 #[.int .i64 256] W (NewPost 0 256 W)) := fun W => new_disk 256 (by decide) W
  unfold NewPost at HN
  simp only [hd0] at HN
  clear hd0
  have HB : Hid (∀ W p G, IsDisk W p G d0 → (∀ k, G k → k < W.heap.size) → (∀ k, G k → W0.heap.size ≤ k) → Below W0.heap.size W0 W → Calls Try.prog 10 #[.pointer (some ⟨p, 0, none⟩), .int .i64 16, .int .u64 1, .int .i64 2] W fun e w' => ∃ q, e = .returned (.tuple #[.pointer (some ⟨q, 0, none⟩), .int .i64 0]) ∧ TpI W0 p q G d0 ⟨16, 1, 2⟩ 0 0 (.slice none 0 0) (.slice none 0 0) [] w') := fun W p G h1 h2 h3 h4 =>
    (sys_begin (nb := 256) ⟨16, 1, 2⟩ h1 hg0 (begin_ok _ (by omega)) h2 h3 h4.size).mono fun e w' ⟨q, he, hS, hB, _⟩ => ⟨q, he, ⟨hS, Nat.le_refl _, ⟨by decide, .inr ⟨by decide, by decide⟩⟩, hlen, by omega⟩, World.ownsRow_nil _ _ _ _, World.ownsRow_nil _ _ _ _, (fun g hg => by cases hg), (fun g hg => by cases hg), (fun x hx => by cases hx), by simp, hcut, below_th h4 hB⟩
  clear hL hN wL w2 hg0 hlen hop hnc hcut
  go_enter Try.func7, Try.ntmps7
  go_wp2_with (first
    | (go_at_call 27; (with_reducible refine Calls.mono (tabs_any _) ?_); rintro e wa ⟨rfl, hB1⟩)
    | (go_at_call 9; (with_reducible refine Calls.mono (HN.out _) ?_); rintro e wb ⟨p, G0, rfl, hD1, hG1, hG2, hB2⟩; have hs1 := hB1.size; have hA2 := below_th hB1 hB2; have hG3 : ∀ k, G0 k → W0.heap.size ≤ k := fun k hk => Nat.le_trans hs1 (hG1 k hk))
    | (go_at_call 10; (with_reducible refine Calls.mono (HB.out _ _ _ hD1 hG2 hG3 hA2) ?_); rintro e wc ⟨q, rfl, hI0⟩; have HI0 := Lib.hid hI0; clear hI0))
  clear hD1 hG1 hG2 hG3 hB1 hB2 hA2 hs1 HB HN
  go_loopw [10, 11, 12, 13, 14, 15, 16] (fun sa sw si _ _ _ _ wr => ∃ n k m G d l PC, si = .int .i64 (k : Nat) ∧ k ≤ N ∧ k ≤ 8 ∧ PC.length = m ∧ Hid (TpI W0 p q G d l n k sa sw PC wr)) (fun _ _ si _ _ _ _ _ => N - (intOf si).toNat)
  case atStart => exact ⟨0, 0, 0, G0, _, _, [], rfl, Nat.zero_le _, Nat.zero_le _, rfl, HI0.out⟩
  case round =>
    obtain ⟨n, k, m, G, d, l, PC, rfl, hk1, hk2, hPm, hI⟩ := hrel
    have hm15 : m ≤ k * 15 := by rw [← hPm]; exact hI.out.len
    by_cases hlt : k < N ∧ k < 8
    · obtain ⟨g1, g2⟩ := hlt
      have g1i : (k : Int) < (N : Int) := by omega
      have g2i : (k : Int) < 8 := by omega
      obtain ⟨b0, o0, ⟨rv, rl⟩, rfl, hr0, hcell, hits, hmem⟩ := Recs.get HNn.out HL0.out g1
      dsimp only at hcell hits
      obtain ⟨ar, capr, rfl, hnr, hmr⟩ := hits.parts
      obtain ⟨nr, hnr0⟩ : ∃ nr, rl.length = nr := ⟨_, rfl⟩
      rw [hnr0] at hcell hits hnr hmem hr0
      have hu1 : 0 ≤ min (nr : Int) 20 := by omega
      have hu2 : min (nr : Int) 20 ≤ (capr : Int) := by omega
      obtain ⟨NM, hNM⟩ : ∃ NM, (min (nr : Int) 20).toNat = NM := ⟨_, rfl⟩
      have hNM2 : min (nr : Int) 20 = (NM : Int) := by omega
      have hNM3 : NM ≤ nr := by omega
      obtain ⟨M, hM⟩ : ∃ M, rl.take NM = M := ⟨_, rfl⟩
      have HNM : Hid (M.length = NM) := by unfold Hid; rw [← hM, List.length_take]; omega
      have HGET : Hid (∀ W, Below W0.heap.size W0 W → W.cell? ⟨b0, o0 + k, none⟩ = some (.slice ar nr capr) ∧ Its W (.slice ar NM capr) M) := fun W hB => ⟨cell_only hcell (Only.of_below hB (S := fun _ => False)) (fun h => h), by rw [← hM]; exact its_take hnr0 (hits.below hB) NM hNM3⟩
      have HMok : Hid (∀ x ∈ M, ItOk x) := fun x hx => WL.out _ hmem x (by rw [← hM] at hx; exact List.mem_of_mem_take hx)
      have HEN := Lib.hid hNM
      clear hcell hits hmem hr0 hM hNM
      have v2 : IntKind.i64.wrap (3 + (k : Int)) = 3 + (k : Int) := by rw [IntKind.wrap_i64]; omega
      have HNX := Lib.hid (next_l hI.out.run.sys.log)
      have HST : Hid (∀ W2 l2, TpI W0 p q G d l2 n k u10 u11 PC W2 → ∃ rm : Nat, rm ≤ 15 ∧ Hid (Calls Try.prog 16 #[.pointer (some ⟨q, 0, none⟩)] W2 fun e w' => e = .returned (.int .i64 (rm : Int)) ∧ W2 = w')) := fun W2 l2 h => by
        have hlo : l2.at_ < 256 := by have := h.run.sys.good.ok.hi; rw [h.run.len] at this; exact this
        exact ⟨15 - l2.at_ % 16, by omega, room_l h.run.sys.log (by omega)⟩
      by_cases h0 : l.next = 0
      · have hz : ((l.next : Int) == 0) = true := by rw [h0]; rfl
        have HSN : Hid (Calls Try.prog 14 #[.pointer (some ⟨q, 0, none⟩), .int .i64 (3 + (k : Int))] wr fun e w' => ∃ l2, e = .returned (.int .i64 0) ∧ TpI W0 p q G d l2 n k u10 u11 PC w' ∧ l2.next ≠ 0) :=
          (run_next hI.out.run h0 (by omega) (3 + (k : Int)) (by omega)).mono fun e w' ⟨he, hR, hO⟩ => ⟨_, he, hI.out.next hR hO, by show k + 2 + 1 ≠ 0; omega⟩
        clear h0
        go_wp2_with (first
          | (go_at_call 13; (with_reducible refine Calls.mono HNX.out ?_); rintro e wn ⟨rfl, rfl⟩)
          | (go_at_call 14; (with_reducible refine Calls.mono HSN.out ?_); rintro e W2 ⟨l2, rfl, hI2, hn2⟩; obtain ⟨c0, its0⟩ := HGET.out _ hI2.bel; have HI2 := Lib.hid hI2; clear hI2))
        go_quiet (fail)
        have HI3 := Lib.hid (HI2.out.below (below_drewN (Below.refl _ _) nq))
        obtain ⟨_, its0⟩ := HGET.out _ HI3.out.bel
        obtain ⟨rm, hrm, HRM⟩ := HST.out _ _ HI3.out
        have hv1 : 0 ≤ min (NM : Int) (rm : Int) := by omega
        have hv2 : min (NM : Int) (rm : Int) ≤ (capr : Int) := by have := HNM.out; omega
        obtain ⟨K, hK⟩ : ∃ K, min NM rm = K := ⟨_, rfl⟩
        have hK2 : min (NM : Int) (rm : Int) = (K : Int) := by omega
        have hK15 : K ≤ 15 := by omega
        have hMM := its_take HNM.out its0 K (by omega)
        obtain ⟨L2, hL2⟩ : ∃ L2, M.take K = L2 := ⟨_, rfl⟩
        have HLL : Hid (L2.length = K) := by unfold Hid; rw [← hL2, List.length_take, HNM.out]; omega
        have HLok : Hid (∀ x ∈ L2, ItOk x) := fun x hx => HMok.out x (by rw [← hL2] at hx; exact List.mem_of_mem_take hx)
        have HITS : Hid (∀ W, Below W0.heap.size W0 W → Its W (.slice ar K capr) L2) := fun W hB => by rw [← hL2]; exact its_take HNM.out (HGET.out _ hB).2 K (by omega)
        rw [hL2] at hMM
        clear hL2 hK
        go_wp2_with (first
          | (go_at_call 16; (with_reducible refine Calls.mono HRM.out ?_); rintro e w4 ⟨rfl, rfl⟩))
        refine Calls.mono (run_write HI3.out.run HI3.out.bel.size 1 _ L2 false false hMM HLok.out hn2 (by omega)) ?_
        rintro e w5 hP
        cases hP with
        | arg he hn hR hB =>
          subst he
          have HN5 := Lib.hid (HI3.out.up hR hB)
          clear hn hR hB hMM its0
          go_wp2
          go_roundw
          case rel => exact ⟨n, k + 1, m, G, d, _, PC, by go_num, by omega, by omega, hPm, HN5.out⟩
          case measure => simp [intOf]; omega
        | off he hc G' d' hD hlo hlen hops hx hO => have := HI3.out.cut; omega
        | done b he hk hb hbn G' d' hR hG hf hd hc hcut hO =>
          have hsg := (HI3.out.run.near.2.resolve_left hn2).1
          have HKP := Lib.hid (HI3.out.kept.more hc hk hsg)
          have HDC : Hid (d'.cut < 0) := by unfold Hid; rw [hcut]; exact HI3.out.cut
          have hIN := HI3.out.wrote hR hG hO hb hbn
          rw [hPm] at hIN
          rw [HLL.out] at he
          subst he
          obtain ⟨NP, hNP⟩ : ∃ NP, newP l2 L2 = NP := ⟨_, rfl⟩
          rw [hNP] at HKP
          have HNP : Hid (NP.length = K) := by unfold Hid; rw [← hNP, newP_length]; exact HLL.out
          obtain ⟨PL, hPL⟩ : ∃ PL, places l2 L2.length = PL := ⟨_, rfl⟩
          rw [hPL] at hIN
          have HXX : Hid (∀ j, j < K → ∃ xa xc, NP[j]? = some (xa, xc) ∧ PL[j]? = some (.int .i64 (xa : Int)) ∧ (itm L2 j).c = xc) := fun j hj => by
            obtain ⟨e1, e2⟩ := newP_get (l := l2) (L := L2) (j := j) (by rw [HLL.out]; exact hj)
            rw [hNP] at e1
            rw [hPL] at e2
            exact ⟨_, _, e1, e2, rfl⟩
          obtain ⟨l', hl'⟩ : ∃ l', behind l2 L2.length l2.next = l' := ⟨_, rfl⟩
          rw [hl'] at hIN HKP
          have HIN0 : Hid (InI W0 p q b G' d' l' (n + 1) (k + 1) u10 u11 (m + 0) (m + 0) ((PC ++ NP.take 0).map vi) ((PC ++ NP.take 0).map vs) PL w5) := by
            unfold Hid
            rw [List.take_zero, List.append_nil]
            exact hIN
          clear hk hb hbn hR hG hf hd hc hcut hO hMM its0 hsg hIN hNP hPL hl'
          go_wp2
          go_loopw [10, 11, 16] (fun sa sw sj wr => ∃ j : Nat, j ≤ K ∧ sj = .int .i64 (j : Int) ∧ Hid (InI W0 p q b G' d' l' (n + 1) (k + 1) sa sw (m + j) (m + j) ((PC ++ NP.take j).map vi) ((PC ++ NP.take j).map vs) PL wr)) (fun _ _ sj _ => K - (intOf sj).toNat)
          case atStart => exact ⟨0, Nat.zero_le _, rfl, HIN0.out⟩
          case round =>
            obtain ⟨j, hj, rfl, HJ⟩ := hrel
            by_cases hjk : j < K
            · have hji : (j : Int) < (K : Int) := by omega
              obtain ⟨xa, xc, hx1, hx2, hx3⟩ := HXX.out j hjk
              have k0 : wr.cell? ⟨b, j, none⟩ = some (.int .i64 (xa : Int)) := by rw [HJ.out.row.at_ j]; exact hx2
              have HXA := Lib.hid (take_more (PC := PC) hx1 vi)
              have HXS := Lib.hid (take_more (PC := PC) hx1 vs)
              have HX3 := Lib.hid hx3
              clear hx1 hx2 hx3
              have hsz5 : W0.heap.size ≤ wr.heap.size := HJ.out.bel.size
              have hown1 := HJ.out.a
              go_wp2_with (first
                | (at_builtin; (refine wpList_append_own_at _ rfl _ _ 36 rfl W0.heap.size 3 i0 (.int .i64 0) 1 8 Try.underlying36 hi hz0 hz1 hz2 rfl (by decide) _ (m + j) _ rfl (hown1.alloc _) ⟨wr.heap.size, 0, none⟩ 1 1 [.int .i64 (xa : Int)] rfl rfl (cell_one_new _ _ _) (by simp [Value.oneCell']) (by unfold maxLen; omega) (by omega) (by simp; omega) ?_; intro v6 w6 hown' hgrow _ hat; have HJ6 := Lib.hid (HJ.out.app_a hown' hgrow hat); have hown2 := HJ6.out.s; have hsz6 : W0.heap.size ≤ w6.heap.size := HJ6.out.bel.size; obtain ⟨b3, o3, cap3, e3, _, _, _, _, k3⟩ := (HITS.out _ HJ6.out.bel).get HLL.out hjk; cases e3; rw [HX3.out] at k3; clear hown' hgrow hat hown1 k0))
                | (at_builtin; (refine wpList_append_own_at _ rfl _ _ 50 rfl W0.heap.size 9 s0 (.string ByteArray.empty) 1 16 Try.underlying50 si sz0 sz1 sz2 rfl (by decide) _ (m + j) _ rfl (hown2.alloc _) ⟨w6.heap.size, 0, none⟩ 1 1 [.string xc] rfl rfl (cell_one_new _ _ _) (by simp [Value.oneCell']) (by unfold maxLen; omega) (by omega) (by simp; omega) ?_; intro v7 w7 hown' hgrow _ hat; have HJ7 := Lib.hid (HJ6.out.app_s hown' hgrow hat); clear hown' hgrow hat hown2)))
              go_roundw
              case rel => exact ⟨j + 1, by omega, by go_num, by unfold Hid; rw [HXA.out, HXS.out]; exact HJ7.out⟩
              case measure => simp [intOf]; omega
            · have hji : ¬ (j : Int) < (K : Int) := by omega
              obtain rfl : j = K := by omega
              have HTP : Hid (TpI W0 p q G' d' l' (n + 1) (k + 1) u10 u11 (PC ++ NP) wr) := InI.done (by rw [hPm]; exact HJ.out) HNP.out HKP.out (by rw [List.length_append, hPm, HNP.out]; omega) HDC.out
              have hPm2 : (PC ++ NP).length = m + j := by rw [List.length_append, hPm, HNP.out]
              go_wp2
              go_roundw
              case rel => exact ⟨n + 1, k + 1, m + j, G', d', l', PC ++ NP, by go_num, by omega, by omega, hPm2, HTP.out⟩
              case measure => simp [intOf]; omega
      · have hz : ((l.next : Int) == 0) = false := by simp; omega
        have hn2 := h0
        obtain ⟨c0, its0⟩ := HGET.out _ hI.out.bel
        have HI2 := hI
        clear h0
        go_wp2_with (first
          | (go_at_call 13; (with_reducible refine Calls.mono HNX.out ?_); rintro e wn ⟨rfl, rfl⟩))
        go_quiet (fail)
        have HI3 := Lib.hid (HI2.out.below (below_drewN (Below.refl _ _) nq))
        obtain ⟨_, its0⟩ := HGET.out _ HI3.out.bel
        obtain ⟨rm, hrm, HRM⟩ := HST.out _ _ HI3.out
        have hv1 : 0 ≤ min (NM : Int) (rm : Int) := by omega
        have hv2 : min (NM : Int) (rm : Int) ≤ (capr : Int) := by have := HNM.out; omega
        obtain ⟨K, hK⟩ : ∃ K, min NM rm = K := ⟨_, rfl⟩
        have hK2 : min (NM : Int) (rm : Int) = (K : Int) := by omega
        have hK15 : K ≤ 15 := by omega
        have hMM := its_take HNM.out its0 K (by omega)
        obtain ⟨L2, hL2⟩ : ∃ L2, M.take K = L2 := ⟨_, rfl⟩
        have HLL : Hid (L2.length = K) := by unfold Hid; rw [← hL2, List.length_take, HNM.out]; omega
        have HLok : Hid (∀ x ∈ L2, ItOk x) := fun x hx => HMok.out x (by rw [← hL2] at hx; exact List.mem_of_mem_take hx)
        have HITS : Hid (∀ W, Below W0.heap.size W0 W → Its W (.slice ar K capr) L2) := fun W hB => by rw [← hL2]; exact its_take HNM.out (HGET.out _ hB).2 K (by omega)
        rw [hL2] at hMM
        clear hL2 hK
        go_wp2_with (first
          | (go_at_call 16; (with_reducible refine Calls.mono HRM.out ?_); rintro e w4 ⟨rfl, rfl⟩))
        refine Calls.mono (run_write HI3.out.run HI3.out.bel.size 1 _ L2 false false hMM HLok.out hn2 (by omega)) ?_
        rintro e w5 hP
        cases hP with
        | arg he hn hR hB =>
          subst he
          have HN5 := Lib.hid (HI3.out.up hR hB)
          clear hn hR hB hMM its0
          go_wp2
          go_roundw
          case rel => exact ⟨n, k + 1, m, G, d, _, PC, by go_num, by omega, by omega, hPm, HN5.out⟩
          case measure => simp [intOf]; omega
        | off he hc G' d' hD hlo hlen hops hx hO => have := HI3.out.cut; omega
        | done b he hk hb hbn G' d' hR hG hf hd hc hcut hO =>
          have hsg := (HI3.out.run.near.2.resolve_left hn2).1
          have HKP := Lib.hid (HI3.out.kept.more hc hk hsg)
          have HDC : Hid (d'.cut < 0) := by unfold Hid; rw [hcut]; exact HI3.out.cut
          have hIN := HI3.out.wrote hR hG hO hb hbn
          rw [hPm] at hIN
          rw [HLL.out] at he
          subst he
          obtain ⟨NP, hNP⟩ : ∃ NP, newP l L2 = NP := ⟨_, rfl⟩
          rw [hNP] at HKP
          have HNP : Hid (NP.length = K) := by unfold Hid; rw [← hNP, newP_length]; exact HLL.out
          obtain ⟨PL, hPL⟩ : ∃ PL, places l L2.length = PL := ⟨_, rfl⟩
          rw [hPL] at hIN
          have HXX : Hid (∀ j, j < K → ∃ xa xc, NP[j]? = some (xa, xc) ∧ PL[j]? = some (.int .i64 (xa : Int)) ∧ (itm L2 j).c = xc) := fun j hj => by
            obtain ⟨e1, e2⟩ := newP_get (l := l) (L := L2) (j := j) (by rw [HLL.out]; exact hj)
            rw [hNP] at e1
            rw [hPL] at e2
            exact ⟨_, _, e1, e2, rfl⟩
          obtain ⟨l', hl'⟩ : ∃ l', behind l L2.length l.next = l' := ⟨_, rfl⟩
          rw [hl'] at hIN HKP
          have HIN0 : Hid (InI W0 p q b G' d' l' (n + 1) (k + 1) u10 u11 (m + 0) (m + 0) ((PC ++ NP.take 0).map vi) ((PC ++ NP.take 0).map vs) PL w5) := by
            unfold Hid
            rw [List.take_zero, List.append_nil]
            exact hIN
          clear hk hb hbn hR hG hf hd hc hcut hO hMM its0 hsg hIN hNP hPL hl'
          go_wp2
          go_loopw [10, 11, 16] (fun sa sw sj wr => ∃ j : Nat, j ≤ K ∧ sj = .int .i64 (j : Int) ∧ Hid (InI W0 p q b G' d' l' (n + 1) (k + 1) sa sw (m + j) (m + j) ((PC ++ NP.take j).map vi) ((PC ++ NP.take j).map vs) PL wr)) (fun _ _ sj _ => K - (intOf sj).toNat)
          case atStart => exact ⟨0, Nat.zero_le _, rfl, HIN0.out⟩
          case round =>
            obtain ⟨j, hj, rfl, HJ⟩ := hrel
            by_cases hjk : j < K
            · have hji : (j : Int) < (K : Int) := by omega
              obtain ⟨xa, xc, hx1, hx2, hx3⟩ := HXX.out j hjk
              have k0 : wr.cell? ⟨b, j, none⟩ = some (.int .i64 (xa : Int)) := by rw [HJ.out.row.at_ j]; exact hx2
              have HXA := Lib.hid (take_more (PC := PC) hx1 vi)
              have HXS := Lib.hid (take_more (PC := PC) hx1 vs)
              have HX3 := Lib.hid hx3
              clear hx1 hx2 hx3
              have hsz5 : W0.heap.size ≤ wr.heap.size := HJ.out.bel.size
              have hown1 := HJ.out.a
              go_wp2_with (first
                | (at_builtin; (refine wpList_append_own_at _ rfl _ _ 36 rfl W0.heap.size 3 i0 (.int .i64 0) 1 8 Try.underlying36 hi hz0 hz1 hz2 rfl (by decide) _ (m + j) _ rfl (hown1.alloc _) ⟨wr.heap.size, 0, none⟩ 1 1 [.int .i64 (xa : Int)] rfl rfl (cell_one_new _ _ _) (by simp [Value.oneCell']) (by unfold maxLen; omega) (by omega) (by simp; omega) ?_; intro v6 w6 hown' hgrow _ hat; have HJ6 := Lib.hid (HJ.out.app_a hown' hgrow hat); have hown2 := HJ6.out.s; have hsz6 : W0.heap.size ≤ w6.heap.size := HJ6.out.bel.size; obtain ⟨b3, o3, cap3, e3, _, _, _, _, k3⟩ := (HITS.out _ HJ6.out.bel).get HLL.out hjk; cases e3; rw [HX3.out] at k3; clear hown' hgrow hat hown1 k0))
                | (at_builtin; (refine wpList_append_own_at _ rfl _ _ 50 rfl W0.heap.size 9 s0 (.string ByteArray.empty) 1 16 Try.underlying50 si sz0 sz1 sz2 rfl (by decide) _ (m + j) _ rfl (hown2.alloc _) ⟨w6.heap.size, 0, none⟩ 1 1 [.string xc] rfl rfl (cell_one_new _ _ _) (by simp [Value.oneCell']) (by unfold maxLen; omega) (by omega) (by simp; omega) ?_; intro v7 w7 hown' hgrow _ hat; have HJ7 := Lib.hid (HJ6.out.app_s hown' hgrow hat); clear hown' hgrow hat hown2)))
              go_roundw
              case rel => exact ⟨j + 1, by omega, by go_num, by unfold Hid; rw [HXA.out, HXS.out]; exact HJ7.out⟩
              case measure => simp [intOf]; omega
            · have hji : ¬ (j : Int) < (K : Int) := by omega
              obtain rfl : j = K := by omega
              have HTP : Hid (TpI W0 p q G' d' l' (n + 1) (k + 1) u10 u11 (PC ++ NP) wr) := InI.done (by rw [hPm]; exact HJ.out) HNP.out HKP.out (by rw [List.length_append, hPm, HNP.out]; omega) HDC.out
              have hPm2 : (PC ++ NP).length = m + j := by rw [List.length_append, hPm, HNP.out]
              go_wp2
              go_roundw
              case rel => exact ⟨n + 1, k + 1, m + j, G', d', l', PC ++ NP, by go_num, by omega, by omega, hPm2, HTP.out⟩
              case measure => simp [intOf]; omega
    · by_cases hk3 : k < N
      · have hk4 : ¬ k < 8 := fun h => hlt ⟨hk3, h⟩
        have hk5 : (k : Int) < (N : Int) := by omega
        have hk6 : ¬ (k : Int) < 8 := by omega
        clear hlt
        obtain ⟨f0, f1⟩ := HFR.out wr hI.out.bel
        have HCR := Lib.hid (hI.out.crash (by omega) kp t hkb)
        have ha := hI.out.a
        have hs := hI.out.s
        rw [hPm] at ha hs
        have hPl := Lib.hid hPm
        obtain ⟨aa, ca, rfl, HLA, hca1, hca2⟩ := lies_own ha
        obtain ⟨ab, cs, rfl, HLS, hcs1, hcs2⟩ := lies_own hs
        clear ha hs
        go_wp2_with (go_at_call 20; (with_reducible refine Calls.mono HCR.out ?_); rintro e wx ⟨r, FX, rfl, hDX, hBX⟩; have HDX := Lib.hid hDX; have HBX := Lib.hid (below_th hI.out.bel hBX); have HLA := Lib.hid (HLA.out.below hBX); have HLS := Lib.hid (HLS.out.below hBX); clear hDX hBX)
        go_loopw [18, 19, 20, 21, 22] (fun sj _ _ _ _ wz => ∃ j : Nat, j ≤ m ∧ sj = .int .i64 (j : Int) ∧ Hid (Below wx.heap.size wx wz)) (fun sj _ _ _ _ _ => m - (intOf sj).toNat)
        case atStart => exact ⟨0, Nat.zero_le _, rfl, Below.refl _ _⟩
        case round =>
          obtain ⟨j, hj, rfl, hBz⟩ := hrel
          by_cases hjm : j < m
          · have hji : (j : Int) < (m : Int) := by omega
            obtain ⟨x, hx⟩ : ∃ x, PC[j]? = some x := ⟨_, List.getElem?_eq_getElem (by rw [hPl.out]; exact hjm)⟩
            obtain ⟨xa, xc⟩ := x
            have hmem := List.mem_of_getElem? hx
            have hc508 : xc.size ≤ 508 := (hI.out.kept _ hmem).2.2
            obtain ⟨b1, o1, rfl, k1⟩ := (HLA.out.below hBz.out).read (j := j) (u := .int .i64 (xa : Int)) (by rw [List.getElem?_map, hx]; rfl)
            obtain ⟨b2, o2, rfl, k2⟩ := (HLS.out.below hBz.out).read (j := j) (u := .string xc) (by rw [List.getElem?_map, hx]; rfl)
            have HRD := Lib.hid (hI.out.read (HDX.out.below hBz.out) hmem)
            have HUN := Lib.hid (unwrap_wrap xc hc508)
            have z1 := pad_size hc508
            have z2 := pad_cut xc (508 - xc.size)
            obtain ⟨s, hs⟩ : ∃ s, xc ++ zeros (508 - xc.size) = s := ⟨_, rfl⟩
            rw [hs] at z1 z2 HUN
            have z3 : (xc.size : Int) ≤ (s.size : Int) := by omega
            have z4 : xc.size ≤ s.size := by omega
            have z5 : ((s.size : Int) != 508) = false := by simp; omega
            have HBz := Lib.hid hBz
            have HK2 : Hid (∀ W, Below wr.heap.size wr W → W.cell? ⟨b2, o2 + j, none⟩ = some (.string xc)) := fun W hB => cell_only k2 (Only.of_below hB (S := fun _ => False)) (fun h => h)
            clear hs hmem hx k2
            go_wp2_with (first
              | (go_at_call 28; (with_reducible refine Calls.mono HRD.out ?_); rintro e w8 ⟨rfl, hB8⟩)
              | (go_at_call 29; (with_reducible refine Calls.mono (HUN.out _) ?_); rintro e w9 ⟨rfl, hB9⟩; have HB9 := Lib.hid (below_th hB8 hB9); have k9 := HK2.out _ HB9.out; clear hB9 hB8))
            go_quiet (fail)
            go_wp2
            go_roundw
            case rel => exact ⟨j + 1, by omega, by go_num, below_drewN (below_th HBz.out.out HB9.out) _⟩
            case measure => simp [intOf]; omega
          · have hji : ¬ (j : Int) < (m : Int) := by omega
            go_wp2
            go_ret
            exact ⟨rfl, hB0.trans ((below_th HBX.out hBz.out).mono hB0.size)⟩
      · have hk5 : ¬ (k : Int) < (N : Int) := by omega
        clear hlt
        obtain ⟨f0, f1⟩ := HFR.out wr hI.out.bel
        have HCR := Lib.hid (hI.out.crash (by omega) kp t hkb)
        have ha := hI.out.a
        have hs := hI.out.s
        rw [hPm] at ha hs
        have hPl := Lib.hid hPm
        obtain ⟨aa, ca, rfl, HLA, hca1, hca2⟩ := lies_own ha
        obtain ⟨ab, cs, rfl, HLS, hcs1, hcs2⟩ := lies_own hs
        clear ha hs
        go_wp2_with (go_at_call 20; (with_reducible refine Calls.mono HCR.out ?_); rintro e wx ⟨r, FX, rfl, hDX, hBX⟩; have HDX := Lib.hid hDX; have HBX := Lib.hid (below_th hI.out.bel hBX); have HLA := Lib.hid (HLA.out.below hBX); have HLS := Lib.hid (HLS.out.below hBX); clear hDX hBX)
        go_loopw [18, 19, 20, 21, 22] (fun sj _ _ _ _ wz => ∃ j : Nat, j ≤ m ∧ sj = .int .i64 (j : Int) ∧ Hid (Below wx.heap.size wx wz)) (fun sj _ _ _ _ _ => m - (intOf sj).toNat)
        case atStart => exact ⟨0, Nat.zero_le _, rfl, Below.refl _ _⟩
        case round =>
          obtain ⟨j, hj, rfl, hBz⟩ := hrel
          by_cases hjm : j < m
          · have hji : (j : Int) < (m : Int) := by omega
            obtain ⟨x, hx⟩ : ∃ x, PC[j]? = some x := ⟨_, List.getElem?_eq_getElem (by rw [hPl.out]; exact hjm)⟩
            obtain ⟨xa, xc⟩ := x
            have hmem := List.mem_of_getElem? hx
            have hc508 : xc.size ≤ 508 := (hI.out.kept _ hmem).2.2
            obtain ⟨b1, o1, rfl, k1⟩ := (HLA.out.below hBz.out).read (j := j) (u := .int .i64 (xa : Int)) (by rw [List.getElem?_map, hx]; rfl)
            obtain ⟨b2, o2, rfl, k2⟩ := (HLS.out.below hBz.out).read (j := j) (u := .string xc) (by rw [List.getElem?_map, hx]; rfl)
            have HRD := Lib.hid (hI.out.read (HDX.out.below hBz.out) hmem)
            have HUN := Lib.hid (unwrap_wrap xc hc508)
            have z1 := pad_size hc508
            have z2 := pad_cut xc (508 - xc.size)
            obtain ⟨s, hs⟩ : ∃ s, xc ++ zeros (508 - xc.size) = s := ⟨_, rfl⟩
            rw [hs] at z1 z2 HUN
            have z3 : (xc.size : Int) ≤ (s.size : Int) := by omega
            have z4 : xc.size ≤ s.size := by omega
            have z5 : ((s.size : Int) != 508) = false := by simp; omega
            have HBz := Lib.hid hBz
            have HK2 : Hid (∀ W, Below wr.heap.size wr W → W.cell? ⟨b2, o2 + j, none⟩ = some (.string xc)) := fun W hB => cell_only k2 (Only.of_below hB (S := fun _ => False)) (fun h => h)
            clear hs hmem hx k2
            go_wp2_with (first
              | (go_at_call 28; (with_reducible refine Calls.mono HRD.out ?_); rintro e w8 ⟨rfl, hB8⟩)
              | (go_at_call 29; (with_reducible refine Calls.mono (HUN.out _) ?_); rintro e w9 ⟨rfl, hB9⟩; have HB9 := Lib.hid (below_th hB8 hB9); have k9 := HK2.out _ HB9.out; clear hB9 hB8))
            go_quiet (fail)
            go_wp2
            go_roundw
            case rel => exact ⟨j + 1, by omega, by go_num, below_drewN (below_th HBz.out.out HB9.out) _⟩
            case measure => simp [intOf]; omega
          · have hji : ¬ (j : Int) < (m : Int) := by omega
            go_wp2
            go_ret
            exact ⟨rfl, hB0.trans ((below_th HBX.out hBz.out).mono hB0.size)⟩
end
end Go.Proofs.Ytghonccffmmjhaa.Log
