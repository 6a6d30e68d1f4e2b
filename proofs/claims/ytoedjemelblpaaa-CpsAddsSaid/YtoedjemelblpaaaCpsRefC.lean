/- The document's Delete, Expire, Add. -/
import Derived.Deep.RegionLaw
import Derived.Test.YtoedjemelblpaaaCpsRefB
namespace Go.Proofs.Ytoedjemelblpaaa.Cps.R
open Go.RowKit
attribute [local go_sem] Oper.semAt_some
set_option linter.unusedVariables false
set_option linter.unusedSimpArgs false

section
set_option maxRecDepth 100000
set_option maxHeartbeats 8000000
theorem without_any (v : Value) (L : List C) (cp i : Nat) (w : World) (hL : Chs w v L) (hr : RightP L) (hi : i < L.length) (hc : (ck L i).cp = cp) :
    Calls Try.prog 44 #[v, .int .i64 i] w fun e w' => ∃ v', e = .returned v' ∧ Chs w' v' (L.filter (othB cp)) ∧ Below w.heap.size w w' := by
  obtain ⟨a, cap, rfl, hn, hm⟩ := hL.parts
  obtain ⟨i0, hin, hz0, hz1, hz2⟩ := info_parts infoCh
  have h8 := hr.1
  have HX := Lib.hid (fun W k (h : Below w.heap.size w W) (hk : k < L.length) => (hL.below h).at hk)
  have HSU : Hid (∀ k, k < L.length → (L.take (k + 1)).filter (othB cp) = (L.take k).filter (othB cp) ++ if k = i then [] else [ck L k]) := fun k hk => by
    rw [filt_snoc _ hk]
    congr 1
    by_cases h : k = i
    · rw [if_pos h, if_neg]
      rw [h]
      unfold othB isB
      simp [hc]
    · rw [if_neg h, if_pos]
      unfold othB isB
      have : ¬ (ck L k).cp = cp := fun e => h (hr.inj hk hi (by rw [e, hc]))
      simp [this]
  have HFin : Hid (∀ W v, W.ownsRow w.heap.size 25 4 v ((L.take L.length).filter (othB cp)).length (cellsL ((L.take L.length).filter (othB cp))) → Chs W v (L.filter (othB cp))) := fun W v h => by
    rw [List.take_length] at h
    exact Chs.own h
  obtain ⟨F, hF⟩ : ∃ F : Nat → List C, (fun k => (L.take k).filter (othB cp)) = F := ⟨_, rfl⟩
  have hF' : ∀ k, (L.take k).filter (othB cp) = F k := fun k => congrFun hF k
  have HF0 : Hid (F 0 = []) := by unfold Hid; rw [← hF']; rfl
  have HFl : Hid (∀ k, (F k).length ≤ 108) := fun k => by rw [← hF']; exact Nat.le_trans (filt_le _ _) (by rw [List.length_take]; omega)
  obtain ⟨M, hM⟩ : ∃ M, L.filter (othB cp) = M := ⟨_, rfl⟩
  obtain ⟨N, hN⟩ : ∃ N, L.length = N := ⟨_, rfl⟩
  simp only [hN, hF', hM] at HX HSU HFin hn h8 hi ⊢
  clear hL hN hF hF' hM hr hc
  obtain ⟨W0, rfl⟩ : ∃ W0 : World, W0 = w := ⟨_, rfl⟩
  go_enter Try.func44, Try.ntmps44
  go_wp2
  go_loopw [5, 6] (fun v j wr => ∃ k : Nat, k ≤ N ∧ j = .int .i64 (k : Int) ∧ Hid (wr.ownsRow W0.heap.size 25 4 v (F k).length (cellsL (F k))) ∧ Hid (Below W0.heap.size W0 wr)) (fun _ j _ => N - (intOf j).toNat)
  case atStart => exact ⟨0, by omega, rfl, by rw [HF0.out]; exact World.ownsRow_nil _ _ _ _, Below.refl _ _⟩
  case round =>
    obtain ⟨k, hk, rfl, HOW, HBk⟩ := hrel
    by_cases hlt : k < N
    · have hsu := HSU.out k hlt
      have hfl := HFl.out k
      by_cases hki : k = i
      · rw [if_pos hki, List.append_nil] at hsu
        have g1 : ((k : Int) != (i : Int)) = false := by simp [hki]
        have g1n : (k == i) = true := by simp [hki]
        have g1b : ((k : Int) == (i : Int)) = true := by simp [hki]
        have HS := Lib.hid hsu
        clear hsu hki
        go_wp2
        go_roundw
        case rel => exact ⟨k + 1, by omega, by go_num, by rw [HS.out]; exact HOW.out, HBk.out⟩
        case measure => simp [intOf]; omega
      · rw [if_neg hki] at hsu
        have g1 : ((k : Int) != (i : Int)) = true := by simp; omega
        have g1n : (k == i) = false := by simp [hki]
        have g1b : ((k : Int) == (i : Int)) = false := by simp; omega
        obtain ⟨b, off, cap2, e2, c0, c1, c2, c3⟩ := HX.out wr k HBk.out hlt
        cases e2
        obtain ⟨s, hs⟩ : ∃ s, ck L k = s := ⟨_, rfl⟩
        rw [hs] at c0 c1 c2 c3 hsu
        obtain ⟨ncp, ti, sn, ro⟩ := s
        dsimp only at c0 c1 c2 c3
        clear hs hki
        have hcs : cellsL (F (k + 1)) = cellsL (F k) ++ [.int .u64 (ncp : Nat), .int .u64 (ti : Nat), .bool sn, .string ro] := by rw [hsu, cellsL_snoc]; rfl
        have hls : (F (k + 1)).length = (F k).length + 1 := by rw [hsu]; simp
        have HCS := Lib.hid hcs
        have HLS := Lib.hid hls
        have hown2 := HOW.out.alloc (.cells #[.int .u64 (ncp : Nat), .int .u64 (ti : Nat), .bool sn, .string ro] 25)
        have HOWN := Lib.hid hown2
        have HB2 := Lib.hid (below_al HBk.out (.cells #[.int .u64 (ncp : Nat), .int .u64 (ti : Nat), .bool sn, .string ro] 25))
        clear hown2 hcs hls hsu
        go_wp2_with (at_builtin; (refine wpList_append_own _ rfl _ _ 22 rfl W0.heap.size 25 i0 (.agg #[.int .u64 0, .int .u64 0, .bool false, .string ⟨#[]⟩]) 4 40 Try.underlying22 hin hz0 hz1 hz2 rfl (by decide) _ (F k).length (cellsL (F k)) rfl HOWN.out ⟨wr.heap.size, 0, none⟩ 1 1 [.int .u64 (ncp : Nat), .int .u64 (ti : Nat), .bool sn, .string ro] rfl rfl (World.news_of_block (World.alloc_heap_new wr _)) (by simp [Value.oneCell']) (by unfold maxLen; omega) (by omega) HB2.out.size ?_; intro v3 w3 hown3 hgrow3 _; have HO3 := Lib.hid hown3; have HB3 := Lib.hid (HB2.out.grown hgrow3 HB2.out.size (fun r e => ((HOWN.out).lt r e).1)); clear hown3 hgrow3))
        go_roundw
        case rel => exact ⟨k + 1, by omega, by go_num, by rw [HCS.out, HLS.out]; exact HO3.out, HB3.out⟩
        case measure => simp [intOf]; omega
    · obtain rfl : N = k := by omega
      have HF := Lib.hid (HFin.out wr _ HOW.out)
      go_wp2
      go_ret
      exact ⟨_, rfl, HF.out, HBk.out⟩
theorem delete_any (v : Value) (L : List C) (cp : Nat) (w : World) (hL : Chs w v L) : Calls Try.prog 26 #[v, .int .u64 cp] w (TabPost (delV L cp) (delE L cp) w) := by
  have hf := Find_any v L cp w hL
  have hp := fun W (h : Below w.heap.size w W) => place_any v L cp W (hL.below h)
  have HBX := Lib.hid (fun W : World => below_new W (boxO (fndC L cp)))
  have HAX := Lib.hid (fun W : World => At.new W (fndC L cp))
  obtain ⟨a, cap, rfl, hn, hm⟩ := hL.parts
  by_cases h : fndE L cp = 0
  · obtain ⟨hr, h1⟩ := fndE_zero.1 h
    have hC : fndC L cp = ck L (at_ L cp) := (fnd_yes hr h1).2.2
    rw [h] at hf
    have hE : delE L cp = if at_ L cp + 1 = L.length then 94 else if (ck L (at_ L cp)).snap = true then 93 else 0 := if_pos h
    have h8 := hr.1
    have hi0 : idxI L cp = at_ L cp := if_pos h1
    simp only [hi0] at hp
    have hO := fun W (hB : Below w.heap.size w W) => without_any _ L cp (at_ L cp) W (hL.below hB) hr h1 (at_cp h1)
    have hNo : ∀ (n : Int), delE L cp = n → ¬ n = 0 → ∀ W, Below w.heap.size w W → TabPost (delV L cp) (delE L cp) w (.returned (.tuple #[.slice none 0 0, .int .i64 n])) W := fun n hn hn0 W hB => tab_no (if_neg (by rw [hn]; exact hn0)) hn hB
    have hYes : delE L cp = 0 → ∀ W v, Chs W v (L.filter (othB cp)) → Below w.heap.size w W → TabPost (delV L cp) (delE L cp) w (.returned (.tuple #[v, .int .i64 0])) W := fun h0 W v hT hB => tab_yes (if_pos h0) h0 hT hB
    have hsn : (fndC L cp).snap = (ck L (at_ L cp)).snap := by rw [hC]
    obtain ⟨i, hi⟩ : ∃ i, at_ L cp = i := ⟨_, rfl⟩
    rw [hi] at h1 hE hsn
    simp only [hi] at hO hp
    obtain ⟨N, hN⟩ : ∃ N, L.length = N := ⟨_, rfl⟩
    rw [hN] at hf hn h1 h8 hE ⊢
    simp only [hN] at hO hp
    have HO := Lib.hid hO
    have HF := Lib.hid hf
    have HP := Lib.hid hp
    obtain ⟨y, hy⟩ : ∃ y, fndC L cp = y := ⟨_, rfl⟩
    rw [hy] at HF HBX HAX hsn
    obtain ⟨yc, yt, ys, yr⟩ := y
    unfold C.val at HF
    unfold boxO at HBX HAX
    dsimp only at HF HBX HAX hsn
    rw [← hsn] at hE
    clear hO hf hp hL hr h hi hi0 hN hC hy hsn
    have hw : IntKind.i64.wrap ((N : Int) - 1) = ((N - 1 : Nat) : Int) := by rw [IntKind.wrap_i64]; omega
    by_cases h2 : i + 1 = N
    · rw [if_pos h2] at hE
      have HFin := Lib.hid (hNo 94 hE (by decide))
      obtain ⟨r, hr1⟩ : ∃ r, N - 1 = r := ⟨_, rfl⟩
      rw [hr1] at hw
      have g1 : (i == r) = true := by simp; omega
      have g2 : ((i : Int) == (r : Int)) = true := by simp; omega
      clear hE hNo hYes h2 hr1
      go_enter Try.func26, Try.ntmps26
      go_wp2_with (first
        | (go_at_call 16; (with_reducible refine Calls.mono HF.out ?_); rintro e w1 ⟨rfl, hB1⟩; have hB1 := below_th hB1 (HBX.out w1))
        | (go_at_call 40; (with_reducible refine Calls.mono (HP.out _ hB1) ?_); rintro e w2 ⟨rfl, hB2⟩))
      go_returns
      exact HFin.out _ (below_th hB1 hB2)
    · rw [if_neg h2] at hE
      obtain ⟨r, hr1⟩ : ∃ r, N - 1 = r := ⟨_, rfl⟩
      rw [hr1] at hw
      have g1 : (i == r) = false := by simp; omega
      have g2 : ((i : Int) == (r : Int)) = false := by simp; omega
      cases ys with
      | true =>
        rw [if_pos rfl] at hE
        have HFin := Lib.hid (hNo 93 hE (by decide))
        clear hE hNo hYes h2 hr1
        go_enter Try.func26, Try.ntmps26
        go_wp2_with (first
          | (go_at_call 16; (with_reducible refine Calls.mono HF.out ?_); rintro e w1 ⟨rfl, hB1⟩; have hB1 := below_th hB1 (HBX.out w1); have hA1 := HAX.out w1)
          | (go_at_call 40; (with_reducible refine Calls.mono (HP.out _ hB1) ?_); rintro e w2 ⟨rfl, hB2⟩; obtain ⟨d0, d1, d2, d3⟩ := (hA1.th hB2).c; dsimp only at d0 d1 d2 d3))
        go_returns
        exact HFin.out _ (below_th hB1 hB2)
      | false =>
        rw [if_neg (by decide)] at hE
        have HFin := Lib.hid (hYes hE)
        clear hE hNo hYes h2 hr1
        go_enter Try.func26, Try.ntmps26
        go_wp2_with (first
          | (go_at_call 16; (with_reducible refine Calls.mono HF.out ?_); rintro e w1 ⟨rfl, hB1⟩; have hB1 := below_th hB1 (HBX.out w1); have hA1 := HAX.out w1)
          | (go_at_call 40; (with_reducible refine Calls.mono (HP.out _ hB1) ?_); rintro e w2 ⟨rfl, hB2⟩; obtain ⟨d0, d1, d2, d3⟩ := (hA1.th hB2).c; dsimp only at d0 d1 d2 d3)
          | (go_at_call 44; (with_reducible refine Calls.mono (HO.out _ (below_th hB1 hB2)) ?_); rintro e w3 ⟨v3, rfl, hT3, hB3⟩))
        go_returns
        exact HFin.out _ _ hT3 (below_th (below_th hB1 hB2) hB3)
  · have hE : delE L cp = fndE L cp := if_neg h
    have HF : Hid (∀ W, Below w.heap.size w W → TabPost (delV L cp) (delE L cp) w (.returned (.tuple #[.slice none 0 0, .int .i64 (fndE L cp)])) W) := fun W hB => tab_no (if_neg (by rw [hE]; exact h)) hE hB
    obtain ⟨n, hne⟩ : ∃ n, fndE L cp = n := ⟨_, rfl⟩
    rw [hne] at hf HF h
    have g1 : (n == 0) = false := by simp [h]
    have g2 : (n != 0) = true := by simp [h]
    obtain ⟨N, hN⟩ : ∃ N, L.length = N := ⟨_, rfl⟩
    rw [hN] at hf hn ⊢
    have HFD := Lib.hid hf
    obtain ⟨y, hy⟩ : ∃ y, fndC L cp = y := ⟨_, rfl⟩
    rw [hy] at HFD HBX
    obtain ⟨yc, yt, ys, yr⟩ := y
    unfold C.val at HFD
    unfold boxO at HBX
    dsimp only at HFD HBX
    clear hf hp hL hN h hne hE hy
    go_enter Try.func26, Try.ntmps26
    go_wp2_with (go_at_call 16; (with_reducible refine Calls.mono HFD.out ?_); rintro e w1 ⟨rfl, hB1⟩)
    go_returns
    exact HF.out _ (below_th hB1 (HBX.out w1))
theorem expire_any (v : Value) (L : List C) (now keep : Nat) (w : World) (hL : Chs w v L) (hnow : now < 18446744073709551616) (wL : ∀ o ∈ L, COk o) : Calls Try.prog 28 #[v, .int .u64 now, .int .u64 keep] w (ExpPost L now keep w) := by
  have hR := right_any v L w hL
  obtain ⟨a, cap, rfl, hn, hm⟩ := hL.parts
  by_cases hr : RightP L
  · rw [rightB_yes hr] at hR
    obtain ⟨i0, hin, hz0, hz1, hz2⟩ := info_parts infoCh
    have h8 := hr.1
    have HX := Lib.hid (fun W k (h : Below w.heap.size w W) (hk : k < L.length) => (hL.below h).at hk)
    have HSU : Hid (∀ k, k < L.length → (L.take (k + 1)).filter (keepB (lastCp L) now keep) = (L.take k).filter (keepB (lastCp L) now keep) ++ if (ck L k).snap = true ∨ k + 1 = L.length ∨ ¬ (ck L k).tick + keep < now then [ck L k] else []) := fun k hk => by
      rw [filt_snoc _ hk]
      congr 1
      have hlast : (ck L k).cp = lastCp L ↔ k + 1 = L.length := by
        constructor
        · intro e
          have := hr.inj hk (j := L.length - 1) (by omega) e
          omega
        · intro e
          unfold lastCp
          rw [← e]
          rfl
      have hkb : keepB (lastCp L) now keep (ck L k) = true ↔ ((ck L k).snap = true ∨ k + 1 = L.length ∨ ¬ (ck L k).tick + keep < now) := by
        unfold keepB dropB overP
        rw [← hlast]
        cases (ck L k).snap <;> by_cases h2 : (ck L k).cp = lastCp L <;> by_cases h3 : (ck L k).tick + keep < now <;> simp [h2, h3]
      by_cases hh : keepB (lastCp L) now keep (ck L k) = true
      · rw [if_pos hh, if_pos (hkb.1 hh)]
      · rw [if_neg hh, if_neg (fun h => hh (hkb.2 h))]
    have HFin : Hid (∀ W v, W.ownsRow w.heap.size 25 4 v ((L.take L.length).filter (keepB (lastCp L) now keep)).length (cellsL ((L.take L.length).filter (keepB (lastCp L) now keep))) → Below w.heap.size w W → ExpPost L now keep w (.returned (.tuple #[v, .int .i64 ((L.length - ((L.take L.length).filter (keepB (lastCp L) now keep)).length : Nat) : Int), .int .i64 0])) W) := fun W v h hB => by
      rw [List.take_length] at h ⊢
      have hV : expV L now keep = L.filter (keepB (lastCp L) now keep) := if_pos hr
      refine ⟨v, by rw [show expE L = 0 from if_pos hr, show expN L now keep = L.length - (expV L now keep).length from if_pos hr, hV], ?_, hB⟩
      rw [hV]
      exact Chs.own h
    have HTK := Lib.hid (fun k (hk : k < L.length) => (wL _ (ck_mem hk)).2)
    obtain ⟨F, hF⟩ : ∃ F : Nat → List C, (fun k => (L.take k).filter (keepB (lastCp L) now keep)) = F := ⟨_, rfl⟩
    have hF' : ∀ k, (L.take k).filter (keepB (lastCp L) now keep) = F k := fun k => congrFun hF k
    have HF0 : Hid (F 0 = []) := by unfold Hid; rw [← hF']; rfl
    have HFl : Hid (∀ k, (F k).length ≤ k) := fun k => by rw [← hF']; exact Nat.le_trans (filt_le _ _) (by rw [List.length_take]; omega)
    obtain ⟨N, hN⟩ : ∃ N, L.length = N := ⟨_, rfl⟩
    simp only [hN, hF'] at HX HSU HFin hn h8 hR HTK ⊢
    have hwN : ∀ m : Nat, m + 1 = N → IntKind.i64.wrap ((N : Int) - 1) = (m : Int) := fun m hm => by rw [IntKind.wrap_i64]; omega
    have HR := Lib.hid hR
    have HOP := Lib.hid (fun W n v xs (h : World.ownsRow W w.heap.size 25 4 v n xs) => show ∃ a c, v = .slice a n c by obtain ⟨a, c, e, _⟩ := lies_own h; exact ⟨a, c, e⟩)
    clear hL hN hF hF' hr hR wL
    obtain ⟨W0, rfl⟩ : ∃ W0 : World, W0 = w := ⟨_, rfl⟩
    go_enter Try.func28, Try.ntmps28
    go_wp2_with (go_at_call 18; (with_reducible refine Calls.mono HR.out ?_); rintro e w1 ⟨rfl, hB1⟩)
    go_loopw [10, 11, 12] (fun v j _ wr => ∃ k : Nat, k ≤ N ∧ j = .int .i64 (k : Int) ∧ Hid (wr.ownsRow W0.heap.size 25 4 v (F k).length (cellsL (F k))) ∧ Hid (Below W0.heap.size W0 wr)) (fun _ j _ _ => N - (intOf j).toNat)
    case atStart => exact ⟨0, by omega, rfl, by rw [HF0.out]; exact World.ownsRow_nil _ _ _ _, hB1⟩
    case round =>
      obtain ⟨k, hk, rfl, HOW, HBk⟩ := hrel
      have hfl := HFl.out k
      by_cases hlt : k < N
      · have hsu := HSU.out k hlt
        have htk := HTK.out k hlt
        obtain ⟨b, off, cap2, e2, c0, c1, c2, c3⟩ := HX.out wr k HBk.out hlt
        cases e2
        obtain ⟨s, hs⟩ : ∃ s, ck L k = s := ⟨_, rfl⟩
        rw [hs] at c0 c1 c2 c3 hsu htk
        obtain ⟨ncp, ti, sn, ro⟩ := s
        dsimp only at c0 c1 c2 c3 hsu htk
        clear hs
        by_cases hkl : k + 1 = N
        · have hw := hwN k hkl
          cases sn with
          | true =>
            by_cases h11 : ti < now
            · have g2 : decide ((ti : Int) < (now : Int)) = true := decide_eq_true (by omega)
              have g2n : decide (ti < now) = true := decide_eq_true h11
              obtain ⟨d, hdd⟩ : ∃ d, now - ti = d := ⟨_, rfl⟩
              have hwd : IntKind.u64.wrap ((now : Int) - (ti : Int)) = (d : Int) := by rw [IntKind.wrap_u64]; omega
              by_cases h12 : ti + keep < now
              · have g3 : decide ((keep : Int) < (d : Int)) = true := decide_eq_true (by omega)
                have g3n : decide (keep < d) = true := decide_eq_true (by omega)
                clear hdd
                rw [if_pos (.inr (.inl hkl))] at hsu
                have hcs : cellsL (F (k + 1)) = cellsL (F k) ++ [.int .u64 (ncp : Nat), .int .u64 (ti : Nat), .bool true, .string ro] := by rw [hsu, cellsL_snoc]; rfl
                have hls : (F (k + 1)).length = (F k).length + 1 := by rw [hsu]; simp
                have HCS := Lib.hid hcs
                have HLS := Lib.hid hls
                have hown2 := HOW.out.alloc (.cells #[.int .u64 (ncp : Nat), .int .u64 (ti : Nat), .bool true, .string ro] 25)
                have HOWN := Lib.hid hown2
                have HB2 := Lib.hid (below_al HBk.out (.cells #[.int .u64 (ncp : Nat), .int .u64 (ti : Nat), .bool true, .string ro] 25))
                clear hown2 hcs hls hsu
                go_wp2_with (at_builtin; (refine wpList_append_own _ rfl _ _ 22 rfl W0.heap.size 25 i0 (.agg #[.int .u64 0, .int .u64 0, .bool false, .string ⟨#[]⟩]) 4 40 Try.underlying22 hin hz0 hz1 hz2 rfl (by decide) _ (F k).length (cellsL (F k)) rfl HOWN.out ⟨wr.heap.size, 0, none⟩ 1 1 [.int .u64 (ncp : Nat), .int .u64 (ti : Nat), .bool true, .string ro] rfl rfl (World.news_of_block (World.alloc_heap_new wr _)) (by simp [Value.oneCell']) (by unfold maxLen; omega) (by omega) HB2.out.size ?_; intro v3 w3 hown3 hgrow3 _; have HO3 := Lib.hid hown3; have HB3 := Lib.hid (HB2.out.grown hgrow3 HB2.out.size (fun r e => ((HOWN.out).lt r e).1)); clear hown3 hgrow3))
                go_roundw
                case rel => exact ⟨k + 1, by omega, by go_num, by rw [HCS.out, HLS.out]; exact HO3.out, HB3.out⟩
                case measure => simp [intOf]; omega
              · have g3 : decide ((keep : Int) < (d : Int)) = false := decide_eq_false (by omega)
                have g3n : decide (keep < d) = false := decide_eq_false (by omega)
                clear hdd
                rw [if_pos (.inr (.inl hkl))] at hsu
                have hcs : cellsL (F (k + 1)) = cellsL (F k) ++ [.int .u64 (ncp : Nat), .int .u64 (ti : Nat), .bool true, .string ro] := by rw [hsu, cellsL_snoc]; rfl
                have hls : (F (k + 1)).length = (F k).length + 1 := by rw [hsu]; simp
                have HCS := Lib.hid hcs
                have HLS := Lib.hid hls
                have hown2 := HOW.out.alloc (.cells #[.int .u64 (ncp : Nat), .int .u64 (ti : Nat), .bool true, .string ro] 25)
                have HOWN := Lib.hid hown2
                have HB2 := Lib.hid (below_al HBk.out (.cells #[.int .u64 (ncp : Nat), .int .u64 (ti : Nat), .bool true, .string ro] 25))
                clear hown2 hcs hls hsu
                go_wp2_with (at_builtin; (refine wpList_append_own _ rfl _ _ 22 rfl W0.heap.size 25 i0 (.agg #[.int .u64 0, .int .u64 0, .bool false, .string ⟨#[]⟩]) 4 40 Try.underlying22 hin hz0 hz1 hz2 rfl (by decide) _ (F k).length (cellsL (F k)) rfl HOWN.out ⟨wr.heap.size, 0, none⟩ 1 1 [.int .u64 (ncp : Nat), .int .u64 (ti : Nat), .bool true, .string ro] rfl rfl (World.news_of_block (World.alloc_heap_new wr _)) (by simp [Value.oneCell']) (by unfold maxLen; omega) (by omega) HB2.out.size ?_; intro v3 w3 hown3 hgrow3 _; have HO3 := Lib.hid hown3; have HB3 := Lib.hid (HB2.out.grown hgrow3 HB2.out.size (fun r e => ((HOWN.out).lt r e).1)); clear hown3 hgrow3))
                go_roundw
                case rel => exact ⟨k + 1, by omega, by go_num, by rw [HCS.out, HLS.out]; exact HO3.out, HB3.out⟩
                case measure => simp [intOf]; omega
            · have g2 : decide ((ti : Int) < (now : Int)) = false := decide_eq_false (by omega)
              have g2n : decide (ti < now) = false := decide_eq_false h11
              have h12 : ¬ ti + keep < now := by omega
              rw [if_pos (.inr (.inl hkl))] at hsu
              have hcs : cellsL (F (k + 1)) = cellsL (F k) ++ [.int .u64 (ncp : Nat), .int .u64 (ti : Nat), .bool true, .string ro] := by rw [hsu, cellsL_snoc]; rfl
              have hls : (F (k + 1)).length = (F k).length + 1 := by rw [hsu]; simp
              have HCS := Lib.hid hcs
              have HLS := Lib.hid hls
              have hown2 := HOW.out.alloc (.cells #[.int .u64 (ncp : Nat), .int .u64 (ti : Nat), .bool true, .string ro] 25)
              have HOWN := Lib.hid hown2
              have HB2 := Lib.hid (below_al HBk.out (.cells #[.int .u64 (ncp : Nat), .int .u64 (ti : Nat), .bool true, .string ro] 25))
              clear hown2 hcs hls hsu
              go_wp2_with (at_builtin; (refine wpList_append_own _ rfl _ _ 22 rfl W0.heap.size 25 i0 (.agg #[.int .u64 0, .int .u64 0, .bool false, .string ⟨#[]⟩]) 4 40 Try.underlying22 hin hz0 hz1 hz2 rfl (by decide) _ (F k).length (cellsL (F k)) rfl HOWN.out ⟨wr.heap.size, 0, none⟩ 1 1 [.int .u64 (ncp : Nat), .int .u64 (ti : Nat), .bool true, .string ro] rfl rfl (World.news_of_block (World.alloc_heap_new wr _)) (by simp [Value.oneCell']) (by unfold maxLen; omega) (by omega) HB2.out.size ?_; intro v3 w3 hown3 hgrow3 _; have HO3 := Lib.hid hown3; have HB3 := Lib.hid (HB2.out.grown hgrow3 HB2.out.size (fun r e => ((HOWN.out).lt r e).1)); clear hown3 hgrow3))
              go_roundw
              case rel => exact ⟨k + 1, by omega, by go_num, by rw [HCS.out, HLS.out]; exact HO3.out, HB3.out⟩
              case measure => simp [intOf]; omega
          | false =>
            by_cases h11 : ti < now
            · have g2 : decide ((ti : Int) < (now : Int)) = true := decide_eq_true (by omega)
              have g2n : decide (ti < now) = true := decide_eq_true h11
              obtain ⟨d, hdd⟩ : ∃ d, now - ti = d := ⟨_, rfl⟩
              have hwd : IntKind.u64.wrap ((now : Int) - (ti : Int)) = (d : Int) := by rw [IntKind.wrap_u64]; omega
              by_cases h12 : ti + keep < now
              · have g3 : decide ((keep : Int) < (d : Int)) = true := decide_eq_true (by omega)
                have g3n : decide (keep < d) = true := decide_eq_true (by omega)
                clear hdd
                rw [if_pos (.inr (.inl hkl))] at hsu
                have hcs : cellsL (F (k + 1)) = cellsL (F k) ++ [.int .u64 (ncp : Nat), .int .u64 (ti : Nat), .bool false, .string ro] := by rw [hsu, cellsL_snoc]; rfl
                have hls : (F (k + 1)).length = (F k).length + 1 := by rw [hsu]; simp
                have HCS := Lib.hid hcs
                have HLS := Lib.hid hls
                have hown2 := HOW.out.alloc (.cells #[.int .u64 (ncp : Nat), .int .u64 (ti : Nat), .bool false, .string ro] 25)
                have HOWN := Lib.hid hown2
                have HB2 := Lib.hid (below_al HBk.out (.cells #[.int .u64 (ncp : Nat), .int .u64 (ti : Nat), .bool false, .string ro] 25))
                clear hown2 hcs hls hsu
                go_wp2_with (at_builtin; (refine wpList_append_own _ rfl _ _ 22 rfl W0.heap.size 25 i0 (.agg #[.int .u64 0, .int .u64 0, .bool false, .string ⟨#[]⟩]) 4 40 Try.underlying22 hin hz0 hz1 hz2 rfl (by decide) _ (F k).length (cellsL (F k)) rfl HOWN.out ⟨wr.heap.size, 0, none⟩ 1 1 [.int .u64 (ncp : Nat), .int .u64 (ti : Nat), .bool false, .string ro] rfl rfl (World.news_of_block (World.alloc_heap_new wr _)) (by simp [Value.oneCell']) (by unfold maxLen; omega) (by omega) HB2.out.size ?_; intro v3 w3 hown3 hgrow3 _; have HO3 := Lib.hid hown3; have HB3 := Lib.hid (HB2.out.grown hgrow3 HB2.out.size (fun r e => ((HOWN.out).lt r e).1)); clear hown3 hgrow3))
                go_roundw
                case rel => exact ⟨k + 1, by omega, by go_num, by rw [HCS.out, HLS.out]; exact HO3.out, HB3.out⟩
                case measure => simp [intOf]; omega
              · have g3 : decide ((keep : Int) < (d : Int)) = false := decide_eq_false (by omega)
                have g3n : decide (keep < d) = false := decide_eq_false (by omega)
                clear hdd
                rw [if_pos (.inr (.inl hkl))] at hsu
                have hcs : cellsL (F (k + 1)) = cellsL (F k) ++ [.int .u64 (ncp : Nat), .int .u64 (ti : Nat), .bool false, .string ro] := by rw [hsu, cellsL_snoc]; rfl
                have hls : (F (k + 1)).length = (F k).length + 1 := by rw [hsu]; simp
                have HCS := Lib.hid hcs
                have HLS := Lib.hid hls
                have hown2 := HOW.out.alloc (.cells #[.int .u64 (ncp : Nat), .int .u64 (ti : Nat), .bool false, .string ro] 25)
                have HOWN := Lib.hid hown2
                have HB2 := Lib.hid (below_al HBk.out (.cells #[.int .u64 (ncp : Nat), .int .u64 (ti : Nat), .bool false, .string ro] 25))
                clear hown2 hcs hls hsu
                go_wp2_with (at_builtin; (refine wpList_append_own _ rfl _ _ 22 rfl W0.heap.size 25 i0 (.agg #[.int .u64 0, .int .u64 0, .bool false, .string ⟨#[]⟩]) 4 40 Try.underlying22 hin hz0 hz1 hz2 rfl (by decide) _ (F k).length (cellsL (F k)) rfl HOWN.out ⟨wr.heap.size, 0, none⟩ 1 1 [.int .u64 (ncp : Nat), .int .u64 (ti : Nat), .bool false, .string ro] rfl rfl (World.news_of_block (World.alloc_heap_new wr _)) (by simp [Value.oneCell']) (by unfold maxLen; omega) (by omega) HB2.out.size ?_; intro v3 w3 hown3 hgrow3 _; have HO3 := Lib.hid hown3; have HB3 := Lib.hid (HB2.out.grown hgrow3 HB2.out.size (fun r e => ((HOWN.out).lt r e).1)); clear hown3 hgrow3))
                go_roundw
                case rel => exact ⟨k + 1, by omega, by go_num, by rw [HCS.out, HLS.out]; exact HO3.out, HB3.out⟩
                case measure => simp [intOf]; omega
            · have g2 : decide ((ti : Int) < (now : Int)) = false := decide_eq_false (by omega)
              have g2n : decide (ti < now) = false := decide_eq_false h11
              have h12 : ¬ ti + keep < now := by omega
              rw [if_pos (.inr (.inl hkl))] at hsu
              have hcs : cellsL (F (k + 1)) = cellsL (F k) ++ [.int .u64 (ncp : Nat), .int .u64 (ti : Nat), .bool false, .string ro] := by rw [hsu, cellsL_snoc]; rfl
              have hls : (F (k + 1)).length = (F k).length + 1 := by rw [hsu]; simp
              have HCS := Lib.hid hcs
              have HLS := Lib.hid hls
              have hown2 := HOW.out.alloc (.cells #[.int .u64 (ncp : Nat), .int .u64 (ti : Nat), .bool false, .string ro] 25)
              have HOWN := Lib.hid hown2
              have HB2 := Lib.hid (below_al HBk.out (.cells #[.int .u64 (ncp : Nat), .int .u64 (ti : Nat), .bool false, .string ro] 25))
              clear hown2 hcs hls hsu
              go_wp2_with (at_builtin; (refine wpList_append_own _ rfl _ _ 22 rfl W0.heap.size 25 i0 (.agg #[.int .u64 0, .int .u64 0, .bool false, .string ⟨#[]⟩]) 4 40 Try.underlying22 hin hz0 hz1 hz2 rfl (by decide) _ (F k).length (cellsL (F k)) rfl HOWN.out ⟨wr.heap.size, 0, none⟩ 1 1 [.int .u64 (ncp : Nat), .int .u64 (ti : Nat), .bool false, .string ro] rfl rfl (World.news_of_block (World.alloc_heap_new wr _)) (by simp [Value.oneCell']) (by unfold maxLen; omega) (by omega) HB2.out.size ?_; intro v3 w3 hown3 hgrow3 _; have HO3 := Lib.hid hown3; have HB3 := Lib.hid (HB2.out.grown hgrow3 HB2.out.size (fun r e => ((HOWN.out).lt r e).1)); clear hown3 hgrow3))
              go_roundw
              case rel => exact ⟨k + 1, by omega, by go_num, by rw [HCS.out, HLS.out]; exact HO3.out, HB3.out⟩
              case measure => simp [intOf]; omega
        · obtain ⟨m, hm2⟩ : ∃ m, m + 1 = N := ⟨N - 1, by omega⟩
          have hw := hwN m hm2
          have g8 : (k == m) = false := by simp; omega
          have g8' : ((k : Int) == (m : Int)) = false := by simp; omega
          cases sn with
          | true =>
            by_cases h11 : ti < now
            · have g2 : decide ((ti : Int) < (now : Int)) = true := decide_eq_true (by omega)
              have g2n : decide (ti < now) = true := decide_eq_true h11
              obtain ⟨d, hdd⟩ : ∃ d, now - ti = d := ⟨_, rfl⟩
              have hwd : IntKind.u64.wrap ((now : Int) - (ti : Int)) = (d : Int) := by rw [IntKind.wrap_u64]; omega
              by_cases h12 : ti + keep < now
              · have g3 : decide ((keep : Int) < (d : Int)) = true := decide_eq_true (by omega)
                have g3n : decide (keep < d) = true := decide_eq_true (by omega)
                clear hdd
                rw [if_pos (.inl rfl)] at hsu
                have hcs : cellsL (F (k + 1)) = cellsL (F k) ++ [.int .u64 (ncp : Nat), .int .u64 (ti : Nat), .bool true, .string ro] := by rw [hsu, cellsL_snoc]; rfl
                have hls : (F (k + 1)).length = (F k).length + 1 := by rw [hsu]; simp
                have HCS := Lib.hid hcs
                have HLS := Lib.hid hls
                have hown2 := HOW.out.alloc (.cells #[.int .u64 (ncp : Nat), .int .u64 (ti : Nat), .bool true, .string ro] 25)
                have HOWN := Lib.hid hown2
                have HB2 := Lib.hid (below_al HBk.out (.cells #[.int .u64 (ncp : Nat), .int .u64 (ti : Nat), .bool true, .string ro] 25))
                clear hown2 hcs hls hsu
                go_wp2_with (at_builtin; (refine wpList_append_own _ rfl _ _ 22 rfl W0.heap.size 25 i0 (.agg #[.int .u64 0, .int .u64 0, .bool false, .string ⟨#[]⟩]) 4 40 Try.underlying22 hin hz0 hz1 hz2 rfl (by decide) _ (F k).length (cellsL (F k)) rfl HOWN.out ⟨wr.heap.size, 0, none⟩ 1 1 [.int .u64 (ncp : Nat), .int .u64 (ti : Nat), .bool true, .string ro] rfl rfl (World.news_of_block (World.alloc_heap_new wr _)) (by simp [Value.oneCell']) (by unfold maxLen; omega) (by omega) HB2.out.size ?_; intro v3 w3 hown3 hgrow3 _; have HO3 := Lib.hid hown3; have HB3 := Lib.hid (HB2.out.grown hgrow3 HB2.out.size (fun r e => ((HOWN.out).lt r e).1)); clear hown3 hgrow3))
                go_roundw
                case rel => exact ⟨k + 1, by omega, by go_num, by rw [HCS.out, HLS.out]; exact HO3.out, HB3.out⟩
                case measure => simp [intOf]; omega
              · have g3 : decide ((keep : Int) < (d : Int)) = false := decide_eq_false (by omega)
                have g3n : decide (keep < d) = false := decide_eq_false (by omega)
                clear hdd
                rw [if_pos (.inl rfl)] at hsu
                have hcs : cellsL (F (k + 1)) = cellsL (F k) ++ [.int .u64 (ncp : Nat), .int .u64 (ti : Nat), .bool true, .string ro] := by rw [hsu, cellsL_snoc]; rfl
                have hls : (F (k + 1)).length = (F k).length + 1 := by rw [hsu]; simp
                have HCS := Lib.hid hcs
                have HLS := Lib.hid hls
                have hown2 := HOW.out.alloc (.cells #[.int .u64 (ncp : Nat), .int .u64 (ti : Nat), .bool true, .string ro] 25)
                have HOWN := Lib.hid hown2
                have HB2 := Lib.hid (below_al HBk.out (.cells #[.int .u64 (ncp : Nat), .int .u64 (ti : Nat), .bool true, .string ro] 25))
                clear hown2 hcs hls hsu
                go_wp2_with (at_builtin; (refine wpList_append_own _ rfl _ _ 22 rfl W0.heap.size 25 i0 (.agg #[.int .u64 0, .int .u64 0, .bool false, .string ⟨#[]⟩]) 4 40 Try.underlying22 hin hz0 hz1 hz2 rfl (by decide) _ (F k).length (cellsL (F k)) rfl HOWN.out ⟨wr.heap.size, 0, none⟩ 1 1 [.int .u64 (ncp : Nat), .int .u64 (ti : Nat), .bool true, .string ro] rfl rfl (World.news_of_block (World.alloc_heap_new wr _)) (by simp [Value.oneCell']) (by unfold maxLen; omega) (by omega) HB2.out.size ?_; intro v3 w3 hown3 hgrow3 _; have HO3 := Lib.hid hown3; have HB3 := Lib.hid (HB2.out.grown hgrow3 HB2.out.size (fun r e => ((HOWN.out).lt r e).1)); clear hown3 hgrow3))
                go_roundw
                case rel => exact ⟨k + 1, by omega, by go_num, by rw [HCS.out, HLS.out]; exact HO3.out, HB3.out⟩
                case measure => simp [intOf]; omega
            · have g2 : decide ((ti : Int) < (now : Int)) = false := decide_eq_false (by omega)
              have g2n : decide (ti < now) = false := decide_eq_false h11
              have h12 : ¬ ti + keep < now := by omega
              rw [if_pos (.inl rfl)] at hsu
              have hcs : cellsL (F (k + 1)) = cellsL (F k) ++ [.int .u64 (ncp : Nat), .int .u64 (ti : Nat), .bool true, .string ro] := by rw [hsu, cellsL_snoc]; rfl
              have hls : (F (k + 1)).length = (F k).length + 1 := by rw [hsu]; simp
              have HCS := Lib.hid hcs
              have HLS := Lib.hid hls
              have hown2 := HOW.out.alloc (.cells #[.int .u64 (ncp : Nat), .int .u64 (ti : Nat), .bool true, .string ro] 25)
              have HOWN := Lib.hid hown2
              have HB2 := Lib.hid (below_al HBk.out (.cells #[.int .u64 (ncp : Nat), .int .u64 (ti : Nat), .bool true, .string ro] 25))
              clear hown2 hcs hls hsu
              go_wp2_with (at_builtin; (refine wpList_append_own _ rfl _ _ 22 rfl W0.heap.size 25 i0 (.agg #[.int .u64 0, .int .u64 0, .bool false, .string ⟨#[]⟩]) 4 40 Try.underlying22 hin hz0 hz1 hz2 rfl (by decide) _ (F k).length (cellsL (F k)) rfl HOWN.out ⟨wr.heap.size, 0, none⟩ 1 1 [.int .u64 (ncp : Nat), .int .u64 (ti : Nat), .bool true, .string ro] rfl rfl (World.news_of_block (World.alloc_heap_new wr _)) (by simp [Value.oneCell']) (by unfold maxLen; omega) (by omega) HB2.out.size ?_; intro v3 w3 hown3 hgrow3 _; have HO3 := Lib.hid hown3; have HB3 := Lib.hid (HB2.out.grown hgrow3 HB2.out.size (fun r e => ((HOWN.out).lt r e).1)); clear hown3 hgrow3))
              go_roundw
              case rel => exact ⟨k + 1, by omega, by go_num, by rw [HCS.out, HLS.out]; exact HO3.out, HB3.out⟩
              case measure => simp [intOf]; omega
          | false =>
            by_cases h11 : ti < now
            · have g2 : decide ((ti : Int) < (now : Int)) = true := decide_eq_true (by omega)
              have g2n : decide (ti < now) = true := decide_eq_true h11
              obtain ⟨d, hdd⟩ : ∃ d, now - ti = d := ⟨_, rfl⟩
              have hwd : IntKind.u64.wrap ((now : Int) - (ti : Int)) = (d : Int) := by rw [IntKind.wrap_u64]; omega
              by_cases h12 : ti + keep < now
              · have g3 : decide ((keep : Int) < (d : Int)) = true := decide_eq_true (by omega)
                have g3n : decide (keep < d) = true := decide_eq_true (by omega)
                clear hdd
                rw [if_neg (fun hh => by rcases hh with hh | hh | hh; cases hh; exact hkl hh; exact hh h12), List.append_nil] at hsu
                have HS := Lib.hid hsu
                clear hsu
                go_wp2
                go_roundw
                case rel => exact ⟨k + 1, by omega, by go_num, by rw [HS.out]; exact HOW.out, HBk.out⟩
                case measure => simp [intOf]; omega
              · have g3 : decide ((keep : Int) < (d : Int)) = false := decide_eq_false (by omega)
                have g3n : decide (keep < d) = false := decide_eq_false (by omega)
                clear hdd
                rw [if_pos (.inr (.inr h12))] at hsu
                have hcs : cellsL (F (k + 1)) = cellsL (F k) ++ [.int .u64 (ncp : Nat), .int .u64 (ti : Nat), .bool false, .string ro] := by rw [hsu, cellsL_snoc]; rfl
                have hls : (F (k + 1)).length = (F k).length + 1 := by rw [hsu]; simp
                have HCS := Lib.hid hcs
                have HLS := Lib.hid hls
                have hown2 := HOW.out.alloc (.cells #[.int .u64 (ncp : Nat), .int .u64 (ti : Nat), .bool false, .string ro] 25)
                have HOWN := Lib.hid hown2
                have HB2 := Lib.hid (below_al HBk.out (.cells #[.int .u64 (ncp : Nat), .int .u64 (ti : Nat), .bool false, .string ro] 25))
                clear hown2 hcs hls hsu
                go_wp2_with (at_builtin; (refine wpList_append_own _ rfl _ _ 22 rfl W0.heap.size 25 i0 (.agg #[.int .u64 0, .int .u64 0, .bool false, .string ⟨#[]⟩]) 4 40 Try.underlying22 hin hz0 hz1 hz2 rfl (by decide) _ (F k).length (cellsL (F k)) rfl HOWN.out ⟨wr.heap.size, 0, none⟩ 1 1 [.int .u64 (ncp : Nat), .int .u64 (ti : Nat), .bool false, .string ro] rfl rfl (World.news_of_block (World.alloc_heap_new wr _)) (by simp [Value.oneCell']) (by unfold maxLen; omega) (by omega) HB2.out.size ?_; intro v3 w3 hown3 hgrow3 _; have HO3 := Lib.hid hown3; have HB3 := Lib.hid (HB2.out.grown hgrow3 HB2.out.size (fun r e => ((HOWN.out).lt r e).1)); clear hown3 hgrow3))
                go_roundw
                case rel => exact ⟨k + 1, by omega, by go_num, by rw [HCS.out, HLS.out]; exact HO3.out, HB3.out⟩
                case measure => simp [intOf]; omega
            · have g2 : decide ((ti : Int) < (now : Int)) = false := decide_eq_false (by omega)
              have g2n : decide (ti < now) = false := decide_eq_false h11
              have h12 : ¬ ti + keep < now := by omega
              rw [if_pos (.inr (.inr h12))] at hsu
              have hcs : cellsL (F (k + 1)) = cellsL (F k) ++ [.int .u64 (ncp : Nat), .int .u64 (ti : Nat), .bool false, .string ro] := by rw [hsu, cellsL_snoc]; rfl
              have hls : (F (k + 1)).length = (F k).length + 1 := by rw [hsu]; simp
              have HCS := Lib.hid hcs
              have HLS := Lib.hid hls
              have hown2 := HOW.out.alloc (.cells #[.int .u64 (ncp : Nat), .int .u64 (ti : Nat), .bool false, .string ro] 25)
              have HOWN := Lib.hid hown2
              have HB2 := Lib.hid (below_al HBk.out (.cells #[.int .u64 (ncp : Nat), .int .u64 (ti : Nat), .bool false, .string ro] 25))
              clear hown2 hcs hls hsu
              go_wp2_with (at_builtin; (refine wpList_append_own _ rfl _ _ 22 rfl W0.heap.size 25 i0 (.agg #[.int .u64 0, .int .u64 0, .bool false, .string ⟨#[]⟩]) 4 40 Try.underlying22 hin hz0 hz1 hz2 rfl (by decide) _ (F k).length (cellsL (F k)) rfl HOWN.out ⟨wr.heap.size, 0, none⟩ 1 1 [.int .u64 (ncp : Nat), .int .u64 (ti : Nat), .bool false, .string ro] rfl rfl (World.news_of_block (World.alloc_heap_new wr _)) (by simp [Value.oneCell']) (by unfold maxLen; omega) (by omega) HB2.out.size ?_; intro v3 w3 hown3 hgrow3 _; have HO3 := Lib.hid hown3; have HB3 := Lib.hid (HB2.out.grown hgrow3 HB2.out.size (fun r e => ((HOWN.out).lt r e).1)); clear hown3 hgrow3))
              go_roundw
              case rel => exact ⟨k + 1, by omega, by go_num, by rw [HCS.out, HLS.out]; exact HO3.out, HB3.out⟩
              case measure => simp [intOf]; omega
      · obtain rfl : N = k := by omega
        have HF := Lib.hid (HFin.out wr _ HOW.out HBk.out)
        obtain ⟨ao, co, rfl⟩ := HOP.out _ _ _ _ HOW.out
        obtain ⟨n, hn2⟩ : ∃ n, (F N).length = n := ⟨_, rfl⟩
        rw [hn2] at HF hfl ⊢
        have hw : IntKind.i64.wrap ((N : Int) - (n : Int)) = ((N - n : Nat) : Int) := by rw [IntKind.wrap_i64]; omega
        have hw2 : IntKind.i64.wrap ((N - n : Nat) : Int) = ((N - n : Nat) : Int) := by rw [IntKind.wrap_i64]; omega
        clear hn2
        go_wp2
        go_returns
        exact HF.out
  · rw [rightB_no hr] at hR
    have HF : Hid (∀ W, Below w.heap.size w W → ExpPost L now keep w (.returned (.tuple #[.slice none 0 0, .int .i64 0, .int .i64 90])) W) := fun W h => ⟨_, by rw [show expE L = 90 from if_neg hr, show expN L now keep = 0 from if_neg hr]; rfl, by rw [show expV L now keep = [] from if_neg hr]; exact Chs.nil W, h⟩
    obtain ⟨N, hN2⟩ : ∃ N, L.length = N := ⟨_, rfl⟩
    rw [hN2] at hR hn ⊢
    have HR := Lib.hid hR
    clear hR hL hr hN2 wL
    go_enter Try.func28, Try.ntmps28
    go_wp2_with (go_at_call 18; (with_reducible refine Calls.mono HR.out ?_); rintro e w1 ⟨rfl, hB2⟩)
    go_returns
    exact HF.out _ hB2
theorem add_any (v : Value) (L : List C) (c : C) (w : World) (hL : Chs w v L) : Calls Try.prog 14 #[v, c.val] w (TabPost (addV L c) (addE L c) w) := by
  have HB0 := Lib.hid (below_new w (boxO c))
  have hAA := Lib.hid (fun W (h : Below (w.alloc (boxO c)).heap.size (w.alloc (boxO c)) W) => (At.new w c).th h)
  have hR := fun W (h : Below w.heap.size w W) => right_any v L W (hL.below h)
  have hLb := fun W (h : Below w.heap.size w W) => hL.below h
  obtain ⟨a, cap, rfl, hn, hm⟩ := hL.parts
  by_cases hr : RightP L
  · rw [rightB_yes hr] at hR
    have h8 := hr.1
    obtain ⟨N, hN⟩ : ∃ N, L.length = N := ⟨_, rfl⟩
    by_cases h1 : N = 108
    · have hE : addE L c = 91 := by unfold addE; rw [if_pos hr, if_pos (by rw [hN]; exact h1)]
      have HF : Hid (∀ W, Below w.heap.size w W → TabPost (addV L c) (addE L c) w (.returned (.tuple #[.slice none 0 0, .int .i64 91])) W) := fun W hB => tab_no (if_neg (by rw [hE]; decide)) hE hB
      rw [hN] at hR hn ⊢
      subst h1
      have HR := Lib.hid hR
      clear hR hL hr hE hN h8 hLb
      obtain ⟨ncp, ti, sn, ro⟩ := c
      unfold C.val
      unfold boxO at HB0 hAA
      dsimp only at HB0 hAA ⊢
      go_enter Try.func14, Try.ntmps14
      go_wp2_with (go_at_call 18; (with_reducible refine Calls.mono (HR.out _ HB0.out) ?_); rintro e w1 ⟨rfl, hB1⟩)
      go_returns
      exact HF.out _ (below_th HB0.out hB1)
    · have hq : ((N : Int) == 108) = false := by simp; omega
      obtain ⟨i0, hin, hz0, hz1, hz2⟩ := info_parts infoCh
      have hl : (L ++ [c]).length = N + 1 := by rw [List.length_append, hN]; rfl
      have hcat : cellsL L ++ c.cells = cellsL (L ++ [c]) := (cellsL_snoc L c).symm
      have hRA := fun W v (h : Chs W v (L ++ [c])) => right_any v (L ++ [c]) W h
      have hown : ∀ W base v, W.ownsRow base 25 4 v (N + 1) (cellsL L ++ c.cells) → Chs W v (L ++ [c]) := fun W base v h => by
        rw [hcat] at h
        exact Chs.own (base := base) (by rw [hl]; exact h)
      have HOWN := Lib.hid hown
      have hE : addE L c = if RightP (L ++ [c]) then 0 else 90 := by unfold addE; rw [if_pos hr, if_neg (by rw [hN]; exact h1)]
      obtain ⟨N1, hN1⟩ : ∃ N1, N + 1 = N1 := ⟨_, rfl⟩
      obtain ⟨X, hX, hmk⟩ := make_fun N1 (by omega)
      have hw1 : IntKind.i64.wrap ((N : Int) + 1) = (N1 : Int) := by rw [IntKind.wrap_i64]; omega
      have rest : ∀ (x : Bool), (∀ W v, Chs W v (L ++ [c]) → Calls Try.prog 18 #[v] W (Ans W (.bool x))) →
          (x = true → ∀ W v, Chs W v (L ++ [c]) → Below w.heap.size w W → TabPost (addV L c) (addE L c) w (.returned (.tuple #[v, .int .i64 0])) W) →
          (x = false → ∀ W, Below w.heap.size w W → TabPost (addV L c) (addE L c) w (.returned (.tuple #[.slice none 0 0, .int .i64 90])) W) →
          Calls Try.prog 14 #[.slice a L.length cap, c.val] w (TabPost (addV L c) (addE L c) w) := fun x hRX hY hNo => by
        have hNb : N ≤ 108 := by omega
        have hN1b : N1 ≤ 109 := by omega
        have hN9 : 0 + L.length ≤ 100000 := by omega
        simp only [hN] at hR hn hLb ⊢
        have HN := Lib.hid hN
        have HR := Lib.hid hR
        have HRX := Lib.hid hRX
        have HLB := Lib.hid hLb
        clear hR hRX hL hr hE hN h8 hcat hown hl hRA hLb hN1
        obtain ⟨ncp, ti, sn, ro⟩ := c
        unfold C.val
        unfold boxO at HB0 hAA
        unfold C.cells at HOWN
        dsimp only at HB0 hAA HOWN ⊢
        go_enter Try.func14, Try.ntmps14
        go_wp2_with (go_at_call 18; (with_reducible refine Calls.mono (HR.out _ HB0.out) ?_); rintro e w1 ⟨rfl, hB1⟩)
        have hBB := Lib.hid (fun W (h : Below w1.heap.size w1 W) => below_th HB0.out (below_th hB1 h))
        have hself : Below w1.heap.size w1 w1.drew := (Below.refl _ w1).drew
        obtain ⟨x0, x1, x2, x3⟩ := (hAA.out _ (below_th hB1 hself)).c
        have hself1 : Below w1.heap.size w1 (w1.drew.alloc (.cells X 25)) := below_al hself _
        obtain ⟨y0, y1, y2, y3⟩ := (hAA.out _ (below_th hB1 hself1)).c
        obtain ⟨xa0, xa1, xa2, xa3⟩ := (hAA.out _ hB1).c
        obtain ⟨xb0, xb1, xb2, xb3⟩ := (hAA.out _ (below_th hB1 (below_new w1 (.cells X 25)))).c
        obtain ⟨xc0, xc1, xc2, xc3⟩ := (hAA.out _ (below_th hB1 (below_new w1 (.cells X 25)).drew)).c
        have HO1 : Hid ((w1.drew.alloc (.cells X 25)).ownsRow w1.heap.size 25 4 (.slice (some ⟨w1.heap.size, 0, none⟩) 0 N1) 0 []) := World.ownsRow_made w1.drew X N1 (Nat.le_refl _) (by unfold maxLen; omega) hX
        have HO3 : Hid (((w1.drew.alloc (.cells #[.int .u64 ncp, .int .u64 ti, .bool sn, .string ro] 25)).alloc (.cells X 25)).ownsRow w1.heap.size 25 4 (.slice (some ⟨w1.heap.size + 1, 0, none⟩) 0 N1) 0 []) := by
          have := World.ownsRow_made (base := w1.heap.size) (e := 25) (size := 4) (w1.drew.alloc (.cells #[.int .u64 ncp, .int .u64 ti, .bool sn, .string ro] 25)) X N1 (by simp) (by unfold maxLen; omega) hX
          rw [World.size_alloc] at this
          exact this
        go_region_law (first
          | (refine step_append_lies _ rfl (.tmp 21) (.tmp 23) 22 rfl w1.heap.size 25 i0 (.agg #[.int .u64 0, .int .u64 0, .bool false, .string ⟨#[]⟩]) 4 40 Try.underlying22 hin hz0 hz1 hz2 rfl (by decide) v4 N (cellsL L) rfl (HO4.out.alloc _) ⟨w4.heap.size, 0, none⟩ 1 1 [.int .u64 ncp, .int .u64 ti, .bool sn, .string ro] rfl rfl (World.news_of_block (World.alloc_heap_new w4 _)) (by simp [Value.oneCell']) (by decide) (by unfold maxLen; omega) (by omega) (by have := HB4.out.size; simp; omega) _ rfl ?_; intro g2 cap2 w6 hown6 hgrow6 hat6 hlt6; have hT6 := HOWN.out _ _ _ hown6; have hB6 : Below w1.heap.size w1 w6 := (below_al HB4.out (.cells #[.int .u64 ncp, .int .u64 ti, .bool sn, .string ro] 25)).grown hgrow6 (by have := HB4.out.size; simp; omega) (fun r e => (HO4.out.lt r e).1))
          | (refine step_append_lies _ rfl (.tmp 21) (.tmp 23) 22 rfl w1.heap.size 25 i0 (.agg #[.int .u64 0, .int .u64 0, .bool false, .string ⟨#[]⟩]) 4 40 Try.underlying22 hin hz0 hz1 hz2 rfl (by decide) v4 N (cellsL L) rfl HO4.out ⟨nb, 0, none⟩ 1 1 [.int .u64 ncp, .int .u64 ti, .bool sn, .string ro] rfl rfl (World.news_of_block hnb.out) (by simp [Value.oneCell']) (by decide) (by unfold maxLen; omega) (by omega) HB4.out.size _ rfl ?_; intro g2 cap2 w6 hown6 hgrow6 hat6 hlt6; have hT6 := HOWN.out _ _ _ hown6; have hB6 : Below w1.heap.size w1 w6 := HB4.out.grown hgrow6 HB4.out.size (fun r e => (HO4.out.lt r e).1))
          | (refine step_append_tab rfl (.tmp 19) (.tmp 20) rfl rfl w1.heap.size (.slice (some ⟨w1.heap.size, 0, none⟩) 0 N1) 0 [] rfl HO1.out _ L rfl (HLB.out _ (hBB.out _ (below_al hself _))) hN9 (by simp) ?_; intro v4 w4 hown4 hgrow4; rw [Nat.zero_add, List.nil_append, HN.out] at hown4; have hb4 : Below w1.heap.size w1 w4 := (below_al hself (.cells X 25)).grown hgrow4 (by simp) (fun r e => Nat.le_of_eq (by simpa [Value.ownBlock] using e)); obtain ⟨z0, z1, z2, z3⟩ := (hAA.out _ (below_th hB1 hb4)).c; have HO4 := Lib.hid hown4; have HB4 := Lib.hid hb4; clear hown4 hgrow4 hb4)
          | (refine step_append_tab rfl (.tmp 19) (.tmp 20) rfl rfl w1.heap.size (.slice (some ⟨w1.heap.size, 0, none⟩) 0 N1) 0 [] rfl (HO1.out.alloc _) _ L rfl (HLB.out _ (hBB.out _ (below_al (below_al hself _) _))) hN9 (by simp; omega) ?_; intro v4 w4 hown4 hgrow4; rw [Nat.zero_add, List.nil_append, HN.out] at hown4; have hb4 : Below w1.heap.size w1 w4 := (below_al (below_al hself (.cells X 25)) (.cells #[.int .u64 ncp, .int .u64 ti, .bool sn, .string ro] 25)).grown hgrow4 (by simp; omega) (fun r e => Nat.le_of_eq (by simpa [Value.ownBlock] using e)); obtain ⟨nb, hnbe⟩ : ∃ nb, w1.heap.size + 1 = nb := ⟨_, rfl⟩; have hnb : Hid (w4.heap[nb]? = some (.cells #[.int .u64 ncp, .int .u64 ti, .bool sn, .string ro] 25 (0, 0))) := (hgrow4.block nb (by simp; omega) (by simp [Value.ownBlock]; omega)).trans (by have := World.alloc_heap_new (w1.drew.alloc (.cells X 25)) (.cells #[.int .u64 ncp, .int .u64 ti, .bool sn, .string ro] 25); rw [World.size_alloc] at this; rw [← hnbe]; exact this); have HO4 := Lib.hid hown4; have HB4 := Lib.hid hb4; clear hown4 hgrow4 hb4)
          | (refine step_append_tab rfl (.tmp 19) (.tmp 20) rfl rfl w1.heap.size (.slice (some ⟨w1.heap.size + 1, 0, none⟩) 0 N1) 0 [] rfl HO3.out _ L rfl (HLB.out _ (hBB.out _ (below_al (below_al hself _) _))) hN9 (by simp; omega) ?_; intro v4 w4 hown4 hgrow4; rw [Nat.zero_add, List.nil_append, HN.out] at hown4; have hb4 : Below w1.heap.size w1 w4 := (below_al (below_al hself (.cells #[.int .u64 ncp, .int .u64 ti, .bool sn, .string ro] 25)) (.cells X 25)).grown hgrow4 (by simp; omega) (fun r e => by simp [Value.ownBlock] at e; exact Nat.le_trans (Nat.le_succ _) (Nat.le_of_eq e)); obtain ⟨nb, hnbe⟩ : ∃ nb, w1.heap.size = nb := ⟨_, rfl⟩; have hnb : Hid (w4.heap[nb]? = some (.cells #[.int .u64 ncp, .int .u64 ti, .bool sn, .string ro] 25 (0, 0))) := (hgrow4.block nb (by simp; omega) (by simp [Value.ownBlock]; omega)).trans ((Below.heap_alloc _ _ _ (by simp; omega)).trans (by rw [← hnbe]; exact World.alloc_heap_new w1.drew _)); have HO4 := Lib.hid hown4; have HB4 := Lib.hid hb4; clear hown4 hgrow4 hb4))
        all_goals
          have hRX := HRX.out _ _ hT6
          have HT6 := Lib.hid hT6
          have HB6 := Lib.hid hB6
          clear hT6 hB6 hown6 hgrow6
          cases x with
          | true =>
            have hY2 := hY rfl
            go_wp2_with (go_at_call 18; (with_reducible refine Calls.mono hRX ?_); rintro e w7 ⟨rfl, hB7⟩)
            go_returns
            exact hY2 _ _ (HT6.out.below hB7) (below_th (hBB.out _ HB6.out) hB7)
          | false =>
            have hN2 := hNo rfl
            go_wp2_with (go_at_call 18; (with_reducible refine Calls.mono hRX ?_); rintro e w7 ⟨rfl, hB7⟩)
            go_returns
            exact hN2 _ (below_th (hBB.out _ HB6.out) hB7)
      by_cases h2 : RightP (L ++ [c])
      · rw [if_pos h2] at hE
        rw [rightB_yes h2] at hRA
        exact rest true hRA (fun _ W v hT hB => tab_yes (if_pos hE) hE hT hB) (fun h => by cases h)
      · rw [if_neg h2] at hE
        rw [rightB_no h2] at hRA
        exact rest false hRA (fun h => by cases h) (fun _ W hB => tab_no (if_neg (by rw [hE]; decide)) hE hB)
  · rw [rightB_no hr] at hR
    have hE : addE L c = 90 := if_neg hr
    have HF : Hid (∀ W, Below w.heap.size w W → TabPost (addV L c) (addE L c) w (.returned (.tuple #[.slice none 0 0, .int .i64 90])) W) := fun W hB => tab_no (if_neg (by rw [hE]; decide)) hE hB
    obtain ⟨N, hN⟩ : ∃ N, L.length = N := ⟨_, rfl⟩
    rw [hN] at hR hn ⊢
    have HR := Lib.hid hR
    clear hR hL hr hE hN hLb
    obtain ⟨ncp, ti, sn, ro⟩ := c
    unfold C.val
    unfold boxO at HB0 hAA
    dsimp only at HB0 hAA ⊢
    go_enter Try.func14, Try.ntmps14
    go_wp2_with (go_at_call 18; (with_reducible refine Calls.mono (HR.out _ HB0.out) ?_); rintro e w1 ⟨rfl, hB1⟩)
    go_returns
    exact HF.out _ (below_th HB0.out hB1)
end
end Go.Proofs.Ytoedjemelblpaaa.Cps.R
