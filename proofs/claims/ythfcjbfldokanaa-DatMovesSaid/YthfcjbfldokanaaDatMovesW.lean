/- DatMoves, walked. -/
import Derived.Test.YthfcjbfldokanaaDatCnt
import Derived.Test.YthfcjbfldokanaaDatArgs
namespace Go.Proofs.Ythfcjbfldokanaa.Dat
open Go.RowKit
attribute [local go_sem] Oper.semAt_some
set_option linter.unusedVariables false

/-- how many lie in the first segments -/
def cntUpto (L : List T) (l : List Nat) (k : Nat) : Nat := (l.filter fun i => decide (segOf L i < k)).length
theorem cntUpto_zero (L : List T) (l : List Nat) : cntUpto L l 0 = 0 := by
  unfold cntUpto
  rw [List.filter_eq_nil_iff.2 (fun i _ => by simp)]
  rfl
theorem cntUpto_succ (L : List T) (l : List Nat) (k : Nat) : cntUpto L l (k + 1) = cntUpto L l k + cnt L l k := by
  unfold cntUpto cnt
  induction l with
  | nil => rfl
  | cons i l ih =>
    by_cases h1 : segOf L i < k
    · have h2 : segOf L i < k + 1 := by omega
      have h3 : ¬ segOf L i = k := by omega
      rw [List.filter_cons_of_pos (by simpa using h2), List.filter_cons_of_pos (by simpa using h1), List.filter_cons_of_neg (by simpa using h3)]
      simp only [List.length_cons]
      omega
    · by_cases h3 : segOf L i = k
      · have h2 : segOf L i < k + 1 := by omega
        rw [List.filter_cons_of_pos (by simpa using h2), List.filter_cons_of_neg (by simpa using h1), List.filter_cons_of_pos (by simpa using h3)]
        simp only [List.length_cons]
        omega
      · have h2 : ¬ segOf L i < k + 1 := by omega
        rw [List.filter_cons_of_neg (by simpa using h2), List.filter_cons_of_neg (by simpa using h1), List.filter_cons_of_neg (by simpa using h3)]
        exact ih
theorem cntUpto_all {L : List T} {l : List Nat} {n : Nat} (h : fitP L l n) : cntUpto L l n = l.length := by
  unfold cntUpto
  rw [List.filter_eq_self.2 (fun i hi => by simp [h i hi])]
theorem cntUpto_le (L : List T) (l : List Nat) (k : Nat) : cntUpto L l k ≤ l.length := List.length_filter_le _ _
theorem right_fit {L : List T} (h : RightP L) : fitP L (cnd L) 256 := fun i hi => by
  have := (h.stands (cand_mem hi).2).1.2
  unfold segOf
  omega
theorem cntOk_256 {L : List T} : cntOk L 256 ↔ RightP L := ⟨fun h => h.1, fun h => ⟨h, by decide, right_fit h⟩⟩
theorem Ints.at {w : World} {b off n cap : Nat} {C : List Int} (hn : C.length = n) (h : Ints w (.slice (some ⟨b, off, none⟩) n cap) C) {k : Nat} {x : Int} (hk : C[k]? = some x) : w.cell? ⟨b, off + k, none⟩ = some (.int .i64 x) := by
  subst hn
  obtain ⟨b2, o2, e, h⟩ := Lies.read h (j := k) (u := .int .i64 x) (by rw [List.getElem?_map, hk]; rfl)
  cases e
  exact h
section
set_option maxRecDepth 100000
set_option maxHeartbeats 4000000
theorem mov_at (M X : List T) (i ph N : Nat) (h : movOk M i ph) (hX : M.set i (movT M i ph) = X) (hN : M.length = N) (hi : i < 4294967296) (v : Value) (W : World) (hL : Trs W v M) :
    Calls Try.prog 13 #[v, .int .u32 i, .int .u32 ph] W fun e w' => ∃ b off c, e = .returned (.tuple #[.slice (some ⟨b, off, none⟩) N c, .int .i64 0]) ∧ Hid (Trs w' (.slice (some ⟨b, off, none⟩) N c) X) ∧ N ≤ c ∧ c ≤ 9223372036854775807 ∧ Below W.heap.size W w' := by
  refine (move_any v M i ph W hL hi).mono ?_
  rintro e w' ⟨v', rfl, h1, h2⟩
  have hv : movV M i ph = X := by unfold movV; rw [if_pos h, hX]
  rw [hv] at h1
  have hl : X.length = N := by rw [← hX, List.length_set, hN]
  have hp : 0 < X.length := by rw [hl, ← hN]; have := h.2.1.1; omega
  obtain ⟨b, off, c, rfl, _⟩ := h1.at (k := 0) hp
  obtain ⟨a, c2, e2, g1, g2⟩ := h1.parts
  cases e2
  rw [hl] at h1 g1
  exact ⟨b, off, c, by rw [hl, movE_ok.2 h], h1, g1, g2, h2⟩
theorem cnt_at (M : List T) (h : RightP M) (v : Value) (W : World) (hL : Trs W v M) :
    Calls Try.prog 26 #[v, .int .i64 256] W fun e w' => ∃ b off c, e = .returned (.tuple #[.slice (some ⟨b, off, none⟩) 256 c, .int .i64 0]) ∧ Hid (∀ W2, Below w'.heap.size w' W2 → ∀ k, k < 256 → W2.cell? ⟨b, off + k, none⟩ = some (.int .i64 (cnt M (cnd M) k : Nat))) ∧ 256 ≤ c ∧ c ≤ 9223372036854775807 ∧ Below W.heap.size W w' := by
  have hok : cntOk M 256 := cntOk_256.2 h
  refine (counts_any v M 256 W hL).mono ?_
  rintro e w' ⟨v', rfl, h1, h2⟩
  have hv : cntV M 256 = cntL M (cnd M) 256 := by unfold cntV; rw [if_pos hok]; rfl
  rw [hv] at h1
  have hl := cntL_length M (cnd M) 256
  obtain ⟨a, c, e, g1, ⟨g2, g3⟩, g4, g5⟩ := h1
  obtain ⟨b, off, rfl, _⟩ := g5 (by rw [hl]; decide)
  subst e
  rw [hl] at g1
  refine ⟨b, off, c, by rw [hl, show cntE M 256 = 0 from if_pos hok], fun W2 hB k hk => ?_, g1, by unfold maxLen at g2; omega, h2⟩
  have h3 : Ints w' (.slice (some ⟨b, off, none⟩) 256 c) (cntL M (cnd M) 256) := ⟨_, c, by rw [hl], by rw [hl]; exact g1, ⟨g2, g3⟩, g4, g5⟩
  exact (h3.below hB).at hl (cntL_get hk)
theorem DatMoves_walk (v : Value) (L : List T) (i ph : Int) (w : World) (hL : Trs w v L) (wL : ∀ o ∈ L, TOk o) (k1 : (Lit.int .u32 i).wf = true) (k2 : (Lit.int .u32 ph).wf = true) :
    Calls Try.prog 7 #[v, .int .u32 i, .int .u32 ph] w fun e w' => e = .returned (.bool true) ∧ Below w.heap.size w w' := by
  have hi9 := (bounds32 k1).2
  obtain ⟨i, rfl⟩ := Int.eq_ofNat_of_zero_le (bounds32 k1).1
  obtain ⟨ph, rfl⟩ := Int.eq_ofNat_of_zero_le (bounds32 k2).1
  have hi : i < 4294967296 := by omega
  clear k1 k2 wL hi9
  obtain ⟨M, hM⟩ : ∃ M, L.take 2000 = M := ⟨_, rfl⟩
  obtain ⟨N, hN⟩ : ∃ N, M.length = N := ⟨_, rfl⟩
  have HCut := Lib.hid (fun W h => cut_at v L M N hM hN W h)
  clear hM
  have HL := Lib.hid hL
  by_cases hr : RightP M
  · have hN1 := hr.1
    have HCo := Lib.hid (fun v W h => cnt_at M hr v W h)
    obtain ⟨U, hU⟩ : ∃ U, (cnd M).length = U := ⟨_, rfl⟩
    have hUN : U ≤ N := by rw [← hU, ← hN]; exact cand_le M M.length
    have HUp : Hid (∀ k, cntUpto M (cnd M) (k + 1) = cntUpto M (cnd M) k + cnt M (cnd M) k ∧ cntUpto M (cnd M) k ≤ U ∧ cntUpto M (cnd M) (k + 1) ≤ U) := fun k => ⟨cntUpto_succ _ _ _, hU ▸ cntUpto_le _ _ _, hU ▸ cntUpto_le _ _ _⟩
    have HU0 := Lib.hid (cntUpto_zero M (cnd M))
    have HUa : Hid (cntUpto M (cnd M) 256 = U) := by unfold Hid; rw [cntUpto_all (right_fit hr), hU]
    have HCs := Lib.hid (fun k => cand_succ M k)
    have HCe : Hid ((cand M N).length = U) := by unfold Hid; rw [← hN]; exact hU
    have HCl : Hid (∀ k, k ≤ N → (cand M k).length ≤ U) := fun k hk => by
      have := congrArg List.length (cand_prefix M (show k ≤ M.length by omega))
      rw [List.length_take] at this
      rw [← hU]
      unfold cnd
      omega
    have HNN := Lib.hid hN
    have HMk := Lib.hid (fun (W : World) (a : Option Addr) (cap k : Nat) (h : Trs W (.slice a N cap) M) (hk : k < N) => h.at (k := k) (by rw [hN]; exact hk))
    have hqz := fun (s : T) (W : World) => neqZ s.phys s.start s.fin W
    have HQz : Hid (∀ (s : T) (W : World), (binOp .neq 40 (.agg #[.int .u32 s.phys, .int .u64 s.start, .int .u64 s.fin]) (.agg #[.int .u32 0, .int .u64 0, .int .u64 0])).run Try.prog W = .ok (.bool (!freeB s)) W) := hqz
    have hN9 : N ≤ 1860 := by omega
    by_cases hmo : movOk M i ph
    · obtain ⟨X, hX⟩ : ∃ X, M.set i (movT M i ph) = X := ⟨_, rfl⟩
      have hiN : i < N := by rw [← hN]; exact hmo.2.1.1
      have HMo := Lib.hid (fun v W h => mov_at M X i ph N hmo hX hN hi v W h)
      have hXl : X.length = N := by rw [← hX, List.length_set, hN]
      have htx : ∀ j, tr X j = if j = i then movT M i ph else tr M j := fun j => by rw [← hX]; exact tr_set _ (by omega)
      have HXk : Hid (∀ (W : World) (b off c k : Nat), Trs W (.slice (some ⟨b, off, none⟩) N c) X → k < N → ¬ k = i → W.cell? ⟨b, off + k * 3, none⟩ = some (.int .u32 (tr M k).phys) ∧ W.cell? ⟨b, off + k * 3 + 1, none⟩ = some (.int .u64 (tr M k).start) ∧ W.cell? ⟨b, off + k * 3 + 2, none⟩ = some (.int .u64 (tr M k).fin)) := fun W b off c k h hk hki => by
        have := h.get hXl (k := k) hk
        rw [htx, if_neg hki] at this
        exact this
      have HXi : Hid (∀ (W : World) (b off c k : Nat), Trs W (.slice (some ⟨b, off, none⟩) N c) X → k = i → W.cell? ⟨b, off + k * 3, none⟩ = some (.int .u32 ph) ∧ W.cell? ⟨b, off + k * 3 + 1, none⟩ = some (.int .u64 (tr M k).start) ∧ W.cell? ⟨b, off + k * 3 + 2, none⟩ = some (.int .u64 (tr M k).fin)) := fun W b off c k h hki => by
        have := h.get hXl (k := k) (by omega)
        rw [htx, if_pos hki] at this
        rw [hki] at this ⊢
        exact this
      have HQ : Hid (∀ (W : World) (p s f : Nat), (binOp .neq 40 (.agg #[.int .u32 p, .int .u64 s, .int .u64 f]) (.agg #[.int .u32 p, .int .u64 s, .int .u64 f])).run Try.prog W = .ok (.bool false) W) := fun W p s f => by
        have := neqT ⟨p, s, f⟩ ⟨p, s, f⟩ W
        rw [decide_eq_true rfl] at this
        exact this
      have HAn := Lib.hid (fun (W : World) (y : T) => At.new W y)
      have HBn := Lib.hid (fun (W : World) (y : T) => below_new W (boxO y))
      unfold boxO at HAn HBn
      have wi : IntKind.i64.wrap (i : Int) = (i : Int) := by rw [IntKind.wrap_i64]; omega
      have wu : IntKind.u64.wrap (i : Int) = (i : Int) := by rw [IntKind.wrap_u64]; omega
      have wn : IntKind.u64.wrap (N : Int) = (N : Int) := by rw [IntKind.wrap_u64]; omega
      have g1 : ¬ (N : Int) ≤ (i : Int) := by omega
      have g1' : decide ((N : Int) ≤ (i : Int)) = false := decide_eq_false g1
      have g1n : decide (N ≤ i) = false := decide_eq_false (by omega)
      clear hL hr hN1 hU hqz hmo hX hXl htx hN
      obtain ⟨W0, rfl⟩ : ∃ W0 : World, W0 = w := ⟨_, rfl⟩
      go_enter Try.func7, Try.ntmps7
      go_wp2_with (first
        | (go_at_call 9; (with_reducible refine Calls.mono (shown_any _) ?_); rintro e w1 ⟨rfl, hB1⟩; have HL1 := Lib.hid (HL.out.below hB1))
        | (go_at_call 10; (with_reducible refine Calls.mono (HCut.out _ HL1.out) ?_); rintro e w2 ⟨a, cap, rfl, HT, hc1, hc2, rfl⟩)
        | (go_at_call 13; (with_reducible refine Calls.mono (HMo.out _ _ HT.out) ?_); rintro e w3 ⟨b, off, c, rfl, HX3, hc3, hc4, hB3⟩; have HM3 := Lib.hid (HT.out.below hB3); have HB3 := Lib.hid (below_th hB1 hB3); clear hB3))
      go_loopw [10, 11] (fun j _ wr => ∃ k : Nat, k ≤ N ∧ j = .int .i64 (k : Int) ∧ Hid (Below w3.heap.size w3 wr)) (fun j _ _ => N - (intOf j).toNat)
      case atStart => exact ⟨0, by omega, rfl, Below.refl _ _⟩
      case round =>
        obtain ⟨k, hk, rfl, HBk⟩ := hrel
        by_cases hlt : k < N
        · obtain ⟨b2, o2, c2, e2, x0, x1, x2⟩ := HMk.out _ _ _ k (HM3.out.below HBk.out) hlt
          rw [HNN.out] at e2
          cases e2
          by_cases hki : k = i
          · have hqi : ((k : Int) == (i : Int)) = true := by simp [hki]
            obtain ⟨y0, y1, y2⟩ := HXi.out _ _ _ _ k (HX3.out.below (below_th HBk.out (HBn.out wr ⟨ph, (tr M k).start, (tr M k).fin⟩))) hki
            dsimp only at y0 y1 y2
            have hqq := fun W => HQ.out W ph (tr M k).start (tr M k).fin
            have HB9 := Lib.hid (below_th HBk.out (HBn.out wr ⟨ph, (tr M k).start, (tr M k).fin⟩))
            dsimp only at HB9
            clear hki
            go_wp2
            go_quiet (fail)
            go_wp2
            go_roundw
            case rel => exact ⟨k + 1, by omega, by go_num, below_drewN HB9.out _⟩
            case measure => simp [intOf]; omega
          · have hqi : ((k : Int) == (i : Int)) = false := by simp; omega
            obtain ⟨y0, y1, y2⟩ := HXk.out _ _ _ _ k (HX3.out.below (below_th HBk.out (HBn.out wr (tr M k)))) hlt hki
            have hqq := fun W => HQ.out W (tr M k).phys (tr M k).start (tr M k).fin
            have HB9 := Lib.hid (below_th HBk.out (HBn.out wr (tr M k)))
            clear hki
            go_wp2
            go_quiet (fail)
            go_wp2
            go_roundw
            case rel => exact ⟨k + 1, by omega, by go_num, below_drewN HB9.out _⟩
            case measure => simp [intOf]; omega
        · obtain rfl : N = k := by omega
          have HM4 := Lib.hid (HM3.out.below HBk.out)
          have HB4 := Lib.hid (below_th HB3.out HBk.out)
          go_wp2_with (first
            | (go_at_call 26; (with_reducible refine Calls.mono (HCo.out _ _ HM4.out) ?_); rintro e w5 ⟨b5, o5, c5, rfl, HCC, hc5, hc6, hB5⟩; have HM5 := Lib.hid (HM4.out.below hB5); have HB5 := Lib.hid (below_th HB4.out hB5); clear hB5))
          go_loopw [14, 15] (fun s j wr => ∃ k : Nat, k ≤ 256 ∧ j = .int .i64 (k : Int) ∧ s = .int .i64 (cntUpto M (cnd M) k : Nat) ∧ Hid (Below w5.heap.size w5 wr)) (fun _ j _ => 256 - (intOf j).toNat)
          case atStart => exact ⟨0, by omega, rfl, by rw [HU0.out]; rfl, Below.refl _ _⟩
          case round =>
            obtain ⟨k, hk, rfl, rfl, HBq⟩ := hrel
            by_cases hlt : k < 256
            · have x0 := HCC.out _ HBq.out k hlt
              obtain ⟨u1, u2, u3⟩ := HUp.out k
              have hwk : IntKind.i64.wrap ((cntUpto M (cnd M) k : Nat) + (cnt M (cnd M) k : Nat) : Int) = ((cntUpto M (cnd M) k + cnt M (cnd M) k : Nat) : Int) := by rw [IntKind.wrap_i64]; omega
              have HU1 := Lib.hid u1
              clear u1 u2 u3
              go_wp2
              go_roundw
              case rel => exact ⟨k + 1, by omega, by go_num, by rw [HU1.out]; rfl, HBq.out⟩
              case measure => simp [intOf]; omega
            · obtain rfl : 256 = k := by omega
              rw [HUa.out]
              have HM6 := Lib.hid (HM5.out.below HBq.out)
              have HB6 := Lib.hid (below_th HB5.out HBq.out)
              go_wp2
              go_loopw [14, 16] (fun s j wr2 => ∃ k d : Nat, k ≤ N ∧ j = .int .i64 (k : Int) ∧ s = .int .i64 (d : Int) ∧ Hid (d + (cand M k).length = U) ∧ Hid (Below wr.heap.size wr wr2)) (fun _ j _ => N - (intOf j).toNat)
              case atStart => exact ⟨0, U, by omega, rfl, rfl, by show U + ([] : List Nat).length = U; rfl, Below.refl _ _⟩
              case round =>
                obtain ⟨k, d, hk, rfl, rfl, HD, HBr⟩ := hrel
                by_cases hlt : k < N
                · obtain ⟨b7, o7, c7, e7, x0, x1, x2⟩ := HMk.out _ _ _ k (HM6.out.below HBr.out) hlt
                  rw [HNN.out] at e7
                  cases e7
                  have hqq := fun W => HQz.out (tr M k) W
                  have hcs := HCs.out k
                  have hcl := HCl.out (k + 1) (by omega)
                  by_cases hu : usedP M k
                  · rw [show freeB (tr M k) = false from decide_eq_false hu] at hqq
                    have hqq2 : ∀ W : World, (binOp .neq 40 (.agg #[.int .u32 (tr M k).phys, .int .u64 (tr M k).start, .int .u64 (tr M k).fin]) (.agg #[.int .u32 0, .int .u64 0, .int .u64 0])).run Try.prog W = .ok (.bool true) W := hqq
                    rw [if_pos hu] at hcs
                    have hcl2 : (cand M (k + 1)).length = (cand M k).length + 1 := by rw [hcs, List.length_append]; rfl
                    have hd1 := HD.out
                    obtain ⟨d2, rfl⟩ : ∃ d2, d = d2 + 1 := ⟨d - 1, by omega⟩
                    have HD2 : Hid (d2 + (cand M (k + 1)).length = U) := by unfold Hid; omega
                    have hwd : IntKind.i64.wrap (d2 : Int) = (d2 : Int) := by rw [IntKind.wrap_i64]; omega
                    clear hqq hcs hcl hcl2 hd1 hu HD
                    go_wp2
                    go_roundw
                    case rel => exact ⟨k + 1, d2, by omega, by go_num, by go_num, HD2.out, HBr.out⟩
                    case measure => simp [intOf]; omega
                  · rw [show freeB (tr M k) = true from decide_eq_true (Classical.byContradiction hu)] at hqq
                    have hqq2 : ∀ W : World, (binOp .neq 40 (.agg #[.int .u32 (tr M k).phys, .int .u64 (tr M k).start, .int .u64 (tr M k).fin]) (.agg #[.int .u32 0, .int .u64 0, .int .u64 0])).run Try.prog W = .ok (.bool false) W := hqq
                    rw [if_neg hu, List.append_nil] at hcs
                    have HD2 : Hid (d + (cand M (k + 1)).length = U) := by unfold Hid; rw [hcs]; exact HD.out
                    clear hqq hcs hcl hu HD
                    go_wp2
                    go_roundw
                    case rel => exact ⟨k + 1, d, by omega, by go_num, rfl, HD2.out, HBr.out⟩
                    case measure => simp [intOf]; omega
                · obtain rfl : N = k := by omega
                  have hd1 := HD.out
                  rw [HCe.out] at hd1
                  obtain rfl : d = 0 := by omega
                  clear hd1 HD
                  go_wp2
                  go_ret
                  exact ⟨rfl, below_th HB6.out HBr.out⟩
    · have hme : ((movE M i ph) == 0) = false := by simp; exact fun h => hmo (movE_ok.1 h)
      have hmv : ∀ v W, Trs W v M → Calls Try.prog 13 #[v, .int .u32 i, .int .u32 ph] W fun e w' => ∃ v', e = .returned (.tuple #[v', .int .i64 (movE M i ph)]) ∧ Below W.heap.size W w' := fun v W h => by
        refine (move_any v M i ph W h hi).mono ?_
        rintro e w' ⟨v', rfl, _, h2⟩
        exact ⟨v', rfl, h2⟩
      obtain ⟨n, hn⟩ : ∃ n, movE M i ph = n := ⟨_, rfl⟩
      rw [hn] at hme
      simp only [hn] at hmv
      have HMo := Lib.hid hmv
      clear hL hr hN1 hU hqz hmo hN hmv hn
      obtain ⟨W0, rfl⟩ : ∃ W0 : World, W0 = w := ⟨_, rfl⟩
      go_enter Try.func7, Try.ntmps7
      go_wp2_with (first
        | (go_at_call 9; (with_reducible refine Calls.mono (shown_any _) ?_); rintro e w1 ⟨rfl, hB1⟩; have HL1 := Lib.hid (HL.out.below hB1))
        | (go_at_call 10; (with_reducible refine Calls.mono (HCut.out _ HL1.out) ?_); rintro e w2 ⟨a, cap, rfl, HT, hc1, hc2, rfl⟩)
        | (go_at_call 13; (with_reducible refine Calls.mono (HMo.out _ _ HT.out) ?_); rintro e w3 ⟨v3, rfl, hB3⟩; have HM3 := Lib.hid (HT.out.below hB3); have HB3 := Lib.hid (below_th hB1 hB3); clear hB3)
        | (go_at_call 26; (with_reducible refine Calls.mono (HCo.out _ _ HM3.out) ?_); rintro e w5 ⟨b5, o5, c5, rfl, HCC, hc5, hc6, hB5⟩; have HM5 := Lib.hid (HM3.out.below hB5); have HB5 := Lib.hid (below_th HB3.out hB5); clear hB5))
      go_loopw [14, 15] (fun s j wr => ∃ k : Nat, k ≤ 256 ∧ j = .int .i64 (k : Int) ∧ s = .int .i64 (cntUpto M (cnd M) k : Nat) ∧ Hid (Below w5.heap.size w5 wr)) (fun _ j _ => 256 - (intOf j).toNat)
      case atStart => exact ⟨0, by omega, rfl, by rw [HU0.out]; rfl, Below.refl _ _⟩
      case round =>
        obtain ⟨k, hk, rfl, rfl, HBq⟩ := hrel
        by_cases hlt : k < 256
        · have x0 := HCC.out _ HBq.out k hlt
          obtain ⟨u1, u2, u3⟩ := HUp.out k
          have hwk : IntKind.i64.wrap ((cntUpto M (cnd M) k : Nat) + (cnt M (cnd M) k : Nat) : Int) = ((cntUpto M (cnd M) k + cnt M (cnd M) k : Nat) : Int) := by rw [IntKind.wrap_i64]; omega
          have HU1 := Lib.hid u1
          clear u1 u2 u3
          go_wp2
          go_roundw
          case rel => exact ⟨k + 1, by omega, by go_num, by rw [HU1.out]; rfl, HBq.out⟩
          case measure => simp [intOf]; omega
        · obtain rfl : 256 = k := by omega
          rw [HUa.out]
          have HM6 := Lib.hid (HM5.out.below HBq.out)
          have HB6 := Lib.hid (below_th HB5.out HBq.out)
          go_wp2
          go_loopw [14, 16] (fun s j wr2 => ∃ k d : Nat, k ≤ N ∧ j = .int .i64 (k : Int) ∧ s = .int .i64 (d : Int) ∧ Hid (d + (cand M k).length = U) ∧ Hid (Below wr.heap.size wr wr2)) (fun _ j _ => N - (intOf j).toNat)
          case atStart => exact ⟨0, U, by omega, rfl, rfl, by show U + ([] : List Nat).length = U; rfl, Below.refl _ _⟩
          case round =>
            obtain ⟨k, d, hk, rfl, rfl, HD, HBr⟩ := hrel
            by_cases hlt : k < N
            · obtain ⟨b7, o7, c7, e7, x0, x1, x2⟩ := HMk.out _ _ _ k (HM6.out.below HBr.out) hlt
              rw [HNN.out] at e7
              cases e7
              have hqq := fun W => HQz.out (tr M k) W
              have hcs := HCs.out k
              have hcl := HCl.out (k + 1) (by omega)
              by_cases hu : usedP M k
              · rw [show freeB (tr M k) = false from decide_eq_false hu] at hqq
                have hqq2 : ∀ W : World, (binOp .neq 40 (.agg #[.int .u32 (tr M k).phys, .int .u64 (tr M k).start, .int .u64 (tr M k).fin]) (.agg #[.int .u32 0, .int .u64 0, .int .u64 0])).run Try.prog W = .ok (.bool true) W := hqq
                rw [if_pos hu] at hcs
                have hcl2 : (cand M (k + 1)).length = (cand M k).length + 1 := by rw [hcs, List.length_append]; rfl
                have hd1 := HD.out
                obtain ⟨d2, rfl⟩ : ∃ d2, d = d2 + 1 := ⟨d - 1, by omega⟩
                have HD2 : Hid (d2 + (cand M (k + 1)).length = U) := by unfold Hid; omega
                have hwd : IntKind.i64.wrap (d2 : Int) = (d2 : Int) := by rw [IntKind.wrap_i64]; omega
                clear hqq hcs hcl hcl2 hd1 hu HD
                go_wp2
                go_roundw
                case rel => exact ⟨k + 1, d2, by omega, by go_num, by go_num, HD2.out, HBr.out⟩
                case measure => simp [intOf]; omega
              · rw [show freeB (tr M k) = true from decide_eq_true (Classical.byContradiction hu)] at hqq
                have hqq2 : ∀ W : World, (binOp .neq 40 (.agg #[.int .u32 (tr M k).phys, .int .u64 (tr M k).start, .int .u64 (tr M k).fin]) (.agg #[.int .u32 0, .int .u64 0, .int .u64 0])).run Try.prog W = .ok (.bool false) W := hqq
                rw [if_neg hu, List.append_nil] at hcs
                have HD2 : Hid (d + (cand M (k + 1)).length = U) := by unfold Hid; rw [hcs]; exact HD.out
                clear hqq hcs hcl hu HD
                go_wp2
                go_roundw
                case rel => exact ⟨k + 1, d, by omega, by go_num, rfl, HD2.out, HBr.out⟩
                case measure => simp [intOf]; omega
            · obtain rfl : N = k := by omega
              have hd1 := HD.out
              rw [HCe.out] at hd1
              obtain rfl : d = 0 := by omega
              clear hd1 HD
              go_wp2
              go_ret
              exact ⟨rfl, below_th HB6.out HBr.out⟩
  · have hme : ((movE M i ph) == 0) = false := by simp; exact fun h => hr (movE_ok.1 h).1
    have hmv : ∀ v W, Trs W v M → Calls Try.prog 13 #[v, .int .u32 i, .int .u32 ph] W fun e w' => ∃ v', e = .returned (.tuple #[v', .int .i64 (movE M i ph)]) ∧ Below W.heap.size W w' := fun v W h => by
      refine (move_any v M i ph W h hi).mono ?_
      rintro e w' ⟨v', rfl, _, h2⟩
      exact ⟨v', rfl, h2⟩
    have hco : ∀ v W, Trs W v M → Calls Try.prog 26 #[v, .int .i64 256] W fun e w' => ∃ v', e = .returned (.tuple #[v', .int .i64 80]) ∧ Below W.heap.size W w' := fun v W h => by
      refine (counts_any v M 256 W h).mono ?_
      rintro e w' ⟨v', rfl, _, h2⟩
      exact ⟨v', by rw [show cntE M 256 = 80 from if_neg (fun h => hr h.1)], h2⟩
    have hri := fun v W h => right_any v M W h
    rw [rightB_no hr] at hri
    obtain ⟨n, hn⟩ : ∃ n, movE M i ph = n := ⟨_, rfl⟩
    rw [hn] at hme
    simp only [hn] at hmv
    have HMo := Lib.hid hmv
    have HCo := Lib.hid hco
    have HRi := Lib.hid hri
    clear hL hr hN hmv hn hco hri
    obtain ⟨W0, rfl⟩ : ∃ W0 : World, W0 = w := ⟨_, rfl⟩
    go_enter Try.func7, Try.ntmps7
    go_wp2_with (first
      | (go_at_call 9; (with_reducible refine Calls.mono (shown_any _) ?_); rintro e w1 ⟨rfl, hB1⟩; have HL1 := Lib.hid (HL.out.below hB1))
      | (go_at_call 10; (with_reducible refine Calls.mono (HCut.out _ HL1.out) ?_); rintro e w2 ⟨a, cap, rfl, HT, hc1, hc2, rfl⟩)
      | (go_at_call 13; (with_reducible refine Calls.mono (HMo.out _ _ HT.out) ?_); rintro e w3 ⟨v3, rfl, hB3⟩; have HM3 := Lib.hid (HT.out.below hB3))
      | (go_at_call 26; (with_reducible refine Calls.mono (HCo.out _ _ HM3.out) ?_); rintro e w4 ⟨v4, rfl, hB4⟩; have HM4 := Lib.hid (HM3.out.below hB4))
      | (go_at_call 15; (with_reducible refine Calls.mono (HRi.out _ _ HM4.out) ?_); rintro e w5 ⟨rfl, hB5⟩))
    go_ret
    exact ⟨rfl, below_th hB1 (below_th hB3 (below_th hB4 hB5))⟩
end
end Go.Proofs.Ythfcjbfldokanaa.Dat
