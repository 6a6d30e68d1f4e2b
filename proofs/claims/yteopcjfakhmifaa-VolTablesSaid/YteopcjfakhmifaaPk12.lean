/- Several texts in one, each under its own heading. -/
import Derived.Test.YteopcjfakhmifaaPk09
import Derived.Test.YteopcjfakhmifaaPk08
/- How many blocks a size has, and how deep they lie: the program's and the document's. -/
namespace Go.Proofs.Yteopcjfakhmifaa.Ino
open Go.RowKit
attribute [local go_sem] Oper.semAt_some
set_option linter.unusedVariables false
set_option linter.unusedSimpArgs false
section
set_option maxRecDepth 100000
theorem blocks_any (s : Nat) (w : World) (h : s < 4294967296) : Calls Try.prog 32 #[.int .u32 s] w fun e w' => e = .returned (.int .i64 (blN s)) ∧ w = w' := by
  obtain ⟨q, hq⟩ : ∃ q, s / 508 = q := ⟨_, rfl⟩
  obtain ⟨r, hr⟩ : ∃ r, s % 508 = r := ⟨_, rfl⟩
  have hq1 : (s : Int) / 508 = (q : Int) := by omega
  have hr1 : (s : Int) % 508 = (r : Int) := by omega
  have hq2 : (s : Int).tdiv 508 = (q : Int) := by rw [Int.tdiv_eq_ediv_of_nonneg (by omega)]; exact hq1
  have hr2 : (s : Int).tmod 508 = (r : Int) := by rw [Int.tmod_eq_emod_of_nonneg (by omega)]; exact hr1
  have hql : q < 8454661 := by omega
  have hrl : r < 508 := by omega
  have hB : blN s = if r = 0 then q else q + 1 := by unfold blN; rw [hq, hr]
  rw [hB]
  clear hB hq hr h
  have w1 : IntKind.u32.wrap (q : Int) = (q : Int) := by rw [IntKind.wrap_u32]; omega
  have w2 : IntKind.u32.wrap (r : Int) = (r : Int) := by rw [IntKind.wrap_u32]; omega
  have w3 : IntKind.u32.wrap ((q : Int) + 1) = (q : Int) + 1 := by rw [IntKind.wrap_u32]; omega
  have w4 : IntKind.i64.wrap (q : Int) = (q : Int) := by rw [IntKind.wrap_i64]; omega
  have w5 : IntKind.i64.wrap ((q : Int) + 1) = (q : Int) + 1 := by rw [IntKind.wrap_i64]; omega
  clear hql hrl
  by_cases hz : r = 0
  · rw [if_pos hz]
    have hg : decide ((r : Int) > 0) = false := by simp; omega
    have hg2 : ¬ 0 < r := by omega
    clear hz
    go_enter Try.func32, Try.ntmps32
    go_wp2
    go_ret
    exact ⟨rfl, rfl⟩
  · rw [if_neg hz]
    have hg : decide ((r : Int) > 0) = true := by simp; omega
    have hg2 : 0 < r := by omega
    clear hz
    go_enter Try.func32, Try.ntmps32
    go_wp2
    go_ret
    exact ⟨rfl, rfl⟩
theorem depth_any (s : Nat) (w : World) (h : s < 4294967296) : Calls Try.prog 44 #[.int .u32 s] w fun e w' => e = .returned (.int .i64 (dpN s)) ∧ w = w' := by
  have hb := fun W => blocks_any s W h
  have hd : dpN s = if blN s ≤ 6 then 0 else if blN s ≤ 127 then 1 else 2 := rfl
  rw [hd]
  clear hd h
  generalize blN s = b at *
  by_cases h6 : b ≤ 6
  · have hi : (b : Int) ≤ 6 := by omega
    rw [if_pos h6]
    go_enter Try.func44, Try.ntmps44
    go_wp2_with (go_at_call 32; refine (hb _).mono ?_; rintro e w1 ⟨rfl, rfl⟩)
    go_ret
    exact ⟨rfl, rfl⟩
  · have hi : ¬ (b : Int) ≤ 6 := by omega
    rw [if_neg h6]
    by_cases h7 : b ≤ 127
    · have hj : (b : Int) ≤ 127 := by omega
      rw [if_pos h7]
      go_enter Try.func44, Try.ntmps44
      go_wp2_with (go_at_call 32; refine (hb _).mono ?_; rintro e w1 ⟨rfl, rfl⟩)
      go_ret
      exact ⟨rfl, rfl⟩
    · have hj : ¬ (b : Int) ≤ 127 := by omega
      rw [if_neg h7]
      go_enter Try.func44, Try.ntmps44
      go_wp2_with (go_at_call 32; refine (hb _).mono ?_; rintro e w1 ⟨rfl, rfl⟩)
      go_ret
      exact ⟨rfl, rfl⟩
theorem R.blocks_any (s : Nat) (w : World) (h : s < 4294967296) : Calls Try.prog 37 #[.int .u32 s] w fun e w' => e = .returned (.int .i64 (blN s)) ∧ w = w' := by
  have h0 : IntKind.u64.wrap (s : Int) = (s : Int) := by rw [IntKind.wrap_u64]; omega
  obtain ⟨q, hq⟩ : ∃ q, s / 508 = q := ⟨_, rfl⟩
  obtain ⟨r, hr⟩ : ∃ r, s % 508 = r := ⟨_, rfl⟩
  have hq1 : (s : Int) / 508 = (q : Int) := by omega
  have hr1 : (s : Int) % 508 = (r : Int) := by omega
  have hq2 : (s : Int).tdiv 508 = (q : Int) := by rw [Int.tdiv_eq_ediv_of_nonneg (by omega)]; exact hq1
  have hr2 : (s : Int).tmod 508 = (r : Int) := by rw [Int.tmod_eq_emod_of_nonneg (by omega)]; exact hr1
  have hql : q < 8454661 := by omega
  have hrl : r < 508 := by omega
  have hB : blN s = if r = 0 then q else q + 1 := by unfold blN; rw [hq, hr]
  rw [hB]
  clear hB hq hr h
  have w1 : IntKind.u64.wrap (q : Int) = (q : Int) := by rw [IntKind.wrap_u64]; omega
  have w2 : IntKind.u64.wrap (r : Int) = (r : Int) := by rw [IntKind.wrap_u64]; omega
  have w3 : IntKind.u64.wrap ((q : Int) + 1) = (q : Int) + 1 := by rw [IntKind.wrap_u64]; omega
  have w4 : IntKind.i64.wrap (q : Int) = (q : Int) := by rw [IntKind.wrap_i64]; omega
  have w5 : IntKind.i64.wrap ((q : Int) + 1) = (q : Int) + 1 := by rw [IntKind.wrap_i64]; omega
  clear hql hrl
  by_cases hz : r = 0
  · rw [if_pos hz]
    have hg : ((r : Int) != 0) = false := by simp; omega
    clear hz
    go_enter Try.func37, Try.ntmps37
    go_wp2
    go_ret
    exact ⟨rfl, rfl⟩
  · rw [if_neg hz]
    have hg : ((r : Int) != 0) = true := by simp; omega
    clear hz
    go_enter Try.func37, Try.ntmps37
    go_wp2
    go_ret
    exact ⟨rfl, rfl⟩
theorem R.depth_any (s : Nat) (w : World) (h : s < 4294967296) : Calls Try.prog 46 #[.int .u32 s] w fun e w' => e = .returned (.int .i64 (dpN s)) ∧ w = w' := by
  have hb := fun W => R.blocks_any s W h
  have hd : dpN s = if blN s ≤ 6 then 0 else if blN s ≤ 127 then 1 else 2 := rfl
  rw [hd]
  clear hd h
  generalize blN s = b at *
  by_cases h6 : b ≤ 6
  · have hi : (b : Int) ≤ 6 := by omega
    rw [if_pos h6]
    go_enter Try.func46, Try.ntmps46
    go_wp2_with (go_at_call 37; refine (hb _).mono ?_; rintro e w1 ⟨rfl, rfl⟩)
    go_ret
    exact ⟨rfl, rfl⟩
  · have hi : ¬ (b : Int) ≤ 6 := by omega
    rw [if_neg h6]
    by_cases h7 : b ≤ 127
    · have hj : (b : Int) ≤ 127 := by omega
      rw [if_pos h7]
      go_enter Try.func46, Try.ntmps46
      go_wp2_with (go_at_call 37; refine (hb _).mono ?_; rintro e w1 ⟨rfl, rfl⟩)
      go_ret
      exact ⟨rfl, rfl⟩
    · have hj : ¬ (b : Int) ≤ 127 := by omega
      rw [if_neg h7]
      go_enter Try.func46, Try.ntmps46
      go_wp2_with (go_at_call 37; refine (hb _).mono ?_; rintro e w1 ⟨rfl, rfl⟩)
      go_ret
      exact ⟨rfl, rfl⟩
end
end Go.Proofs.Yteopcjfakhmifaa.Ino
/- The document's Paste. -/
namespace Go.Proofs.Yteopcjfakhmifaa.Vol
open Go.RowKit
attribute [local go_sem] Oper.semAt_some
set_option linter.unusedVariables false
set_option linter.unusedSimpArgs false
theorem paste_no {L : List ByteArray} {n : Nat} (h : ¬ pasteP L n) : pasteV L n = ⟨#[]⟩ ∧ pasteE L n = 154 := ⟨if_neg h, if_neg h⟩
theorem paste_yes {L : List ByteArray} {n : Nat} (h : pasteP L n) : pasteV L n = (jn L L.length).extract 0 n ∧ pasteE L n = 0 := ⟨if_pos h, if_pos h⟩
namespace R
section
set_option maxRecDepth 100000
set_option maxHeartbeats 8000000
theorem paste_any (v : Value) (L : List ByteArray) (n : Nat) (w : World) (hL : Strs w v L) (hn : n < 4294967296) (hl : L.length ≤ 1000) (hz : ∀ i, i < L.length → (tx L i).size ≤ 9223372036854775807) :
    Calls Try.prog 13 #[v, .int .u32 (n : Int)] w (Ans w (.tuple #[.string (pasteV L n), .int .i64 (pasteE L n)])) := by
  have HNO : Hid (¬ pasteP L n → ∀ w', Below w.heap.size w w' → Ans w (.tuple #[.string (pasteV L n), .int .i64 (pasteE L n)]) (.returned (.tuple #[.string ⟨#[]⟩, .int .i64 154])) w') := fun h w' hB => by
    obtain ⟨e1, e2⟩ := paste_no h
    exact ⟨by rw [e1, e2], hB⟩
  have HYES : Hid (pasteP L n → ∀ w', Below w.heap.size w w' → Ans w (.tuple #[.string (pasteV L n), .int .i64 (pasteE L n)]) (.returned (.tuple #[.string ((jn L L.length).extract 0 n), .int .i64 0])) w') := fun h w' hB => by
    obtain ⟨e1, e2⟩ := paste_yes h
    exact ⟨by rw [e1, e2], hB⟩
  obtain ⟨a, cap, rfl, m1, m2⟩ := hL.parts
  obtain ⟨N, hN⟩ : ∃ N, L.length = N := ⟨_, rfl⟩
  have hHB := fun W => Ino.R.blocks_any n W hn
  rw [bl_nb] at hHB
  obtain ⟨B, hB⟩ : ∃ B, nb n = B := ⟨_, rfl⟩
  rw [hB] at hHB
  have hB9 : B ≤ 8454661 := by rw [← hB]; unfold nb; omega
  have HP1 : Hid (pasteP L n ↔ (n ≤ 200000 ∧ N = B) ∧ (∀ j, j < N → fitC L N j) ∧ n ≤ (jn L N).size ∧ bareB (jn L N) n = true) := by unfold Hid pasteP; rw [hN, hB]
  rw [hN] at m1 HYES hl hz hL ⊢
  have HL := Lib.hid hL
  have HN := Lib.hid hN
  have hw0 : IntKind.i64.wrap (n : Int) = (n : Int) := by rw [IntKind.wrap_i64]; omega
  clear hL hN hB
  by_cases h1 : n ≤ 200000
  case neg =>
    have g1 : decide ((n : Int) > 200000) = true := decide_eq_true (by omega)
    have g2 : (200000 : Int) < (n : Int) := by omega
    have HFIN := Lib.hid (HNO.out (fun h => h1 ((HP1.out.1 h).1.1)) w (Below.refl _ _))
    clear h1
    go_enter Try.func13, Try.ntmps13
    go_wp2
    go_ret2
    exact HFIN.out
  case pos =>
    have g1 : decide ((n : Int) > 200000) = false := decide_eq_false (by omega)
    have g2 : ¬ (200000 : Int) < (n : Int) := by omega
    by_cases h2 : N = B
    case neg =>
      have g3 : ((N : Int) != (B : Int)) = true := by simp; omega
      have HFIN := Lib.hid (HNO.out (fun h => h2 ((HP1.out.1 h).1.2)) w (Below.refl _ _))
      clear h2
      go_enter Try.func13, Try.ntmps13
      go_wp2_with (go_at_call 37; refine (hHB _).mono ?_; rintro e w1 ⟨rfl, rfl⟩)
      go_ret2
      exact HFIN.out
    case pos =>
      have g3 : ((N : Int) != (B : Int)) = false := by simp; omega
      have HP2 : Hid (pasteP L n ↔ (∀ j, j < N → fitC L N j) ∧ n ≤ (jn L N).size ∧ bareB (jn L N) n = true) := by
        unfold Hid
        rw [HP1.out]
        exact ⟨fun h => h.2, fun h => ⟨⟨h1, h2⟩, h⟩⟩
      have hwN : IntKind.i64.wrap ((N : Int) - 1) = (N : Int) - 1 := by rw [IntKind.wrap_i64]; omega
      clear HP1
      subst h2
      go_enter Try.func13, Try.ntmps13
      go_wp2_with (go_at_call 37; refine (hHB _).mono ?_; rintro e w1 ⟨rfl, rfl⟩)
      go_loopw [6, 7] (fun s i wr => ∃ k : Nat, i = .int .i64 (k : Int) ∧ k ≤ N ∧ s = .string (jn L k) ∧ Hid (∀ j, j < k → fitC L N j) ∧ Hid (Below w.heap.size w wr)) (fun _ i _ => N - (intOf i).toNat)
      case atStart => exact ⟨0, rfl, by omega, rfl, fun j hj => by omega, Below.refl _ _⟩
      case round =>
        obtain ⟨k, rfl, hk, rfl, HF, HB⟩ := hrel
        have hjl : (jn L k).size ≤ 508 * k := jn_le k hk HF.out
        by_cases hlt : k < N
        · have hkI : (k : Int) < (N : Int) := by omega
          obtain ⟨b, off, ea, hc0⟩ := (HL.out.below HB.out).at HN.out hlt
          cases ea
          obtain ⟨x, hx⟩ : ∃ x, tx L k = x := ⟨_, rfl⟩
          have c0 := hc0 x hx.symm
          have hz1 := hz k hlt
          have hfc : fitC L N k ↔ x.size ≤ 508 ∧ (k + 1 = N ∨ x.size = 508) := by unfold fitC; rw [hx]
          rw [hx] at hz1
          have HJ : Hid (jn L (k + 1) = jn L k ++ x) := by unfold Hid; rw [jn_succ, hx]
          clear hc0 hx
          by_cases h3 : fitC L N k
          · have HF2 : Hid (∀ j, j < k + 1 → fitC L N j) := fun j hj => by
              rcases Nat.lt_succ_iff_lt_or_eq.1 hj with h | h
              · exact HF.out j h
              · rw [h]; exact h3
            obtain ⟨q1, q2⟩ := hfc.1 h3
            have hcat : (jn L k).size + x.size ≤ 9223372036854775807 := by omega
            have hadd := fun W => run_string_add_sum (P := Try.prog) (w := W) (jn L k) x hcat
            have g4 : decide ((x.size : Int) > 508) = false := decide_eq_false (by omega)
            have g5 : ¬ (508 : Int) < (x.size : Int) := by omega
            clear hfc h3
            by_cases h4 : k + 1 = N
            · subst h4
              have g6 : ((k + 1 : Nat) : Int) - 1 = (k : Int) := by omega
              have g7 : IntKind.i64.wrap ((k : Int) + 1 - 1) = (k : Int) := by rw [IntKind.wrap_i64]; omega
              clear q2
              go_wp2
              go_roundw
              case rel => exact ⟨k + 1, by go_num, hlt, by rw [HJ.out], HF2.out, HB.out⟩
              case measure => (simp [intOf]; try omega)
            · have g6 : ((k : Int) == (N : Int) - 1) = false := beq_eq_false_iff_ne.2 (by omega)
              have g7 : ((x.size : Int) != 508) = false := bne_eq_false_iff_eq.2 (by omega)
              go_wp2
              go_roundw
              case rel => exact ⟨k + 1, by go_num, hlt, by rw [HJ.out], HF2.out, HB.out⟩
              case measure => simp [intOf]; omega
          · have HFIN := Lib.hid (HNO.out (fun h => h3 ((HP2.out.1 h).1 k hlt)) wr HB.out)
            by_cases h5 : x.size ≤ 508
            · have g4 : decide ((x.size : Int) > 508) = false := decide_eq_false (by omega)
              have g5 : ¬ (508 : Int) < (x.size : Int) := by omega
              have h6 : ¬ k + 1 = N ∧ ¬ x.size = 508 := ⟨fun h => h3 (hfc.2 ⟨h5, .inl h⟩), fun h => h3 (hfc.2 ⟨h5, .inr h⟩)⟩
              have g6 : ((k : Int) == (N : Int) - 1) = false := beq_eq_false_iff_ne.2 (by omega)
              have g7 : ((x.size : Int) != 508) = true := bne_iff_ne.2 (by omega)
              clear hfc h3 h6
              go_wp2
              go_ret2
              exact HFIN.out
            · have g4 : decide ((x.size : Int) > 508) = true := decide_eq_true (by omega)
              have g5 : (508 : Int) < (x.size : Int) := by omega
              clear hfc h3 h5
              go_wp2
              go_ret2
              exact HFIN.out
        · have hkN : k = N := by omega
          subst hkN
          obtain ⟨S, hS⟩ : ∃ S, jn L k = S := ⟨_, rfl⟩
          rw [hS] at HP2 HYES hjl ⊢
          have hSz : S.size ≤ 281474976710656 := by omega
          have hbr := fun W => bare_ref S (n : Int) W hSz
          rw [Int.toNat_natCast] at hbr
          by_cases h3 : n ≤ S.size
          · have g4 : decide ((S.size : Int) < (n : Int)) = false := decide_eq_false (by omega)
            have g5 : ¬ (S.size : Int) < (n : Int) := by omega
            have g6 : (n : Int) ≤ (S.size : Int) := by omega
            cases hb : bareB S n with
            | false =>
              have HFIN := Lib.hid (HNO.out (fun h => by have := (HP2.out.1 h).2.2; rw [hb] at this; cases this) wr HB.out)
              rw [hb] at hbr
              go_wp2_with (go_at_call 38; refine (hbr _).mono ?_; rintro e w1 ⟨rfl, rfl⟩)
              go_ret2
              exact HFIN.out
            | true =>
              have HFIN := Lib.hid (HYES.out (HP2.out.2 ⟨HF.out, h3, hb⟩) wr HB.out)
              rw [hb] at hbr
              go_wp2_with (go_at_call 38; refine (hbr _).mono ?_; rintro e w1 ⟨rfl, rfl⟩)
              go_ret2
              exact HFIN.out
          · have g4 : decide ((S.size : Int) < (n : Int)) = true := decide_eq_true (by omega)
            have g5 : (S.size : Int) < (n : Int) := by omega
            have HFIN := Lib.hid (HNO.out (fun h => h3 ((HP2.out.1 h).2.1)) wr HB.out)
            clear h3
            go_wp2
            go_ret2
            exact HFIN.out
end
end R
end Go.Proofs.Yteopcjfakhmifaa.Vol
