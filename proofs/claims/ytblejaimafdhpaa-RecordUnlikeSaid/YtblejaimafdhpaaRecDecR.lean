/- Decode of the program, of a record's block. -/
import Derived.Test.YtblejaimafdhpaaRecDec
namespace Go.Proofs.Ytblejaimafdhpaa.Record
open Go.RowKit Go.Shelf
attribute [local go_sem] Oper.semAt_some
set_option linter.unusedVariables false

section
set_option maxRecDepth 100000
theorem ents_drew {W : World} {v : Value} {L : List E} (h : Ents W v L) : Ents W.drew v L := h
set_option maxHeartbeats 2000000 in
theorem decode_right (b : ByteArray) (w : World) (hs : b.size = 512) (h : RightP (decR b)) (hu : (encB (decR b)).extract 0 256 = b.extract 0 256) : Calls Try.prog 12 #[.string b] w (DecPost b w) := by
  have hok : decOk b := ⟨hs, h, hu⟩
  have hV := decV_yes hok
  have HE := Lib.hid (decE_yes hok)
  clear hok
  unfold decR at hV
  have hq : ((b.size : Int) != 512) = false := by simp; omega
  have T1 := Lib.hid (fun W => rtake_any b 1 6 W (by omega) (by omega) (by omega) (by omega))
  have T2 := Lib.hid (fun W => rtake_any b 7 6 W (by omega) (by omega) (by omega) (by omega))
  have T3 := Lib.hid (fun W => rtake_any b 13 1 W (by omega) (by omega) (by omega) (by omega))
  have T4 := Lib.hid (fun W => rtake_any b 14 2 W (by omega) (by omega) (by omega) (by omega))
  have T5 := Lib.hid (fun W => rtake_any b 16 1 W (by omega) (by omega) (by omega) (by omega))
  have hE := fun W v (hv : Ents W v (decR b).l) => encode_any (decR b) v W hv (decR_ok b)
  have e1 : (256 : Nat) ^ 1 = 256 := by decide
  have e2 : (256 : Nat) ^ 2 = 65536 := by decide
  have l4 := takeN_lt b 14 2
  have l5 := takeN_lt b 16 1
  rw [e2] at l4
  rw [e1] at l5
  have TE := Lib.hid (fun W => takeEntries_any b (takeN b 16 1) W hs (by omega))
  unfold Ans at hE
  rw [encS_yes h, encE_yes h] at hE
  have hsz := encB_size h
  obtain ⟨EE, hEe⟩ : ∃ EE, encB (decR b) = EE := ⟨_, rfl⟩
  simp only [hEe] at hE hsz hu
  clear hEe
  have hcmp := beq_yes hu
  have r1 : (256 : Int) ≤ (EE.size : Int) := by omega
  have r2 : (256 : Int) ≤ (b.size : Int) := by omega
  have r3 : 256 ≤ EE.size := by omega
  have r4 : 256 ≤ b.size := by omega
  clear h hu hsz
  unfold R.val decR at hE
  dsimp only at hE
  obtain ⟨x1, hx1⟩ : ∃ x, takeN b 1 6 = x := ⟨_, rfl⟩
  obtain ⟨x2, hx2⟩ : ∃ x, takeN b 7 6 = x := ⟨_, rfl⟩
  obtain ⟨x3, hx3⟩ : ∃ x, takeN b 13 1 = x := ⟨_, rfl⟩
  obtain ⟨x4, hx4⟩ : ∃ x, takeN b 14 2 = x := ⟨_, rfl⟩
  obtain ⟨x5, hx5⟩ : ∃ x, takeN b 16 1 = x := ⟨_, rfl⟩
  obtain ⟨L, hLL⟩ : ∃ L, entsAt b x5 = L := ⟨_, rfl⟩
  simp only [hx1, hx2, hx3, hx4, hx5, hLL] at T1 T2 T3 T4 T5 TE hE l4 l5 hV
  obtain ⟨en, hen⟩ : ∃ x, decide (x3 = 1) = x := ⟨_, rfl⟩
  obtain ⟨sy, hsy⟩ : ∃ x, decide (x3 = 2) = x := ⟨_, rfl⟩
  have u1 : ((x3 : Int) == 1) = en := by rw [← hen, Bool.eq_iff_iff, decide_eq_true_iff]; simp; omega
  have u2 : ((x3 : Int) == 2) = sy := by rw [← hsy, Bool.eq_iff_iff, decide_eq_true_iff]; simp; omega
  simp only [hen, hsy] at hE hV
  unfold TakePost at TE
  simp only [hLL] at TE
  have v4 : IntKind.i64.wrap (x4 : Int) = x4 := by rw [IntKind.wrap_i64]; omega
  have v5 : IntKind.i64.wrap (x5 : Int) = x5 := by rw [IntKind.wrap_i64]; omega
  have HEE := Lib.hid hE
  clear hx1 hx2 hx3 hx4 hx5 hs l4 l5 e1 e2 hE hen hsy hLL
  have HV := Lib.hid hV
  clear hV
  go_enter Try.func12, Try.ntmps12
  go_wp2_with (first
    | (go_at_call 28; with_reducible refine Calls.mono (T1.out _) ?_; rintro e w1 ⟨rfl, hB1⟩)
    | (go_at_call 28; with_reducible refine Calls.mono (T2.out _) ?_; rintro e w2 ⟨rfl, hB2⟩)
    | (go_at_call 28; with_reducible refine Calls.mono (T3.out _) ?_; rintro e w3 ⟨rfl, hB3⟩)
    | (go_at_call 28; with_reducible refine Calls.mono (T4.out _) ?_; rintro e w4 ⟨rfl, hB4⟩)
    | (go_at_call 28; with_reducible refine Calls.mono (T5.out _) ?_; rintro e w5 ⟨rfl, hB5⟩)
    | (go_at_call 29; (with_reducible refine Calls.mono (TE.out _) ?_); rintro e w6 ⟨v, rfl, hL6, hNV, hB6⟩; obtain ⟨ap, cp, rfl, hp1, hp2⟩ := hL6.parts; have HNV := Lib.hid hNV; have hL7 := Lib.hid (hL6.below (below_new w6 (boxR ⟨x1, x2, en, sy, (x4 : Int), L⟩ (.slice ap L.length cp)))); unfold boxR at hL7; clear hL6 hNV)
    | (go_at_call 10; with_reducible refine Calls.mono (HEE.out _ _ hL7.out) ?_; rintro e w7 ⟨rfl, hB7⟩))
  have hBw6 : Below w.heap.size w w6 := below_th (below_th (below_th (below_th (below_th (below_th (below_new w _) hB3) hB1) hB2) hB4) hB5) hB6
  have hA7 : RAt w7 w.heap.size R.none (.slice none 0 0) := (((((((RAt.new w R.none (.slice none 0 0)).th hB3).th hB1).th hB2).th hB4).th hB5).th hB6).th (below_th (below_new _ _) hB7)
  have hD7 : RAt w7 w6.heap.size ⟨x1, x2, en, sy, (x4 : Int), L⟩ (.slice ap L.length cp) := (RAt.new w6 _ _).th hB7
  have hBw7 : Below w.heap.size w w7 := below_th (below_al hBw6 _) hB7
  have hL8 : Ents w7 (.slice ap L.length cp) L := (hL7.out).below hB7
  obtain ⟨a0, a1, a2, a3, a4, a5⟩ := hA7.c
  obtain ⟨d0, d1, d2, d3, d4, d5⟩ := hD7.c
  have f0 := hA7.f 0
  have f1 := hA7.f 1
  have f2 := hA7.f 2
  have f3 := hA7.f 3
  have f4 := hA7.f 4
  have f5 := hA7.f 5
  obtain ⟨k0, k1, k2, k3, k4, k5, hAp, hBp⟩ := hA7.put6 ⟨x1, x2, en, sy, (x4 : Int), L⟩ (.slice ap L.length cp)
  dsimp only [R.none] at a0 a1 a2 a3 a4 a5 d0 d1 d2 d3 d4 d5 k0 k1 k2 k3 k4 k5 hBp
  have HL9 : Hid (Ents _ (.slice ap L.length cp) L) := hL8.keep fun g o k c he _ => put6_other w7 w.heap.size (.int .u64 x1) (.int .u64 x2) (.bool en) (.bool sy) (.int .i64 (x4 : Int)) (.slice ap L.length cp) g (by have h1 := HNV.out g o k c he; have h2 := hB3.size; have h3 := hB1.size; have h4 := hB2.size; have h5 := hB4.size; have h6 := hB5.size; rw [World.size_alloc] at h2; omega)
  go_region
  go_wp2
  all_goals
    refine bodyPost_ret (results_rec rfl _ _ rfl hAp.drew) rfl ?_
    exact dec_end HV.out HE.out (ents_drew HL9.out) (hBw7.trans hBp).drew

theorem decode_any (b : ByteArray) (w : World) (hs : b.size ≤ 281474976710656) : Calls Try.prog 12 #[.string b] w (DecPost b w) := by
  by_cases h1 : b.size = 512
  · by_cases h2 : RightP (decR b)
    · by_cases h3 : (encB (decR b)).extract 0 256 = b.extract 0 256
      · exact decode_right b w h1 h2 h3
      · exact decode_unlike b w h1 h2 h3
    · exact decode_wrong b w h1 h2
  · exact decode_size b w hs h1
end
end Go.Proofs.Ytblejaimafdhpaa.Record
