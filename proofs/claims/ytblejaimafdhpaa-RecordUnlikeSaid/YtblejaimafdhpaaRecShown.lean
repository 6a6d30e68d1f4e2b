/- What stands ahead of every law on records holds. -/
import Derived.Test.YtblejaimafdhpaaRecLaw
namespace Go.Proofs.Ytblejaimafdhpaa.Record
open Go.RowKit Go.Shelf
attribute [local go_sem] Oper.semAt_some
set_option linter.unusedVariables false

def ab : ByteArray := ⟨#[97, 98]⟩
theorem ab_list : ab.toList = [97, 98] := by first | rfl | decide | (rw [Lib.toList_data]; rfl)
theorem ab_back : (unwS (wrapB ab)).size = 508 ∧ (unwS (wrapB ab)).extract 0 2 = ab := by
  have h : ab.size ≤ 508 := by decide
  refine ⟨unwS_size (unw_wrap h), ?_⟩
  rw [unwS_wrap h]
  exact extract_left ab _
theorem ents_one {W : World} {v : Value} (h : Ents W v F1.l) : ∃ a cap, v = .slice a 1 cap ∧ 1 ≤ cap ∧ cap ≤ 9223372036854775807 := h.parts
theorem ents_zero {W : World} {v : Value} (h : Ents W v R.none.l) : ∃ a cap, v = .slice a 0 cap ∧ 0 ≤ cap ∧ cap ≤ 9223372036854775807 := h.parts
section
set_option maxRecDepth 100000
set_option maxHeartbeats 2000000 in
theorem shown_any (w : World) : Calls Try.prog 9 #[] w (Ans w (.bool true)) := by
  have hF : ∀ W, Calls Try.prog 23 #[] W fun e w' => ∃ b, e = .returned (.agg #[.int .u64 1, .int .u64 1, .bool false, .bool false, .int .i64 2, .slice (some ⟨b, 0, none⟩) 1 1]) ∧ Ents w' (.slice (some ⟨b, 0, none⟩) 1 1) F1.l ∧ Below W.heap.size W w' := fun W => first_any W
  have hE : ∀ W v, Ents W v F1.l → Calls Try.prog 10 #[.agg #[.int .u64 1, .int .u64 1, .bool false, .bool false, .int .i64 2, v]] W fun e w' => e = .returned (.tuple #[.string (encB F1), .int .i64 0]) ∧ Below W.heap.size W w' := fun W v h => by
    have := encode_any F1 v W h ok_F1
    rw [encS_yes right_F1, encE_yes right_F1] at this
    exact this
  have hz := encB_size right_F1
  have hD : ∀ W, Calls Try.prog 12 #[.string (encB F1)] W fun e w' => ∃ v, e = .returned (.tuple #[.agg #[.int .u64 1, .int .u64 1, .bool false, .bool false, .int .i64 2, v], .int .i64 0]) ∧ Ents w' v F1.l ∧ Below W.heap.size W w' := fun W => by
    have := decode_any (encB F1) W (by rw [hz]; omega)
    unfold DecPost at this
    rw [decV_yes (dec_enc right_F1 ok_F1).1, decE_yes (dec_enc right_F1 ok_F1).1, (dec_enc right_F1 ok_F1).2] at this
    exact this
  have h8 : ab.size ≤ 508 := by decide
  have hW : ∀ W, Calls Try.prog 17 #[.string ⟨#[97, 98]⟩] W fun e w' => e = .returned (.tuple #[.string (wrapB ab), .int .i64 0]) ∧ Below W.heap.size W w' := fun W => by
    have := wrap_any ab W (by omega)
    rw [wrapS_yes h8, wrapE_yes h8] at this
    exact this
  have hwz := wrapB_size h8
  have hU : ∀ W, Calls Try.prog 19 #[.string (wrapB ab)] W fun e w' => e = .returned (.tuple #[.string (unwS (wrapB ab)), .int .i64 0]) ∧ Below W.heap.size W w' := fun W => by
    have := unwrap_any (wrapB ab) W (by rw [hwz]; omega)
    rw [unwE_yes (unw_wrap h8)] at this
    exact this
  have hno : ¬ decOk (wrapB ab) := fun h => not_both h (unw_wrap h8)
  have hD2 : ∀ W, Calls Try.prog 12 #[.string (wrapB ab)] W fun e w' => ∃ v, e = .returned (.tuple #[.agg #[.int .u64 0, .int .u64 0, .bool false, .bool false, .int .i64 0, v], .int .i64 70]) ∧ Ents w' v R.none.l ∧ Below W.heap.size W w' := fun W => by
    have := decode_any (wrapB ab) W (by rw [hwz]; omega)
    unfold DecPost at this
    rw [decV_no hno, decE_no hno] at this
    exact this
  have hR : ∀ W, Calls Try.prog 21 #[.int .i64 16] W fun e w' => e = .returned (.int .i64 15) ∧ W = w' := fun W => room_any 16 W (by decide) (by decide)
  have hS : ∀ W v u, Ents W v F1.l → Ents W u F1.l → Calls Try.prog 16 #[.agg #[.int .u64 1, .int .u64 1, .bool false, .bool false, .int .i64 2, v], .agg #[.int .u64 1, .int .u64 1, .bool false, .bool false, .int .i64 2, u]] W fun e w' => e = .returned (.bool true) ∧ Below W.heap.size W w' := fun W v u h1 h2 => by
    have := same_any F1 F1 v u W h1 h2
    rw [decide_eq_true rfl] at this
    exact this
  obtain ⟨hc1, hc2⟩ := ab_back
  have hcmp := beq_yes hc2
  rw [ab_list] at hcmp
  obtain ⟨B, hB⟩ : ∃ B, encB F1 = B := ⟨_, rfl⟩
  obtain ⟨X, hX⟩ : ∃ X, wrapB ab = X := ⟨_, rfl⟩
  obtain ⟨C, hC⟩ : ∃ C, unwS X = C := ⟨_, rfl⟩
  simp only [hB] at hE hD
  simp only [hC, hX] at hW hU hD2 hc1 hcmp
  have r1 : (2 : Int) ≤ (C.size : Int) := by omega
  have r3 : 2 ≤ C.size := by omega
  have hq : ((C.size : Int) == 508) = true := by simp; omega
  have HF := Lib.hid hF
  have HE := Lib.hid hE
  have HD := Lib.hid hD
  have HW := Lib.hid hW
  have HU := Lib.hid hU
  have HD2 := Lib.hid hD2
  have HR := Lib.hid hR
  have HS := Lib.hid hS
  clear hF hE hD hW hU hD2 hR hS hz hwz hno h8 hB hC hX hc1 hc2
  go_enter Try.func9, Try.ntmps9
  go_wp2_with (first
    | (go_at_call 23; (with_reducible refine Calls.mono (HF.out _) ?_); rintro e w1 ⟨b1, rfl, hL1, hB1⟩)
    | (go_at_call 10; (with_reducible refine Calls.mono (HE.out _ _ hL1) ?_); rintro e w2 ⟨rfl, hB2⟩)
    | (go_at_call 12; (with_reducible refine Calls.mono (HD.out _) ?_); rintro e w3 ⟨v3, rfl, hL3, hB3⟩; obtain ⟨a3, c3, rfl, _, _⟩ := ents_one hL3)
    | (go_at_call 17; (with_reducible refine Calls.mono (HW.out _) ?_); rintro e w4 ⟨rfl, hB4⟩)
    | (go_at_call 19; (with_reducible refine Calls.mono (HU.out _) ?_); rintro e w5 ⟨rfl, hB5⟩)
    | (go_at_call 12; (with_reducible refine Calls.mono (HD2.out _) ?_); rintro e w6 ⟨v6, rfl, hL6, hB6⟩; obtain ⟨a6, c6, rfl, _, _⟩ := ents_zero hL6))
  have hb3 := below_th (below_th hB1 hB2) hB3
  obtain ⟨W3, hW3⟩ : ∃ W3, w3.alloc (boxR F1 (.slice a3 1 c3)) = W3 := ⟨_, rfl⟩
  have hA3 : RAt W3 w3.heap.size F1 (.slice a3 1 c3) := by rw [← hW3]; exact RAt.new w3 F1 _
  have hLL3 : Ents W3 (.slice a3 1 c3) F1.l := by rw [← hW3]; exact hL3.below (below_new _ _)
  have hbb3 : Below w.heap.size w W3 := by rw [← hW3]; exact below_al hb3 _
  unfold boxR F1 at hW3
  dsimp only at hW3
  have hW3' : w3.alloc (.cells #[.int .u64 1, .int .u64 1, .bool false, .bool false, .int .i64 2, .slice a3 1 c3] 25) = W3 := hW3
  rw [hW3'] at hB4
  have h36 : Below W3.heap.size W3 w6 := below_th (below_th hB4 hB5) hB6
  obtain ⟨W7, hW7⟩ : ∃ W7, w6.alloc (.cells #[.int .u64 0, .int .u64 0, .bool false, .bool false, .int .i64 0, .slice a6 0 c6] 25) = W7 := ⟨_, rfl⟩
  have h37 : Below W3.heap.size W3 W7 := by rw [← hW7]; exact below_al h36 _
  have HC : Hid (∀ W, Below W3.heap.size W3 W → W.cell? ⟨w3.heap.size, 0, none⟩ = some (.int .u64 1) ∧ W.cell? ⟨w3.heap.size, 1, none⟩ = some (.int .u64 1) ∧ W.cell? ⟨w3.heap.size, 2, none⟩ = some (.bool false) ∧ W.cell? ⟨w3.heap.size, 3, none⟩ = some (.bool false) ∧ W.cell? ⟨w3.heap.size, 4, none⟩ = some (.int .i64 2) ∧ W.cell? ⟨w3.heap.size, 5, none⟩ = some (.slice a3 1 c3)) := fun W hW => (hA3.th hW).c
  have HLZ : Hid (∀ W, Below W3.heap.size W3 W → Ents W (.slice a3 1 c3) F1.l) := fun W hW => hLL3.below hW
  have HBB3 := Lib.hid hbb3
  clear hA3 hLL3 hbb3 hb3 hL3 hL1 hL6 hW3 hW3' h36 hB1 hB2 hB3 hB4 hB5 hB6 HE HD HW HU HD2
  rw [hW7]
  have h37d := h37.drew
  clear hW7
  go_region_held3 (fun w' => w'.cell? ⟨w3.heap.size, 0, none⟩ = some (.int .u64 1) ∧ w'.cell? ⟨w3.heap.size, 1, none⟩ = some (.int .u64 1) ∧ w'.cell? ⟨w3.heap.size, 2, none⟩ = some (.bool false) ∧ w'.cell? ⟨w3.heap.size, 3, none⟩ = some (.bool false) ∧ w'.cell? ⟨w3.heap.size, 4, none⟩ = some (.int .i64 2) ∧ w'.cell? ⟨w3.heap.size, 5, none⟩ = some (.slice a3 1 c3)) (exact HC.out _ (by assumption)) (first
    | (go_at_call 23; (with_reducible refine Calls.mono (HF.out _) ?_); rintro e w8 ⟨b8, rfl, hL8, hB8⟩; have hb8 := below_th h37d hB8)
    | (go_at_call 16; (with_reducible refine Calls.mono (HS.out _ _ _ (HLZ.out _ hb8) hL8) ?_); rintro e w9 ⟨rfl, hB9⟩; have hb9 := below_th hb8 hB9)
    | (go_at_call 21; (with_reducible refine Calls.mono (HR.out _) ?_); rintro e w10 ⟨rfl, rfl⟩))
  go_wp2
  go_ret
  exact ⟨rfl, below_th HBB3.out hb9⟩
end
end Go.Proofs.Ytblejaimafdhpaa.Record
