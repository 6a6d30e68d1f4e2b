/- What stands ahead of every law on super blocks: one is read as it was, and a wrong one is refused. -/
import Derived.Test.YtmknjnmbdnlkpaaSupRefD
namespace Go.Proofs.Ytmknjnmbdnlkpaa.Super
open Go.RowKit Go.Shelf
attribute [local go_sem] Oper.semAt_some
set_option linter.unusedVariables false

def F1 : S := ⟨128, 1, 16, 1⟩
theorem right_F1 : RightP F1 := by decide
theorem wrong_15 : ¬ RightP ⟨128, 1, 15, 1⟩ := by decide

section
set_option maxRecDepth 100000
theorem results_one {fn : Func} {r : Tmp} (h : fn.results = #[.cell r 24]) (tmps : Array Value) (w : World) {b : Nat} {s : S} (hp : tmps.getD r undef = .pointer (some ⟨b, 0, none⟩)) (hA : At w b s) :
    (results fn tmps).run Try.prog w = .ok s.val w := by
  obtain ⟨c0, c1, c2, c3⟩ := hA.c
  rw [Array.getD_eq_getD_getElem?] at hp
  simp [results, h, hp, go_sem, c0, c1, c2, c3]
  rfl
theorem first_any (w : World) : Calls Try.prog 18 #[] w fun e w' => e = .returned F1.val ∧ Below w.heap.size w w' := by
  have hA : At (w.alloc (.cells #[.int .i64 128, .int .u64 1, .int .i64 16, .int .u64 1] 24)) w.heap.size F1 := At.new w F1
  go_enter Try.func18, Try.ntmps18
  go_wp2
  refine bodyPost_ret (results_one rfl _ _ rfl hA) rfl ?_
  exact ⟨rfl, (Below.refl w.heap.size w).alloc (Nat.le_refl _) _⟩

set_option maxHeartbeats 1000000 in
theorem shown_any (w : World) : Calls Try.prog 8 #[] w fun e w' => e = .returned (.bool true) ∧ Below w.heap.size w w' := by
  have hF := fun W => first_any W
  have hE := fun W => encode_any F1 W
  have hE2 := fun W => encode_any ⟨128, 1, 15, 1⟩ W
  rw [encE_yes right_F1] at hE
  rw [encE_no wrong_15, encS_no wrong_15] at hE2
  have hD := fun W => decode_any (encS F1) W (by rw [enc_size right_F1]; omega)
  rw [decV_yes (dec_enc right_F1).1, decE_yes (dec_enc right_F1).1, (dec_enc right_F1).2] at hD
  obtain ⟨B, hB⟩ : ∃ B, encS F1 = B := ⟨_, rfl⟩
  simp only [hB] at hE hD
  have hP1 := fun W => place_odd 1 W (by decide)
  have hP2 := fun W => place_even 2 W (by decide)
  unfold S.val F1 at hE hD hF
  unfold S.val at hE2
  dsimp only at hE hD hE2 hF
  clear hB
  have HF := Lib.hid hF
  have HE := Lib.hid hE
  have HE2 := Lib.hid hE2
  have HD := Lib.hid hD
  have HP1 := Lib.hid hP1
  have HP2 := Lib.hid hP2
  clear hF hE hE2 hD hP1 hP2
  go_enter Try.func8, Try.ntmps8
  go_wp2_with (first
    | (go_at_call 18; with_reducible refine Calls.mono (HF.out _) ?_; rintro e w1 ⟨rfl, hB1⟩)
    | (go_at_call 9; with_reducible refine Calls.mono (HE.out _) ?_; rintro e w2 ⟨rfl, hB2⟩)
    | (go_at_call 9; with_reducible refine Calls.mono (HE2.out _) ?_; rintro e w4 ⟨rfl, hB4⟩)
    | (go_at_call 11; with_reducible refine Calls.mono (HD.out _) ?_; rintro e w3 ⟨rfl, hB3⟩))
  have hA3 : At (w3.alloc (.cells #[.int .i64 128, .int .u64 1, .int .i64 16, .int .u64 1] 24)) w3.heap.size F1 := At.new w3 F1
  have hA4 := hA3.th hB4
  have hBw3 := below_th (below_th hB1 hB2) hB3
  have hBw4 := below_th (hBw3.alloc hBw3.size _) hB4
  have HC : Hid (∀ W, Below w4.heap.size w4 W → W.cell? ⟨w3.heap.size, 0, none⟩ = some (.int .i64 128) ∧ W.cell? ⟨w3.heap.size, 1, none⟩ = some (.int .u64 1) ∧ W.cell? ⟨w3.heap.size, 2, none⟩ = some (.int .i64 16) ∧ W.cell? ⟨w3.heap.size, 3, none⟩ = some (.int .u64 1)) := fun W hW => (hA4.th hW).c
  have hBz : Below w4.heap.size w4 w4 := Below.refl _ _
  have hBd : Below w4.heap.size w4 w4.drew := hBz.drew
  clear hA3 hA4
  go_region_held3 (fun w' => (w'.cell? ⟨w3.heap.size, 0, none⟩ = some (.int .i64 128) ∧ w'.cell? ⟨w3.heap.size, 1, none⟩ = some (.int .u64 1) ∧ w'.cell? ⟨w3.heap.size, 2, none⟩ = some (.int .i64 16) ∧ w'.cell? ⟨w3.heap.size, 3, none⟩ = some (.int .u64 1))) (exact HC.out _ (by assumption)) (first
    | (go_at_call 18; with_reducible refine Calls.mono (HF.out _) ?_; rintro e w5 ⟨rfl, hB5⟩; have hB5' := below_th hBd hB5)
    | (go_at_call 17; with_reducible refine Calls.mono (HP1.out _) ?_; rintro e w6 ⟨rfl, rfl⟩)
    | (go_at_call 17; with_reducible refine Calls.mono (HP2.out _) ?_; rintro e w7 ⟨rfl, rfl⟩))
  go_wp2
  go_ret
  exact ⟨rfl, below_th hBw4 hB5'⟩
end
end Go.Proofs.Ytmknjnmbdnlkpaa.Super
