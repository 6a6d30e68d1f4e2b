/- Encode of the program. -/
import Derived.Test.YtmknjnmbdnlkpaaSupEnc
namespace Go.Proofs.Ytmknjnmbdnlkpaa.Super
open Go.RowKit Go.Shelf
attribute [local go_sem] Oper.semAt_some
set_option linter.unusedVariables false

section
set_option maxRecDepth 100000
theorem encode_no (s : S) (w : World) (h : ¬ RightP s) : Calls Try.prog 9 #[s.val] w fun e w' => e = .returned (.tuple #[.string (encS s), .int .i64 (encE s)]) ∧ Below w.heap.size w w' := by
  have HS := Lib.hid (encS_no h)
  have HE := Lib.hid (encE_no h)
  have hr := fun W => right_any s W
  rw [rightB_no h] at hr
  have HB := (Below.refl w.heap.size w).alloc (Nat.le_refl _) (boxO s)
  clear h
  obtain ⟨n, q, a, c⟩ := s
  unfold S.val at hr ⊢
  unfold boxO at HB
  dsimp only at HB hr ⊢
  go_enter Try.func9, Try.ntmps9
  go_wp2_with (go_at_call 13; refine (hr _).mono ?_; rintro e w' ⟨rfl, hB⟩)
  go_ret2
  exact ⟨ret_se HS.out HE.out, below_th HB hB⟩

set_option maxHeartbeats 1000000 in
theorem encode_yes (s : S) (w : World) (h : RightP s) : Calls Try.prog 9 #[s.val] w fun e w' => e = .returned (.tuple #[.string (encS s), .int .i64 (encE s)]) ∧ Below w.heap.size w w' := by
  have HS := Lib.hid (encS_yes h)
  have HE := Lib.hid (encE_yes h)
  have hr := fun W => right_any s W
  rw [rightB_yes h] at hr
  have HB := (Below.refl w.heap.size w).alloc (Nat.le_refl _) (boxO s)
  obtain ⟨n, q, a, c⟩ := s
  unfold S.val at hr ⊢
  unfold boxO at HB
  obtain ⟨⟨b1, b2, b3⟩, a1, a2, ⟨s1, s2⟩, c1, c2⟩ := h
  dsimp only at HB hr b1 b2 b3 a1 a2 s1 s2 c1 c2 ⊢
  obtain ⟨m, rfl⟩ := Int.eq_ofNat_of_zero_le (show 0 ≤ n by omega)
  obtain ⟨k, rfl⟩ := Int.eq_ofNat_of_zero_le (show 0 ≤ a by omega)
  have e4 : (256 : Nat) ^ 4 = 4294967296 := by decide
  have e6 : (256 : Nat) ^ 6 = 281474976710656 := by decide
  have P1 := Lib.hid (fun W => sput_any m 4 W (by omega) (by omega) (by omega))
  have P2 := Lib.hid (fun W => sput_any q 6 W (by omega) (by omega) (by omega))
  have P3 := Lib.hid (fun W => sput_any k 4 W (by omega) (by omega) (by omega))
  have P4 := Lib.hid (fun W => sput_any c 6 W (by omega) (by omega) (by omega))
  have w1 : IntKind.u64.wrap (m : Int) = m := by rw [IntKind.wrap_u64]; omega
  have w2 : IntKind.u64.wrap (k : Int) = k := by rw [IntKind.wrap_u64]; omega
  obtain ⟨B1, hB1⟩ : ∃ x, numB m 4 = x := ⟨_, rfl⟩
  obtain ⟨B2, hB2⟩ : ∃ x, numB q 6 = x := ⟨_, rfl⟩
  obtain ⟨B3, hB3⟩ : ∃ x, numB k 4 = x := ⟨_, rfl⟩
  obtain ⟨B4, hB4⟩ : ∃ x, numB c 6 = x := ⟨_, rfl⟩
  have z1 : B1.size = 4 := by rw [← hB1, numB_size]
  have z2 : B2.size = 6 := by rw [← hB2, numB_size]
  have z3 : B3.size = 4 := by rw [← hB3, numB_size]
  have z4 : B4.size = 6 := by rw [← hB4, numB_size]
  have hsd : said ⟨m, q, k, c⟩ = mk ++ B1 ++ B2 ++ B3 ++ B4 := by rw [← hB1, ← hB2, ← hB3, ← hB4]; rfl
  rw [hsd] at HS
  simp only [hB1, hB2, hB3, hB4] at P1 P2 P3 P4
  have hsz : (mk ++ B1 ++ B2 ++ B3 ++ B4).size = 24 := by rw [← hsd]; exact said_size _
  clear hsd hB1 hB2 hB3 hB4
  have hok : fitOk (mk ++ B1 ++ B2 ++ B3 ++ B4) 512 := ⟨by rw [hsz]; decide, by decide⟩
  have hf := fun W => fit_any (mk ++ B1 ++ B2 ++ B3 ++ B4) 512 W (by omega)
  rw [fitS_yes hok, fitE_yes hok, hsz] at hf
  clear hok
  unfold mk at hf HS
  obtain ⟨W0, hW0⟩ : ∃ W0, w.alloc (.cells #[.int .i64 (m : Int), .int .u64 (q : Int), .int .i64 (k : Int), .int .u64 (c : Int)] 24) = W0 := ⟨_, rfl⟩
  have hA : At W0 w.heap.size ⟨m, q, k, c⟩ := by rw [← hW0]; exact At.new w ⟨m, q, k, c⟩
  have HC : Hid (∀ W, Below W0.heap.size W0 W → W.cell? ⟨w.heap.size, 0, none⟩ = some (.int .i64 (m : Int)) ∧ W.cell? ⟨w.heap.size, 1, none⟩ = some (.int .u64 (q : Int)) ∧ W.cell? ⟨w.heap.size, 2, none⟩ = some (.int .i64 (k : Int)) ∧ W.cell? ⟨w.heap.size, 3, none⟩ = some (.int .u64 (c : Int))) := fun W hW => (hA.th hW).c
  obtain ⟨g0, g1, g2, g3⟩ := hA.c
  dsimp only at g0 g1 g2 g3
  have hB0 : Below w.heap.size w W0 := by rw [← hW0]; exact HB
  have hr0 := hr W0
  clear hr HB hA
  go_enter Try.func9, Try.ntmps9
  go_wp2_with (go_at_call 13; refine hr0.mono ?_; rintro e W1 ⟨rfl, hB1⟩)
  have hD1 : Below W0.heap.size W0 W1.drew := hB1.drew
  go_region_held3 (fun w' => (w'.cell? ⟨w.heap.size, 0, none⟩ = some (.int .i64 (m : Int)) ∧ w'.cell? ⟨w.heap.size, 1, none⟩ = some (.int .u64 (q : Int)) ∧ w'.cell? ⟨w.heap.size, 2, none⟩ = some (.int .i64 (k : Int)) ∧ w'.cell? ⟨w.heap.size, 3, none⟩ = some (.int .u64 (c : Int)))) (first | exact HC.out _ hB1 | exact HC.out _ (by assumption)) (first
    | (go_at_call 19; with_reducible refine Calls.mono (P1.out _) ?_; rintro e w' ⟨rfl, hBn⟩; have := below_th (by assumption : Below W0.heap.size W0 _) hBn)
    | (go_at_call 19; with_reducible refine Calls.mono (P2.out _) ?_; rintro e w' ⟨rfl, hBn⟩; have := below_th (by assumption : Below W0.heap.size W0 _) hBn)
    | (go_at_call 19; with_reducible refine Calls.mono (P3.out _) ?_; rintro e w' ⟨rfl, hBn⟩; have := below_th (by assumption : Below W0.heap.size W0 _) hBn)
    | (go_at_call 19; with_reducible refine Calls.mono (P4.out _) ?_; rintro e w' ⟨rfl, hBn⟩; have := below_th (by assumption : Below W0.heap.size W0 _) hBn))
  go_wp2_with (go_at_call 20; refine (hf _).mono ?_; rintro e w' ⟨rfl, hBf⟩)
  go_ret2
  exact ⟨ret_se HS.out HE.out, below_th hB0 (below_th (by assumption) hBf)⟩

theorem encode_any (s : S) (w : World) : Calls Try.prog 9 #[s.val] w fun e w' => e = .returned (.tuple #[.string (encS s), .int .i64 (encE s)]) ∧ Below w.heap.size w w' := by
  by_cases h : RightP s
  · exact encode_yes s w h
  · exact encode_no s w h
end
end Go.Proofs.Ytmknjnmbdnlkpaa.Super
