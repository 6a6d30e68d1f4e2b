/- Encode of the document: the first sector, and bytes 0 behind it. -/
import Derived.Deep.RegionLaw
import Derived.Test.YtmknjnmbdnlkpaaSupRefR
namespace Go.Proofs.Ytmknjnmbdnlkpaa.Super.R
open Go.RowKit Go.Shelf
attribute [local go_sem] Oper.semAt_some
set_option linter.unusedVariables false

theorem below_al {w W : World} (h : Below w.heap.size w W) (o : Obj) : Below w.heap.size w (W.alloc o) := h.alloc h.size _
section
set_option maxRecDepth 100000
set_option maxHeartbeats 1000000 in
theorem sector_any (s : S) (w : World) (h : RightP s) : Calls Try.prog 21 #[s.val] w fun e w' => e = .returned (.string (sector s)) ∧ Below w.heap.size w w' := by
  have HS : Hid (sector s = said s ++ zeros 232) := rfl
  have HB := (Below.refl w.heap.size w).alloc (Nat.le_refl _) (boxO s)
  obtain ⟨n, q, a, c⟩ := s
  unfold S.val
  unfold boxO at HB
  obtain ⟨⟨b1, b2, b3⟩, a1, a2, ⟨s1, s2⟩, c1, c2⟩ := h
  dsimp only at HB b1 b2 b3 a1 a2 s1 s2 c1 c2 ⊢
  obtain ⟨m, rfl⟩ := Int.eq_ofNat_of_zero_le (show 0 ≤ n by omega)
  obtain ⟨k, rfl⟩ := Int.eq_ofNat_of_zero_le (show 0 ≤ a by omega)
  have e8 : (256 : Nat) ^ 8 = 18446744073709551616 := by decide
  have P1 := Lib.hid (fun W => bytes_ref m 4 W (by omega) (by omega) (by omega))
  have P2 := Lib.hid (fun W => bytes_ref q 6 W (by omega) (by omega) (by omega))
  have P3 := Lib.hid (fun W => bytes_ref k 4 W (by omega) (by omega) (by omega))
  have P4 := Lib.hid (fun W => bytes_ref c 6 W (by omega) (by omega) (by omega))
  have w1 : IntKind.u64.wrap (m : Int) = m := by rw [IntKind.wrap_u64]; omega
  have w2 : IntKind.u64.wrap (k : Int) = k := by rw [IntKind.wrap_u64]; omega
  obtain ⟨B1, hB1⟩ : ∃ x, numB m 4 = x := ⟨_, rfl⟩
  obtain ⟨B2, hB2⟩ : ∃ x, numB q 6 = x := ⟨_, rfl⟩
  obtain ⟨B3, hB3⟩ : ∃ x, numB k 4 = x := ⟨_, rfl⟩
  obtain ⟨B4, hB4⟩ : ∃ x, numB c 6 = x := ⟨_, rfl⟩
  have z1 : B1.size = 4 := by rw [← hB1, numB_size]
  have z2 : B2.size = 6 := by rw [← hB2, numB_size]
  have z3 : B3.size = 4 := by rw [← hB3, numB_size]
  have z4 : B4.size = 6 := by rw [← hB4, numB_size]
  have hsd : said ⟨m, q, k, c⟩ = mk ++ B1 ++ B2 ++ B3 ++ B4 := by rw [← hB1, ← hB2, ← hB3, ← hB4]; rfl
  rw [hsd] at HS
  simp only [hB1, hB2, hB3, hB4] at P1 P2 P3 P4
  have hsz : (mk ++ B1 ++ B2 ++ B3 ++ B4).size = 24 := by rw [← hsd]; exact said_size _
  clear hsd hB1 hB2 hB3 hB4
  unfold mk at hsz HS
  obtain ⟨T, hT⟩ : ∃ T, ({ data := #[78, 65, 85, 84] } ++ B1 ++ B2 ++ B3 ++ B4 : ByteArray) = T := ⟨_, rfl⟩
  rw [hT] at hsz HS
  have hsi : (T.size : Int) = 24 := by omega
  obtain ⟨W0, hW0⟩ : ∃ W0, w.alloc (.cells #[.int .i64 (m : Int), .int .u64 (q : Int), .int .i64 (k : Int), .int .u64 (c : Int)] 24) = W0 := ⟨_, rfl⟩
  have hA : At W0 w.heap.size ⟨m, q, k, c⟩ := by rw [← hW0]; exact At.new w ⟨m, q, k, c⟩
  have HC : Hid (∀ W, Below W0.heap.size W0 W → W.cell? ⟨w.heap.size, 0, none⟩ = some (.int .i64 (m : Int)) ∧ W.cell? ⟨w.heap.size, 1, none⟩ = some (.int .u64 (q : Int)) ∧ W.cell? ⟨w.heap.size, 2, none⟩ = some (.int .i64 (k : Int)) ∧ W.cell? ⟨w.heap.size, 3, none⟩ = some (.int .u64 (c : Int))) := fun W hW => (hA.th hW).c
  obtain ⟨g0, g1, g2, g3⟩ := hA.c
  dsimp only at g0 g1 g2 g3
  have hB0 : Below w.heap.size w W0 := by rw [← hW0]; exact HB
  have hD1 : Below W0.heap.size W0 W0.drew := (Below.refl _ _).drew
  have hmk : ∀ W : World, (Instr.makeSlice 43 (.int .i64 232) (.int .i64 232)).run Try.prog W = .ok (.slice (some ⟨W.heap.size, 0, none⟩) 232 232) (W.alloc (.cells (madeCells #[.int .u8 0] 232) 5)) := fun W =>
    run_make_row' (P := Try.prog) 43 5 (.int .u8 0) 1 Try.underlying43 infoByte rfl .i64 .i64 232 (by omega) (by omega) W
  have hcv := fun W => conv_zeros _ _ _ (World.rowIs_made W (.int .u8 0) 232 5) 232
  have hadd := fun W => run_string_add_sum (P := Try.prog) (w := W) T (zeros 232) (by rw [zeros_size, hsz]; omega)
  clear HB hA
  go_enter Try.func21, Try.ntmps21
  go_wp2
  go_region_held3 (fun w' => (w'.cell? ⟨w.heap.size, 0, none⟩ = some (.int .i64 (m : Int)) ∧ w'.cell? ⟨w.heap.size, 1, none⟩ = some (.int .u64 (q : Int)) ∧ w'.cell? ⟨w.heap.size, 2, none⟩ = some (.int .i64 (k : Int)) ∧ w'.cell? ⟨w.heap.size, 3, none⟩ = some (.int .u64 (c : Int)))) (first | exact HC.out _ hD1 | exact HC.out _ (by assumption)) (first
    | (go_at_call 30; with_reducible refine Calls.mono (P1.out _) ?_; rintro e w' ⟨rfl, hBn⟩; have := below_th (by assumption : Below W0.heap.size W0 _) hBn)
    | (go_at_call 30; with_reducible refine Calls.mono (P2.out _) ?_; rintro e w' ⟨rfl, hBn⟩; have := below_th (by assumption : Below W0.heap.size W0 _) hBn)
    | (go_at_call 30; with_reducible refine Calls.mono (P3.out _) ?_; rintro e w' ⟨rfl, hBn⟩; have := below_th (by assumption : Below W0.heap.size W0 _) hBn)
    | (go_at_call 30; with_reducible refine Calls.mono (P4.out _) ?_; rintro e w' ⟨rfl, hBn⟩; have := below_th (by assumption : Below W0.heap.size W0 _) hBn))
  go_wp2
  go_ret
  have hq : Below W0.heap.size W0 w' := by assumption
  exact ⟨by rw [HS.out]; rfl, below_th hB0 (hq.alloc hq.size _)⟩

theorem encode_no (s : S) (w : World) (h : ¬ RightP s) : Calls Try.prog 10 #[s.val] w fun e w' => e = .returned (.tuple #[.string (encS s), .int .i64 (encE s)]) ∧ Below w.heap.size w w' := by
  have HS := Lib.hid (encS_no h)
  have HE := Lib.hid (encE_no h)
  have hr := fun W => right_any s W
  rw [rightB_no h] at hr
  have HB := (Below.refl w.heap.size w).alloc (Nat.le_refl _) (boxO s)
  clear h
  obtain ⟨n, q, a, c⟩ := s
  unfold S.val at hr ⊢
  unfold boxO at HB
  dsimp only at HB hr ⊢
  go_enter Try.func10, Try.ntmps10
  go_wp2_with (go_at_call 14; refine (hr _).mono ?_; rintro e w' ⟨rfl, hB⟩)
  go_ret2
  exact ⟨ret_se HS.out HE.out, below_th HB hB⟩

set_option maxHeartbeats 1000000 in
theorem encode_yes (s : S) (w : World) (h : RightP s) : Calls Try.prog 10 #[s.val] w fun e w' => e = .returned (.tuple #[.string (encS s), .int .i64 (encE s)]) ∧ Below w.heap.size w w' := by
  have HS : Hid (encS s = sector s ++ zeros 256) := by unfold Hid; rw [encS_yes h, enc_two]
  have HE := Lib.hid (encE_yes h)
  have hr := fun W => right_any s W
  rw [rightB_yes h] at hr
  have HSC := Lib.hid (fun W => sector_any s W h)
  have hz := sector_size s
  have HB := (Below.refl w.heap.size w).alloc (Nat.le_refl _) (boxO s)
  clear h
  obtain ⟨T, hT⟩ : ∃ T, sector s = T := ⟨_, rfl⟩
  simp only [hT] at HS HSC hz
  obtain ⟨n, q, a, c⟩ := s
  unfold S.val at hr HSC ⊢
  unfold boxO at HB
  dsimp only at HB hr HSC ⊢
  clear hT
  obtain ⟨W0, hW0⟩ : ∃ W0, w.alloc (.cells #[.int .i64 n, .int .u64 q, .int .i64 a, .int .u64 c] 24) = W0 := ⟨_, rfl⟩
  have hA : At W0 w.heap.size ⟨n, q, a, c⟩ := by rw [← hW0]; exact At.new w ⟨n, q, a, c⟩
  have HC : Hid (∀ W, Below W0.heap.size W0 W → W.cell? ⟨w.heap.size, 0, none⟩ = some (.int .i64 n) ∧ W.cell? ⟨w.heap.size, 1, none⟩ = some (.int .u64 q) ∧ W.cell? ⟨w.heap.size, 2, none⟩ = some (.int .i64 a) ∧ W.cell? ⟨w.heap.size, 3, none⟩ = some (.int .u64 c)) := fun W hW => (hA.th hW).c
  obtain ⟨g0, g1, g2, g3⟩ := hA.c
  dsimp only at g0 g1 g2 g3
  have hB0 : Below w.heap.size w W0 := by rw [← hW0]; exact HB
  have hmk : ∀ W : World, (Instr.makeSlice 43 (.int .i64 256) (.int .i64 256)).run Try.prog W = .ok (.slice (some ⟨W.heap.size, 0, none⟩) 256 256) (W.alloc (.cells (madeCells #[.int .u8 0] 256) 5)) := fun W =>
    run_make_row' (P := Try.prog) 43 5 (.int .u8 0) 1 Try.underlying43 infoByte rfl .i64 .i64 256 (by omega) (by omega) W
  have hcv := fun W => conv_zeros _ _ _ (World.rowIs_made W (.int .u8 0) 256 5) 256
  have hadd := fun W => run_string_add_sum (P := Try.prog) (w := W) T (zeros 256) (by rw [zeros_size, hz]; omega)
  clear HB hA
  go_enter Try.func10, Try.ntmps10
  go_wp2_with (go_at_call 14; refine (hr _).mono ?_; rintro e W1 ⟨rfl, hB1⟩)
  have hD1 : Below W0.heap.size W0 W1.drew := hB1.drew
  obtain ⟨x0, x1, x2, x3⟩ := HC.out _ hB1
  obtain ⟨y0, y1, y2, y3⟩ := HC.out _ (below_al hB1 (.cells (madeCells #[.int .u8 0] 256) 5))
  have hD2 := (below_al hB1 (.cells (madeCells #[.int .u8 0] 256) 5)).drew
  have HX : Hid (∀ w', Below ((W1.alloc (.cells (madeCells #[.int .u8 0] 256) 5)).drew).heap.size ((W1.alloc (.cells (madeCells #[.int .u8 0] 256) 5)).drew) w' → (convert 43 9 (.slice (some ⟨W1.heap.size, 0, none⟩) 256 256)).run Try.prog w' = .ok (.string (zeros 256)) w') := fun w' hBn =>
    conv_zeros w' _ _ ((World.rowIs_made W1 (.int .u8 0) 256 5).of_block (hBn.block W1.heap.size (by simp [World.drew]))) 256
  have hcv2 := HX.out _ (Below.refl _ _)
  go_region_law (first
    | (go_simp; go_at_call 21; with_reducible refine Calls.mono (HSC.out ((W1.alloc (.cells (madeCells #[.int .u8 0] 256) 5)).drew)) ?_; rintro e w' ⟨rfl, hBn⟩; have hBe := below_th hD2 hBn; have hcx := HX.out _ hBn)
    | (go_simp; go_at_call 21; with_reducible refine Calls.mono (HSC.out W1.drew) ?_; rintro e w' ⟨rfl, hBn⟩; have hBe := below_th hD1 hBn))
  all_goals
    simp only [Act.put]
    go_simp
    go_wp2
    go_ret2
    exact ⟨ret_se HS.out HE.out, below_th hB0 (by first | exact hBe | exact below_al hBe _)⟩

theorem encode_any (s : S) (w : World) : Calls Try.prog 10 #[s.val] w fun e w' => e = .returned (.tuple #[.string (encS s), .int .i64 (encE s)]) ∧ Below w.heap.size w w' := by
  by_cases h : RightP s
  · exact encode_yes s w h
  · exact encode_no s w h
end
end Go.Proofs.Ytmknjnmbdnlkpaa.Super.R
