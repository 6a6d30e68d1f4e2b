/- SuperNewest, walked. -/
import Derived.Test.YtmknjnmbdnlkpaaSupArgs
namespace Go.Proofs.Ytmknjnmbdnlkpaa.Super
open Go.RowKit Go.Shelf
attribute [local go_sem] Oper.semAt_some
set_option linter.unusedVariables false

section
set_option maxRecDepth 100000
set_option maxHeartbeats 4000000
theorem SuperNewest_walk (one two : ByteArray) (n a3 : Int) (w : World) (z0 : one.size ≤ 140737488351232) (z1 : two.size ≤ 140737488351232) (k2 : (Lit.int .i64 n).wf = true) (k3 : (Lit.int .u64 a3).wf = true) : Calls Try.prog 4 #[.string one, .string two, .int .i64 n, .int .u64 a3] w fun e w' => e = .returned (.bool true) ∧ Below w.heap.size w w' := by
  have b3 := bounds_u64 k3
  obtain ⟨m, rfl⟩ := Int.eq_ofNat_of_zero_le b3.1
  have hN := fun W => newest_any one two n W (by omega) (by omega)
  have hM := fun W => R.newest_any one two n W (by omega) (by omega)
  obtain ⟨⟨⟨b1, q1, a1, p1⟩, i, f⟩, hZ⟩ : ∃ Z, New one two n = Z := ⟨_, rfl⟩
  unfold NewPost at hN hM
  simp only [hZ] at hN hM
  unfold S.val at hN hM
  dsimp only at hN hM
  have HN := Lib.hid hN
  have HM := Lib.hid hM
  have HG : Hid (∀ w2 w3 : World, Below (w2.alloc (boxO ⟨b1, q1, a1, p1⟩)).heap.size (w2.alloc (boxO ⟨b1, q1, a1, p1⟩)) w3 → At (w3.alloc (boxO ⟨b1, q1, a1, p1⟩)) w2.heap.size ⟨b1, q1, a1, p1⟩ ∧ At (w3.alloc (boxO ⟨b1, q1, a1, p1⟩)) w3.heap.size ⟨b1, q1, a1, p1⟩) := fun w2 w3 h => ⟨((At.new w2 _).th h).th ((Below.refl _ _).alloc (Nat.le_refl _) _), At.new w3 _⟩
  unfold boxO at HG
  dsimp only at HG
  clear hN hM hZ k2 k3 b3 z0 z1
  by_cases h : m % 2 = 1
  · have P1 := Lib.hid (fun W => place_odd m W h)
    have ht : (m : Int) % 2 = 1 := by omega
    have ht2 : (m : Int).tmod 2 = 1 := by rw [Int.tmod_eq_emod_of_nonneg (by omega)]; exact ht
    clear h
    go_enter Try.func4, Try.ntmps4
    go_wp2_with (first
      | (go_at_call 8; refine (shown_any _).mono ?_; rintro e w1 ⟨rfl, hB1⟩)
      | (go_at_call 15; with_reducible refine Calls.mono (HN.out _) ?_; rintro e w2 ⟨rfl, hB2⟩)
      | (go_at_call 16; with_reducible refine Calls.mono (HM.out _) ?_; rintro e w3 ⟨rfl, hB3⟩; obtain ⟨A1, A2⟩ := HG.out _ _ hB3; obtain ⟨x0, x1, x2, x3⟩ := A1.c; obtain ⟨y0, y1, y2, y3⟩ := A2.c; dsimp only at x0 x1 x2 x3 y0 y1 y2 y3)
      | (go_at_call 17; with_reducible refine Calls.mono (P1.out _) ?_; rintro e u2 ⟨rfl, rfl⟩))
    go_ret
    have h2 := below_th hB1 hB2
    exact ⟨rfl, below_al2 (below_th (below_al2 h2 _) hB3) _⟩
  · have P1 := Lib.hid (fun W => place_even m W (by omega))
    have ht : (m : Int) % 2 = 0 := by omega
    have ht2 : (m : Int).tmod 2 = 0 := by rw [Int.tmod_eq_emod_of_nonneg (by omega)]; exact ht
    clear h
    go_enter Try.func4, Try.ntmps4
    go_wp2_with (first
      | (go_at_call 8; refine (shown_any _).mono ?_; rintro e w1 ⟨rfl, hB1⟩)
      | (go_at_call 15; with_reducible refine Calls.mono (HN.out _) ?_; rintro e w2 ⟨rfl, hB2⟩)
      | (go_at_call 16; with_reducible refine Calls.mono (HM.out _) ?_; rintro e w3 ⟨rfl, hB3⟩; obtain ⟨A1, A2⟩ := HG.out _ _ hB3; obtain ⟨x0, x1, x2, x3⟩ := A1.c; obtain ⟨y0, y1, y2, y3⟩ := A2.c; dsimp only at x0 x1 x2 x3 y0 y1 y2 y3)
      | (go_at_call 17; with_reducible refine Calls.mono (P1.out _) ?_; rintro e u2 ⟨rfl, rfl⟩))
    go_ret
    have h2 := below_th hB1 hB2
    exact ⟨rfl, below_al2 (below_th (below_al2 h2 _) hB3) _⟩
end
end Go.Proofs.Ytmknjnmbdnlkpaa.Super
