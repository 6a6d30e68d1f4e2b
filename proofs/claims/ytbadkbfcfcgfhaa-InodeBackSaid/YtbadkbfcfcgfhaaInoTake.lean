/- What the program reads out of bytes. -/
import Derived.Test.YtbadkbfcfcgfhaaInoEnc
namespace Go.Proofs.Ytbadkbfcfcgfhaa.Ino
open Go.RowKit Go.Shelf
attribute [local go_sem] Oper.semAt_some
set_option linter.unusedVariables false
set_option linter.unusedSimpArgs false
theorem takeV_tk (s : ByteArray) (a k : Nat) (h1 : 1 ≤ k) (h2 : k ≤ 8) : takeV s a k = ((tk s a k : Nat) : Int) := by
  by_cases h : a + k ≤ s.size
  · have hok : takeOk s a k := ⟨by omega, by omega, show (0 : Int) ≤ (a : Int) by omega, show (k : Int) ≤ (s.size : Int) - (a : Int) by omega⟩
    rw [takeV_yes hok, tk_yes h, Int.toNat_natCast, Int.toNat_natCast]
  · have hno : ¬ takeOk s a k := fun hh => by
      have : (k : Int) ≤ (s.size : Int) - (a : Int) := hh.2.2.2
      omega
    rw [takeV_no hno, tk_no h]
    rfl
section
set_option maxRecDepth 100000
set_option maxHeartbeats 4000000
theorem itake_any (s : ByteArray) (a k : Nat) (w : World) (hs : s.size ≤ 281474976710656) (ha : a ≤ 1000) (h1 : 1 ≤ k) (h2 : k ≤ 8) : Calls Try.prog 27 #[.string s, .int .i64 a, .int .i64 k] w fun e w' => e = .returned (.int .u64 (tk s a k)) ∧ Below w.heap.size w w' := by
  have hp := take_any s a k w hs (by omega)
  rw [takeV_tk s a k h1 h2] at hp
  generalize tk s a k = x at hp ⊢
  generalize takeE s (a : Int) (k : Int) = e0 at hp
  clear hs ha h1 h2
  go_enter Try.func27, Try.ntmps27
  go_wp2_with (go_at_call 36; refine hp.mono ?_; rintro e w' ⟨rfl, hB⟩)
  go_ret
  exact ⟨rfl, hB⟩
theorem takeMap_any (s : ByteArray) (w : World) (hs : s.size ≤ 281474976710656) : Calls Try.prog 28 #[.string s] w (Ans w (decM s).val) := by
  have hT := Lib.hid (fun k (hk : k < 6) W => itake_any s (16 + k * 4) 4 W hs (by omega) (by omega) (by omega))
  have hD := Lib.hid (fun i (h : i < 6) => decM_at s i h)
  have hL := Lib.hid (fun a => tk_lt s a 4)
  obtain ⟨D, hDe⟩ : ∃ D, decM s = D := ⟨_, rfl⟩
  rw [hDe] at hD ⊢
  have b0 := AtM.new w M.zero
  have b1 := AtM.new (w.alloc (boxM M.zero)) M.zero
  rw [World.size_alloc] at b1
  have hB := below_al (below_new w (boxM M.zero)) (boxM M.zero)
  replace b0 := b0.below (below_new (w.alloc (boxM M.zero)) (boxM M.zero)) (by simp)
  obtain ⟨W0, hW0⟩ : ∃ W0, (w.alloc (.cells #[.int .u32 0, .int .u32 0, .int .u32 0, .int .u32 0, .int .u32 0, .int .u32 0] 25)).alloc (.cells #[.int .u32 0, .int .u32 0, .int .u32 0, .int .u32 0, .int .u32 0, .int .u32 0] 25) = W0 := ⟨_, rfl⟩
  replace b0 : AtM W0 w.heap.size M.zero := by rw [← hW0]; exact b0
  replace b1 : AtM W0 (w.heap.size + 1) M.zero := by rw [← hW0]; exact b1
  replace hB : Below w.heap.size w W0 := by rw [← hW0]; exact hB
  have hc0 : cutM D 0 = M.zero := cutM_zero D
  rw [← hc0] at b1
  clear hDe hc0 hs
  go_enter Try.func28, Try.ntmps28
  go_wp2
  go_loopw [4, 5] (fun _ i wr => ∃ k : Nat, k ≤ 6 ∧ i = .int .i64 (k : Int) ∧ AtM wr (w.heap.size + 1) (cutM D k) ∧ AtM wr w.heap.size M.zero ∧ Hid (Below w.heap.size w wr)) (fun _ i _ => 6 - (intOf i).toNat)
  case atStart => exact ⟨0, by omega, rfl, b1, b0, hB⟩
  case round =>
    obtain ⟨k, hk, rfl, hA, hZ, HB⟩ := hrel
    by_cases hlt : k < 6
    · have hlt2 : (k : Int) < 6 := by omega
      have hTk := hT.out k hlt
      have hDk := hD.out k hlt
      have hLk := hL.out (16 + k * 4)
      rw [show (256 : Nat) ^ 4 = 4294967296 by decide] at hLk
      have hcut := cutM_succ D k hlt
      obtain ⟨x, hx⟩ : ∃ x, tk s (16 + k * 4) 4 = x := ⟨_, rfl⟩
      obtain ⟨p, hp⟩ : ∃ p, 16 + k * 4 = p := ⟨_, rfl⟩
      rw [hx] at hTk hDk hLk
      rw [hDk] at hcut
      rw [hp] at hTk
      have hpp : (16 : Int) + (k : Int) * 4 = (p : Int) := by omega
      have hw1 : IntKind.i64.wrap ((k : Int) * 4) = (k : Int) * 4 := by rw [IntKind.wrap_i64]; omega
      have hw2 : IntKind.i64.wrap (p : Int) = p := by rw [IntKind.wrap_i64]; omega
      have hw3 : IntKind.u32.wrap (x : Int) = x := by rw [IntKind.wrap_u32]; omega
      have HTk := Lib.hid hTk
      have HN : Hid (∀ W2, Below wr.heap.size wr W2 → W2.cell? ⟨w.heap.size + 1, k, none⟩ = some (.int .u32 ((cutM D k).at' k)) ∧ W2.frozen? ⟨w.heap.size + 1, k, none⟩ = false ∧ AtM (W2.setCell ⟨w.heap.size + 1, k, none⟩ (.int .u32 x)) (w.heap.size + 1) (cutM D (k + 1)) ∧ AtM (W2.setCell ⟨w.heap.size + 1, k, none⟩ (.int .u32 x)) w.heap.size M.zero ∧ Below w.heap.size w (W2.setCell ⟨w.heap.size + 1, k, none⟩ (.int .u32 x))) := fun W2 h2 => by
        have hA2 := hA.th h2
        obtain ⟨h3, h4⟩ := hA2.put hlt x
        rw [hcut] at h3
        exact ⟨hA2.cell hlt, hA2.f k, h3, (hZ.th h2).of_heap (Below.heap_setCell _ _ _ _ (by show w.heap.size ≠ w.heap.size + 1; omega)), (below_th HB.out h2).trans (h4.mono (by omega))⟩
      clear hTk hDk hcut hx hp hA hZ hB b0 b1
      go_wp2_with (go_at_call 27; (with_reducible refine Calls.mono (HTk.out _) ?_); rintro e w2 ⟨rfl, hB2⟩; obtain ⟨q1, q2, q3⟩ := HN.out _ hB2; have HQ := Lib.hid q3; clear q3)
      go_roundw
      case rel => exact ⟨k + 1, by omega, by go_num, HQ.out.1, HQ.out.2.1, HQ.out.2.2⟩
      case measure => simp [intOf]; omega
    · obtain rfl : k = 6 := by omega
      have hcD : cutM D 6 = D := by
        apply M.ext'
        intro i hi
        rw [cutM_at D 6 i hi, if_pos hi]
      rw [hcD] at hA
      have f0 := hZ.f 0
      have f1 := hZ.f 1
      have f2 := hZ.f 2
      have f3 := hZ.f 3
      have f4 := hZ.f 4
      have f5 := hZ.f 5
      obtain ⟨x0, x1, x2, x3, x4, x5⟩ := hZ.c
      obtain ⟨y0, y1, y2, y3, y4, y5⟩ := hA.c
      obtain ⟨hAp, hBp⟩ := hZ.put6 D
      have HAp := Lib.hid hAp
      have HBp := Lib.hid hBp
      clear hcD hA hZ hAp hBp hB b0 b1
      go_wp2
      refine bodyPost_ret (results_cellM rfl _ _ rfl HAp.out) rfl ?_
      exact ⟨rfl, HB.out.trans HBp.out⟩
end
end Go.Proofs.Ytbadkbfcfcgfhaa.Ino
