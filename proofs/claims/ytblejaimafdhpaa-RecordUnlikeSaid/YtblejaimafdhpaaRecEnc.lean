/- Encode of the program. -/
import Derived.Test.YtblejaimafdhpaaRecRight
namespace Go.Proofs.Ytblejaimafdhpaa.Record
open Go.RowKit Go.Shelf
attribute [local go_sem] Oper.semAt_some
set_option linter.unusedVariables false

section
set_option maxRecDepth 100000
theorem rput_any (n : Nat) (k : Nat) (w : World) (hn : n < 256 ^ k) (h1 : 1 ≤ k) (h2 : k ≤ 8) : Calls Try.prog 24 #[.int .u64 n, .int .i64 k] w fun e w' => e = .returned (.string (numB n k)) ∧ Below w.heap.size w w' := by
  have hok : putOk n k := ⟨by omega, by omega, by simpa using hn⟩
  have hp := put_any n k w (Nat.lt_of_lt_of_le hn (Nat.pow_le_pow_right (by decide) h2))
  rw [putS_yes hok, putE_yes hok, Int.toNat_natCast] at hp
  clear hok hn
  go_enter Try.func24, Try.ntmps24
  go_wp2_with (go_at_call 37; refine hp.mono ?_; rintro e w' ⟨rfl, hB⟩)
  go_ret
  exact ⟨rfl, hB⟩
theorem rtake_any (s : ByteArray) (a k : Nat) (w : World) (hs : s.size ≤ 281474976710656) (h1 : 1 ≤ k) (h2 : k ≤ 8) (hk : a + k ≤ s.size) : Calls Try.prog 28 #[.string s, .int .i64 a, .int .i64 k] w fun e w' => e = .returned (.int .u64 (takeN s a k)) ∧ Below w.heap.size w w' := by
  have hok : takeOk s a k := ⟨by omega, by omega, by omega, by omega⟩
  have hp := take_any s a k w hs (by omega)
  rw [takeV_yes hok, takeE_yes hok, Int.toNat_natCast, Int.toNat_natCast] at hp
  clear hok
  go_enter Try.func28, Try.ntmps28
  go_wp2_with (go_at_call 39; refine hp.mono ?_; rintro e w' ⟨rfl, hB⟩)
  go_ret
  exact ⟨rfl, hB⟩
theorem flagOf_any (r : R) (v : Value) (w : World) : Calls Try.prog 25 #[r.val v] w fun e w' => e = .returned (.int .u64 (flagN r)) ∧ Below w.heap.size w w' := by
  have HB := below_new w (boxR r v)
  obtain ⟨s, c, en, sy, nx, L⟩ := r
  unfold R.val
  unfold boxR at HB
  dsimp only at HB ⊢
  cases en with
  | true =>
    go_enter Try.func25, Try.ntmps25
    go_wp2
    go_ret
    exact ⟨rfl, HB⟩
  | false =>
    cases sy with
    | true =>
      go_enter Try.func25, Try.ntmps25
      go_wp2
      go_ret
      exact ⟨rfl, HB⟩
    | false =>
      go_enter Try.func25, Try.ntmps25
      go_wp2
      go_ret
      exact ⟨rfl, HB⟩

theorem encode_no (r : R) (v : Value) (w : World) (hL : Ents w v r.l) (h : ¬ RightP r) : Calls Try.prog 10 #[r.val v] w (Ans w (.tuple #[.string (encS r), .int .i64 (encE r)])) := by
  have HS := Lib.hid (encS_no h)
  have HE := Lib.hid (encE_no h)
  have hr : ∀ W, Below w.heap.size w W → Calls Try.prog 14 #[r.val v] W (Ans W (.bool (rightB r))) := fun W hB => right_any r v W (hL.below hB)
  rw [rightB_no h] at hr
  have HB := below_new w (boxR r v)
  have hA := RAt.new w r v
  obtain ⟨g0, g1, g2, g3, g4, g5⟩ := hA.c
  clear h hL hA
  obtain ⟨s, c, en, sy, nx, L⟩ := r
  unfold R.val at hr ⊢
  unfold boxR at HB g0 g1 g2 g3 g4 g5
  dsimp only at HB hr g0 g1 g2 g3 g4 g5 ⊢
  go_enter Try.func10, Try.ntmps10
  go_wp2_with (go_at_call 14; refine (hr _ HB).mono ?_; rintro e w' ⟨rfl, hB⟩)
  go_ret2
  exact ⟨ret_se HS.out HE.out, below_th HB hB⟩
end
end Go.Proofs.Ytblejaimafdhpaa.Record
