/- The walk of NumBares: it answers true. -/
import Derived.Test.YtekfkgceemcmpaaNumBackW
namespace Go.Proofs.Ytekfkgceemcmpaa
open Go.RowKit Go.Shelf
set_option linter.unusedVariables false

/-- a call that answers a bool and leaves the world -/
def GivesB (f : FuncId) (args : Array Value) (b : Bool) : Prop := ∀ W : World, Calls Try.prog f args W fun e w' => e = .returned (.bool b) ∧ W = w'
theorem bAt {f : FuncId} {args : Array Value} {b : Bool} (h : Hid (GivesB f args b)) (W : World) : Calls Try.prog f args W fun e w' => e = .returned (.bool b) ∧ W = w' := h W

theorem bare_zero (s : ByteArray) (b : Bool) (h : bareB s 0 = b) (hs : s.size ≤ 281474976710656) : Hid (GivesB 21 #[.string s, .int .i64 0] b) := fun W => by
  have := bare_any s 0 W hs
  rw [show (0 : Int).toNat = 0 from rfl, h] at this
  exact this
theorem bare_at (s : ByteArray) (i : Nat) (b : Bool) (h : bareB s i = b) (hs : s.size ≤ 281474976710656) : Hid (GivesB 21 #[.string s, .int .i64 i] b) := fun W => by
  have := bare_any s i W hs
  rw [Int.toNat_natCast, h] at this
  exact this

theorem fitPart (s : ByteArray) (size : Int) (hs : s.size ≤ 140737488351232) :
    (∃ A : ByteArray, Hid (GivesSE 19 #[.string s, .int .i64 size] A 0) ∧ Hid (GivesSE 19 #[.string A, .int .i64 size] A 0) ∧ (((A.size : Nat) : Int) != size) = false ∧ Hid (GivesB 21 #[.string A, .int .i64 s.size] true) ∧ Hid (A.extract 0 s.size = s) ∧ s.size ≤ A.size ∧ A.size ≤ 65536) ∨
    (∃ (B : ByteArray) (F : Int), Hid (GivesSE 19 #[.string s, .int .i64 size] ⟨#[]⟩ 2) ∧ Hid (GivesSE 19 #[.string ⟨#[]⟩, .int .i64 size] B F)) := by
  by_cases h : fitOk s size
  · obtain ⟨h1, h2, h3, h4, h5, h6⟩ := fit_again h
    have hA : (fitS s size).size ≤ 65536 := by have := h.2; omega
    refine .inl ⟨fitS s size, fun W => ?_, fun W => ?_, by rw [h3]; simp, bare_at _ _ _ h4 (by omega), h5, h6, hA⟩
    · have := fit_any s size W (by omega)
      rw [fitE_yes h] at this
      exact this
    · have := fit_any (fitS s size) size W (by omega)
      rw [h1, h2] at this
      exact this
  · refine .inr ⟨fitS ⟨#[]⟩ size, fitE ⟨#[]⟩ size, fun W => ?_, fun W => fit_any ⟨#[]⟩ size W (by decide)⟩
    have := fit_any s size W (by omega)
    rw [fitS_no h, fitE_no h] at this
    exact this

set_option maxRecDepth 100000 in
set_option maxHeartbeats 1000000 in
theorem NumBares_walk (a0 : ByteArray) (a1 : ByteArray) (a2 : Int) (z0 : a0.size ≤ 140737488351232) (z1 : a1.size ≤ 140737488351232) (w2 : (Lit.int .i64 a2).wf = true) (w : World) :
    Calls Try.prog 8 #[.string a0, .string a1, .int .i64 a2] w fun e w' => e = .returned (.bool true) ∧ Below w.heap.size w w' := by
  have hfp := fitPart a0 a2 z0
  have hadd := fun W => run_string_add_sum (P := Try.prog) (w := W) a0 a1 (by omega)
  have BE := bare_at a0 a0.size true (bareB_end a0 a0.size (Nat.le_refl _)) (by omega)
  obtain ⟨x, hx⟩ : ∃ x, bareB a0 0 = x := ⟨_, rfl⟩
  obtain ⟨y, hy⟩ : ∃ y, bareB a1 0 = y := ⟨_, rfl⟩
  have BX := bare_zero a0 x hx (by omega)
  have BY := bare_zero a1 y hy (by omega)
  have BC := bare_zero (a0 ++ a1) (x && y) (by rw [bare_app, hx, hy]) (by rw [ByteArray.size_append]; omega)
  clear hx hy w2
  rcases hfp with ⟨A, F1, F2, hA, BA, HX, hle, hA2⟩ | ⟨B, F, F1, F2⟩
  · have hq1 : ((A.extract 0 a0.size).toList == a0.toList) = true := by rw [HX.out]; simp
    have hq2 : ((A.extract 0 a0.size).toList != a0.toList) = false := by rw [HX.out]; simp
    cases x
    all_goals
      cases y
      all_goals
        go_enter Try.func8, Try.ntmps8
        go_wp2_with (first | (go_at_call 10; refine (shown_any _).mono ?_; rintro e u1 ⟨rfl, hB1⟩) | (go_at_call 19; ((with_reducible refine Calls.mono (seAt F1 _) ?_); rintro e u2 ⟨rfl, hB2⟩)) | (go_at_call 19; ((with_reducible refine Calls.mono (seAt F2 _) ?_); rintro e u3 ⟨rfl, hB3⟩)) | (go_at_call 21; ((with_reducible refine Calls.mono (bAt BA _) ?_); rintro e u4 ⟨rfl, rfl⟩)) | (go_at_call 21; ((with_reducible refine Calls.mono (bAt BX _) ?_); rintro e u4 ⟨rfl, rfl⟩)) | (go_at_call 21; ((with_reducible refine Calls.mono (bAt BY _) ?_); rintro e u4 ⟨rfl, rfl⟩)) | (go_at_call 21; ((with_reducible refine Calls.mono (bAt BC _) ?_); rintro e u4 ⟨rfl, rfl⟩)) | (go_at_call 21; ((with_reducible refine Calls.mono (bAt BE _) ?_); rintro e u4 ⟨rfl, rfl⟩)))
        go_ret
        exact ⟨rfl, below_th (below_th hB1 hB2) hB3⟩
  · cases x
    all_goals
      cases y
      all_goals
        go_enter Try.func8, Try.ntmps8
        go_wp2_with (first | (go_at_call 10; refine (shown_any _).mono ?_; rintro e u1 ⟨rfl, hB1⟩) | (go_at_call 19; ((with_reducible refine Calls.mono (seAt F1 _) ?_); rintro e u2 ⟨rfl, hB2⟩)) | (go_at_call 19; ((with_reducible refine Calls.mono (seAt F2 _) ?_); rintro e u3 ⟨rfl, hB3⟩)) | (go_at_call 21; ((with_reducible refine Calls.mono (bAt BX _) ?_); rintro e u4 ⟨rfl, rfl⟩)) | (go_at_call 21; ((with_reducible refine Calls.mono (bAt BY _) ?_); rintro e u4 ⟨rfl, rfl⟩)) | (go_at_call 21; ((with_reducible refine Calls.mono (bAt BC _) ?_); rintro e u4 ⟨rfl, rfl⟩)) | (go_at_call 21; ((with_reducible refine Calls.mono (bAt BE _) ?_); rintro e u4 ⟨rfl, rfl⟩)))
        go_ret
        exact ⟨rfl, below_th (below_th hB1 hB2) hB3⟩

end Go.Proofs.Ytekfkgceemcmpaa
