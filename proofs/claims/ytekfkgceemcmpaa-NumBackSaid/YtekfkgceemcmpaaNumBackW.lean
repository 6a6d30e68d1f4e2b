/- The walk of NumBack: it answers true. -/
import Derived.Test.YtekfkgceemcmpaaNumFacts
import Derived.Test.YtekfkgceemcmpaaNumPutsW
namespace Go.Proofs.Ytekfkgceemcmpaa
open Go.RowKit Go.Shelf
set_option linter.unusedVariables false

/-- a call that answers a text and an error, and leaves what lay -/
def GivesSE (f : FuncId) (args : Array Value) (A : ByteArray) (E : Int) : Prop := ∀ W : World, Calls Try.prog f args W fun e w' => e = .returned (.tuple #[.string A, .int .i64 E]) ∧ Below W.heap.size W w'
/-- a call that answers a number and an error, and leaves what lay -/
def GivesNE (f : FuncId) (args : Array Value) (A : Int) (E : Int) : Prop := ∀ W : World, Calls Try.prog f args W fun e w' => e = .returned (.tuple #[.int .u64 A, .int .i64 E]) ∧ Below W.heap.size W w'
def GivesSIE (f : FuncId) (args : Array Value) (A : ByteArray) (I : Int) (E : Int) : Prop := ∀ W : World, Calls Try.prog f args W fun e w' => e = .returned (.tuple #[.string A, .int .i64 I, .int .i64 E]) ∧ Below W.heap.size W w'

theorem seAt {f : FuncId} {args : Array Value} {A : ByteArray} {E : Int} (h : Hid (GivesSE f args A E)) (W : World) : Calls Try.prog f args W fun e w' => e = .returned (.tuple #[.string A, .int .i64 E]) ∧ Below W.heap.size W w' := h W
theorem neAt {f : FuncId} {args : Array Value} {A E : Int} (h : Hid (GivesNE f args A E)) (W : World) : Calls Try.prog f args W fun e w' => e = .returned (.tuple #[.int .u64 A, .int .i64 E]) ∧ Below W.heap.size W w' := h W
theorem sieAt {f : FuncId} {args : Array Value} {A : ByteArray} {I E : Int} (h : Hid (GivesSIE f args A I E)) (W : World) : Calls Try.prog f args W fun e w' => e = .returned (.tuple #[.string A, .int .i64 I, .int .i64 E]) ∧ Below W.heap.size W w' := h W

theorem below_th {w u v : World} (h : Below w.heap.size w u) (k : Below u.heap.size u v) : Below w.heap.size w v := h.trans (k.mono h.size)

theorem putS_size (n : Nat) (wd : Int) : (putS n wd).size ≤ 8 := by
  by_cases h : putOk n wd
  · rw [putS_yes h, numB_size]
    have := h.1
    have := h.2.1
    omega
  · rw [putS_no h]
    exact Nat.zero_le _
theorem textS_size (t : ByteArray) : (textS t).size ≤ 65537 := by
  by_cases h : textOk t
  · rw [textS_yes h, ByteArray.size_append, numB_size]
    unfold textOk at h
    omega
  · rw [textS_no h]
    exact Nat.zero_le _

theorem part1 (n : Nat) (wd : Int) (s : ByteArray) (hn : n < 256 ^ 8) (hs : s.size ≤ 140737488351232) :
    ∃ (A : ByteArray) (E1 X E2 : Int), Hid (GivesSE 11 #[.int .u64 n, .int .i64 wd] A E1) ∧ Hid (GivesNE 13 #[.string (s ++ A), .int .i64 s.size, .int .i64 wd] X E2) ∧ A.size ≤ 8 ∧
      ((E1 = 0 ∧ E2 = 0 ∧ X = n ∧ (((A.size : Nat) : Int) != wd) = false) ∨ E1 = 2) := by
  have hsz := putS_size n wd
  refine ⟨putS n wd, putE n wd, takeV (s ++ putS n wd) s.size wd, takeE (s ++ putS n wd) s.size wd, fun W => put_any n wd W hn, fun W => take_any _ _ _ W (by rw [ByteArray.size_append]; omega) (by omega), hsz, ?_⟩
  by_cases h : putOk n wd
  · obtain ⟨h1, h2, h3⟩ := take_put (s := s) h
    refine .inl ⟨putE_yes h, h1, h2, ?_⟩
    rw [h3]
    have := h.1
    simp
    omega
  · exact .inr (putE_no h)

theorem part2 (s t : ByteArray) (hs : s.size ≤ 140737488351232) (ht : t.size ≤ 140737488351232) :
    ∃ (B : ByteArray) (E3 : Int) (Y : ByteArray) (I E4 : Int), Hid (GivesSE 15 #[.string t] B E3) ∧ Hid (GivesSIE 17 #[.string (s ++ B), .int .i64 s.size] Y I E4) ∧ B.size ≤ 65537 ∧
      ((E3 = 0 ∧ E4 = 0 ∧ Y = t ∧ I = (s.size : Int) + (B.size : Int)) ∨ E3 = 2) := by
  have hsz := textS_size t
  refine ⟨textS t, textE t, tokS (s ++ textS t) s.size, tokI (s ++ textS t) s.size, tokE (s ++ textS t) s.size, fun W => text_any t W (by omega), fun W => tok_any _ _ W (by rw [ByteArray.size_append]; omega) (by omega), hsz, ?_⟩
  by_cases h : textOk t
  · obtain ⟨h1, h2, h3⟩ := tok_text (s := s) h
    exact .inl ⟨textE_yes h, h1, h2, h3⟩
  · exact .inr (textE_no h)

theorem part3 (s : ByteArray) (at0 wd : Int) (hs : s.size ≤ 140737488351232) (hat : at0 ≤ 9223372036854775807) :
    (∃ (a k v : Nat) (C : ByteArray), at0 = a ∧ wd = k ∧ 1 ≤ k ∧ k ≤ 8 ∧ a + k ≤ s.size ∧ Hid (GivesNE 13 #[.string s, .int .i64 at0, .int .i64 wd] v 0) ∧ Hid (GivesSE 11 #[.int .u64 v, .int .i64 wd] C 0) ∧ C.size = k ∧ C = s.extract a (a + k)) ∨
    (∃ (C : ByteArray) (E6 : Int), Hid (GivesNE 13 #[.string s, .int .i64 at0, .int .i64 wd] 0 2) ∧ Hid (GivesSE 11 #[.int .u64 0, .int .i64 wd] C E6)) := by
  by_cases h : takeOk s at0 wd
  · obtain ⟨a, k, ha, hk, h1, h2, h3, h4, h5, h6, h7, h8⟩ := put_take h
    refine .inl ⟨a, k, takeN s a k, putS (takeN s a k) wd, ha, hk, h1, h2, h3, fun W => ?_, fun W => ?_, by rw [h7]; exact h8, h7⟩
    · have := take_any s at0 wd W (by omega) hat
      rw [h4, takeE_yes h] at this
      exact this
    · have := put_any (takeN s a k) wd W h5
      rw [h6] at this
      exact this
  · refine .inr ⟨putS 0 wd, putE 0 wd, fun W => ?_, fun W => put_any 0 wd W (by decide)⟩
    have := take_any s at0 wd W (by omega) hat
    rw [takeV_no h, takeE_no h] at this
    exact this

set_option maxRecDepth 100000 in
set_option maxHeartbeats 1000000 in
theorem NumBack_walk (a0 : Int) (a1 : Int) (a2 : ByteArray) (a3 : ByteArray) (a4 : Int) (w0 : (Lit.int .u64 a0).wf = true) (w1 : (Lit.int .i64 a1).wf = true) (z2 : a2.size ≤ 140737488351232) (z3 : a3.size ≤ 140737488351232) (w4 : (Lit.int .i64 a4).wf = true) (w : World) :
    Calls Try.prog 6 #[.int .u64 a0, .int .i64 a1, .string a2, .string a3, .int .i64 a4] w fun e w' => e = .returned (.bool true) ∧ Below w.heap.size w w' := by
  have b0 := bounds_u64 w0
  have b4 := bounds_i64 w4
  obtain ⟨n, rfl⟩ := Int.eq_ofNat_of_zero_le b0.1
  obtain ⟨A, E1, X, E2, P1, T1, hA, h1⟩ := part1 n a1 a3 (u64_bound w0) z3
  obtain ⟨B, E3, Y, I, E4, P2, T2, hB, h2⟩ := part2 a3 a2 z3 z2
  have hadd1 := fun W => run_string_add_sum (P := Try.prog) (w := W) a3 A (by omega)
  have hadd2 := fun W => run_string_add_sum (P := Try.prog) (w := W) a3 B (by omega)
  have hS : ((a3.size : Nat) : Int) ≤ 140737488351232 := by omega
  have h3 := part3 a3 a4 a1 z3 b4.2
  clear b0 b4 w0 w1 w4
  rcases h3 with ⟨a, k, v, C, rfl, rfl, hk1, hk2, hak, T3, P3, hC, hCe⟩ | ⟨C, E6, T3, P3⟩
  · have HC := Lib.hid hCe
    have hC1 : (((C.size : Nat) : Int) == (k : Int)) = true := by rw [hC]; simp
    clear hC hCe
    rcases h1 with ⟨rfl, rfl, rfl, h1⟩ | rfl
    all_goals
      rcases h2 with ⟨rfl, rfl, rfl, rfl⟩ | rfl
      all_goals
        go_enter Try.func6, Try.ntmps6
        go_wp2_with (first | (go_at_call 10; refine (shown_any _).mono ?_; rintro e u1 ⟨rfl, hB1⟩) | (go_at_call 15; refine Calls.mono (seAt P2 _) ?_; rintro e u2 ⟨rfl, hB2⟩) | (go_at_call 17; refine Calls.mono (sieAt T2 _) ?_; rintro e u3 ⟨rfl, hB3⟩) | (go_at_call 11; ((with_reducible refine Calls.mono (seAt P1 _) ?_); rintro e u4 ⟨rfl, hB4⟩)) | (go_at_call 13; ((with_reducible refine Calls.mono (neAt T1 _) ?_); rintro e u5 ⟨rfl, hB5⟩)) | (go_at_call 11; ((with_reducible refine Calls.mono (seAt P3 _) ?_); rintro e u6 ⟨rfl, hB6⟩)) | (go_at_call 13; ((with_reducible refine Calls.mono (neAt T3 _) ?_); rintro e u7 ⟨rfl, hB7⟩)))
        go_ret
        exact ⟨by rw [HC.out]; simp, below_th (below_th (below_th (below_th (below_th (below_th hB1 hB4) hB5) hB2) hB3) hB7) hB6⟩
  · rcases h1 with ⟨rfl, rfl, rfl, h1⟩ | rfl
    all_goals
      rcases h2 with ⟨rfl, rfl, rfl, rfl⟩ | rfl
      all_goals
        go_enter Try.func6, Try.ntmps6
        go_wp2_with (first | (go_at_call 10; refine (shown_any _).mono ?_; rintro e u1 ⟨rfl, hB1⟩) | (go_at_call 15; refine Calls.mono (seAt P2 _) ?_; rintro e u2 ⟨rfl, hB2⟩) | (go_at_call 17; refine Calls.mono (sieAt T2 _) ?_; rintro e u3 ⟨rfl, hB3⟩) | (go_at_call 11; ((with_reducible refine Calls.mono (seAt P1 _) ?_); rintro e u4 ⟨rfl, hB4⟩)) | (go_at_call 13; ((with_reducible refine Calls.mono (neAt T1 _) ?_); rintro e u5 ⟨rfl, hB5⟩)) | (go_at_call 11; ((with_reducible refine Calls.mono (seAt P3 _) ?_); rintro e u6 ⟨rfl, hB6⟩)) | (go_at_call 13; ((with_reducible refine Calls.mono (neAt T3 _) ?_); rintro e u7 ⟨rfl, hB7⟩)))
        go_ret
        exact ⟨rfl, below_th (below_th (below_th (below_th (below_th (below_th hB1 hB4) hB5) hB2) hB3) hB7) hB6⟩

end Go.Proofs.Ytekfkgceemcmpaa
