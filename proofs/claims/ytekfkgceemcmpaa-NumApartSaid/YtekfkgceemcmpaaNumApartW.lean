/- The walk of NumApart: it answers true. -/
import Derived.Test.YtekfkgceemcmpaaNumBackW
namespace Go.Proofs.Ytekfkgceemcmpaa
open Go.RowKit Go.Shelf
set_option linter.unusedVariables false

theorem apart_put (n m : Nat) (wd : Int) (hn : n < 256 ^ 8) (hm : m < 256 ^ 8) :
    ∃ (A B : ByteArray) (E F : Int) (c : Bool), Hid (GivesSE 11 #[.int .u64 n, .int .i64 wd] A E) ∧ Hid (GivesSE 11 #[.int .u64 m, .int .i64 wd] B F) ∧
      (E = 2 ∨ (E = 0 ∧ F = 2) ∨ (E = 0 ∧ F = 0 ∧ (A.toList == B.toList) = c ∧ ((n : Int) == (m : Int)) = c)) := by
  refine ⟨putS n wd, putS m wd, putE n wd, putE m wd, (n : Int) == (m : Int), fun W => put_any n wd W hn, fun W => put_any m wd W hm, ?_⟩
  by_cases h1 : putOk n wd
  · by_cases h2 : putOk m wd
    · refine .inr (.inr ⟨putE_yes h1, putE_yes h2, ?_, rfl⟩)
      rw [putS_yes h1, putS_yes h2]
      by_cases e : n = m
      · subst e; simp
      · have hne : numB n wd.toNat ≠ numB m wd.toNat := fun he => e (numB_inj n m wd.toNat h1.2.2 h2.2.2 he)
        have h3 : ((n : Int) == (m : Int)) = false := by simp; omega
        rw [h3, beq_eq_false_iff_ne]
        exact fun he => hne (ByteArray.ext (Array.toList_inj.1 (by rw [← Lib.toList_data, ← Lib.toList_data]; exact he)))
    · exact .inr (.inl ⟨putE_yes h1, putE_no h2⟩)
  · exact .inl (putE_no h1)

theorem beq_list {A B : ByteArray} {c : Bool} (h : A = B ↔ c = true) : (A.toList == B.toList) = c := by
  rw [Bool.eq_iff_iff, beq_iff_eq, ← h]
  constructor
  · exact fun he => ByteArray.ext (Array.toList_inj.1 (by rw [← Lib.toList_data, ← Lib.toList_data]; exact he))
  · exact fun he => by rw [he]

theorem apart_text (s t : ByteArray) (hs : s.size ≤ 140737488351232) (ht : t.size ≤ 140737488351232) :
    ∃ (A B : ByteArray) (E F : Int) (c : Bool), Hid (GivesSE 15 #[.string s] A E) ∧ Hid (GivesSE 15 #[.string t] B F) ∧
      (E = 2 ∨ (E = 0 ∧ F = 2) ∨ (E = 0 ∧ F = 0 ∧ (A.toList == B.toList) = c ∧ (s.toList == t.toList) = c)) := by
  refine ⟨textS s, textS t, textE s, textE t, s.toList == t.toList, fun W => text_any s W (by omega), fun W => text_any t W (by omega), ?_⟩
  by_cases h1 : textOk s
  · by_cases h2 : textOk t
    · refine .inr (.inr ⟨textE_yes h1, textE_yes h2, ?_, rfl⟩)
      have key : textS s = textS t ↔ s = t := by
        constructor
        · intro he
          have hlt : ∀ {x : ByteArray}, textOk x → x.size < 256 ^ 2 := fun {x} hx => by unfold textOk at hx; rw [show (256 : Nat) ^ 2 = 65536 from rfl]; omega
          have hsz : s.size = t.size := by
            have e1 := congrArg ByteArray.size he
            rw [textS_yes h1, textS_yes h2, ByteArray.size_append, ByteArray.size_append, numB_size, numB_size] at e1
            omega
          rw [textS_yes h1, textS_yes h2, hsz] at he
          exact app_right_inj _ _ _ he
        · exact fun he => by rw [he]
      refine beq_list (key.trans ?_)
      rw [beq_iff_eq]
      constructor
      · exact fun he => by rw [he]
      · exact fun he => ByteArray.ext (Array.toList_inj.1 (by rw [← Lib.toList_data, ← Lib.toList_data]; exact he))
    · exact .inr (.inl ⟨textE_yes h1, textE_no h2⟩)
  · exact .inl (textE_no h1)

set_option maxRecDepth 100000 in
set_option maxHeartbeats 1000000 in
theorem NumApart_walk (a0 : Int) (a1 : Int) (a2 : Int) (a3 : ByteArray) (a4 : ByteArray) (w0 : (Lit.int .u64 a0).wf = true) (w1 : (Lit.int .u64 a1).wf = true) (w2 : (Lit.int .i64 a2).wf = true) (z3 : a3.size ≤ 140737488351232) (z4 : a4.size ≤ 140737488351232) (w : World) :
    Calls Try.prog 9 #[.int .u64 a0, .int .u64 a1, .int .i64 a2, .string a3, .string a4] w fun e w' => e = .returned (.bool true) ∧ Below w.heap.size w w' := by
  obtain ⟨n, rfl⟩ := Int.eq_ofNat_of_zero_le (bounds_u64 w0).1
  obtain ⟨m, rfl⟩ := Int.eq_ofNat_of_zero_le (bounds_u64 w1).1
  obtain ⟨A, B, E, F, c, P1, P2, h1⟩ := apart_put n m a2 (u64_bound w0) (u64_bound w1)
  obtain ⟨X, Y, G, I, d, T1, T2, h2⟩ := apart_text a3 a4 z3 z4
  clear w0 w1 w2
  rcases h1 with rfl | ⟨rfl, rfl⟩ | ⟨rfl, rfl, h1, h1'⟩
  all_goals
    rcases h2 with rfl | ⟨rfl, rfl⟩ | ⟨rfl, rfl, h2, h2'⟩
    all_goals
      go_enter Try.func9, Try.ntmps9
      go_wp2_with (first | (go_at_call 10; refine (shown_any _).mono ?_; rintro e u1 ⟨rfl, hB1⟩) | (go_at_call 11; ((with_reducible refine Calls.mono (seAt P1 _) ?_); rintro e u2 ⟨rfl, hB2⟩)) | (go_at_call 11; ((with_reducible refine Calls.mono (seAt P2 _) ?_); rintro e u3 ⟨rfl, hB3⟩)) | (go_at_call 15; ((with_reducible refine Calls.mono (seAt T1 _) ?_); rintro e u4 ⟨rfl, hB4⟩)) | (go_at_call 15; ((with_reducible refine Calls.mono (seAt T2 _) ?_); rintro e u5 ⟨rfl, hB5⟩)))
      go_ret
      exact ⟨by simp, below_th (below_th (below_th (below_th hB1 hB2) hB3) hB4) hB5⟩

end Go.Proofs.Ytekfkgceemcmpaa
