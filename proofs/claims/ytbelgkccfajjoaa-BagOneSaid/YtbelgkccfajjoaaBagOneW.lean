/- The walk of BagOne: it answers true. -/
import Derived.Test.YtbelgkccfajjoaaBagOnM
namespace Go.Proofs.Ytbelgkccfajjoaa
open Go.RowKit Go.Shelf
open I (BagOn)
set_option linter.unusedVariables false

theorem put_mem (a : Int) (v : Int) (xs : List (Int × Int)) (y : Int × Int) (h : y ∈ T.put a v xs) : y.1 = a ∨ y ∈ xs := by
  induction xs with
  | nil => simp [T.put] at h; exact .inl (by rw [h])
  | cons x xs ih =>
    rw [T.put] at h
    split at h
    · rcases List.mem_cons.1 h with rfl | h
      · exact .inr (by simp)
      · exact (ih h).imp id (fun h => by simp [h])
    · split at h
      · rcases List.mem_cons.1 h with rfl | h
        · exact .inl rfl
        · exact .inr (by simp [h])
      · rcases List.mem_cons.1 h with rfl | h
        · exact .inl rfl
        · exact .inr h
theorem put_rise (a : Int) (v : Int) (xs : List (Int × Int)) (hr : T.Rise xs) : T.Rise (T.put a v xs) := by
  induction xs with
  | nil => simp [T.put, T.Rise]
  | cons x xs ih =>
    obtain ⟨h1, h2⟩ := List.pairwise_cons.1 hr
    rw [T.put]
    split
    · refine List.pairwise_cons.2 ⟨fun y hy => ?_, ih h2⟩
      rcases put_mem a v xs y hy with h | h
      · omega
      · exact h1 y h
    · split
      · rename_i h3 h4
        exact List.pairwise_cons.2 ⟨fun y hy => by have := h1 y hy; show a < y.1; omega, h2⟩
      · refine List.pairwise_cons.2 ⟨fun y hy => ?_, hr⟩
        show a < y.1
        rcases List.mem_cons.1 hy with rfl | hy
        · omega
        · have := h1 y hy; omega
theorem fillL_rise (l : List Int) : T.Rise (fillL l) := by
  unfold fillL
  suffices ∀ xs, T.Rise xs → T.Rise (l.foldl (fun xs x => T.put x x xs) xs) from this [] List.Pairwise.nil
  induction l with
  | nil => exact fun xs h => h
  | cons x l ih => exact fun xs h => ih _ (put_rise x x xs h)

/-- where both are one number, or another -/
structure OneF (at0 other : Int) (xs : List (Int × Int)) (v0 v1 v2 : Int) (b0 b1 b2 : Bool) : Prop where
  g0 : (T.get other xs).getD 0 = v0 ∧ (T.get other xs).isSome = b0
  g1 : (T.get other (T.put at0 7 xs)).getD 0 = v1 ∧ (T.get other (T.put at0 7 xs)).isSome = b1
  g2 : (T.get other (T.del at0 (T.put at0 7 xs))).getD 0 = v2 ∧ (T.get other (T.del at0 (T.put at0 7 xs))).isSome = b2

set_option maxRecDepth 100000 in
set_option maxHeartbeats 8000000 in
theorem BagOne_core (v : Value) (L : List Int) (at0 other : Int) (w : World) (hL : Lies w v L.length 1 (L.map (.int .i64))) (same th : Bool) (v1 v2 : Int) (b1 b2 : Bool) (v0 : Int) (b0 : Bool)
    (hF0 : OneF at0 other (fillL (L.take (min L.length 200))) v0 v1 v2 b0 b1 b2) (hth : (T.get at0 (fillL (L.take (min L.length 200)))).isSome = th) (hs : if same = true then other = at0 else ¬ other = at0) (he : same = false → v1 = v0 ∧ v2 = v0 ∧ b1 = b0 ∧ b2 = b0) :
    Calls Try.prog 7 #[v, .int .i64 at0, .int .i64 other] w fun e w' => e = .returned (.bool true) ∧ Below w.heap.size w w' := by
  obtain ⟨a, cap, rfl, hn, hm, hlen, hcells⟩ := hL
  have hm0 := hm.1
  unfold maxLen at hm0
  obtain ⟨K, hK⟩ : ∃ K, min L.length 200 = K := ⟨_, rfl⟩
  rw [hK] at hF0 hth
  have hLL : Lies w (.slice a K cap) K 1 (intsL (L.take K)) := ⟨a, cap, rfl, by omega, ⟨by unfold maxLen; omega, hm.2⟩, by simp [intsL]; omega, fun hp => by
    obtain ⟨b, off, e, hc⟩ := hcells (by omega)
    refine ⟨b, off, e, fun j u hj => hc j u ?_⟩
    unfold intsL at hj
    rw [List.map_take, List.getElem?_take] at hj
    split at hj
    · exact hj
    · cases hj⟩
  have hlk : (L.take K).length = K := by simp; omega
  clear hcells hlen
  obtain ⟨xs, hxs⟩ : ∃ xs, fillL (L.take K) = xs := ⟨_, rfl⟩
  rw [hxs] at hF0 hth
  have hxl : xs.length ≤ 200 := by rw [← hxs]; have := fillL_len (L.take K); omega
  have hF : ∀ W, Below w.heap.size w W → Calls Try.prog 15 #[.slice a K cap] W fun e w' => e = .returned (.pointer (some ⟨W.heap.size, 0, none⟩)) ∧ Hid (BagOn w' W.heap.size W.heap.size xs) ∧ Below W.heap.size W w' := fun W hB => by
    have h1 := hLL.below hB
    have := filled_on (L.take K) (.slice a K cap) W (by rw [hlk]; exact h1) (by omega)
    rw [hxs] at this
    exact this
  have HF := Lib.hid hF
  obtain ⟨n, hnn⟩ : ∃ n, xs.length = n := ⟨_, rfl⟩
  obtain ⟨ys, hys⟩ : ∃ ys, T.put at0 7 xs = ys := ⟨_, rfl⟩
  obtain ⟨zs, hzs⟩ : ∃ zs, T.del at0 ys = zs := ⟨_, rfl⟩
  obtain ⟨⟨g0, g0'⟩, ⟨g1, g1'⟩, ⟨g2, g2'⟩⟩ := hF0
  rw [hys] at g1 g1' g2 g2'
  rw [hzs] at g2 g2'
  have hyl : ys.length ≤ 1000 := by rw [← hys]; have := put_len at0 7 xs; omega
  have hzl : zs.length ≤ 1000 := by rw [← hzs]; have := T.del_length at0 ys; omega
  have yat : T.get at0 ys = some 7 := by rw [← hys]; exact T.get_put_self _ _ _
  have zat : T.get at0 zs = none := by rw [← hzs]; exact T.get_del_self _ _
  obtain ⟨m, hmm⟩ : ∃ m : Int, (if th = true then (n : Int) else (n : Int) + 1) = m := ⟨_, rfl⟩
  have c1 := Lib.hid (fun N W h => len_as n xs N W (by omega) h)
  have c2 := Lib.hid (fun N W h => get_as other v0 b0 xs N W (by omega) g0 g0' h)
  have c3 := Lib.hid (fun N W h => get_as at0 ((T.get at0 xs).getD 0) th xs N W (by omega) rfl hth h)
  have c4 := Lib.hid (fun N W h => put_as at0 7 th xs ys N W (by omega) hth hys h)
  have c5 := Lib.hid (fun N W h => get_as other v1 b1 ys N W hyl g1 g1' h)
  have c6 := Lib.hid (fun N W h => get_as at0 7 true ys N W hyl (by rw [yat]; rfl) (by rw [yat]; rfl) h)
  have c7 := Lib.hid (fun N W (h : BagOn W N N ys) => len_as m ys N W (by
    have hr : T.Rise xs := hxs ▸ fillL_rise _
    have := T.put_length at0 7 xs hr
    rw [hys, hth, hnn] at this
    rw [← hmm, this]
    cases th <;> simp) h)
  have c8 := Lib.hid (fun N W h => drop_as at0 true ys zs N W hyl (by rw [yat]; rfl) hzs h)
  have c9 := Lib.hid (fun N W h => get_as other v2 b2 zs N W hzl g2 g2' h)
  have c10 := Lib.hid (fun N W h => get_as at0 0 false zs N W hzl (by rw [zat]; rfl) (by rw [zat]; rfl) h)
  have hwn : IntKind.i64.wrap ((n : Int) + 1) = (n : Int) + 1 := by rw [IntKind.wrap_i64]; omega
  obtain ⟨z0, hz0⟩ : ∃ z0, (T.get at0 xs).getD 0 = z0 := ⟨_, rfl⟩
  rw [hz0] at c3
  have hK2 : K ≤ 200 := by omega
  clear hF hLL hlk hxl hyl hzl yat zat g0 g0' g1 g1' g2 g2' hth hys hzs hnn hxs hz0
  cases th <;> cases same
  all_goals
    simp only [Bool.false_eq_true, if_true, if_false] at hmm
    subst hmm
  all_goals
    simp only [Bool.false_eq_true, if_true, if_false] at hs
    first
      | subst hs
      | obtain ⟨rfl, rfl, rfl, rfl⟩ := he rfl
    clear he
    go_enter Try.func7, Try.ntmps7
    go_wp2_with (first
      | (go_at_call 9; refine (shown_any _).mono ?_; rintro e w1 ⟨rfl, hB1⟩))
    case' inl => rw [show (200 : Nat) = K by omega]
    case' inr => rw [show L.length = K by omega]
  all_goals
    go_wp2_with (first
      | (go_at_call 18; (with_reducible refine Calls.mono (c10.out _ _ hb9.out) ?_); rintro e x10 ⟨rfl, hb10, hB10⟩)
      | (go_at_call 18; (with_reducible refine Calls.mono (c9.out _ _ hb8.out) ?_); rintro e x9 ⟨rfl, hb9, hB9⟩)
      | (go_at_call 19; (with_reducible refine Calls.mono (c8.out _ _ hb6.out) ?_); rintro e x8 ⟨rfl, hb8, hB8⟩)
      | (go_at_call 22; (with_reducible refine Calls.mono (c7.out _ _ hb6.out) ?_); rintro e x7 ⟨rfl, rfl⟩)
      | (go_at_call 18; (with_reducible refine Calls.mono (c6.out _ _ hb5.out) ?_); rintro e x6 ⟨rfl, hb6, hB6⟩)
      | (go_at_call 18; (with_reducible refine Calls.mono (c5.out _ _ hb4.out) ?_); rintro e x5 ⟨rfl, hb5, hB5⟩)
      | (go_at_call 17; (with_reducible refine Calls.mono (c4.out _ _ hb3.out) ?_); rintro e x4 ⟨rfl, hb4, hB4⟩)
      | (go_at_call 18; (with_reducible refine Calls.mono (c3.out _ _ hb2.out) ?_); rintro e x3 ⟨rfl, hb3, hB3⟩)
      | (go_at_call 18; (with_reducible refine Calls.mono (c2.out _ _ hb0.out) ?_); rintro e x2 ⟨rfl, hb2, hB2⟩)
      | (go_at_call 22; (with_reducible refine Calls.mono (c1.out _ _ hb0.out) ?_); rintro e x1 ⟨rfl, rfl⟩)
      | (go_at_call 15; (with_reducible refine Calls.mono (HF.out _ hB1) ?_); rintro e x0 ⟨rfl, hb0, hB0⟩))
    go_ret
    exact ⟨by simp, hB1.trans ((((((((hB0.trans hB2).trans hB3).trans hB4).trans hB5).trans hB6).trans hB8).trans hB9).trans hB10 |>.mono hB1.size)⟩

theorem BagOne_walk (v : Value) (L : List Int) (a1 a2 : Int) (w : World) (hL : Lies w v L.length 1 (L.map (.int .i64))) (wL : ∀ n ∈ L, (Lit.int .i64 n).wf = true) (w1' : (Lit.int .i64 a1).wf = true) (w2' : (Lit.int .i64 a2).wf = true) :
    Calls Try.prog 7 #[v, .int .i64 a1, .int .i64 a2] w fun e w' => e = .returned (.bool true) ∧ Below w.heap.size w w' := by
  by_cases h : a2 = a1
  · exact BagOne_core v L a1 a2 w hL true _ _ _ _ _ _ _ ⟨⟨rfl, rfl⟩, ⟨rfl, rfl⟩, ⟨rfl, rfl⟩⟩ rfl (by simpa using h) (by simp)
  · refine BagOne_core v L a1 a2 w hL false _ _ _ _ _ _ _ ⟨⟨rfl, rfl⟩, ⟨rfl, rfl⟩, ⟨rfl, rfl⟩⟩ rfl (by simpa using h) (fun _ => ?_)
    rw [T.get_del_ne a1 a2 _ h, T.get_put_ne a1 a2 _ _ h]
    exact ⟨rfl, rfl, rfl, rfl⟩
end Go.Proofs.Ytbelgkccfajjoaa
