/- What BagOrders makes of its two bags, as lists. The reference's Same: true at two rows of the same numbers. Two bags of numbers side by side: the first lies ahead of a place, the second behind it. -/
import Derived.Test.YtbelgkccfajjoaaBagOnM
import Derived.Test.YtbelgkccfajjoaaRow
import Derived.Test.YtbelgkccfajjoaaBagPkHI
namespace Go.Proofs.Ytbelgkccfajjoaa
set_option linter.unusedVariables false

theorem o_put_mem (a : Int) (v : Int) (xs : List (Int × Int)) (y : Int × Int) (h : y ∈ T.put a v xs) : y.1 = a ∨ y ∈ xs := by
  induction xs with
  | nil => simp [T.put] at h; exact .inl (by rw [h])
  | cons x xs ih =>
    rw [T.put] at h
    split at h
    · rcases List.mem_cons.1 h with rfl | h
      · exact .inr (by simp)
      · exact (ih h).imp id (fun h => by simp [h])
    · split at h
      · rcases List.mem_cons.1 h with rfl | h
        · exact .inl rfl
        · exact .inr (by simp [h])
      · rcases List.mem_cons.1 h with rfl | h
        · exact .inl rfl
        · exact .inr h
theorem o_put_rise (a : Int) (v : Int) (xs : List (Int × Int)) (hr : T.Rise xs) : T.Rise (T.put a v xs) := by
  induction xs with
  | nil => simp [T.put, T.Rise]
  | cons x xs ih =>
    obtain ⟨h1, h2⟩ := List.pairwise_cons.1 hr
    rw [T.put]
    split
    · refine List.pairwise_cons.2 ⟨fun y hy => ?_, ih h2⟩
      rcases o_put_mem a v xs y hy with h | h
      · omega
      · exact h1 y h
    · split
      · rename_i h3 h4
        exact List.pairwise_cons.2 ⟨fun y hy => by have := h1 y hy; show a < y.1; omega, h2⟩
      · refine List.pairwise_cons.2 ⟨fun y hy => ?_, hr⟩
        show a < y.1
        rcases List.mem_cons.1 hy with rfl | hy
        · omega
        · have := h1 y hy; omega
theorem o_fillL_rise (l : List Int) : T.Rise (fillL l) := by
  unfold fillL
  suffices ∀ xs, T.Rise xs → T.Rise (l.foldl (fun xs x => T.put x x xs) xs) from this [] List.Pairwise.nil
  induction l with
  | nil => exact fun xs h => h
  | cons x l ih => exact fun xs h => ih _ (o_put_rise x x xs h)

theorem get_gt (k : Int) (xs : List (Int × Int)) (h : ∀ y, y ∈ xs → k < y.1) : T.get k xs = none := T.get_out k xs fun y hy => by have := h y hy; omega
theorem rise_ext (xs ys : List (Int × Int)) (hx : T.Rise xs) (hy : T.Rise ys) (h : ∀ k, T.get k xs = T.get k ys) : xs = ys := by
  induction xs generalizing ys with
  | nil =>
    cases ys with
    | nil => rfl
    | cons y ys => have := h y.1; simp [T.get] at this
  | cons x xs ih =>
    cases ys with
    | nil => have := h x.1; simp [T.get] at this
    | cons y ys =>
      obtain ⟨x1, x2⟩ := List.pairwise_cons.1 hx
      obtain ⟨y1, y2⟩ := List.pairwise_cons.1 hy
      have e1 : x.1 = y.1 := by
        rcases Int.lt_trichotomy x.1 y.1 with hlt | heq | hgt
        · have h1 := h x.1
          have h2 : T.get x.1 (y :: ys) = none := get_gt _ _ fun z hz => by
            rcases List.mem_cons.1 hz with rfl | hz
            · exact hlt
            · have := y1 z hz; omega
          rw [h2] at h1
          simp [T.get] at h1
        · exact heq
        · have h1 := h y.1
          have h2 : T.get y.1 (x :: xs) = none := get_gt _ _ fun z hz => by
            rcases List.mem_cons.1 hz with rfl | hz
            · exact hgt
            · have := x1 z hz; omega
          rw [h2] at h1
          simp [T.get] at h1
      have e2 : x.2 = y.2 := by
        have h1 := h x.1
        simp only [T.get, if_pos] at h1
        rw [if_pos e1.symm] at h1
        exact Option.some.inj h1
      have e3 : x = y := Prod.ext e1 e2
      subst e3
      congr 1
      refine ih ys x2 y2 fun k => ?_
      have h1 := h k
      by_cases hk : x.1 = k
      · rw [get_gt k xs (fun z hz => by have := x1 z hz; omega), get_gt k ys (fun z hz => by have := y1 z hz; omega)]
      · simpa [T.get, hk] using h1

theorem get_fillL (l : List Int) (k : Int) : T.get k (fillL l) = if k ∈ l then some k else none := by
  have : ∀ n, n ≤ l.length → T.get k (fillL (l.take n)) = if k ∈ l.take n then some k else none := by
    intro n
    induction n with
    | zero => intro _; simp [fillL, T.get]
    | succ n ih =>
      intro hn
      have ih2 := ih (by omega)
      rw [List.take_succ_eq_append_getElem (by omega), fillL_snoc]
      revert ih2
      generalize l.take n = A
      generalize l[n] = y
      intro ih2
      by_cases hk : k = y
      · subst hk; rw [T.get_put_self]; simp
      · rw [T.get_put_ne _ _ _ _ hk, ih2]
        simp [hk]
  have h := this l.length (Nat.le_refl _)
  rwa [List.take_length] at h

/-- others put, with nothing -/
def moreL (m : List Int) (xs : List (Int × Int)) : List (Int × Int) := m.foldl (fun xs x => T.put x 0 xs) xs
/-- those from a place on put, the last one first -/
def backL (l : List Int) (xs : List (Int × Int)) : List (Int × Int) := l.foldr (fun x xs => T.put x x xs) xs
/-- those dropped that another bag has not -/
def sievedL (zs : List (Int × Int)) (m : List Int) (xs : List (Int × Int)) : List (Int × Int) := m.foldl (fun xs x => if (T.get x zs).isSome then xs else T.del x xs) xs
theorem moreL_snoc (m : List Int) (x : Int) (xs : List (Int × Int)) : moreL (m ++ [x]) xs = T.put x 0 (moreL m xs) := by simp [moreL]
theorem sievedL_snoc (zs : List (Int × Int)) (m : List Int) (x : Int) (xs : List (Int × Int)) : sievedL zs (m ++ [x]) xs = if (T.get x zs).isSome then sievedL zs m xs else T.del x (sievedL zs m xs) := by simp [sievedL]
theorem moreL_rise (m : List Int) (xs : List (Int × Int)) (h : T.Rise xs) : T.Rise (moreL m xs) := by
  unfold moreL
  induction m generalizing xs with
  | nil => exact h
  | cons x m ih => exact ih _ (o_put_rise x 0 xs h)
theorem backL_rise (l : List Int) (xs : List (Int × Int)) (h : T.Rise xs) : T.Rise (backL l xs) := by
  unfold backL
  induction l with
  | nil => exact h
  | cons x l ih => exact o_put_rise x x _ ih
theorem sievedL_rise (zs : List (Int × Int)) (m : List Int) (xs : List (Int × Int)) (h : T.Rise xs) : T.Rise (sievedL zs m xs) := by
  unfold sievedL
  induction m generalizing xs with
  | nil => exact h
  | cons x m ih =>
    refine ih _ ?_
    show T.Rise (if (T.get x zs).isSome = true then xs else T.del x xs)
    split
    · exact h
    · exact List.Pairwise.filter _ h
theorem get_moreL (m : List Int) (xs : List (Int × Int)) (k : Int) (h : k ∉ m) : T.get k (moreL m xs) = T.get k xs := by
  unfold moreL
  induction m generalizing xs with
  | nil => rfl
  | cons x m ih =>
    rw [List.foldl_cons, ih _ (fun hc => h (by simp [hc])), T.get_put_ne _ _ _ _ (fun e => h (by simp [e]))]
theorem get_backL (l : List Int) (xs : List (Int × Int)) (k : Int) : T.get k (backL l xs) = if k ∈ l then some k else T.get k xs := by
  unfold backL
  induction l with
  | nil => simp
  | cons x l ih =>
    rw [List.foldr_cons]
    by_cases hk : k = x
    · subst hk; rw [T.get_put_self]; simp
    · rw [T.get_put_ne _ _ _ _ hk, ih]; simp [hk]
theorem get_sievedL (zs : List (Int × Int)) (m : List Int) (xs : List (Int × Int)) (k : Int) : T.get k (sievedL zs m xs) = if k ∈ m ∧ (T.get k zs).isSome = false then none else T.get k xs := by
  unfold sievedL
  induction m generalizing xs with
  | nil => simp
  | cons x m ih =>
    rw [List.foldl_cons, ih]
    by_cases hk : k = x
    · subst hk
      by_cases hz : (T.get k zs).isSome = true
      · simp [hz]
      · have hz' : (T.get k zs).isSome = false := by simpa using hz
        simp [hz', T.get_del_self]
    · by_cases hz : (T.get x zs).isSome = true
      · simp [hz, hk]
      · have hz' : (T.get x zs).isSome = false := by simpa using hz
        rw [if_neg hz, T.get_del_ne _ _ _ hk]
        simp [hk]
theorem orders_eq (l m : List Int) : sievedL (fillL l) m (backL l (moreL m [])) = fillL l := by
  refine rise_ext _ _ (sievedL_rise _ _ _ (backL_rise _ _ (moreL_rise _ _ List.Pairwise.nil))) (o_fillL_rise l) fun k => ?_
  rw [get_sievedL, get_backL, get_fillL]
  by_cases hl : k ∈ l
  · simp [hl]
  · by_cases hm : k ∈ m
    · simp [hl, hm]
    · simp [hl, hm, get_moreL m [] k hm, T.get]
theorem moreL_len (m : List Int) (xs : List (Int × Int)) : (moreL m xs).length ≤ xs.length + m.length := by
  unfold moreL
  induction m generalizing xs with
  | nil => simp
  | cons x m ih =>
    rw [List.foldl_cons]
    have := ih (T.put x 0 xs)
    have := put_len x 0 xs
    simp only [List.length_cons]; omega
theorem backL_len (l : List Int) (xs : List (Int × Int)) : (backL l xs).length ≤ xs.length + l.length := by
  unfold backL
  induction l with
  | nil => simp
  | cons x l ih =>
    rw [List.foldr_cons]
    have := put_len x x (List.foldr (fun x xs => T.put x x xs) xs l)
    simp only [List.length_cons]; omega
theorem sievedL_len (zs : List (Int × Int)) (m : List Int) (xs : List (Int × Int)) : (sievedL zs m xs).length ≤ xs.length := by
  unfold sievedL
  induction m generalizing xs with
  | nil => exact Nat.le_refl _
  | cons x m ih =>
    rw [List.foldl_cons]
    refine Nat.le_trans (ih _) ?_
    show (if (T.get x zs).isSome = true then xs else T.del x xs).length ≤ _
    split
    · exact Nat.le_refl _
    · exact T.del_length _ _
end Go.Proofs.Ytbelgkccfajjoaa

namespace Go.Proofs.Ytbelgkccfajjoaa
open Go.RowKit
set_option linter.unusedVariables false

set_option maxRecDepth 100000 in
set_option maxHeartbeats 2000000 in
theorem same_true (L : List Int) (a b : Option Addr) (n c d : Nat) (w : World) (hL : L.length = n) (hn : n ≤ 1000000) (h1 : Lies w (.slice a n c) n 1 (L.map (.int .i64))) (h2 : Lies w (.slice b n d) n 1 (L.map (.int .i64))) :
    Calls Try.prog 21 #[.slice a n c, .slice b n d] w fun e w' => e = .returned (.bool true) ∧ Below w.heap.size w w' := by
  have H1 := Lib.hid h1
  have H2 := Lib.hid h2
  have HL := Lib.hid hL
  clear h1 h2 hL
  go_enter Try.func21, Try.ntmps21
  go_wp2
  go_loopw [5] (fun i wr => ∃ k : Nat, k ≤ n ∧ i = .int .i64 (k : Int) ∧ Below w.heap.size w wr) (fun i _ => n - (intOf i).toNat)
  case atStart => exact ⟨0, Nat.zero_le _, rfl, Below.refl _ _⟩
  case round =>
    obtain ⟨k, hk, rfl, hB⟩ := hrel
    by_cases hlt : k < n
    · obtain ⟨x, hx⟩ : ∃ x, L[k]? = some x := ⟨L[k]'(by rw [HL.out]; exact hlt), by simp⟩
      obtain ⟨b1, o1, rfl, hc1⟩ := (H1.out.below hB).read (j := k) (u := .int .i64 x) (by rw [List.getElem?_map, hx]; rfl)
      obtain ⟨b2, o2, rfl, hc2⟩ := (H2.out.below hB).read (j := k) (u := .int .i64 x) (by rw [List.getElem?_map, hx]; rfl)
      clear hx
      go_wp2
      go_region
      all_goals
        go_wp2
        first
          | exact ⟨⟨k + 1, by omega, by go_num, below_drew hB⟩, by simp [intOf]; omega⟩
          | (go_roundw
             case rel => exact ⟨k + 1, by omega, by go_num, below_drew hB⟩
             case measure => simp [intOf]; omega)
    · obtain rfl : k = n := by omega
      go_wp2
      go_ret
      exact ⟨rfl, hB⟩
end Go.Proofs.Ytbelgkccfajjoaa

namespace Go.Proofs.Ytbelgkccfajjoaa
open Go.RowKit Go.Shelf
open I (BagOn BagIs)
set_option linter.unusedVariables false

structure Two (W : World) (a b : Nat) (xs ys : List (Int × Int)) : Prop where
  one : BagIs W a (fun k => k < b) xs
  two : BagOn W b b ys
theorem bag_bounded {W : World} {a : Nat} {F : Nat → Prop} {xs : List (Int × Int)} (h : BagIs W a F xs) : BagIs W a (fun k => k < W.heap.size) xs := by
  refine ⟨h.rise, h.lt, h.tree.imp id ?_⟩
  rintro ⟨t, d, h1, h2, h3, h4, h5, h6, h7⟩
  exact ⟨t, d, h1, h2, h3, h4, h5, h6, fun r hr k hk => (h2.ok r hr).blk k hk⟩
theorem two_below {W W' : World} {a b : Nat} {xs ys : List (Int × Int)} (h : Two W a b xs ys) (hB : Below W.heap.size W W') : Two W' a b xs ys := ⟨h.one.kept (S := fun _ => False) (Only.of_below hB) (fun _ _ h => h), h.two.below hB⟩
theorem two_wrote {W W' : World} {a b : Nat} {xs ys zs : List (Int × Int)} (h : Two W a b xs ys) (hz : BagOn W' b b zs) (hB : Below b W W') : Two W' a b xs zs :=
  ⟨h.one.kept (S := fun k => b ≤ k) ⟨hB.os, hB.tape, hB.output, hB.size, fun k hk hn => hB.block k (by omega)⟩ (fun k h1 h2 => by omega), hz⟩
theorem two_start {W W' : World} {a : Nat} {xs : List (Int × Int)} (h : BagOn W a a xs) (hz : BagOn W' W.heap.size W.heap.size []) (hB : Below W.heap.size W W') : Two W' a W.heap.size xs [] :=
  ⟨(bag_bounded h.bag).kept (S := fun _ => False) (Only.of_below hB) (fun _ _ h => h), hz⟩
theorem first_on {W : World} {a b : Nat} {xs ys : List (Int × Int)} (h : Two W a b xs ys) : BagOn W 0 a xs := ⟨h.one.more fun k _ => Nat.zero_le _, Nat.zero_le _⟩

variable {W : World} {a b : Nat} {xs ys : List (Int × Int)}
theorem two_put (k v : Int) (zs : List (Int × Int)) (hl : ys.length ≤ 1000) (hz : T.put k v ys = zs) (h : Two W a b xs ys) : Calls Try.prog 17 #[.pointer (some ⟨b, 0, none⟩), .int .i64 k, .int .i64 v] W fun e w' => ∃ q, e = .returned (.bool q) ∧ Hid (Two w' a b xs zs) ∧ Below b W w' :=
  (I.put_on k v ys b b W h.two hl).mono fun e w' ⟨he, h2, hB⟩ => ⟨_, he, hz ▸ two_wrote h h2 hB, hB⟩
theorem two_drop (k : Int) (zs : List (Int × Int)) (hl : ys.length ≤ 1000) (hz : T.del k ys = zs) (h : Two W a b xs ys) : Calls Try.prog 19 #[.pointer (some ⟨b, 0, none⟩), .int .i64 k] W fun e w' => ∃ q, e = .returned (.bool q) ∧ Hid (Two w' a b xs zs) ∧ Below b W w' :=
  (I.drop_on k ys b b W (fun _ => I.mend_said) h.two hl).mono fun e w' ⟨he, h2, hB⟩ => ⟨_, he, hz ▸ two_wrote h h2 hB, hB⟩
theorem two_get1 (k v : Int) (q : Bool) (hl : xs.length ≤ 1000) (hv : (T.get k xs).getD 0 = v) (hq : (T.get k xs).isSome = q) (h : Two W a b xs ys) : Calls Try.prog 18 #[.pointer (some ⟨a, 0, none⟩), .int .i64 k] W fun e w' => e = .returned (.tuple #[.int .i64 v, .bool q]) ∧ Hid (Two w' a b xs ys) ∧ Below b W w' :=
  (I.get_on k xs 0 a W (first_on h) hl).mono fun e w' ⟨he, _, hB⟩ => ⟨by rw [he, ← hv, ← hq]; cases T.get k xs <;> rfl, two_below h hB, hB.mono h.two.le⟩
theorem two_get2 (k v : Int) (q : Bool) (hl : ys.length ≤ 1000) (hv : (T.get k ys).getD 0 = v) (hq : (T.get k ys).isSome = q) (h : Two W a b xs ys) : Calls Try.prog 18 #[.pointer (some ⟨b, 0, none⟩), .int .i64 k] W fun e w' => e = .returned (.tuple #[.int .i64 v, .bool q]) ∧ Hid (Two w' a b xs ys) ∧ Below b W w' :=
  (I.get_on k ys b b W h.two hl).mono fun e w' ⟨he, _, hB⟩ => ⟨by rw [he, ← hv, ← hq]; cases T.get k ys <;> rfl, two_below h hB, hB.mono h.two.le⟩
def keysL (xs : List (Int × Int)) : List Int := (T.vis (-9223372036854775808) xs).filter fun x => decide (x < 9223372036854775807)
theorem two_keys1 (n : Nat) (hn : (keysL xs).length = n) (hl : xs.length ≤ 1000) (h : Two W a b xs ys) : Calls Try.prog 20 #[.pointer (some ⟨a, 0, none⟩), .int .i64 (-9223372036854775808), .int .i64 9223372036854775807] W fun e w' => ∃ (p : Option Addr) (c : Nat), e = .returned (.slice p n c) ∧ Hid (Lies w' (.slice p n c) n 1 ((keysL xs).map (.int .i64))) ∧ Hid (Two w' a b xs ys) ∧ Below b W w' := by
  subst hn
  refine (I.keys_on _ _ xs 0 a W (first_on h) hl).mono fun e w' ⟨v, he, ho, _, hB⟩ => ?_
  obtain ⟨p, c, rfl, h1, _⟩ := lies_own ho
  exact ⟨p, c, he, h1, two_below h hB, hB.mono h.two.le⟩
theorem two_keys2 (n : Nat) (hn : (keysL ys).length = n) (hl : ys.length ≤ 1000) (h : Two W a b xs ys) : Calls Try.prog 20 #[.pointer (some ⟨b, 0, none⟩), .int .i64 (-9223372036854775808), .int .i64 9223372036854775807] W fun e w' => ∃ (p : Option Addr) (c : Nat), e = .returned (.slice p n c) ∧ Hid (Lies w' (.slice p n c) n 1 ((keysL ys).map (.int .i64))) ∧ Hid (Two w' a b xs ys) ∧ Below W.heap.size W w' := by
  subst hn
  refine (I.keys_on _ _ ys b b W h.two hl).mono fun e w' ⟨v, he, ho, _, hB⟩ => ?_
  obtain ⟨p, c, rfl, h1, _⟩ := lies_own ho
  exact ⟨p, c, he, h1, two_below h hB, hB⟩
theorem two_len1 (n : Int) (hn : (xs.length : Int) = n) (h : Two W a b xs ys) : Calls Try.prog 22 #[.pointer (some ⟨a, 0, none⟩)] W fun e w' => e = .returned (.int .i64 n) ∧ W = w' := by
  subst hn
  exact I.len_on xs 0 a W (first_on h)
theorem two_len2 (n : Int) (hn : (ys.length : Int) = n) (h : Two W a b xs ys) : Calls Try.prog 22 #[.pointer (some ⟨b, 0, none⟩)] W fun e w' => e = .returned (.int .i64 n) ∧ W = w' := by
  subst hn
  exact I.len_on ys b b W h.two
theorem two_shape1 (hl : xs.length ≤ 1000) (h : Two W a b xs ys) : Calls Try.prog 23 #[.pointer (some ⟨a, 0, none⟩)] W fun e w' => ∃ (v : Value) (cs : List (List Nat)), e = .returned v ∧ Hid (RowsOf w' v cs) ∧ Hid (ShapeOk cs xs.length) ∧ Hid (Two w' a b xs ys) ∧ Below b W w' :=
  (I.shape_on xs 0 a W (first_on h) hl).mono fun e w' ⟨v, cs, he, h1, h2, _, hB⟩ => ⟨v, cs, he, h1, h2, two_below h hB, hB.mono h.two.le⟩
theorem two_shape2 (hl : ys.length ≤ 1000) (h : Two W a b xs ys) : Calls Try.prog 23 #[.pointer (some ⟨b, 0, none⟩)] W fun e w' => ∃ (v : Value) (cs : List (List Nat)), e = .returned v ∧ Hid (RowsOf w' v cs) ∧ Hid (ShapeOk cs ys.length) ∧ Hid (Two w' a b xs ys) ∧ Below b W w' :=
  (I.shape_on ys b b W h.two hl).mono fun e w' ⟨v, cs, he, h1, h2, _, hB⟩ => ⟨v, cs, he, h1, h2, two_below h hB, hB.mono h.two.le⟩
end Go.Proofs.Ytbelgkccfajjoaa
