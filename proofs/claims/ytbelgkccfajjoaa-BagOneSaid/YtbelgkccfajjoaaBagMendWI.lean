/- Mending a node below that has too few: by an item from beside it, or by making one node of two. -/
import Derived.Test.YtbelgkccfajjoaaBagMendDI
import Derived.Test.YtbelgkccfajjoaaBagMovLI
import Derived.Test.YtbelgkccfajjoaaBagMovRI
import Derived.Test.YtbelgkccfajjoaaBagJoinI
namespace Go.Proofs.Ytbelgkccfajjoaa.I
open Go.RowKit
set_option linter.unusedVariables false

theorem wf_node (k : Nat) (r0 r' : Rec Int) (ks : List (T Int)) (h0 : k = 0 → ks = [] ∧ r'.kv.isSome = false ∧ r'.kids = []) (h1 : ∀ d, k = d + 1 → r'.kv.isSome = true ∧ r'.kids = ks.map (fun k => k.r.b) ∧ ks.length = r'.items.length + 1 ∧ ∀ q, q ∈ ks → T.wf d q ∧ 3 ≤ q.r.items.length ∧ q.r.items.length ≤ 7) : T.wf k (.node r' ks) := by
  cases k with
  | zero =>
    obtain ⟨a, b, c⟩ := h0 rfl
    refine ⟨a, ?_, c⟩
    show r'.kv = none
    cases h : r'.kv with
    | none => rfl
    | some p => rw [h] at b; cases b
  | succ d => exact h1 d rfl

theorem kid_b {k : Nat} {t K A : T Int} {j : Nat} (hw : T.wf (k + 1) t) (hK : t.ks[j]? = some K) (hb : A.r.b = K.r.b) : t.r.kids[j]? = some A.r.b := by
  rw [hw.2.1, List.getElem?_map, hK, hb]
  rfl
theorem kids_le {k : Nat} {t : T Int} (hw : T.wf (k + 1) t) (h7 : t.r.items.length ≤ 7) : t.r.kids.length ≤ 8 := by
  rw [hw.2.1, List.length_map, hw.2.2.1]
  omega

/-- what a mending by two nodes beside an item comes to -/
def TreePost (k : Nat) (t A C : T Int) (j : Nat) (x : It) (S X : Nat → Prop) (w0 W : World) (B : Nat → Prop) (rest : List (Rec Int)) (e : Ending) (W' : World) : Prop :=
  e = .returned (.tuple #[]) ∧ Mended k t j x A.inord C.inord S X w0 W' rest ∧ Only B W W'

theorem moveLeft_tree (k : Nat) (t A C KA KC : T Int) (j : Nat) (x : It) (S X : Nat → Prop) (w0 W : World) (B : Nat → Prop) (rest : List (Rec Int)) (hw : T.wf (k + 1) t) (hx : t.r.items[j]? = some x) (hkA : t.ks[j]? = some KA) (hkC : t.ks[j + 1]? = some KC) (hA : T.wf k A) (hC : T.wf k C)
    (hbA : A.r.b = KA.r.b) (hbC : C.r.b = KC.r.b) (h7 : t.r.items.length ≤ 7) (a2 : A.r.items.length = 2) (c4 : 3 < C.r.items.length) (c7 : C.r.items.length ≤ 7) (hT : Trio S X w0 W B ((A.ks ++ C.ks).flatMap T.recs ++ T.rest2 t j ++ rest) W t.r A.r C.r) :
    Calls Try.prog 78 #[ptrV t.r.b, .int .i64 j] W (TreePost k t A C j x S X w0 W B rest) := by
  obtain ⟨f, hkv⟩ := Option.isSome_iff_exists.1 hw.1
  obtain ⟨y, ys, hy⟩ : ∃ y ys, C.r.items = y :: ys := by
    cases h : C.r.items with
    | nil => rw [h] at c4; simp at c4
    | cons y ys => exact ⟨y, ys, rfl⟩
  have hyl : C.r.items.length = ys.length + 1 := by rw [hy]; rfl
  have hB1 := kid_b hw hkA hbA
  have hB2 := kid_b hw hkC hbC
  cases k with
  | zero =>
    refine (moveLeft_trio S X w0 W B _ t.r A.r C.r j x y ys f A.r.kids C.r.kids hT hkv hB1 hB2 hx hy h7 (by omega) c7 (kids_le hw h7) (.inl ⟨hA.2.1, hC.2.1, rfl, rfl⟩)).mono ?_
    rintro e W' ⟨he, r', rl', rr', hT', hr, ⟨l1, l2, l3, l4⟩, ⟨r1, r2, r3, r4⟩⟩
    refine ⟨he, mend_moved 0 t j A C KA KC x y S X w0 W' rest r' rl' rr' [] [] hw hx hkA hkC hA hC hT'.g hr (l1.trans hbA) (r1.trans hbC) (by rw [hA.1, hC.1]) (by rw [l2, r2, hy]; simp) (wf_node 0 rl' rl' [] (fun _ => ⟨rfl, by rw [l4, hA.2.1]; rfl, by rw [l3, hA.2.2]⟩) (fun d h => by omega)) (wf_node 0 rr' rr' [] (fun _ => ⟨rfl, by rw [r4, hC.2.1]; rfl, by rw [r3, hC.2.2]⟩) (fun d h => by omega)) (by rw [l2]; simp; omega) (by rw [l2]; simp; omega) (by rw [r2]; omega) (by rw [r2]; omega), hT'.o⟩
  | succ d =>
    obtain ⟨fl, hfl⟩ := Option.isSome_iff_exists.1 hA.1
    obtain ⟨fr, hfr⟩ := Option.isSome_iff_exists.1 hC.1
    obtain ⟨c, cs, hc⟩ : ∃ c cs, C.ks = c :: cs := by
      cases h : C.ks with
      | nil => have := hC.2.2.1; rw [h] at this; simp at this
      | cons c cs => exact ⟨c, cs, rfl⟩
    have hAl := hA.2.2.1
    have hCl := hC.2.2.1
    rw [hc] at hCl
    simp only [List.length_cons] at hCl
    refine (moveLeft_trio S X w0 W B _ t.r A.r C.r j x y ys f (A.r.kids ++ [c.r.b]) (cs.map fun k => k.r.b) hT hkv hB1 hB2 hx hy h7 (by omega) c7 (kids_le hw h7) (.inr ⟨fl, fr, c.r.b, cs.map fun k => k.r.b, hfl, hfr, by rw [hC.2.1, hc]; rfl, by rw [hA.2.1]; simp; omega, by simp; omega, rfl, rfl⟩)).mono ?_
    rintro e W' ⟨he, r', rl', rr', hT', hr, ⟨l1, l2, l3, l4⟩, ⟨r1, r2, r3, r4⟩⟩
    have hcm : T.wf d c ∧ 3 ≤ c.r.items.length ∧ c.r.items.length ≤ 7 := hC.2.2.2 c (by rw [hc]; simp)
    refine ⟨he, mend_moved (d + 1) t j A C KA KC x y S X w0 W' rest r' rl' rr' (A.ks ++ [c]) cs hw hx hkA hkC hA hC hT'.g hr (l1.trans hbA) (r1.trans hbC) (by rw [hc]; simp) (by rw [l2, r2, hy]; simp)
      (wf_node (d + 1) rl' rl' (A.ks ++ [c]) (fun h => by omega) (fun d' h => by
        obtain rfl : d = d' := by omega
        refine ⟨by rw [l4]; exact hA.1, by rw [l3, hA.2.1]; simp, by rw [l2]; simp; omega, fun q hq => ?_⟩
        rcases List.mem_append.1 hq with hq | hq
        · exact hA.2.2.2 q hq
        · obtain rfl : q = c := by simpa using hq
          exact hcm))
      (wf_node (d + 1) rr' rr' cs (fun h => by omega) (fun d' h => by
        obtain rfl : d = d' := by omega
        exact ⟨by rw [r4]; exact hC.1, r3, by rw [r2]; omega, fun q hq => hC.2.2.2 q (by rw [hc]; exact List.mem_cons_of_mem _ hq)⟩))
      (by rw [l2]; simp; omega) (by rw [l2]; simp; omega) (by rw [r2]; omega) (by rw [r2]; omega), hT'.o⟩

theorem moveRight_tree (k : Nat) (t A C KA KC : T Int) (j : Nat) (x : It) (S X : Nat → Prop) (w0 W : World) (B : Nat → Prop) (rest : List (Rec Int)) (hw : T.wf (k + 1) t) (hx : t.r.items[j]? = some x) (hkA : t.ks[j]? = some KA) (hkC : t.ks[j + 1]? = some KC) (hA : T.wf k A) (hC : T.wf k C)
    (hbA : A.r.b = KA.r.b) (hbC : C.r.b = KC.r.b) (h7 : t.r.items.length ≤ 7) (c2 : C.r.items.length = 2) (a4 : 3 < A.r.items.length) (a7 : A.r.items.length ≤ 7) (hT : Trio S X w0 W B ((A.ks ++ C.ks).flatMap T.recs ++ T.rest2 t j ++ rest) W t.r A.r C.r) :
    Calls Try.prog 77 #[ptrV t.r.b, .int .i64 j] W (TreePost k t A C j x S X w0 W B rest) := by
  obtain ⟨f, hkv⟩ := Option.isSome_iff_exists.1 hw.1
  obtain ⟨y, xs, hy⟩ : ∃ y xs, A.r.items = xs ++ [y] := by
    rcases List.eq_nil_or_concat A.r.items with h | ⟨xs, y, h⟩
    · rw [h] at a4; simp at a4
    · exact ⟨y, xs, by simpa using h⟩
  have hyl : A.r.items.length = xs.length + 1 := by rw [hy]; simp
  have hB1 := kid_b hw hkA hbA
  have hB2 := kid_b hw hkC hbC
  cases k with
  | zero =>
    refine (moveRight_trio S X w0 W B _ t.r A.r C.r j x y xs f A.r.kids C.r.kids hT hkv hB1 hB2 hx hy h7 a7 (by omega) (kids_le hw h7) (.inl ⟨hA.2.1, hC.2.1, rfl, rfl⟩)).mono ?_
    rintro e W' ⟨he, r', rl', rr', hT', hr, ⟨l1, l2, l3, l4⟩, ⟨r1, r2, r3, r4⟩⟩
    refine ⟨he, mend_moved 0 t j A C KA KC x y S X w0 W' rest r' rl' rr' [] [] hw hx hkA hkC hA hC hT'.g hr (l1.trans hbA) (r1.trans hbC) (by rw [hA.1, hC.1]) (by rw [l2, r2, hy]; simp) (wf_node 0 rl' rl' [] (fun _ => ⟨rfl, by rw [l4, hA.2.1]; rfl, by rw [l3, hA.2.2]⟩) (fun d h => by omega)) (wf_node 0 rr' rr' [] (fun _ => ⟨rfl, by rw [r4, hC.2.1]; rfl, by rw [r3, hC.2.2]⟩) (fun d h => by omega)) (by rw [l2]; omega) (by rw [l2]; omega) (by rw [r2]; simp; omega) (by rw [r2]; simp; omega), hT'.o⟩
  | succ d =>
    obtain ⟨fl, hfl⟩ := Option.isSome_iff_exists.1 hA.1
    obtain ⟨fr, hfr⟩ := Option.isSome_iff_exists.1 hC.1
    have hAl := hA.2.2.1
    have hCl := hC.2.2.1
    obtain ⟨c, cs, hc⟩ : ∃ c cs, A.ks = cs ++ [c] := by
      rcases List.eq_nil_or_concat A.ks with h | ⟨cs, c, h⟩
      · rw [h] at hAl; simp at hAl
      · exact ⟨c, cs, by simpa using h⟩
    have hcl : cs.length = xs.length + 1 := by rw [hc] at hAl; simp at hAl; omega
    refine (moveRight_trio S X w0 W B _ t.r A.r C.r j x y xs f (cs.map fun k => k.r.b) (c.r.b :: C.r.kids) hT hkv hB1 hB2 hx hy h7 a7 (by omega) (kids_le hw h7) (.inr ⟨fl, fr, c.r.b, cs.map fun k => k.r.b, hfl, hfr, by rw [hA.2.1, hc]; simp, by simp [hcl], by rw [hC.2.1]; simp; omega, rfl, rfl⟩)).mono ?_
    rintro e W' ⟨he, r', rl', rr', hT', hr, ⟨l1, l2, l3, l4⟩, ⟨r1, r2, r3, r4⟩⟩
    have hcm : T.wf d c ∧ 3 ≤ c.r.items.length ∧ c.r.items.length ≤ 7 := hA.2.2.2 c (by rw [hc]; simp)
    refine ⟨he, mend_moved (d + 1) t j A C KA KC x y S X w0 W' rest r' rl' rr' cs (c :: C.ks) hw hx hkA hkC hA hC hT'.g hr (l1.trans hbA) (r1.trans hbC) (by rw [hc]; simp) (by rw [l2, r2, hy]; simp)
      (wf_node (d + 1) rl' rl' cs (fun h => by omega) (fun d' h => by
        obtain rfl : d = d' := by omega
        exact ⟨by rw [l4]; exact hA.1, l3, by rw [l2]; omega, fun q hq => hA.2.2.2 q (by rw [hc]; exact List.mem_append_left _ hq)⟩))
      (wf_node (d + 1) rr' rr' (c :: C.ks) (fun h => by omega) (fun d' h => by
        obtain rfl : d = d' := by omega
        refine ⟨by rw [r4]; exact hC.1, by rw [r3, hC.2.1]; rfl, by rw [r2]; simp; omega, fun q hq => ?_⟩
        rcases List.mem_cons.1 hq with rfl | hq
        · exact hcm
        · exact hC.2.2.2 q hq))
      (by rw [l2]; omega) (by rw [l2]; omega) (by rw [r2]; simp; omega) (by rw [r2]; simp; omega), hT'.o⟩

theorem join_tree (k : Nat) (t A C KA KC : T Int) (j : Nat) (x : It) (S X : Nat → Prop) (w0 W : World) (B : Nat → Prop) (rest : List (Rec Int)) (hw : T.wf (k + 1) t) (hx : t.r.items[j]? = some x) (hkA : t.ks[j]? = some KA) (hkC : t.ks[j + 1]? = some KC) (hA : T.wf k A) (hC : T.wf k C)
    (hbA : A.r.b = KA.r.b) (hbC : C.r.b = KC.r.b) (h7 : t.r.items.length ≤ 7) (ha : 2 ≤ A.r.items.length) (hc : 2 ≤ C.r.items.length) (hac : A.r.items.length + C.r.items.length ≤ 6) (hT : Trio S X w0 W B ((A.ks ++ C.ks).flatMap T.recs ++ T.rest2 t j ++ rest) W t.r A.r C.r) :
    Calls Try.prog 79 #[ptrV t.r.b, .int .i64 j] W (TreePost k t A C j x S X w0 W B rest) := by
  obtain ⟨f, hkv⟩ := Option.isSome_iff_exists.1 hw.1
  have hB1 := kid_b hw hkA hbA
  have hB2 := kid_b hw hkC hbC
  refine (join_trio S X w0 W B _ t.r A.r C.r j x f hT hkv hB1 hB2 hx h7 (by omega) (by omega) (kids_le hw h7) (by omega) ?_).mono ?_
  · cases k with
    | zero => exact .inl ⟨hA.2.1, hC.2.1, hA.2.2, hC.2.2⟩
    | succ d =>
      obtain ⟨fl, hfl⟩ := Option.isSome_iff_exists.1 hA.1
      obtain ⟨fr, hfr⟩ := Option.isSome_iff_exists.1 hC.1
      have hAl := hA.2.2.1
      have hCl := hC.2.2.1
      exact .inr ⟨fl, fr, hfl, hfr, by rw [hC.2.1]; simp; omega, by rw [hA.2.1]; simp; omega, by rw [hC.2.1]; simp; omega⟩
  · rintro e W' ⟨he, r', rl', hT', hr, ⟨l1, l2, l3, l4⟩⟩
    refine ⟨he, mend_joined k t j A C KA KC x S X w0 W' rest r' rl' hw hx hkA hkC hA hC hT'.g hr (l1.trans hbA) l2 ?_ (by rw [l2]; simp; omega) (by rw [l2]; simp; omega), hT'.o⟩
    refine wf_node k rl' rl' (A.ks ++ C.ks) (fun h => ?_) (fun d h => ?_)
    · subst h
      exact ⟨by rw [hA.1, hC.1]; rfl, by rw [l4, hA.2.1]; rfl, by rw [l3, hA.2.2, hC.2.2]; rfl⟩
    · subst h
      have hAl := hA.2.2.1
      have hCl := hC.2.2.1
      refine ⟨by rw [l4]; exact hA.1, by rw [l3, hA.2.1, hC.2.1]; simp, by rw [l2]; simp; omega, fun q hq => ?_⟩
      rcases List.mem_append.1 hq with hq | hq
      · exact hA.2.2.2 q hq
      · exact hC.2.2.2 q hq
end Go.Proofs.Ytbelgkccfajjoaa.I
