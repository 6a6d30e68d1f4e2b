/- The document's own answers on queues: Same, Take, Put of the reference package; and pick. -/
import Derived.Maps.AppendAt
import Derived.Laws.AppendOwnNone
import Derived.OwnWalk
import Derived.Test.YtkpkpofeffegfaaRingShown
import Derived.Test.YtkpkpofeffegfaaRow
namespace Go.Proofs.Ytkpkpofeffegfaa
open Go.RowKit Go.Shelf
set_option linter.unusedVariables false

set_option maxRecDepth 100000 in
set_option maxHeartbeats 1000000 in
theorem same_ref (l : List Int) (va vb : Value) (w : World) (ha : Lies w va l.length 1 (I.valsOf l)) (hb : Lies w vb l.length 1 (I.valsOf l)) :
    Calls Try.prog 20 #[va, vb] w fun e w' => e = .returned (.bool true) ∧ Below w.heap.size w w' := by
  obtain ⟨a1, c1, rfl, h1, hn1, hm1⟩ := ha.parts
  obtain ⟨a2, c2, rfl, h2, hn2, hm2⟩ := hb.parts
  obtain ⟨n, hn⟩ : ∃ n, l.length = n := ⟨_, rfl⟩
  rw [hn] at h1 h2 hn1 hn2 ⊢
  go_enter Try.func20, Try.ntmps20
  go_wp2
  go_loopw [5] (fun i wr => ∃ j : Nat, j ≤ n ∧ i = .int .i64 j ∧ Below w.heap.size w wr ∧ Hid (Lies wr (.slice a1 n c1) n 1 (I.valsOf l)) ∧ Hid (Lies wr (.slice a2 n c2) n 1 (I.valsOf l)))
    (fun i _ => n - (intOf i).toNat)
  case atStart => exact ⟨0, Nat.zero_le _, rfl, Below.refl _ _, h1, h2⟩
  case round =>
    obtain ⟨j, hj, rfl, hB, H1, H2⟩ := hrel
    clear h1 h2 ha hb
    by_cases hlt : j < n
    · obtain ⟨x, hx⟩ : ∃ x, l[j]? = some x := ⟨l[j]'(by omega), by simp⟩
      have hu : (I.valsOf l)[j]? = some (.int .i64 x) := by unfold I.valsOf; rw [List.getElem?_map, hx]; rfl
      obtain ⟨b, off, rfl, hc⟩ := H1.out.read hu
      obtain ⟨b2, off2, rfl, hc2⟩ := H2.out.read hu
      clear hx hu
      go_wp2
      go_region
      go_wp2
      go_roundw
      case rel => exact ⟨j + 1, by omega, by go_num, below_drew hB, H1.out.drew, H2.out.drew⟩
      case measure => simp [intOf]; omega
    · obtain rfl : j = n := by omega
      go_wp2
      go_ret
      exact ⟨rfl, hB⟩

set_option maxRecDepth 100000 in
set_option maxHeartbeats 1000000 in
theorem take_ref (l : List Int) (v : Value) (w : World) (h : Lies w v l.length 1 (I.valsOf l)) :
    Calls Try.prog 23 #[v] w fun e w' => ∃ a cap, e = .returned (.tuple #[.int .i64 (l.headD 0), .slice a l.tail.length cap, .bool (!l.isEmpty)]) ∧ Hid (Lies w' (.slice a l.tail.length cap) l.tail.length 1 (I.valsOf l.tail)) ∧ cap ≤ 9223372036854775807 ∧ Below w.heap.size w w' := by
  obtain ⟨a, c, rfl, H, hn, hm⟩ := h.parts
  clear h
  cases l with
  | nil =>
    go_enter Try.func23, Try.ntmps23
    go_wp2
    go_ret3
    exact ⟨a, c, rfl, H, hm, Below.refl _ _⟩
  | cons x l =>
    obtain ⟨b, off, rfl, hc⟩ := H.out.read (j := 0) (u := .int .i64 x) rfl
    have hl : (x :: l).length = l.length + 1 := rfl
    rw [hl] at H hn ⊢
    rw [Nat.add_zero] at hc
    by_cases h1 : c = 1
    all_goals
      go_enter Try.func23, Try.ntmps23
      go_wp2
      go_region
    · go_wp2
      go_ret3
      exact ⟨_, _, rfl, Lies.tail1 (by subst h1; exact H.out) _, by omega, below_drew (Below.refl _ _)⟩
    · go_wp2
      go_ret3
      exact ⟨_, _, rfl, Lies.tail H.out, by omega, below_drew (Below.refl _ _)⟩

theorem i64_range {c : Int} (h : (Lit.int .i64 c).wf = true) : -9223372036854775808 ≤ c ∧ c ≤ 9223372036854775807 := by
  have h1 : IntKind.i64.min = -9223372036854775808 := rfl
  have h2 : IntKind.i64.max = 9223372036854775807 := rfl
  simp only [Lit.wf, Bool.and_eq_true, decide_eq_true_eq] at h
  omega
def PickPost (w : World) (e : Ending) (w' : World) : Prop := ∃ k : Int, 0 ≤ k ∧ k < 5 ∧ e = .returned (.int .i64 k) ∧ w = w'
theorem pick_five (c : Int) (hw : (Lit.int .i64 c).wf = true) (w : World) :
    Calls Try.prog 21 #[.int .i64 c, .int .i64 5] w (PickPost w) := by
  have hr := i64_range hw
  by_cases h : c < 0
  · have ht : -((c + 1).tmod 5) = (-(c + 1)) % 5 := by rw [← Int.neg_tmod]; exact Int.tmod_eq_emod_of_nonneg (by omega)
    go_enter Try.func21, Try.ntmps21
    go_wp2
    go_ret
    exact ⟨_, by omega, by omega, rfl, rfl⟩
  · go_enter Try.func21, Try.ntmps21
    go_wp2
    go_ret
    exact ⟨_, by omega, by omega, rfl, rfl⟩

/-- put at the end, if there is room -/
def PutRefPost (l : List Int) (size : Nat) (x : Int) (w : World) (e : Ending) (w' : World) : Prop := ∃ a cap, e = .returned (.tuple #[.slice a (I.bool_if (decide (l.length < size)) (l ++ [x]) l).length cap, .bool (decide (l.length < size))]) ∧
  Hid (Lies w' (.slice a (I.bool_if (decide (l.length < size)) (l ++ [x]) l).length cap) (I.bool_if (decide (l.length < size)) (l ++ [x]) l).length 1 (I.valsOf (I.bool_if (decide (l.length < size)) (l ++ [x]) l))) ∧ cap ≤ 9223372036854775807 ∧ Below w.heap.size w w'

theorem put_done {l : List Int} {size m : Nat} {x : Int} {w w3 : World} {a : Option Addr} {cap : Nat} {xs : List Value} (hr : l.length < size) (hm : m = l.length + 1) (hx : xs = I.valsOf (l ++ [x])) (H : Hid (Lies w3 (.slice a m cap) m 1 xs)) (hc : cap ≤ 9223372036854775807) (hB : Below w.heap.size w w3) :
    PutRefPost l size x w (.returned (.tuple #[.slice a m cap, .bool true])) w3 := by
  unfold PutRefPost
  rw [decide_eq_true hr]
  show ∃ a' cap', _ = Ending.returned (.tuple #[.slice a' (l ++ [x]).length cap', .bool true]) ∧ Hid (Lies w3 (.slice a' (l ++ [x]).length cap') (l ++ [x]).length 1 (I.valsOf (l ++ [x]))) ∧ _
  subst hx
  have e : m = (l ++ [x]).length := by simp [hm]
  rw [e] at H ⊢
  exact ⟨a, cap, rfl, H, hc, hB⟩

set_option maxRecDepth 100000 in
set_option maxHeartbeats 1000000 in
theorem put_ref (l : List Int) (size : Nat) (x : Int) (v : Value) (w : World) (h : Lies w v l.length 1 (I.valsOf l)) (hs : size ≤ 1024) :
    Calls Try.prog 22 #[v, .int .i64 size, .int .i64 x] w (PutRefPost l size x w) := by
  obtain ⟨i0, hi, hz0, hz1, hz2⟩ := info_parts I.info_v
  obtain ⟨a, c, rfl, H, hn, hm⟩ := h.parts
  by_cases hr : l.length < size
  · cases l with
    | nil =>
      have hsrc : (a = none ∧ c = 0) ∨ ∃ ad, a = some ad := by
        cases a with
        | none => exact .inl ⟨rfl, H.out.none_cap⟩
        | some ad => exact .inr ⟨ad, rfl⟩
      clear h H
      rw [show ([] : List Int).length = 0 from rfl]
      rcases hsrc with ⟨rfl, rfl⟩ | ⟨ad, rfl⟩
      · go_enter Try.func22, Try.ntmps22
        go_wp2_with (first
          | (at_make; go_must (refine wpList_make_own _ rfl _ _ 26 rfl w.heap.size 2 i0 (.int .i64 0) 1 Try.underlying26 hi hz0 hz1 .i64 .i64 _ 1 rfl rfl (by omega) (by rw [hz2]; omega) (by unfold maxLen; omega) (Nat.le_refl _) ?_; intro w1 hown1 hgrow1))
          | (at_builtin; (refine wpList_append_own_none rfl _ _ 26 rfl w.heap.size 2 i0 1 Try.underlying26 hi _ _ _ rfl hown1 rfl ?_))
          | (at_builtin; (refine wpList_append_own _ rfl _ _ 26 rfl w.heap.size 2 i0 (.int .i64 0) 1 8 Try.underlying26 hi hz0 hz1 hz2 rfl (by decide) _ _ _ rfl (hown1.alloc _) ⟨w1.heap.size, 0, none⟩ 1 1 [.int .i64 x] rfl rfl (cell_one_new _ _ _) (by simp [Value.oneCell']) (by unfold maxLen; omega) (by omega) (by have := hgrow1.size; simp; omega) ?_; intro v3 w3 hown3 hgrow3 _)))
        have hB1 : Below w.heap.size w w1 := (Below.refl _ w).grown hgrow1 (Nat.le_refl _) (fun k e => by cases e)
        have hB3 : Below w.heap.size w w3 := (hB1.alloc hB1.size _).grown hgrow3 (by have := hB1.size; simp; omega) (fun k e => (hown1.lt k e).1)
        obtain ⟨a3, c3, rfl, H3, hn3, hm3⟩ := lies_own hown3
        clear hgrow3 hown3 hgrow1 hown1 hB1
        go_ret2
        exact put_done hr rfl rfl H3 hm3 hB3
      · go_enter Try.func22, Try.ntmps22
        go_wp2_with (first
          | (at_make; go_must (refine wpList_make_own _ rfl _ _ 26 rfl w.heap.size 2 i0 (.int .i64 0) 1 Try.underlying26 hi hz0 hz1 .i64 .i64 _ 1 rfl rfl (by omega) (by rw [hz2]; omega) (by unfold maxLen; omega) (Nat.le_refl _) ?_; intro w1 hown1 hgrow1))
          | (at_builtin; (refine wpList_append_own _ rfl _ _ 26 rfl w.heap.size 2 i0 (.int .i64 0) 1 8 Try.underlying26 hi hz0 hz1 hz2 rfl (by decide) _ _ _ rfl (hown2.alloc _) ⟨w2.heap.size, 0, none⟩ 1 1 [.int .i64 x] rfl rfl (cell_one_new _ _ _) (by simp [Value.oneCell']) (by unfold maxLen; omega) (by omega) (by have := hgrow1.size; have := hgrow2.size; simp; omega) ?_; intro v3 w3 hown3 hgrow3 _))
          | (at_builtin; (refine wpList_append_own _ rfl _ _ 26 rfl w.heap.size 2 i0 (.int .i64 0) 1 8 Try.underlying26 hi hz0 hz1 hz2 rfl (by decide) _ _ _ rfl hown1 ad 0 c [] rfl rfl (fun j u hj => by simp at hj) (by simp) (by unfold maxLen; omega) (by omega) (by have := hgrow1.size; omega) ?_; intro v2 w2 hown2 hgrow2 _)))
        have hB1 : Below w.heap.size w w1 := (Below.refl _ w).grown hgrow1 (Nat.le_refl _) (fun k e => by cases e)
        have hB2 : Below w.heap.size w w2 := hB1.grown hgrow2 hB1.size (fun k e => (hown1.lt k e).1)
        have hB3 : Below w.heap.size w w3 := (hB2.alloc hB2.size _).grown hgrow3 (by have := hB2.size; simp; omega) (fun k e => (hown2.lt k e).1)
        obtain ⟨a3, c3, rfl, H3, hn3, hm3⟩ := lies_own hown3
        clear hgrow3 hown3 hgrow1 hown1 hB1 hgrow2 hown2 hB2
        go_ret2
        exact put_done hr rfl rfl H3 hm3 hB3
    | cons y l =>
      obtain ⟨b, off, rfl, hc⟩ := H.out.read (j := 0) (u := .int .i64 y) rfl
      have HC : ∀ W', Below w.heap.size w W' → ∀ j u, (I.valsOf (y :: l))[j]? = some u → W'.cell? ((⟨b, off, none⟩ : Addr).add j) = some u := fun W' hB => H.out.all (by simp) hB
      obtain ⟨n, hnn⟩ : ∃ n, (y :: l).length = n := ⟨_, rfl⟩
      have hvl : (I.valsOf (y :: l)).length = n := by unfold I.valsOf; rw [List.length_map, hnn]
      rw [hnn] at hn hr ⊢
      clear h H hc
      go_enter Try.func22, Try.ntmps22
      go_wp2_with (first
        | (at_make; go_must (refine wpList_make_own _ rfl _ _ 26 rfl w.heap.size 2 i0 (.int .i64 0) 1 Try.underlying26 hi hz0 hz1 .i64 .i64 _ (n + 1) rfl rfl (by omega) (by rw [hz2]; omega) (by unfold maxLen; omega) (Nat.le_refl _) ?_; intro w1 hown1 hgrow1))
        | (at_builtin; (refine wpList_append_own _ rfl _ _ 26 rfl w.heap.size 2 i0 (.int .i64 0) 1 8 Try.underlying26 hi hz0 hz1 hz2 rfl (by decide) _ _ _ rfl (hown2.alloc _) ⟨w2.heap.size, 0, none⟩ 1 1 [.int .i64 x] rfl rfl (cell_one_new _ _ _) (by simp [Value.oneCell']) (by unfold maxLen; omega) (by omega) (by have := hgrow1.size; have := hgrow2.size; simp; omega) ?_; intro v3 w3 hown3 hgrow3 _))
        | (at_builtin; (refine wpList_append_own _ rfl _ _ 26 rfl w.heap.size 2 i0 (.int .i64 0) 1 8 Try.underlying26 hi hz0 hz1 hz2 rfl (by decide) _ _ _ rfl hown1 ⟨b, off, none⟩ n c (I.valsOf (y :: l)) rfl (by rw [hvl]; omega) (HC _ (Below.refl _ _ |>.grown hgrow1 (Nat.le_refl _) (fun k e => by cases e))) (by simp [I.valsOf, Value.oneCell']) (by unfold maxLen; omega) (by omega) (by have := hgrow1.size; omega) ?_; intro v2 w2 hown2 hgrow2 _)))
      have hB1 : Below w.heap.size w w1 := (Below.refl _ w).grown hgrow1 (Nat.le_refl _) (fun k e => by cases e)
      have hB2 : Below w.heap.size w w2 := hB1.grown hgrow2 hB1.size (fun k e => (hown1.lt k e).1)
      have hB3 : Below w.heap.size w w3 := (hB2.alloc hB2.size _).grown hgrow3 (by have := hB2.size; simp; omega) (fun k e => (hown2.lt k e).1)
      obtain ⟨a3, c3, rfl, H3, hn3, hm3⟩ := lies_own hown3
      clear hgrow3 hown3 hgrow1 hown1 hB1 hgrow2 hown2 hB2 HC
      go_ret2
      exact put_done (by omega) (by omega) (by simp [I.valsOf]) H3 hm3 hB3
  · rw [show PutRefPost l size x w = fun e w' => ∃ a cap, e = .returned (.tuple #[.slice a l.length cap, .bool false]) ∧ Hid (Lies w' (.slice a l.length cap) l.length 1 (I.valsOf l)) ∧ cap ≤ 9223372036854775807 ∧ Below w.heap.size w w' by unfold PutRefPost; rw [decide_eq_false hr]; rfl]
    obtain ⟨n, hnn⟩ : ∃ n, l.length = n := ⟨_, rfl⟩
    rw [hnn] at H hn hr ⊢
    go_enter Try.func22, Try.ntmps22
    go_wp2
    go_ret2
    exact ⟨a, c, rfl, H, hm, Below.refl _ _⟩

end Go.Proofs.Ytkpkpofeffegfaa
