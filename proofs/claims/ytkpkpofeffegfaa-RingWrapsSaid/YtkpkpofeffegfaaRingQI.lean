/- A queue with what waits in it, as plain data, and what each call makes of it. -/
import Derived.Maps.AppendAt
import Derived.Lib.Hide
import Derived.Shelf.RegionOpen
import Derived.Shelf.Abstract
import Derived.Lib.SliceRun
import Derived.OneCell
import Derived.RangeFuncBox
import Derived.Lib.BufferWrite
import Derived.Test.YtkpkpofeffegfaaRingCallI
namespace Go.Proofs.Ytkpkpofeffegfaa.I
open Go.RowKit Go.Shelf Go.Conc
set_option linter.unusedVariables false

def bool_if (b : Bool) (x y : List Int) : List Int := if b then x else y

/-- what is given back of the world: all but one block, and what is new -/
theorem gtrans {w w1 w2 : World} {o : Option Nat} (h : w.grownBy w1 o) (h2 : w1.grownBy w2 o) : w.grownBy w2 o :=
  ⟨h2.os.trans h.os, h2.tape.trans h.tape, h2.output.trans h.output, Nat.le_trans h.size h2.size, fun k hk hne => (h2.block k (Nat.lt_of_lt_of_le hk h.size) hne).trans (h.block k hk hne)⟩
theorem gfresh {w w1 w2 : World} {o row : Option Nat} (h : w.grownBy w1 o) (h2 : w1.grownBy w2 row) (hr : ∀ k, row = some k → w.heap.size ≤ k) : w.grownBy w2 o :=
  ⟨h2.os.trans h.os, h2.tape.trans h.tape, h2.output.trans h.output, Nat.le_trans h.size h2.size, fun k hk hne => (h2.block k (Nat.lt_of_lt_of_le hk h.size) (fun e => by have := hr k e.symm; omega)).trans (h.block k hk hne)⟩
theorem grefl (w : World) (o : Option Nat) : w.grownBy w o := ⟨rfl, rfl, rfl, Nat.le_refl _, fun _ _ _ => rfl⟩
theorem gbelow {w w1 : World} (h : Below w.heap.size w w1) (o : Option Nat) : w.grownBy w1 o := ⟨h.os, h.tape, h.output, h.size, fun k hk _ => h.block k hk⟩
theorem gsetChan (w : World) (c cap : Nat) (buf : Array Value) (cl : Bool) (s r : Nat) (tm : Bool) : w.grownBy (w.setChan c cap buf cl s r tm) (some c) :=
  ⟨rfl, rfl, rfl, by simp [World.setChan], fun k hk hne => by
    have : c ≠ k := fun e => hne (by rw [e])
    simp [World.setChan, Array.getElem?_setIfInBounds_ne this]⟩

structure IsQ (w : World) (q c size : Nat) (l : List Int) : Prop where
  queue : w.heap[q]? = some (queueO c)
  chan : ∃ (s r : Nat) (bs : List Nat), w.heap[c]? = some (.chan size (bs.map at_).toArray false s r false) ∧ bs.length = l.length ∧ ∀ (i b : Nat) (x : Int), bs[i]? = some b → l[i]? = some x → w.heap[b]? = some (boxO x)
  fits : l.length ≤ size
  most : size ≤ 1024

theorem IsQ.lt {w : World} {q c size : Nat} {l : List Int} (h : IsQ w q c size l) : q < w.heap.size ∧ c < w.heap.size := by
  obtain ⟨s, r, bs, hc, _⟩ := h.chan
  exact ⟨(Array.getElem?_eq_some_iff.1 h.queue).1, (Array.getElem?_eq_some_iff.1 hc).1⟩
/-- what does not touch the channel leaves the queue -/
theorem IsQ.grown {w w' : World} {q c size : Nat} {l : List Int} {o : Option Nat} (h : IsQ w q c size l) (hg : w.grownBy w' o) (ho : ∀ k, o = some k → k ≠ c ∧ ∃ a b d e f g, w.heap[k]? = some (.chan a b d e f g)) : IsQ w' q c size l := by
  obtain ⟨s, r, bs, hc, hl, hx⟩ := h.chan
  have hcell : ∀ k cs t f, w.heap[k]? = some (.cells cs t f) → some k ≠ o := fun k cs t f hk e => by
    obtain ⟨_, a, b, d, e, f, g, h2⟩ := ho k e.symm
    rw [hk] at h2; cases h2
  refine ⟨(hg.block q h.lt.1 (hcell _ _ _ _ h.queue)).trans h.queue, ⟨s, r, bs, (hg.block c h.lt.2 (fun e => (ho c e.symm).1 rfl)).trans hc, hl, fun i b x hb hi => ?_⟩, h.fits, h.most⟩
  have := hx i b x hb hi
  exact (hg.block b (Array.getElem?_eq_some_iff.1 this).1 (hcell _ _ _ _ this)).trans this
theorem IsQ.below {w w' : World} {q c size : Nat} {l : List Int} (h : IsQ w q c size l) (hB : Below w.heap.size w w') : IsQ w' q c size l := h.grown (gbelow hB none) (fun _ e => by cases e)
/-- what touches another queue's channel leaves this one -/
theorem IsQ.other {w w' : World} {q c size q2 c2 size2 : Nat} {l l2 : List Int} (h : IsQ w q c size l) (h2 : IsQ w q2 c2 size2 l2) (hne : c2 ≠ c) (hg : w.grownBy w' (some c2)) : IsQ w' q c size l :=
  h.grown hg fun k e => by
    cases e
    obtain ⟨s, r, bs, hc, _⟩ := h2.chan
    exact ⟨hne, _, _, _, _, _, _, hc⟩

theorem new_q (n : Nat) (w : World) (h1 : 1 ≤ n) (h2 : n ≤ 1024) :
    Calls Try.prog 9 #[.int .i64 n] w fun e w' => e = .returned (.pointer (some ⟨w.heap.size + 1, 0, none⟩)) ∧ IsQ w' (w.heap.size + 1) w.heap.size n [] ∧ Below w.heap.size w w' ∧ w'.heap.size = w.heap.size + 2 := by
  refine (new_at n w h1 h2).mono ?_
  rintro e w' ⟨rfl, rfl⟩
  have ha := heap_alloc_new (w.alloc (.chan n #[] false 0 0 false)) (queueO w.heap.size)
  rw [World.size_alloc] at ha
  refine ⟨rfl, ⟨ha, ⟨0, 0, [], ?_, rfl, fun i b x hb => by simp at hb⟩, Nat.zero_le _, h2⟩, ((Below.refl _ w).alloc (Nat.le_refl _) _).alloc (by simp) _, by simp⟩
  exact (Below.heap_alloc _ _ _ (by simp)).trans (heap_alloc_new w _)

theorem put_q (q c size : Nat) (l : List Int) (x : Int) (w : World) (h : IsQ w q c size l) :
    Calls Try.prog 18 #[.pointer (some ⟨q, 0, none⟩), .int .i64 x] w fun e w' => e = .returned (.bool (decide (l.length < size))) ∧ IsQ w' q c size (bool_if (decide (l.length < size)) (l ++ [x]) l) ∧ w.grownBy w' (some c) := by
  obtain ⟨s, r, bs, hc, hl, hx⟩ := h.chan
  have hlt := h.lt
  have hBa : Below w.heap.size w (w.alloc (boxO x)) := (Below.refl _ w).alloc (Nat.le_refl _) _
  by_cases hr : l.length < size
  · refine (put_room q c size s r _ x w h.queue hc (by simp [hl]; omega)).mono ?_
    rintro e w' ⟨rfl, rfl⟩
    rw [decide_eq_true hr]
    have hcell : ∀ k cs t f, w.heap[k]? = some (.cells cs t f) → c ≠ k := fun k cs t f hk e => by
      subst e; rw [hk] at hc; cases hc
    refine ⟨rfl, ⟨?_, ⟨s + 1, r, bs ++ [w.heap.size], ?_, by show (bs ++ [w.heap.size]).length = (l ++ [x]).length; simp [hl], fun i b y hb hi => ?_⟩, by show (l ++ [x]).length ≤ size; simp; omega, h.most⟩, gtrans (World.grownBy_alloc w _ _) (gsetChan _ _ _ _ _ _ _ _)⟩
    · exact ((gsetChan _ c _ _ _ _ _ _).block q (by simp; omega) (fun e => hcell _ _ _ _ h.queue (by simpa using e.symm))).trans ((hBa.block q hlt.1).trans h.queue)
    · rw [heap_setChan _ _ _ _ _ _ _ _ (by simp; omega)]
      simp
    · rcases Nat.lt_or_ge i bs.length with hi2 | hi2
      · rw [List.getElem?_append_left hi2] at hb
        rw [show bool_if true (l ++ [x]) l = l ++ [x] from rfl, List.getElem?_append_left (by omega)] at hi
        have h3 := hx i b y hb hi
        have hb2 := (Array.getElem?_eq_some_iff.1 h3).1
        exact ((gsetChan _ c _ _ _ _ _ _).block b (by simp; omega) (fun e => hcell _ _ _ _ h3 (by simpa using e.symm))).trans ((hBa.block b hb2).trans h3)
      · rw [List.getElem?_append_right hi2] at hb
        rw [show bool_if true (l ++ [x]) l = l ++ [x] from rfl, List.getElem?_append_right (by omega)] at hi
        obtain ⟨j, hj⟩ : ∃ j, i - bs.length = j := ⟨_, rfl⟩
        rw [hj] at hb
        rw [← hl, hj] at hi
        cases j with
        | succ j => simp at hb
        | zero =>
          obtain rfl : w.heap.size = b := by simpa using hb
          obtain rfl : x = y := by simpa using hi
          exact ((gsetChan _ c _ _ _ _ _ _).block _ (by simp) (fun e => by have : w.heap.size = c := by simpa using e
                                                                           omega)).trans (heap_alloc_new w _)
  · refine (put_full q c size s r _ x w h.queue hc (by simp [hl]; omega)).mono ?_
    rintro e w' ⟨rfl, rfl⟩
    rw [decide_eq_false hr]
    exact ⟨rfl, h.below hBa, World.grownBy_alloc w _ _⟩

theorem take_raw (q c size s r b : Nat) (bs : List Nat) (x : Int) (w : World) (hq : w.heap[q]? = some (queueO c)) (hc : w.heap[c]? = some (.chan size ((b :: bs).map at_).toArray false s r false)) (hx : w.heap[b]? = some (boxO x)) :
    Calls Try.prog 17 #[.pointer (some ⟨q, 0, none⟩)] w fun e w' => e = .returned (.tuple #[.int .i64 x, .bool true]) ∧ w'.heap[c]? = some (.chan size (bs.map at_).toArray false s (r + 1) false) ∧ w.grownBy w' (some c) := by
  have hcl := (Array.getElem?_eq_some_iff.1 hc).1
  have hbc : b ≠ c := fun e => by subst e; rw [hx] at hc; cases hc
  refine (take_some q c size s r b _ x w hq hc (by simp) (by simp) hx hbc).mono ?_
  rintro e w' ⟨rfl, rfl⟩
  refine ⟨rfl, ?_, gsetChan _ _ _ _ _ _ _ _⟩
  rw [heap_setChan _ _ _ _ _ _ _ _ hcl]
  simp
  exact List.take_of_length_le (by simp)

theorem take_q (q c size : Nat) (l : List Int) (w : World) (h : IsQ w q c size l) :
    Calls Try.prog 17 #[.pointer (some ⟨q, 0, none⟩)] w fun e w' => e = .returned (.tuple #[.int .i64 (l.headD 0), .bool (!l.isEmpty)]) ∧ IsQ w' q c size l.tail ∧ w.grownBy w' (some c) := by
  obtain ⟨s, r, bs, hc, hl, hx⟩ := h.chan
  have hlt := h.lt
  cases l with
  | nil =>
    obtain rfl : bs = [] := List.eq_nil_of_length_eq_zero hl
    refine (take_none q c size s r w h.queue hc).mono ?_
    rintro e w' ⟨rfl, rfl⟩
    exact ⟨rfl, h, grefl _ _⟩
  | cons x l =>
    obtain ⟨b, bs, rfl⟩ : ∃ b bs', bs = b :: bs' := by
      cases bs with
      | nil => simp at hl
      | cons b bs => exact ⟨b, bs, rfl⟩
    have hb := hx 0 b x rfl rfl
    have hcell : ∀ k cs t f, w.heap[k]? = some (.cells cs t f) → c ≠ k := fun k cs t f hk e => by
      subst e; rw [hk] at hc; cases hc
    have hbc : b ≠ c := fun e => hcell _ _ _ _ hb e.symm
    refine (take_raw q c size s r b bs x w h.queue hc hb).mono ?_
    rintro e w' ⟨rfl, hc', hg⟩
    refine ⟨rfl, ⟨?_, ⟨s, r + 1, bs, hc', by simpa using hl, fun i b' y hb' hi => ?_⟩, by have := h.fits; simp at this ⊢; omega, h.most⟩, hg⟩
    · exact (hg.block q hlt.1 (fun e => hcell _ _ _ _ h.queue (by simpa using e.symm))).trans h.queue
    · have h3 := hx (i + 1) b' y (by simpa using hb') (by simpa using hi)
      exact (hg.block b' (Array.getElem?_eq_some_iff.1 h3).1 (fun e => hcell _ _ _ _ h3 (by simpa using e.symm))).trans h3

theorem len_q (q c size : Nat) (l : List Int) (w : World) (h : IsQ w q c size l) :
    Calls Try.prog 11 #[.pointer (some ⟨q, 0, none⟩)] w fun e w' => e = .returned (.int .i64 (l.length : Nat)) ∧ w = w' := by
  obtain ⟨s, r, bs, hc, hl, hx⟩ := h.chan
  have := len_at q c size s r _ w h.queue hc
  simpa [hl, at_] using this
theorem size_q (q c size : Nat) (l : List Int) (w : World) (h : IsQ w q c size l) :
    Calls Try.prog 12 #[.pointer (some ⟨q, 0, none⟩)] w fun e w' => e = .returned (.int .i64 (size : Nat)) ∧ w = w' := by
  obtain ⟨s, r, bs, hc, hl, hx⟩ := h.chan
  exact size_at q c size s r _ w h.queue hc

theorem take_cons (q c size : Nat) (x : Int) (l : List Int) (w : World) (h : IsQ w q c size (x :: l)) :
    Calls Try.prog 17 #[.pointer (some ⟨q, 0, none⟩)] w fun e w' => e = .returned (.tuple #[.int .i64 x, .bool true]) ∧ IsQ w' q c size l ∧ w.grownBy w' (some c) := take_q q c size (x :: l) w h
theorem len_0 (q c size : Nat) (w : World) (h : IsQ w q c size []) :
    Calls Try.prog 11 #[.pointer (some ⟨q, 0, none⟩)] w fun e w' => e = .returned (.int .i64 0) ∧ w = w' := len_q q c size [] w h
theorem take_empty (q c size : Nat) (w : World) (h : IsQ w q c size []) :
    Calls Try.prog 17 #[.pointer (some ⟨q, 0, none⟩)] w fun e w' => e = .returned (.tuple #[.int .i64 0, .bool false]) ∧ IsQ w' q c size [] ∧ w.grownBy w' (some c) := take_q q c size [] w h
theorem put_yes (q c size : Nat) (l : List Int) (x : Int) (w : World) (h : IsQ w q c size l) (hr : l.length < size) :
    Calls Try.prog 18 #[.pointer (some ⟨q, 0, none⟩), .int .i64 x] w fun e w' => e = .returned (.bool true) ∧ IsQ w' q c size (l ++ [x]) ∧ w.grownBy w' (some c) := by
  have := put_q q c size l x w h
  rw [decide_eq_true hr] at this
  exact this
theorem put_no (q c size : Nat) (l : List Int) (x : Int) (w : World) (h : IsQ w q c size l) (hr : ¬ l.length < size) :
    Calls Try.prog 18 #[.pointer (some ⟨q, 0, none⟩), .int .i64 x] w fun e w' => e = .returned (.bool false) ∧ IsQ w' q c size l ∧ w.grownBy w' (some c) := by
  have := put_q q c size l x w h
  rw [decide_eq_false hr] at this
  exact this
theorem own_chan {w w' : World} {base size n c : Nat} {e : TypeId} {v : Value} {xs : List Value} (h : w.ownsRow base e size v n xs) (hg : w.grownBy w' (some c)) (hc : c < base) : w'.ownsRow base e size v n xs := by
  refine h.kept hg ?_
  cases hv : v.ownBlock with
  | none => exact .inl rfl
  | some k =>
    refine .inr fun e => ?_
    have := (h.lt k hv).1
    injection e with e
    omega
theorem info_v : (Try.prog.info? 2).map (fun i => (i.zero, i.size, i.bytes)) = some (some (.int .i64 0), 1, 8) := by kernel_rfl

def valsOf (l : List Int) : List Value := l.map fun x => .int .i64 x
/-- a fresh row of these values -/
def DrainPost (q c size : Nat) (l : List Int) (w : World) (e : Ending) (w' : World) : Prop := ∃ v, e = .returned v ∧ w'.ownsRow w.heap.size 2 1 v l.length (valsOf l) ∧ IsQ w' q c size [] ∧ w.grownBy w' (some c)

set_option maxRecDepth 100000 in
set_option maxHeartbeats 1000000 in
theorem drain_q (q c size : Nat) (l : List Int) (w : World) (h : IsQ w q c size l) :
    Calls Try.prog 19 #[.pointer (some ⟨q, 0, none⟩)] w (DrainPost q c size l w) := by
  obtain ⟨i0, hi, hz0, hz1, hz2⟩ := info_parts info_v
  have hfit := h.fits
  have hmost := h.most
  have hcl := h.lt.2
  go_enter Try.func19, Try.ntmps19
  go_wp2_with (go_at_call 11; refine (len_q q c size l _ h).mono ?_; rintro e w' ⟨rfl, rfl⟩)
  obtain ⟨s, r, bs, hc, hl, hx⟩ := h.chan
  have hcell : ∀ k cs t f, w.heap[k]? = some (.cells cs t f) → some k ≠ some c := fun k cs t f hk e => by
    injection e with e; subst e; rw [hk] at hc; cases hc
  have hqq := h.queue
  have HX := Lib.hid hx
  have HC := Lib.hid hcell
  clear hx hcell
  go_loopw [3, 4, 5, 8] (fun v x b k wr => ∃ (i r' : Nat), i ≤ l.length ∧ k = .int .i64 i ∧ wr.ownsRow w.heap.size 2 1 v i (valsOf (l.take i)) ∧ wr.heap[c]? = some (.chan size ((bs.drop i).map at_).toArray false s r' false) ∧ w.grownBy wr (some c))
    (fun _ _ _ k _ => l.length - (intOf k).toNat)
  case atStart => exact ⟨0, r, Nat.zero_le _, rfl, World.ownsRow_nil _ _ _ _, hc, grefl _ _⟩
  case round =>
    obtain ⟨i, r', hil, rfl, hown, hc', hg⟩ := hrel
    have hsz := hg.size
    by_cases hlt : i < l.length
    · have hd : bs.drop i = bs[i] :: bs.drop (i + 1) := List.drop_eq_getElem_cons (by omega)
      obtain ⟨b, hb⟩ : ∃ b, bs[i] = b := ⟨_, rfl⟩
      obtain ⟨x, hx⟩ : ∃ x, l[i] = x := ⟨_, rfl⟩
      have htk : l.take (i + 1) = l.take i ++ [x] := by rw [List.take_succ_eq_append_getElem hlt, hx]
      have hxb := HX.out i b x (by rw [← hb]; simp) (by rw [← hx]; simp)
      have hxw : wr.heap[b]? = some (boxO x) := (hg.block b (Array.getElem?_eq_some_iff.1 hxb).1 (HC.out _ _ _ _ hxb)).trans hxb
      have hqw : wr.heap[q]? = some (queueO c) := (hg.block q (Array.getElem?_eq_some_iff.1 hqq).1 (HC.out _ _ _ _ hqq)).trans hqq
      rw [hd, hb] at hc'
      have HTK := Lib.hid htk
      clear hd hx htk hxb hb
      go_wp2_with (first | (go_at_call 17; refine (take_raw q c size s r' b (bs.drop (i + 1)) x _ hqw hc' hxw).mono ?_; rintro e w1 ⟨rfl, hc1, hg1⟩; have hsz1 := hg1.size; have hown1 := own_chan hown hg1 hcl) | (at_builtin; go_must (refine wpList_append_own _ rfl _ _ 26 rfl w.heap.size 2 i0 (.int .i64 0) 1 8 Try.underlying26 hi hz0 hz1 hz2 rfl (by decide) _ _ _ rfl (hown1.alloc _) ⟨w1.heap.size, 0, none⟩ 1 1 [.int .i64 x] rfl rfl (cell_one_new _ _ _) (by simp [Value.oneCell']) (by unfold maxLen; omega) (by omega) (by simp; omega) ?_; intro v' w2 hown' hgrow _)))
      have HO : w2.ownsRow w.heap.size 2 1 v' (i + 1) (valsOf (l.take (i + 1))) := by
        rw [HTK.out]
        unfold valsOf at hown' ⊢
        rw [List.map_append]
        exact hown'
      have hne : ∀ k, k < w.heap.size → some k ≠ u3.ownBlock := fun k hk e => by
        have := (hown1.lt k e.symm).1
        omega
      have HQ : w2.heap[c]? = some (.chan size ((bs.drop (i + 1)).map at_).toArray false s (r' + 1) false) :=
        (hgrow.block c (by simp; omega) (hne c hcl)).trans ((Below.heap_alloc w1 _ c (by omega)).trans hc1)
      have HG : w.grownBy w2 (some c) := by
        exact gfresh (gtrans hg (gtrans hg1 (World.grownBy_alloc w1 _ _))) hgrow (fun k e => (hown1.lt k e).1)
      obtain ⟨g', cap', rfl⟩ := ownsRow_succ hown'
      clear hown hown' hgrow hown1 hc1 hc' hg1 hne
      go_wp2
      go_roundw
      case rel => exact ⟨i + 1, r' + 1, by omega, by go_num, HO, HQ, HG⟩
      case measure => simp [intOf]; omega
    · obtain rfl : i = l.length := by omega
      go_wp2
      go_ret
      rw [List.take_length] at hown
      rw [List.drop_eq_nil_of_le (by omega)] at hc'
      refine ⟨_, rfl, hown, ⟨(hg.block q (Array.getElem?_eq_some_iff.1 hqq).1 (HC.out _ _ _ _ hqq)).trans hqq, ⟨s, r', [], hc', rfl, fun i b x hb => by simp at hb⟩, Nat.zero_le _, hmost⟩, hg⟩

set_option maxRecDepth 100000 in
theorem drain_nil (w : World) :
    Calls Try.prog 19 #[.pointer none] w fun e w' => e = .returned (.slice none 0 0) ∧ w = w' := by
  go_enter Try.func19, Try.ntmps19
  go_wp2_with (go_at_call 11; refine (len_nil _).mono ?_; rintro e w' ⟨rfl, rfl⟩)
  go_loopw [3, 4, 5, 8] (fun v x b k wr => v = .slice none 0 0 ∧ k = .int .i64 0 ∧ w = wr) (fun _ _ _ k _ => 0)
  case atStart => exact ⟨rfl, rfl, rfl⟩
  case round =>
    obtain ⟨rfl, rfl, rfl⟩ := hrel
    go_wp2
    go_ret
    exact ⟨rfl, rfl⟩
end Go.Proofs.Ytkpkpofeffegfaa.I
