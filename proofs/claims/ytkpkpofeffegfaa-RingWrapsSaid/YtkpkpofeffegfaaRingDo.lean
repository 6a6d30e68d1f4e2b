/- One call of a script, of the program and of the document: both answer alike. -/
import Derived.Test.YtkpkpofeffegfaaRingRef
namespace Go.Proofs.Ytkpkpofeffegfaa
open Go.RowKit Go.Shelf
open I (IsQ)
set_option linter.unusedVariables false

def DoesPost (q c size : Nat) (w : World) (e : Ending) (w' : World) : Prop := ∃ (l' : List Int) (a' : Option Addr) (cap' : Nat), e = .returned (.tuple #[.slice a' l'.length cap', .bool true]) ∧ Hid (IsQ w' q c size l') ∧ Hid (Lies w' (.slice a' l'.length cap') l'.length 1 (I.valsOf l')) ∧ cap' ≤ 9223372036854775807 ∧ w.grownBy w' (some c)

theorem IsQ.chan_only {w : World} {q c size : Nat} {l : List Int} (h : IsQ w q c size l) : ∀ k, some c = some k → ∀ cs t f, w.heap[k]? ≠ some (.cells cs t f) := fun k e cs t f hh => by
  cases e
  obtain ⟨_, _, _, hcc, _⟩ := h.chan
  rw [hcc] at hh; cases hh

set_option maxRecDepth 100000 in
set_option maxHeartbeats 2000000 in
theorem does_any (q c size : Nat) (l : List Int) (vl : Value) (k v : Int) (w : World) (hk : (Lit.int .i64 k).wf = true) (hq : IsQ w q c size l) (hl : Lies w vl l.length 1 (I.valsOf l)) :
    Calls Try.prog 10 #[.pointer (some ⟨q, 0, none⟩), vl, .int .i64 size, .agg #[.int .i64 k, .int .i64 v]] w (DoesPost q c size w) := by
  have hP := fun W => pick_five k hk W
  obtain ⟨al, cl, rfl, HL, hn, hm⟩ := hl.parts
  have HQ := Lib.hid hq
  obtain ⟨B, hB⟩ : ∃ B, (w.alloc (.cells #[.int .i64 k, .int .i64 v] 30 (0, 0))) = B := ⟨_, rfl⟩
  have hB0 : Below w.heap.size w B := by rw [← hB]; exact (Below.refl _ w).alloc (Nat.le_refl _) _
  have hb := heap_alloc_new w (.cells #[.int .i64 k, .int .i64 v] 30 (0, 0))
  rw [hB] at hb
  have hBlt : w.heap.size < B.heap.size := (Array.getElem?_eq_some_iff.1 hb).1
  have c0 : B.cell? ⟨w.heap.size, 0, none⟩ = some (.int .i64 k) := by unfold World.cell?; rw [hb]; rfl
  have c1 : B.cell? ⟨w.heap.size, 1, none⟩ = some (.int .i64 v) := by unfold World.cell?; rw [hb]; rfl
  obtain ⟨b, hbb⟩ : ∃ b, decide (l.length < size) = b := ⟨_, rfl⟩
  obtain ⟨L', hL'⟩ : ∃ L', I.bool_if b (l ++ [v]) l = L' := ⟨_, rfl⟩
  have hRP : ∀ W, Lies W (.slice al l.length cl) l.length 1 (I.valsOf l) → Calls Try.prog 22 #[.slice al l.length cl, .int .i64 size, .int .i64 v] W fun e w' => ∃ a cap, e = .returned (.tuple #[.slice a L'.length cap, .bool b]) ∧ Hid (Lies w' (.slice a L'.length cap) L'.length 1 (I.valsOf L')) ∧ cap ≤ 9223372036854775807 ∧ Below W.heap.size W w' := fun W h => by
    have := put_ref l size v _ W h hq.most
    unfold PutRefPost at this
    rw [hbb, hL'] at this
    exact this
  have hQP : ∀ W, IsQ W q c size l → Calls Try.prog 18 #[.pointer (some ⟨q, 0, none⟩), .int .i64 v] W fun e w' => e = .returned (.bool b) ∧ Hid (IsQ w' q c size L') ∧ W.grownBy w' (some c) := fun W h => by
    have := I.put_q q c size l v W h
    rw [hbb, hL'] at this
    exact this
  obtain ⟨x, hx⟩ : ∃ x, l.headD 0 = x := ⟨_, rfl⟩
  obtain ⟨T, hT⟩ : ∃ T, l.tail = T := ⟨_, rfl⟩
  obtain ⟨nb, hnb⟩ : ∃ nb, (!l.isEmpty) = nb := ⟨_, rfl⟩
  have hRT : ∀ W, Lies W (.slice al l.length cl) l.length 1 (I.valsOf l) → Calls Try.prog 23 #[.slice al l.length cl] W fun e w' => ∃ a cap, e = .returned (.tuple #[.int .i64 x, .slice a T.length cap, .bool nb]) ∧ Hid (Lies w' (.slice a T.length cap) T.length 1 (I.valsOf T)) ∧ cap ≤ 9223372036854775807 ∧ Below W.heap.size W w' := fun W h => by
    have := take_ref l _ W h
    rw [hx, hT, hnb] at this
    exact this
  have hQT : ∀ W, IsQ W q c size l → Calls Try.prog 17 #[.pointer (some ⟨q, 0, none⟩)] W fun e w' => e = .returned (.tuple #[.int .i64 x, .bool nb]) ∧ Hid (IsQ w' q c size T) ∧ W.grownBy w' (some c) := fun W h => by
    have := I.take_q q c size l W h
    rw [hx, hT, hnb] at this
    exact this
  have hqB := hq.below hB0
  have HQB := Lib.hid hqB
  have HLB : Hid (Lies B (.slice al l.length cl) l.length 1 (I.valsOf l)) := HL.out.below hB0
  have hgB : w.grownBy B (some c) := I.gbelow hB0 _
  have hsame : ∀ (v1 : Value) (W W1 : World), W1.ownsRow W.heap.size 2 1 v1 l.length (I.valsOf l) → Lies W1 (.slice al l.length cl) l.length 1 (I.valsOf l) → Calls Try.prog 20 #[v1, .slice al l.length cl] W1 fun e w' => e = .returned (.bool true) ∧ Below W1.heap.size W1 w' := fun v1 W W1 h h2 => same_ref l _ _ W1 (Lies.own h) h2
  clear hl hb hB0 hbb hL' hx hT hnb hqB HQ HL
  go_enter Try.func10, Try.ntmps10
  go_wp2_with (first
    | (go_at_call 21; refine (hP _).mono ?_; rintro e w1 ⟨p, hp0, hp5, rfl, rfl⟩)
    | (go_at_call 22; refine (hRP _ HLB.out).mono ?_; rintro e w2 ⟨a2, cap2, rfl, HL2, hc2, hB2⟩; have c1' := (World.cell?_of_block (a := ⟨w.heap.size, 1, none⟩) (hB2.block _ hBlt)).trans c1)
    | (go_at_call 18; refine (hQP _ (HQB.out.below hB2)).mono ?_; rintro e w3 ⟨rfl, HQ3, hg3⟩)
    | (go_at_call 23; refine (hRT _ HLB.out).mono ?_; rintro e w2 ⟨a2, cap2, rfl, HL2, hc2, hB2⟩)
    | (go_at_call 17; refine (hQT _ (HQB.out.below hB2)).mono ?_; rintro e w3 ⟨rfl, HQ3, hg3⟩)
    | (go_at_call 19; refine (I.drain_q _ _ _ _ _ HQB.out).mono ?_; rintro e w2 ⟨v2, rfl, hown2, hq2, hg2⟩; have HQ2 := Lib.hid hq2)
    | (go_at_call 20; refine (hsame _ _ _ hown2 (HLB.out.grown hg2 (IsQ.chan_only HQB.out))).mono ?_; rintro e w3 ⟨rfl, hB3⟩))
  all_goals
    go_ret2
  all_goals
    first
      | exact ⟨_, a2, cap2, rfl, HQ3, HL2.out.grown hg3 (IsQ.chan_only (HQB.out.below hB2)), hc2, I.gtrans hgB (I.gtrans (I.gbelow hB2 _) hg3)⟩
      | exact ⟨[], none, 0, rfl, hq2.below hB3, Lies.nil _ _, by omega, I.gtrans hgB (I.gtrans hg2 (I.gbelow hB3 _))⟩
end Go.Proofs.Ytkpkpofeffegfaa
