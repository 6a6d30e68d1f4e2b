/- Several texts in one, each under its own heading. -/
import Derived.Test.YteopcjfakhmifaaPk18
import Derived.StillTail
import Derived.StillTailTactics
import Derived.OrdersIn
import Derived.RangeFuncCalls
import Derived.Test.YteopcjfakhmifaaPk02
/- Right of the document, of an inode. -/
namespace Go.Proofs.Yteopcjfakhmifaa.Ino.R
open Go.RowKit
attribute [local go_sem] Oper.semAt_some
set_option linter.unusedVariables false
set_option linter.unusedSimpArgs false
section
set_option maxRecDepth 100000
set_option maxHeartbeats 4000000
theorem right_any (n : I) (hn : IOk n) (w : World) : Calls Try.prog 47 #[n.val] w (Ans w (.bool (rightB n))) := by
  have hE := fun W => eqlZ n W
  have hd := fun W => R.depth_any n.size W hn.size
  have hM := fun W => mapped_any n.m n.size hn.size W
  have hA := At.new w n
  have HB := Lib.hid (below_new w (boxO n))
  have hR : rightB n = decide (RightP n) := rfl
  have hR2 : RightP n ↔ n = I.zero ∨ (1 ≤ n.kind ∧ n.kind ≤ 3) ∧ n.mode ≤ 4095 ∧ n.size ≤ 8193532 ∧ n.time < 281474976710656 ∧ n.depth = dpN n.size ∧ mapP n.m n.size := Iff.rfl
  unfold boxO at hA HB
  obtain ⟨W0, hW0⟩ : ∃ W0, w.alloc (.cells #[.int .i64 n.kind, .int .u16 n.mode, .int .u16 n.links, .int .u32 n.size, .int .u64 n.time, .int .i64 n.depth, .int .u32 n.m.a, .int .u32 n.m.b, .int .u32 n.m.c, .int .u32 n.m.d, .int .u32 n.m.e, .int .u32 n.m.f] 41) = W0 := ⟨_, rfl⟩
  rw [hW0] at hA HB
  obtain ⟨c0, c1, c2, c3, c4, c5, c6, c7, c8, c9, c10, c11⟩ := hA.c
  have hC : ∀ W, Below W0.heap.size W0 W → Reads W w.heap.size n := fun W hW => (hA.th hW).c
  have hD1 : Below W0.heap.size W0 W0.drew := (Below.refl _ _).drew
  unfold I.val at hE ⊢
  unfold M.val at hM
  generalize hX : decide (mapP n.m n.size) = x at hM
  clear hA
  obtain ⟨kind, mode, links, size, time, depth, a, b, c, d, e, f⟩ := n
  dsimp only at hE hd hM hR hR2 c0 c1 c2 c3 c4 c5 c6 c7 c8 c9 c10 c11 hX hW0 ⊢
  by_cases h0 : (⟨kind, mode, links, size, time, depth, a, b, c, d, e, f⟩ : I) = I.zero
  · rw [decide_eq_true h0] at hE
    have HR := Lib.hid (hR.trans (decide_eq_true (hR2.2 (.inl h0))))
    clear hR hR2 hX h0 hC hn
    go_enter Try.func47, Try.ntmps47
    go_wp2
    go_ret
    exact ⟨by rw [HR.out]; rfl, HB.out⟩
  · rw [decide_eq_false h0] at hE
    have dq : ∀ m, Calls Try.prog 46 #[.int .u32 size] (W0.drewN m) fun e w' => e = .returned (.int .i64 (dpN size)) ∧ w' = W0.drewN m := fun m => (hd _).mono fun e w' h => ⟨h.1, h.2.symm⟩
    have HDD := Lib.hid hd
    have HMM := Lib.hid hM
    clear hd hM
    by_cases h1 : 1 ≤ kind
    rotate_left 1
    · have g1 : decide (1 ≤ kind) = false := decide_eq_false h1
      have HR := Lib.hid (hR.trans (decide_eq_false (fun hh => (hR2.1 hh).elim h0 (fun hu => h1 hu.1.1))))
      have DQ := Lib.hid dq
      clear hR hR2 hX h0 hC hn dq  h1
      go_enter Try.func47, Try.ntmps47
      go_wp2
      go_quiet ((go_at_call 46; exact Calls.quiet_of_same (DQ.out _)))
      go_wp2
      go_ret
      exact ⟨by rw [HR.out]; rfl, below_drewN HB.out _⟩
    have g1 := h1
    by_cases h6 : kind ≤ 3
    rotate_left 1
    · have g6 : decide (kind ≤ 3) = false := decide_eq_false h6
      have HR := Lib.hid (hR.trans (decide_eq_false (fun hh => (hR2.1 hh).elim h0 (fun hu => h6 hu.1.2))))
      have DQ := Lib.hid dq
      clear hR hR2 hX h0 hC hn dq h1 h6
      go_enter Try.func47, Try.ntmps47
      go_wp2
      go_quiet ((go_at_call 46; exact Calls.quiet_of_same (DQ.out _)))
      go_wp2
      go_ret
      exact ⟨by rw [HR.out]; rfl, below_drewN HB.out _⟩
    have g6 := h6
    by_cases h2 : mode ≤ 4095
    rotate_left 1
    · have g2 : decide (mode ≤ 4095) = false := decide_eq_false h2
      have g2b : decide ((mode : Int) ≤ 4095) = false := decide_eq_false (by omega)
      have HR := Lib.hid (hR.trans (decide_eq_false (fun hh => (hR2.1 hh).elim h0 (fun hu => h2 hu.2.1))))
      have DQ := Lib.hid dq
      clear hR hR2 hX h0 hC hn dq h1 h6 h2
      go_enter Try.func47, Try.ntmps47
      go_wp2
      go_quiet ((go_at_call 46; exact Calls.quiet_of_same (DQ.out _)))
      go_wp2
      go_ret
      exact ⟨by rw [HR.out]; rfl, below_drewN HB.out _⟩
    have g2 : (mode : Int) ≤ 4095 := by omega
    by_cases h3 : size ≤ 8193532
    rotate_left 1
    · have g3 : decide (size ≤ 8193532) = false := decide_eq_false h3
      have g3b : decide ((size : Int) ≤ 8193532) = false := decide_eq_false (by omega)
      have HR := Lib.hid (hR.trans (decide_eq_false (fun hh => (hR2.1 hh).elim h0 (fun hu => h3 hu.2.2.1))))
      have DQ := Lib.hid dq
      clear hR hR2 hX h0 hC hn dq h1 h6 h2 h3
      go_enter Try.func47, Try.ntmps47
      go_wp2
      go_quiet ((go_at_call 46; exact Calls.quiet_of_same (DQ.out _)))
      go_wp2
      go_ret
      exact ⟨by rw [HR.out]; rfl, below_drewN HB.out _⟩
    have g3 : (size : Int) ≤ 8193532 := by omega
    by_cases h4 : time < 281474976710656
    rotate_left 1
    · have g4 : decide (time < 281474976710656) = false := decide_eq_false h4
      have g4b : decide ((time : Int) < 281474976710656) = false := decide_eq_false (by omega)
      have HR := Lib.hid (hR.trans (decide_eq_false (fun hh => (hR2.1 hh).elim h0 (fun hu => h4 hu.2.2.2.1))))
      have DQ := Lib.hid dq
      clear hR hR2 hX h0 hC hn dq h1 h6 h2 h3 h4
      go_enter Try.func47, Try.ntmps47
      go_wp2
      go_quiet ((go_at_call 46; exact Calls.quiet_of_same (DQ.out _)))
      go_wp2
      go_ret
      exact ⟨by rw [HR.out]; rfl, below_drewN HB.out _⟩
    have g4 : (time : Int) < 281474976710656 := by omega
    by_cases h5 : depth = dpN size
    rotate_left 1
    · have g5 : (depth == ((dpN size : Nat) : Int)) = false := beq_eq_false_iff_ne.2 h5
      have HR := Lib.hid (hR.trans (decide_eq_false (fun hh => (hR2.1 hh).elim h0 (fun hu => h5 hu.2.2.2.2.1))))
      generalize dpN size = D at *
      have DQ := Lib.hid dq
      clear hR hR2 hX h0 hC hn dq h1 h6 h2 h3 h4 h5
      go_enter Try.func47, Try.ntmps47
      go_wp2
      go_quiet ((go_at_call 46; exact Calls.quiet_of_same (DQ.out _)))
      go_wp2
      go_ret
      exact ⟨by rw [HR.out]; rfl, below_drewN HB.out _⟩
    have g5 : (depth == ((dpN size : Nat) : Int)) = true := by rw [h5]; simp
    have HR : Hid (rightB ⟨kind, mode, links, size, time, depth, a, b, c, d, e, f⟩ = x) := by
      unfold Hid
      rw [hR, ← hX]
      exact decide_eq_decide.2 ⟨fun hh => (hR2.1 hh).elim (fun hz => absurd hz h0) (fun hu => hu.2.2.2.2.2), fun hm => hR2.2 (.inr ⟨⟨h1, h6⟩, h2, h3, h4, h5, hm⟩)⟩
    have HC : Hid (∀ W, Below W0.heap.size W0 W → W.cell? ⟨w.heap.size, 0, none⟩ = some (Value.int .i64 kind) ∧ W.cell? ⟨w.heap.size, 1, none⟩ = some (Value.int .u16 mode) ∧ W.cell? ⟨w.heap.size, 2, none⟩ = some (Value.int .u16 links) ∧ W.cell? ⟨w.heap.size, 3, none⟩ = some (Value.int .u32 size) ∧ W.cell? ⟨w.heap.size, 4, none⟩ = some (Value.int .u64 time) ∧ W.cell? ⟨w.heap.size, 5, none⟩ = some (Value.int .i64 depth) ∧ W.cell? ⟨w.heap.size, 6, none⟩ = some (Value.int .u32 a) ∧ W.cell? ⟨w.heap.size, 7, none⟩ = some (Value.int .u32 b) ∧ W.cell? ⟨w.heap.size, 8, none⟩ = some (Value.int .u32 c) ∧ W.cell? ⟨w.heap.size, 9, none⟩ = some (Value.int .u32 d) ∧ W.cell? ⟨w.heap.size, 10, none⟩ = some (Value.int .u32 e) ∧ W.cell? ⟨w.heap.size, 11, none⟩ = some (Value.int .u32 f)) := fun W hW => by
      obtain ⟨a0, a1, a2, a3, a4, a5, a6, a7, a8, a9, a10, a11⟩ := hC W hW
      exact ⟨a0, a1, a2, a3, a4, a5, a6, a7, a8, a9, a10, a11⟩
    generalize dpN size = D at *
    clear hR hR2 hX h0 hC hn h1 h2 h3 h4 h5 h6 dq
    go_enter Try.func47, Try.ntmps47
    go_wp2
    go_region_held3 (fun w' => w'.cell? ⟨w.heap.size, 0, none⟩ = some (Value.int .i64 kind) ∧ w'.cell? ⟨w.heap.size, 1, none⟩ = some (Value.int .u16 mode) ∧ w'.cell? ⟨w.heap.size, 2, none⟩ = some (Value.int .u16 links) ∧ w'.cell? ⟨w.heap.size, 3, none⟩ = some (Value.int .u32 size) ∧ w'.cell? ⟨w.heap.size, 4, none⟩ = some (Value.int .u64 time) ∧ w'.cell? ⟨w.heap.size, 5, none⟩ = some (Value.int .i64 depth) ∧ w'.cell? ⟨w.heap.size, 6, none⟩ = some (Value.int .u32 a) ∧ w'.cell? ⟨w.heap.size, 7, none⟩ = some (Value.int .u32 b) ∧ w'.cell? ⟨w.heap.size, 8, none⟩ = some (Value.int .u32 c) ∧ w'.cell? ⟨w.heap.size, 9, none⟩ = some (Value.int .u32 d) ∧ w'.cell? ⟨w.heap.size, 10, none⟩ = some (Value.int .u32 e) ∧ w'.cell? ⟨w.heap.size, 11, none⟩ = some (Value.int .u32 f)) (first | exact HC.out _ hD1 | exact HC.out _ (by assumption)) (first
      | (go_at_call 46; (with_reducible refine Calls.mono (HDD.out _) ?_); rintro e w1 ⟨rfl, rfl⟩; have := hD1)
      | (go_at_call 61; (with_reducible refine Calls.mono (HMM.out _) ?_); rintro e w2 ⟨rfl, hBn⟩; have := below_th hD1 hBn))
    go_wp2
    go_ret
    exact ⟨by rw [HR.out]; rfl, below_th HB.out (by assumption)⟩
end
end Go.Proofs.Yteopcjfakhmifaa.Ino.R
/- A region that draws its order, in a loop's body over an iterator (a fence with a round): what a plain walk of the region shows holds there too; so the law of the quiet beginning serves. -/
namespace Go.Proofs.Yteopcjfakhmifaa
set_option linter.unusedVariables false

section
variable {P : Program} {ops : Array Oper} {Q : Exit → Act → World → Prop} {md : Region.Mode}

def noDefer (ops : Array Oper) : Bool := ops.all fun o => match o.op with | .defer _ => false | _ => true
theorem noDefer_at {i : Nat} {o : Oper} (h : noDefer ops = true) (hi : ops[i]? = some o) : ∀ c, o.op ≠ .defer c := by
  intro c hc
  have := (Array.all_eq_true.1 h) i (Array.getElem?_eq_some_iff.1 hi).1
  obtain ⟨hl, he⟩ := Array.getElem?_eq_some_iff.1 hi
  rw [he] at this
  simp [hc] at this

theorem upIn_of_up {l n : Nat} {o : Oper} {a : Act} {K : Act → World → Prop} {r : Result Next} (h : o.upon P a K Q r) : o.uponIn (Fence.wide.inRound l) n P a K Q r := by
  cases r with
  | ok x w' =>
    cases x <;> simp only [Oper.upon] at h <;> try exact h
    · exact ⟨fun hd => absurd hd (by simp [Fence.wide]), CallsIn.inRound l (callsIn_wide.2 h)⟩
    · refine ⟨fun hd => absurd hd (by simp [Fence.wide]), fun c cs _ => ?_⟩
      obtain ⟨v, w'', r, s⟩ := h c cs
      exact ⟨v, w'', r, stepsIn_wide.2 s⟩
  | halt x w' => cases x <;> simp only [Oper.upon] at h <;> exact h

theorem opIn_of_op {l n i : Nat} {K : Act → World → Prop} {a : Act} {w : World} (hd : noDefer ops = true) (hQ : ¬ LetsOut Q) (h : wpOp P ops Q i K a w) : wpOpIn (Fence.wide.inRound l) n P ops Q i K a w := by
  unfold wpOp at h
  unfold wpOpIn
  cases hi : ops[i]? with
  | none => simp only [hi] at h ⊢; exact h
  | some o =>
    simp only [hi] at h ⊢
    split
    · rename_i hw
      simp only [hw, if_true] at h
      rcases h with h | h
      · exact ⟨fun _ _ => trivial, by rw [Oper.semAt_eq _ _ _ (noDefer_at hd hi)]; exact upIn_of_up h⟩
      · exact absurd h.2 hQ
    · rename_i hw
      simp only [hw] at h
      exact ⟨fun _ _ => trivial, h⟩
theorem anyIn_of_any {l n : Nat} (hd : noDefer ops = true) (hQ : ¬ LetsOut Q) : ∀ (fuel : Nat) (listed : Array Bool) (a : Act) (w : World), wpAny P md ops Q fuel listed a w → wpAnyIn (Fence.wide.inRound l) n P md ops Q fuel listed a w
  | 0, _, _, _, h => h
  | fuel + 1, _, _, _, h => ⟨h.1, fun i hi => wpOpIn_mono (fun _ _ hh => anyIn_of_any hd hQ fuel _ _ _ hh) (opIn_of_op hd hQ (h.2 i hi))⟩

theorem wpIn_round_still_tail {l0 nF : Nat} {id : Nat} {a : Act} {w : World} {l : List Oper} (n : Nat) (hm : P.follows .mixedOrders = true) (hB : Region.lexTailB .any l.toArray n = true) (hd : noDefer l.toArray = true) (hQ : ¬ LetsOut Q)
    (h : wpStill P l.toArray w.drew (fun a' => wpList P l.toArray Q (l.drop n) a' w.drew) (l.take n) a) : (Code.region id l.toArray true).wpIn (Fence.wide.inRound l0) nF P Q a w := by
  simp only [Region.lexTailB, Bool.and_eq_true, decide_eq_true_eq] at hB
  obtain ⟨⟨⟨⟨hsel, hn⟩, hs⟩, hc⟩, hlex⟩ := hB
  have hn' : n < l.length := by simpa using hn
  have htl : (l.take n).length = n := by simp; omega
  have hdl : (l.drop n).length = l.toArray.size - n := by simp
  have inv0 : HeadInv .any l.toArray n (Array.replicate l.toArray.size false) :=
    ⟨by simp, fun j oj _ hl => (by rw [getD_replicate_false] at hl; cases hl), fun t _ ht => getD_in (by simpa using ht) (getD_replicate_false _ _)⟩
  have H := wpAnyL_lex (md := .any) (g := l.toArray.size - n) hsel hs hc hn (l.take n) 0 _ a (fun j hj => by
    have hj' : j < n := by rw [htl] at hj; exact hj
    simp [hj']) (by simpa using htl) inv0 (by rw [htl]; exact hlex) h
  refine wpIn_region_any hm (anyIn_of_any hd hQ _ _ _ _ ?_)
  have := wpAny_of_head (Q' := Q) (g := l.toArray.size - n) (fun listed a' hL => by
    have := wpAny_of_seq (md := .any) (Q' := Q) (l.drop n) n listed a' w.drew (fun j => by simp [List.getElem?_drop]) (by rw [hdl]; exact hL.1) hL.2
    rwa [hdl] at this) _ _ _ H
  rw [htl, show n + (l.toArray.size - n) = l.toArray.size by omega] at this
  exact this
end
end Go.Proofs.Yteopcjfakhmifaa
