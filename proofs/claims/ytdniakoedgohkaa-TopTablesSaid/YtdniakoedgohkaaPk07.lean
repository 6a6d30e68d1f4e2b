/- Several texts in one, each under its own heading. -/
import Derived.WalkKit
import Derived.Lib.Hide
import Derived.Laws.OwnMore
import Derived.RangeFuncBox
import Derived.Deep.AppendLies
import Derived.Deep.Draws
import Derived.RangeFuncNested
import Derived.RangeFuncWrites
import Derived.RangeFuncBound
import Derived.RangeFuncCalls
import Derived.RangeFuncLeaves
import Derived.OwnWalkIn
import Derived.TacticsInMore
import Derived.LoopNIn
import Derived.LoopIn
import Derived.Test.YtdniakoedgohkaaPk06
/- What a piece of work leaves of a world: all but some blocks, and new ones. -/
namespace Go.Proofs.Ytdniakoedgohkaa
open Go.RowKit
set_option linter.unusedVariables false

/-- W' is W but for the blocks of S, and new ones -/
structure Only (S : Nat → Prop) (W W' : World) : Prop where
  os : W'.os = W.os
  tape : W'.tape = W.tape
  output : W'.output = W.output
  size : W.heap.size ≤ W'.heap.size
  block : ∀ k, k < W.heap.size → ¬ S k → W'.heap[k]? = W.heap[k]?

namespace Only
variable {S T : Nat → Prop} {A B C : World}
theorem refl (S : Nat → Prop) (W : World) : Only S W W := ⟨rfl, rfl, rfl, Nat.le_refl _, fun _ _ _ => rfl⟩
theorem mono (h : Only S A B) (hs : ∀ k, k < A.heap.size → S k → T k) : Only T A B := ⟨h.os, h.tape, h.output, h.size, fun k hk hn => h.block k hk (fun hh => hn (hs k hk hh))⟩
theorem trans (h : Only S A B) (k : Only S B C) : Only S A C :=
  ⟨k.os.trans h.os, k.tape.trans h.tape, k.output.trans h.output, Nat.le_trans h.size k.size, fun i hi hn => (k.block i (Nat.lt_of_lt_of_le hi h.size) hn).trans (h.block i hi hn)⟩
/-- what is new to the second step may be written by it -/
theorem step (h : Only S A B) (k : Only T B C) (hs : ∀ i, i < A.heap.size → T i → S i) : Only S A C :=
  ⟨k.os.trans h.os, k.tape.trans h.tape, k.output.trans h.output, Nat.le_trans h.size k.size, fun i hi hn => (k.block i (Nat.lt_of_lt_of_le hi h.size) (fun ht => hn (hs i hi ht))).trans (h.block i hi hn)⟩
theorem drew (h : Only S A B) : Only S A B.drew := ⟨h.os, h.tape, h.output, h.size, h.block⟩
theorem drewN (h : Only S A B) (n : Nat) : Only S A (B.drewN n) := ⟨h.os, h.tape, h.output, h.size, h.block⟩
theorem ofDrew (h : Only S A.drew B) : Only S A B := ⟨h.os, h.tape, h.output, h.size, h.block⟩
theorem alloc (h : Only S A B) (o : Obj) : Only S A (B.alloc o) :=
  ⟨h.os, h.tape, h.output, by rw [World.size_alloc]; have := h.size; omega, fun i hi hn => (Below.heap_alloc B o i (Nat.lt_of_lt_of_le hi h.size)).trans (h.block i hi hn)⟩
theorem setCell (h : Only S A B) {p : Addr} (hp : A.heap.size ≤ p.block ∨ S p.block) (u : Value) : Only S A (B.setCell p u) :=
  ⟨h.os, h.tape, h.output, Nat.le_trans h.size (KeepsWalks.setCell B p u).size, fun i hi hn => (Below.heap_setCell _ _ _ _ (fun e => by subst e; exact hp.elim (fun h1 => by omega) (fun h1 => hn h1))).trans (h.block i hi hn)⟩
theorem grown (h : Only S A B) {row : Option Nat} (hg : B.grownBy C row) (hr : ∀ r, row = some r → A.heap.size ≤ r ∨ S r) : Only S A C :=
  ⟨hg.os.trans h.os, hg.tape.trans h.tape, hg.output.trans h.output, Nat.le_trans h.size hg.size, fun i hi hn =>
    (hg.block i (Nat.lt_of_lt_of_le hi h.size) (fun e => (hr _ e.symm).elim (fun h1 => by omega) (fun h1 => hn h1))).trans (h.block i hi hn)⟩
theorem of_below (h : Below A.heap.size A B) : Only S A B := ⟨h.os, h.tape, h.output, h.size, fun i hi _ => h.block i hi⟩
theorem below (h : Only S A B) {n : Nat} (hn : n ≤ A.heap.size) (hs : ∀ k, S k → n ≤ k) : Below n A B :=
  ⟨h.os, h.tape, h.output, by have := h.size; omega, fun k hk => h.block k (by omega) (fun hh => by have := hs k hh; omega)⟩
end Only
theorem below_drewN {B : Nat} {w w' : World} (h : Below B w w') (n : Nat) : Below B w (w'.drewN n) := ⟨h.os, h.tape, h.output, h.size, h.block⟩

end Go.Proofs.Ytdniakoedgohkaa
/- A loop over an iterator whose rounds are told apart by their number: what a caller owes, where what a round is handed hangs on how many came ahead of it. -/
namespace Go.Proofs.Ytdniakoedgohkaa
open Go.RowKit
set_option linter.unusedVariables false

theorem kept_cells {A B : World} {row : Option Nat} {b B0 : Nat} {c : Array Value} {t : TypeId} {f : Nat × Nat} (h : A.heap[b]? = some (.cells c t f)) (hg : A.grownBy B row) (hr : ∀ r, row = some r → B0 ≤ r ∧ ∃ o : Obj, A.heap[r]? = some o ∧ o.isCells = false) : B.heap[b]? = some (.cells c t f) :=
  (hg.block b (Array.getElem?_eq_some_iff.1 h).1 (fun e => by obtain ⟨_, o, ho, hc⟩ := hr b e.symm; rw [h] at ho; cases ho; cases hc)).trans h
theorem keeps_of_only {S : Nat → Prop} {W W' : World} (B : Nat) (ho : Only S W W') (hS : ∀ k, S k → ∃ c t f, W.heap[k]? = some (.cells c t f)) : KeepsFrom B W W' :=
  ⟨ho.size, fun k o _ hk hc => (ho.block k (Array.getElem?_eq_some_iff.1 hk).1 (fun hs => by obtain ⟨c, t, f, h⟩ := hS k hs; rw [hk] at h; cases h; cases hc)).trans hk⟩

/-- an iterator that calls yield N times at most, the k-th time with 'encs k' -/
def SeqSteps (F : Fence) (n : Nat) (P : Program) (g : Nat) (lb : Array Value) (encs : Nat → Array Value) (Kp : World → World → Prop) (N : Nat) (w : World) : Prop :=
  ∀ (l : Nat) (J Jx : Nat → World → Prop) (W : World), Below w.heap.size w W → AbidesFrom W.heap.size J → AbidesFrom W.heap.size Jx →
    (∀ k W1, J k W1 → k < N → YieldAt F (n - 1) P l (encs k) W1 fun e W' =>
      (e = .returned (.bool true) ∧ J (k + 1) W' ∧ Kp W1 W') ∨ (e = .returned (.bool false) ∧ Jx k W')) →
    J 0 W →
    CallsIn F n P g (#[.func (.yield l) #[] #[]] ++ lb) W fun e W' => (∃ v, e = .returned v) ∧ (J N W' ∨ ∃ k, k < N ∧ Jx k W')

/-- how a round's body may be left -/
def stepPost (B : Nat) (Kp : World → World → Prop) (I : World → Prop) (Ix : Code → World → Prop) (W : World) : Exit → Act → World → Prop
  | .normal, _, W' => KeepsFrom B W W' ∧ Kp W W' ∧ I W'
  | .ret, _, W' => KeepsFrom B W W' ∧ Ix .ret W'
  | .exit i, _, W' => KeepsFrom B W W' ∧ Ix (.exit i) W'
  | .goto t, _, W' => KeepsFrom B W W' ∧ Ix (.goto t) W'
  | .panic _, _, _ => False
  | .outgrown, _, _ => False

variable {F : Fence} {n : Nat} {P : Program} {w : World}

theorem wpIn_rangeFunc_steps {g : Operand} {ps : Array Tmp} {assign body : Code} {Q : Exit → Act → World → Prop} {a : Act}
    (hro : F.round = none) (h1 : 1 ≤ n) {gf : Nat} {lb : Array Value} (hg : a.eval g = .func (.func gf) #[] lb) (hFg : F.fn gf) (eg : ∀ args w, (callFunc gf args).run P w = .ok (.enter gf args) w)
    {encs : Nat → Array Value} {Kp : World → World → Prop} {N : Nat} {w0 : World} (hseq : SeqSteps F (n - 1) P gf lb encs Kp N w0)
    (hKt : ∀ {A B C : World}, Kp A B → Kp B C → Kp A C) (hKb : ∀ (W : World) (l : Nat) (o o' : Obj), w.heap.size ≤ l → W.heap[l]? = some o → o.isCells = false → o.isWalk = false → Kp W (W.putObj l o')) (hb0 : Below w0.heap.size w0 w) (hps : ∀ k, (encs k).size = ps.size)
    (I : Nat → World → Prop) (Ix : Code → Nat → World → Prop) (hI : OwnFrom w.heap.size I) (hIx : ∀ c, OwnFrom w.heap.size (Ix c)) (h0 : I 0 w) (Ax : Nat → Act → World → Prop) (hAx : ∀ k a', OwnFrom w.heap.size (fun (_ : Unit) W => Ax k a' W))
    (hassign : ∀ (l k : Nat) (W : World) (K : Act → World → Prop), I k W → k < N → (∀ a' W', KeepsFrom w.heap.size W W' → Kp W W' → I k W' → Ax k a' W' → K a' W') →
      assign.wpIn (F.inRound l) (n - 1 - 1) P (Exit.then K (fun _ _ _ => False)) { tmps := (ps.zip (encs k)).foldl (fun t (p, v) => t.setIfInBounds p v) a.tmps, defers := [] } W)
    (hbody : ∀ (l k : Nat) (a' : Act) (W : World), w.heap.size ≤ l → (∃ r, W.heap[l]? = some (.loop r)) → I k W → Ax k a' W → k < N → body.wpIn (F.inRound l) (n - 1 - 1) P (stepPost w.heap.size Kp (I (k + 1)) (fun c => Ix c k) W) a' W)
    (hdone : ∀ (D : Nat) (W : World), w.heap.size ≤ D → I N W → W.heap[D]? = some (.deferred (some [])) → Q .normal { a with defers := { target := .collected D, args := #[] } :: a.defers } W)
    (hstop : ∀ (D : Nat) (c : Code) (k : Nat) (W : World), w.heap.size ≤ D → k < N → Ix c k W → W.heap[D]? = some (.deferred (some [])) → c.wpIn F n P Q { a with defers := { target := .collected D, args := #[] } :: a.defers } W) :
    (Code.rangeFunc g ps assign body).wpIn F n P Q a w := by
  refine wpIn_rangeFunc ?_
  intro fn hfn
  rw [hro]
  -- the loop's record, whatever its state and its pending jump
  obtain ⟨rec, hrec⟩ : ∃ rec : LoopState → Option Code → Loop, rec = fun st pe => { state := st, pending := pe, fn, tmps := a.tmps, params := ps, assign, body, defers := w.heap.size } := ⟨_, rfl⟩
  obtain ⟨Wl, hWl⟩ : ∃ Wl, (w.alloc (.deferred (some []))).alloc (.loop (rec .ready none)) = Wl := ⟨_, rfl⟩
  have hloop : Wl.heap[w.heap.size + 1]? = some (.loop (rec .ready none)) := by
    rw [← hWl]; have := World.alloc_heap_new (w.alloc (.deferred (some []))) (.loop (rec .ready none)); rwa [World.size_alloc] at this
  have hdef : Wl.heap[w.heap.size]? = some (.deferred (some [])) := by
    rw [← hWl]; exact (Below.heap_alloc _ _ _ (by simp)).trans (World.alloc_heap_new w _)
  have hI1 : I 0 Wl := by rw [← hWl]; exact hI.alloc _ (hI.alloc _ h0)
  have hbl : Below w0.heap.size w0 Wl := by
    rw [← hWl]; exact hb0.trans ((((Below.refl _ w).alloc (Nat.le_refl _) _).alloc (by simp) _).mono hb0.size)
  have hsz : Wl.heap.size = w.heap.size + 2 := by rw [← hWl]; simp
  refine ⟨w.heap.size + 1, [{ target := .collected w.heap.size, args := #[] }], Wl, { target := .fn (.func gf) lb, args := #[.func (.yield (w.heap.size + 1)) #[] #[]] }, Wl, gf,
    #[.func (.yield (w.heap.size + 1)) #[] #[]] ++ lb, Wl, ?_, ?_, ?_, ?_, fun _ => h1, ?_⟩
  · rw [← hWl, hrec]; exact run_enterLoop_outer _ _ _ _ _
  · simp only [resolve, hg]
    simp [go_sem]
  · intro f' hf'; simp [Target.leads] at hf'; subst hf'; exact hFg
  · simp [invoke, go_sem, eg]
  · have hwalk : ∀ {A : World} {row : Option Nat}, (∀ r, row = some r → Wl.heap.size ≤ r ∧ ∃ o : Obj, A.heap[r]? = some o ∧ o.isWalk = true) → (∀ r, row = some r → w.heap.size ≤ r ∧ ∃ o : Obj, A.heap[r]? = some o ∧ o.isCells = false) :=
      fun hr r e => by obtain ⟨hB, o, ho, hw⟩ := hr r e; exact ⟨by omega, o, ho, Obj.not_cells_of_walk hw⟩
    refine (hseq (w.heap.size + 1)
      (fun k W => I k W ∧ W.heap[w.heap.size + 1]? = some (.loop (rec .ready none)) ∧ W.heap[w.heap.size]? = some (.deferred (some [])))
      (fun k W => ∃ c, Ix c k W ∧ W.heap[w.heap.size + 1]? = some (.loop (rec .done (some c))) ∧ W.heap[w.heap.size]? = some (.deferred (some [])))
      Wl hbl
      (fun s A B row hs hg' hr => ⟨hI s A B row hs.1 hg' (hwalk hr), (grownBy_keeps hg' (fun r e => (hr r e).2) hs.2.1 rfl).trans hs.2.1, (grownBy_keeps hg' (fun r e => (hr r e).2) hs.2.2 rfl).trans hs.2.2⟩)
      (fun s A B row hs hg' hr => by
        obtain ⟨c, hc, hl, hk⟩ := hs
        exact ⟨c, hIx c s A B row hc hg' (hwalk hr), (grownBy_keeps hg' (fun r e => (hr r e).2) hl rfl).trans hl, (grownBy_keeps hg' (fun r e => (hr r e).2) hk rfl).trans hk⟩)
      ?_ ⟨hI1, hloop, hdef⟩).mono ?_
    · rintro k W ⟨hi, hl, hk⟩ hlen
      have hy := run_yield (P := P) (args := encs k) hl (by rw [hrec]; exact hps k)
      rw [hrec] at hy
      refine ⟨fn, _, assign, body, hy, roundIn_of_wpIn hfn (hassign _ k W _ hi hlen ?_)⟩
      clear hy
      intro a' Wa hkfa hkpa hia hax
      have hla := hkfa.same _ _ (by omega) hl rfl
      have hka := hkfa.same _ _ (Nat.le_refl _) hk rfl
      have hlt : w.heap.size + 1 < Wa.heap.size := (Array.getElem?_eq_some_iff.1 hla).1
      refine ⟨_, run_beginRound hla (by rw [hrec]), ?_⟩
      have hl2 : (Wa.putObj (w.heap.size + 1) (.loop { rec .ready none with state := .busy })).heap[w.heap.size + 1]? = some (.loop { rec .ready none with state := .busy }) := World.putObj_heap_same hlt
      have hk2 : (Wa.putObj (w.heap.size + 1) (.loop { rec .ready none with state := .busy })).heap[w.heap.size]? = some (.deferred (some [])) := (World.putObj_heap_other (by omega)).trans hka
      have hw2 : Kp Wa (Wa.putObj (w.heap.size + 1) (.loop { rec .ready none with state := .busy })) := hKb _ _ _ _ (by omega) hla rfl rfl
      refine wpIn_mono (hbody _ k a' _ (by omega) ⟨_, hl2⟩ (hI.putObj _ hia (by omega) hla rfl) ((hAx k a').putObj (s := ()) _ hax (by omega) hla rfl) hlen) ?_
      have fin : ∀ (jump : Option Code) (W3 : World), KeepsFrom w.heap.size (Wa.putObj (w.heap.size + 1) (.loop { rec .ready none with state := .busy })) W3 →
          (Instr.endRound (w.heap.size + 1) jump).run P W3 = .ok (.bool jump.isNone) (W3.putObj (w.heap.size + 1) (.loop (rec (if jump.isNone then .ready else .done) jump))) ∧
          W3.heap[w.heap.size + 1]? = some (.loop { rec .ready none with state := .busy }) ∧
          (W3.putObj (w.heap.size + 1) (.loop (rec (if jump.isNone then .ready else .done) jump))).heap[w.heap.size + 1]? = some (.loop (rec (if jump.isNone then .ready else .done) jump)) ∧
          (W3.putObj (w.heap.size + 1) (.loop (rec (if jump.isNone then .ready else .done) jump))).heap[w.heap.size]? = some (.deferred (some [])) := fun jump W3 hk3 => by
        have hl3 := hk3.same _ _ (by omega) hl2 rfl
        have := run_endRound (P := P) jump hl3
        rw [hrec] at this ⊢
        exact ⟨this, by rw [hrec] at hl3; exact hl3, World.putObj_heap_same (Array.getElem?_eq_some_iff.1 hl3).1, (World.putObj_heap_other (by omega)).trans (hk3.same _ _ (Nat.le_refl _) hk2 rfl)⟩
      have out : ∀ (c : Code) (W3 : World), KeepsFrom w.heap.size (Wa.putObj (w.heap.size + 1) (.loop { rec .ready none with state := .busy })) W3 → Ix c k W3 →
          (Instr.endRound (w.heap.size + 1) (some c)).run P W3 = .ok (.bool false) (W3.putObj (w.heap.size + 1) (.loop (rec .done (some c)))) ∧
          ∃ c', Ix c' k (W3.putObj (w.heap.size + 1) (.loop (rec .done (some c)))) ∧ (W3.putObj (w.heap.size + 1) (.loop (rec .done (some c)))).heap[w.heap.size + 1]? = some (.loop (rec .done (some c'))) ∧
            (W3.putObj (w.heap.size + 1) (.loop (rec .done (some c)))).heap[w.heap.size]? = some (.deferred (some [])) := fun c W3 hk3 hi3 => by
        obtain ⟨hr, hl3, hl4, hk4⟩ := fin (some c) W3 hk3
        exact ⟨hr, c, (hIx _).putObj _ hi3 (by omega) hl3 rfl, hl4, hk4⟩
      rintro e a3 W3 hp
      cases e with
      | normal =>
        obtain ⟨hk3, hkp3, hi3⟩ := hp
        obtain ⟨hr, hl3, hl4, hk4⟩ := fin none W3 hk3
        exact ⟨_, _, hr, .inl ⟨rfl, ⟨hI.putObj _ hi3 (by omega) hl3 rfl, hl4, hk4⟩, hKt hkpa (hKt (hKt hw2 hkp3) (hKb _ _ _ _ (by omega) hl3 rfl rfl))⟩⟩
      | ret => obtain ⟨hr, h4⟩ := out .ret W3 hp.1 hp.2; exact ⟨_, _, hr, .inr ⟨rfl, h4⟩⟩
      | exit i => obtain ⟨hr, h4⟩ := out (.exit i) W3 hp.1 hp.2; exact ⟨_, _, hr, .inr ⟨rfl, h4⟩⟩
      | goto t => obtain ⟨hr, h4⟩ := out (.goto t) W3 hp.1 hp.2; exact ⟨_, _, hr, .inr ⟨rfl, h4⟩⟩
      | panic ch => exact hp.elim
      | outgrown => exact hp.elim
    · rintro e W2 ⟨⟨v, rfl⟩, (⟨hi, hl, hk⟩ | ⟨k, hkN, c, hi, hl, hk⟩)⟩
      · exact ⟨none, _, by have := run_endLoop (P := P) hl (by rw [hrec]; simp); rw [hrec] at this; exact this, hdone _ _ (Nat.le_refl _) (hI.putObj _ hi (by omega) hl rfl) ((World.putObj_heap_other (by omega)).trans hk)⟩
      · exact ⟨some c, _, by have := run_endLoop (P := P) hl (by rw [hrec]; simp); rw [hrec] at this; exact this, hstop _ c k _ (Nat.le_refl _) hkN ((hIx c).putObj _ hi (by omega) hl rfl) ((World.putObj_heap_other (by omega)).trans hk)⟩

end Go.Proofs.Ytdniakoedgohkaa
/- The iterator of the program's package record hands out the fifteen entries that a record in a block may have. -/
namespace Go.Proofs.Ytdniakoedgohkaa.Record
open Go.RowKit Go.Shelf
attribute [local go_sem] Oper.semAt_some
set_option linter.unusedVariables false

theorem grown_of_below {W W' : World} (h : Below W.heap.size W W') : W.grownBy W' none := ⟨h.1, h.2, h.3, h.4, fun k hk _ => h.5 k hk⟩
/-- an entry lies in a block that is newer than wr, which stands as it stood -/
structure Box (wr W : World) (b : Nat) (e : E) : Prop where
  le : wr.heap.size ≤ b
  at_ : At W b e
  below : Below wr.heap.size wr W
theorem Box.new {wr w : World} (h : Below wr.heap.size wr w) (e : E) : Box wr (w.alloc (boxE e)) w.heap.size e := ⟨h.size, At.new w e, below_al h _⟩
theorem Box.th {wr W W' : World} {b : Nat} {e : E} (h : Box wr W b e) (hB : Below W.heap.size W W') : Box wr W' b e := ⟨h.le, h.at_.th hB, below_th h.below hB⟩
theorem Box.drew {wr W : World} {b : Nat} {e : E} (h : Box wr W b e) : Box wr W.drew b e := ⟨h.le, h.at_, h.below.drew⟩
theorem Box.put {wr W : World} {b : Nat} {e : E} (h : Box wr W b e) (t : E) : Box wr ((((W.setCell ⟨b, 0, none⟩ (.int .i64 t.kind)).setCell ⟨b, 1, none⟩ (.int .u32 t.file)).setCell ⟨b, 2, none⟩ (.int .u32 t.index)).setCell ⟨b, 3, none⟩ (.int .u32 t.vbn)) b t :=
  ⟨h.le, (h.at_.put4 t).1, h.below.trans ((h.at_.put4 t).2.mono h.le)⟩
/-- what the k-th round is handed -/
def enc (b : ByteArray) (k : Nat) : Array Value := #[(entAt b k).val]

section
set_option maxRecDepth 100000
set_option maxHeartbeats 4000000
theorem ents1_in (n : Nat) (hn : 1 ≤ n) (l Bb : Nat) (b : ByteArray) (hb : b.size = 512) (J Jx : Nat → World → Prop) (B0 : Nat) (hJ : AbidesFrom B0 J)
    (hY : ∀ k W, J k W → k < 15 → YieldAt Fence.wide (n - 1) Try.prog l (enc b k) W fun e W' => (e = .returned (.bool true) ∧ J (k + 1) W' ∧ Same [Bb] W W') ∨ (e = .returned (.bool false) ∧ Jx k W'))
    (W : World) (hbx : W.cell? ⟨Bb, 0, none⟩ = some (.string b)) (h0 : J 0 W) :
    CallsIn Fence.wide n Try.prog 106 #[.func (.yield l) #[] #[], .pointer (some ⟨Bb, 0, none⟩)] W fun e W' => (∃ v, e = .returned v) ∧ (J 15 W' ∨ ∃ k, k < 15 ∧ Jx k W') := by
  have hfn : ∀ f, Fence.wide.fn f := fun _ => trivial
  have hJa : ∀ k W1 W2, J k W1 → Below W1.heap.size W1 W2 → J k W2 := fun k W1 W2 h hB => hJ _ _ _ none h (grown_of_below hB) (fun r e => by cases e)
  have hlt := World.block_lt_of_cell? _ _ hbx
  have HA := Lib.hid hJa
  have HY := Lib.hid hY
  have HBX := Lib.hid hbx
  clear hJa hY hJ hbx
  refine callsIn_of_wp Try.func106 rfl trivial ?_ rfl
  simp only [Try.ntmps106, List.size_toArray, List.length_cons, List.length_nil, Nat.reduceAdd, Nat.reduceSub, Array.replicate_succ, Array.replicate_zero, List.push_toArray, List.append_toArray, List.nil_append, List.cons_append]
  gi_wp2
  gi_loopw [3, 4, 5, 6] (fun _ _ _ i wr => ∃ k : Nat, k ≤ 15 ∧ i = .int .i64 (k : Int) ∧ J k wr ∧ Same [Bb] W wr ∧ Bb < wr.heap.size) (fun _ _ _ i _ => 15 - (intOf i).toNat)
  case atStart => exact ⟨0, by omega, rfl, h0, Same.refl _ _, hlt⟩
  case round =>
    obtain ⟨k, hk, rfl, hJk, hS, hbl⟩ := hrel
    by_cases hltk : k < 15
    · have hcb : wr.cell? ⟨Bb, 0, none⟩ = some (.string b) := (hS.cell (p := ⟨Bb, 0, none⟩) (by simp)).trans HBX.out
      obtain ⟨p, hp⟩ : ∃ p : Nat, 17 + k * 13 = p := ⟨_, rfl⟩
      obtain ⟨p1, hp1⟩ : ∃ p1 : Nat, p + 1 = p1 := ⟨_, rfl⟩
      obtain ⟨p5, hp5⟩ : ∃ p5 : Nat, p + 5 = p5 := ⟨_, rfl⟩
      obtain ⟨p9, hp9⟩ : ∃ p9 : Nat, p + 9 = p9 := ⟨_, rfl⟩
      have w0 : IntKind.i64.wrap ((k : Int) * 13) = (k : Int) * 13 := by rw [IntKind.wrap_i64]; omega
      have w00 : IntKind.i64.wrap (17 + (k : Int) * 13) = (p : Int) := by rw [IntKind.wrap_i64]; omega
      have w1 : IntKind.i64.wrap ((p : Int) + 1) = (p1 : Int) := by rw [IntKind.wrap_i64]; omega
      have w5 : IntKind.i64.wrap ((p : Int) + 5) = (p5 : Int) := by rw [IntKind.wrap_i64]; omega
      have w9 : IntKind.i64.wrap ((p : Int) + 9) = (p9 : Int) := by rw [IntKind.wrap_i64]; omega
      have T0 := Lib.hid (fun W => rtake_any b p 1 W (by omega) (by omega) (by omega) (by omega))
      have T1 := Lib.hid (fun W => rtake_any b p1 4 W (by omega) (by omega) (by omega) (by omega))
      have T2 := Lib.hid (fun W => rtake_any b p5 4 W (by omega) (by omega) (by omega) (by omega))
      have T3 := Lib.hid (fun W => rtake_any b p9 4 W (by omega) (by omega) (by omega) (by omega))
      have e1 : (256 : Nat) ^ 1 = 256 := by decide
      have e4 : (256 : Nat) ^ 4 = 4294967296 := by decide
      have l0 := takeN_lt b p 1
      have l1 := takeN_lt b p1 4
      have l2 := takeN_lt b p5 4
      have l3 := takeN_lt b p9 4
      rw [e1] at l0
      rw [e4] at l1 l2 l3
      have hev : entAt b k = ⟨takeN b p 1, takeN b p1 4, takeN b p5 4, takeN b p9 4⟩ := by unfold entAt; rw [hp, hp1, hp5, hp9]
      obtain ⟨x0, hx0⟩ : ∃ x, takeN b p 1 = x := ⟨_, rfl⟩
      obtain ⟨x1, hx1⟩ : ∃ x, takeN b p1 4 = x := ⟨_, rfl⟩
      obtain ⟨x2, hx2⟩ : ∃ x, takeN b p5 4 = x := ⟨_, rfl⟩
      obtain ⟨x3, hx3⟩ : ∃ x, takeN b p9 4 = x := ⟨_, rfl⟩
      simp only [hx0, hx1, hx2, hx3] at T0 T1 T2 T3 l0 l1 l2 l3 hev
      have v0 : IntKind.i64.wrap (x0 : Int) = x0 := by rw [IntKind.wrap_i64]; omega
      have v1 : IntKind.u32.wrap (x1 : Int) = x1 := by rw [IntKind.wrap_u32]; omega
      have v2 : IntKind.u32.wrap (x2 : Int) = x2 := by rw [IntKind.wrap_u32]; omega
      have v3 : IntKind.u32.wrap (x3 : Int) = x3 := by rw [IntKind.wrap_u32]; omega
      have hYk := fun W h => HY.out k W h hltk
      unfold enc at hYk
      rw [hev] at hYk
      unfold E.val at hYk
      dsimp only at hYk
      have HYK := Lib.hid hYk
      clear hx0 hx1 hx2 hx3 hp hp1 hp5 hp9 l0 l1 l2 l3 e1 e4 hev hYk
      have HC : Hid (∀ W', Below wr.heap.size wr W' → W'.cell? ⟨Bb, 0, none⟩ = some (.string b)) := fun W' h => (h.cell (p := ⟨Bb, 0, none⟩) hbl).trans hcb
      have hself : Below wr.heap.size wr wr := Below.refl _ _
      have hself2 : Below wr.heap.size wr wr.drew := hself.drew
      gi_wp2
      refine wpIn_wide.2 ?_
      refine Code.wp_mono (Q := fun e a' w' => e = .normal ∧ ∃ Bx, Box wr w' Bx ⟨x0, x1, x2, x3⟩ ∧ a' = { tmps := #[.func (.yield l) #[] #[], .pointer (some ⟨Bb, 0, none⟩), undef, .int .i64 k, .int .i64 p, .pointer (some ⟨Bx, 0, none⟩), .int .i64 k, .bool true, .int .i64 k, .int .i64 k, .int .i64 ((k : Int) * 13), .int .i64 p, .string b, .int .i64 p, .int .u64 x0, .int .i64 x0, .string b, .int .i64 p, .int .i64 p1, .int .u64 x1, .int .u32 x1, .string b, .int .i64 p, .int .i64 p5, .int .u64 x2, .int .u32 x2, .string b, .int .i64 p, .int .i64 p9, .int .u64 x3, .int .u32 x3, .agg #[.int .i64 x0, .int .u32 x1, .int .u32 x2, .int .u32 x3], u32, u33, u34, u35, u36], defers := [] }) ?imp ?_
      case imp =>
        rintro e a' w' ⟨rfl, Bx, hBX, rfl⟩
        obtain ⟨d0, d1, d2, d3⟩ := hBX.at_.c
        dsimp only at d0 d1 d2 d3
        have hS2 : Same [Bb] W w' := hS.trans (Same.below hBX.below (by simpa using hbl))
        have hb2 : Bb < w'.heap.size := Nat.lt_of_lt_of_le hbl hBX.below.size
        obtain ⟨fn, tmps, assign, body, hy, hR⟩ := HYK.out _ (HA.out _ _ _ hJk hBX.below)
        have HS2 := Lib.hid hS2
        clear hS2 hBX hcb hself hself2 hJk hS T0 T1 T2 T3
        gi_wp2
        refine hR.mono ?_
        rintro e W3 (⟨rfl, hJ3, hk3⟩ | ⟨rfl, hJx3⟩)
        · have hb3 : Bb < W3.heap.size := by
            have h1 := hk3 Bb (by simp)
            rw [Array.getElem?_eq_getElem hb2] at h1
            exact (Array.getElem?_eq_some_iff.1 h1).1
          gi_wp2
          go_roundw
          case rel => exact ⟨k + 1, by omega, by go_num, hJ3, HS2.out.trans hk3, hb3⟩
          case measure => simp [intOf]; omega
        · gi_wp2
          refine bodyPost_ret (results_none rfl _ _ _) rfl ?_
          exact ⟨⟨_, rfl⟩, .inr ⟨k, hltk, hJx3⟩⟩
      go_region_held3 (fun w' => w'.cell? ⟨Bb, 0, none⟩ = some (.string b)) (first | exact HC.out _ (by assumption) | exact HC.out _ (below_al (by assumption : Below wr.heap.size wr _) _) | exact HC.out _ (below_drew (below_al hself _)) | exact HC.out _ ((by assumption : Box wr _ _ E.zero).put ⟨x0, x1, x2, x3⟩).below) (first
        | (go_at_call 76; (with_reducible refine Calls.mono (T0.out _) ?_); rintro e w' ⟨rfl, hBn⟩; (first | (have hat := Box.th (by assumption : Box wr _ _ E.zero) hBn; have hbb := hat.below; obtain ⟨c0, c1, c2, c3⟩ := hat.at_.c; have f0 := hat.at_.f 0; have f1 := hat.at_.f 1; have f2 := hat.at_.f 2; have f3 := hat.at_.f 3) | (have hat := (Box.new (by assumption : Below wr.heap.size wr _) E.zero).th hBn; have hbb := hat.below; obtain ⟨c0, c1, c2, c3⟩ := hat.at_.c; have f0 := hat.at_.f 0; have f1 := hat.at_.f 1; have f2 := hat.at_.f 2; have f3 := hat.at_.f 3) | (have hat := (Box.new hself E.zero).drew.th hBn; have hbb := hat.below; obtain ⟨c0, c1, c2, c3⟩ := hat.at_.c; have f0 := hat.at_.f 0; have f1 := hat.at_.f 1; have f2 := hat.at_.f 2; have f3 := hat.at_.f 3) | (have hbb := below_th (by assumption : Below wr.heap.size wr _) hBn)))
        | (go_at_call 76; (with_reducible refine Calls.mono (T1.out _) ?_); rintro e w' ⟨rfl, hBn⟩; (first | (have hat := Box.th (by assumption : Box wr _ _ E.zero) hBn; have hbb := hat.below; obtain ⟨c0, c1, c2, c3⟩ := hat.at_.c; have f0 := hat.at_.f 0; have f1 := hat.at_.f 1; have f2 := hat.at_.f 2; have f3 := hat.at_.f 3) | (have hat := (Box.new (by assumption : Below wr.heap.size wr _) E.zero).th hBn; have hbb := hat.below; obtain ⟨c0, c1, c2, c3⟩ := hat.at_.c; have f0 := hat.at_.f 0; have f1 := hat.at_.f 1; have f2 := hat.at_.f 2; have f3 := hat.at_.f 3) | (have hat := (Box.new hself E.zero).drew.th hBn; have hbb := hat.below; obtain ⟨c0, c1, c2, c3⟩ := hat.at_.c; have f0 := hat.at_.f 0; have f1 := hat.at_.f 1; have f2 := hat.at_.f 2; have f3 := hat.at_.f 3) | (have hbb := below_th (by assumption : Below wr.heap.size wr _) hBn)))
        | (go_at_call 76; (with_reducible refine Calls.mono (T2.out _) ?_); rintro e w' ⟨rfl, hBn⟩; (first | (have hat := Box.th (by assumption : Box wr _ _ E.zero) hBn; have hbb := hat.below; obtain ⟨c0, c1, c2, c3⟩ := hat.at_.c; have f0 := hat.at_.f 0; have f1 := hat.at_.f 1; have f2 := hat.at_.f 2; have f3 := hat.at_.f 3) | (have hat := (Box.new (by assumption : Below wr.heap.size wr _) E.zero).th hBn; have hbb := hat.below; obtain ⟨c0, c1, c2, c3⟩ := hat.at_.c; have f0 := hat.at_.f 0; have f1 := hat.at_.f 1; have f2 := hat.at_.f 2; have f3 := hat.at_.f 3) | (have hat := (Box.new hself E.zero).drew.th hBn; have hbb := hat.below; obtain ⟨c0, c1, c2, c3⟩ := hat.at_.c; have f0 := hat.at_.f 0; have f1 := hat.at_.f 1; have f2 := hat.at_.f 2; have f3 := hat.at_.f 3) | (have hbb := below_th (by assumption : Below wr.heap.size wr _) hBn)))
        | (go_at_call 76; (with_reducible refine Calls.mono (T3.out _) ?_); rintro e w' ⟨rfl, hBn⟩; (first | (have hat := Box.th (by assumption : Box wr _ _ E.zero) hBn; have hbb := hat.below; obtain ⟨c0, c1, c2, c3⟩ := hat.at_.c; have f0 := hat.at_.f 0; have f1 := hat.at_.f 1; have f2 := hat.at_.f 2; have f3 := hat.at_.f 3) | (have hat := (Box.new (by assumption : Below wr.heap.size wr _) E.zero).th hBn; have hbb := hat.below; obtain ⟨c0, c1, c2, c3⟩ := hat.at_.c; have f0 := hat.at_.f 0; have f1 := hat.at_.f 1; have f2 := hat.at_.f 2; have f3 := hat.at_.f 3) | (have hat := (Box.new hself E.zero).drew.th hBn; have hbb := hat.below; obtain ⟨c0, c1, c2, c3⟩ := hat.at_.c; have f0 := hat.at_.f 0; have f1 := hat.at_.f 1; have f2 := hat.at_.f 2; have f3 := hat.at_.f 3) | (have hbb := below_th (by assumption : Below wr.heap.size wr _) hBn))))
      all_goals first
        | exact ⟨rfl, _, (by assumption : Box wr _ _ E.zero).put ⟨x0, x1, x2, x3⟩, rfl⟩
        | exact ⟨rfl, _, Box.new (by assumption : Below wr.heap.size wr _) ⟨x0, x1, x2, x3⟩, rfl⟩
    · obtain rfl : k = 15 := by omega
      gi_wp2
      go_end0
      exact ⟨⟨_, rfl⟩, .inl hJk⟩
end
end Go.Proofs.Ytdniakoedgohkaa.Record
