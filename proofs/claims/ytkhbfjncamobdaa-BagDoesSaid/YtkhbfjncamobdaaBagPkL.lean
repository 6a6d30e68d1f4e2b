/- The levels of a bag's tree. A loop over an iterator that hands out values of its own: what a round is handed is told by the world that it is handed in. The reference's Shaped: it answers true at the rows of counts that a bag's tree has. -/
import Derived.Test.YtkhbfjncamobdaaBagPkA
import Derived.Test.YtkhbfjncamobdaaBagSeq
import Derived.Sort.LoopGhostIn
import Derived.Test.YtkhbfjncamobdaaRow
namespace Go.Proofs.Ytkhbfjncamobdaa
set_option linter.unusedVariables false

namespace T
variable {α : Type}
/-- the nodes of a level, from the left -/
def LV (t : T α) : Nat → List (T α)
  | 0 => [t]
  | k + 1 => (LV t k).flatMap ks

theorem inter_length (bs : List (List (I α))) (is : List (I α)) : (inter bs is).length = (bs.map List.length).sum + is.length := by
  induction bs generalizing is with
  | nil => simp [inter]
  | cons b bs ih =>
    cases is with
    | nil => simp [inter, ih]
    | cons i is => simp [inter, ih]; omega
theorem inord_length (t : T α) : t.inord.length = (t.ks.map fun k => k.inord.length).sum + t.r.items.length := by
  rw [inord_eq, inter_length, List.map_map]
  rfl

theorem lv_ok (d : Nat) (t : T α) (hw : wf d t) (h1 : 1 ≤ t.r.items.length) (h7 : t.r.items.length ≤ 7) (k : Nat) (hk : k ≤ d) : ∀ s, s ∈ LV t k → wf (d - k) s ∧ 1 ≤ s.r.items.length ∧ s.r.items.length ≤ 7 ∧ (0 < k → 3 ≤ s.r.items.length) ∧ ∀ r, r ∈ s.recs → r ∈ t.recs := by
  induction k with
  | zero =>
    intro s hs
    obtain rfl : s = t := by simpa [LV] using hs
    exact ⟨hw, h1, h7, fun h => by omega, fun r h => h⟩
  | succ k ih =>
    intro s hs
    obtain ⟨p, hp, hsp⟩ := List.mem_flatMap.1 hs
    obtain ⟨pw, p1, p7, p3, pr⟩ := ih (by omega) p hp
    rw [show d - k = (d - (k + 1)) + 1 by omega] at pw
    obtain ⟨a, b, c⟩ := pw.2.2.2 s hsp
    exact ⟨a, by omega, c, fun _ => b, fun r hr => pr r (ks_sub hsp r hr)⟩
theorem lv_kids (d : Nat) (t : T α) (hw : wf d t) (h1 : 1 ≤ t.r.items.length) (h7 : t.r.items.length ≤ 7) (k : Nat) (hk : k < d) : ((LV t k).flatMap fun s => s.r.kids) = (LV t (k + 1)).map fun s => s.r.b := by
  have h : ∀ l : List (T α), (∀ s, s ∈ l → s.r.kids = s.ks.map fun k => k.r.b) → (l.flatMap fun s => s.r.kids) = (l.flatMap ks).map fun s => s.r.b := by
    intro l
    induction l with
    | nil => intro _; rfl
    | cons s l ih =>
      intro h
      rw [List.flatMap_cons, List.flatMap_cons, List.map_append, h s (by simp), ih fun s hs => h s (by simp [hs])]
  refine h _ fun s hs => ?_
  have := (lv_ok d t hw h1 h7 k (by omega) s hs).1
  rw [show d - k = (d - (k + 1)) + 1 by omega] at this
  exact this.2.1
theorem lv_sum (t : T α) (k : Nat) : ((LV t k).map fun s => s.inord.length).sum ≤ t.inord.length := by
  induction k with
  | zero => simp [LV]
  | succ k ih =>
    refine Nat.le_trans ?_ ih
    show (((LV t k).flatMap ks).map fun s => s.inord.length).sum ≤ _
    generalize LV t k = l
    induction l with
    | nil => simp
    | cons s l ih =>
      rw [List.flatMap_cons, List.map_append, List.sum_append, List.map_cons, List.sum_cons]
      have := inord_length s
      have h2 : (s.ks.map fun s => s.inord.length).sum ≤ s.inord.length := by omega
      omega
theorem lv_len (d : Nat) (t : T α) (hw : wf d t) (h1 : 1 ≤ t.r.items.length) (h7 : t.r.items.length ≤ 7) (k : Nat) (hk : k ≤ d) : (LV t k).length ≤ t.inord.length := by
  refine Nat.le_trans ?_ (lv_sum t k)
  have h : ∀ s, s ∈ LV t k → 1 ≤ s.inord.length := fun s hs => by
    have := (lv_ok d t hw h1 h7 k hk s hs).2.1
    rw [inord_length]; omega
  revert h
  generalize LV t k = l
  intro h
  induction l with
  | nil => simp
  | cons s l ih =>
    rw [List.length_cons, List.map_cons, List.sum_cons]
    have h1 := h s (by simp)
    have h2 := ih fun s hs => h s (by simp [hs])
    omega
theorem lv_pos (d : Nat) (t : T α) (hw : wf d t) (h1 : 1 ≤ t.r.items.length) (h7 : t.r.items.length ≤ 7) (k : Nat) (hk : k ≤ d) : 0 < (LV t k).length := by
  induction k with
  | zero => simp [LV]
  | succ k ih =>
    obtain ⟨s, l, hl⟩ : ∃ s l, LV t k = s :: l := by
      have := ih (by omega)
      cases h : LV t k with
      | nil => rw [h] at this; simp at this
      | cons s l => exact ⟨s, l, rfl⟩
    obtain ⟨sw, s1, _⟩ := lv_ok d t hw h1 h7 k (by omega) s (by rw [hl]; simp)
    rw [show d - k = (d - (k + 1)) + 1 by omega] at sw
    show 0 < ((LV t k).flatMap ks).length
    rw [hl, List.flatMap_cons, List.length_append, sw.2.2.1]
    omega
end T
end Go.Proofs.Ytkhbfjncamobdaa

namespace Go.Proofs.Ytkhbfjncamobdaa
open Go.RowKit
set_option linter.unusedVariables false

/-- an iterator that calls yield N times at most, the k-th time with what 'E k' tells -/
def SeqRows (F : Fence) (n : Nat) (P : Program) (g : Nat) (lb : Array Value) (E : Nat → Array Value → World → Prop) (Kp : World → World → Prop) (N : Nat) (w : World) : Prop :=
  ∀ (l : Nat) (J Jx : Nat → World → Prop) (W : World), Below w.heap.size w W → Kp w W → AbidesFrom W.heap.size J → AbidesFrom W.heap.size Jx →
    (∀ k args W1, J k W1 → k < N → E k args W1 → YieldAt F (n - 1) P l args W1 fun e W' =>
      (e = .returned (.bool true) ∧ J (k + 1) W' ∧ Kp W1 W') ∨ (e = .returned (.bool false) ∧ Jx k W')) →
    J 0 W →
    CallsIn F n P g (#[.func (.yield l) #[] #[]] ++ lb) W fun e W' => (∃ v, e = .returned v) ∧ (J N W' ∨ ∃ k, k < N ∧ Jx k W')

variable {F : Fence} {n : Nat} {P : Program} {w : World}

theorem wpIn_rangeFunc_rows {g : Operand} {ps : Array Tmp} {assign body : Code} {Q : Exit → Act → World → Prop} {a : Act}
    (hro : F.round = none) (h1 : 1 ≤ n) {gf : Nat} {lb : Array Value} (hg : a.eval g = .func (.func gf) #[] lb) (hFg : F.fn gf) (eg : ∀ args w, (callFunc gf args).run P w = .ok (.enter gf args) w)
    {E : Nat → Array Value → World → Prop} {Kp : World → World → Prop} {N : Nat} {w0 : World} (hseq : SeqRows F (n - 1) P gf lb E Kp N w0)
    (hKt : ∀ {A B C : World}, Kp A B → Kp B C → Kp A C) (hKb : ∀ (W : World) (l : Nat) (o o' : Obj), w.heap.size ≤ l → W.heap[l]? = some o → o.isCells = false → o.isWalk = false → Kp W (W.putObj l o')) (hb0 : Below w0.heap.size w0 w) (hKw : ∀ Wl : World, Below w.heap.size w Wl → Kp w0 Wl) (hps : ∀ k args W, E k args W → args.size = ps.size)
    (I : Nat → World → Prop) (Ix : Code → Nat → World → Prop) (hI : OwnFrom w.heap.size I) (hIx : ∀ c, OwnFrom w.heap.size (Ix c)) (h0 : I 0 w) (Ax : Nat → Act → World → Prop) (hAx : ∀ k a', OwnFrom w.heap.size (fun (_ : Unit) W => Ax k a' W))
    (hassign : ∀ (l k : Nat) (args : Array Value) (W : World) (K : Act → World → Prop), I k W → k < N → E k args W → (∀ a' W', KeepsFrom w.heap.size W W' → Kp W W' → I k W' → Ax k a' W' → K a' W') →
      assign.wpIn (F.inRound l) (n - 1 - 1) P (Exit.then K (fun _ _ _ => False)) { tmps := (ps.zip args).foldl (fun t (p, v) => t.setIfInBounds p v) a.tmps, defers := [] } W)
    (hbody : ∀ (l k : Nat) (a' : Act) (W : World), w.heap.size ≤ l → (∃ r, W.heap[l]? = some (.loop r)) → I k W → Ax k a' W → k < N → body.wpIn (F.inRound l) (n - 1 - 1) P (stepPost w.heap.size Kp (I (k + 1)) (fun c => Ix c k) W) a' W)
    (hdone : ∀ (D : Nat) (W : World), w.heap.size ≤ D → I N W → W.heap[D]? = some (.deferred (some [])) → Q .normal { a with defers := { target := .collected D, args := #[] } :: a.defers } W)
    (hstop : ∀ (D : Nat) (c : Code) (k : Nat) (W : World), w.heap.size ≤ D → k < N → Ix c k W → W.heap[D]? = some (.deferred (some [])) → c.wpIn F n P Q { a with defers := { target := .collected D, args := #[] } :: a.defers } W) :
    (Code.rangeFunc g ps assign body).wpIn F n P Q a w := by
  refine wpIn_rangeFunc ?_
  intro fn hfn
  rw [hro]
  -- the loop's record, whatever its state and its pending jump
  obtain ⟨rec, hrec⟩ : ∃ rec : LoopState → Option Code → Loop, rec = fun st pe => { state := st, pending := pe, fn, tmps := a.tmps, params := ps, assign, body, defers := w.heap.size } := ⟨_, rfl⟩
  obtain ⟨Wl, hWl⟩ : ∃ Wl, (w.alloc (.deferred (some []))).alloc (.loop (rec .ready none)) = Wl := ⟨_, rfl⟩
  have hloop : Wl.heap[w.heap.size + 1]? = some (.loop (rec .ready none)) := by
    rw [← hWl]; have := World.alloc_heap_new (w.alloc (.deferred (some []))) (.loop (rec .ready none)); rwa [World.size_alloc] at this
  have hdef : Wl.heap[w.heap.size]? = some (.deferred (some [])) := by
    rw [← hWl]; exact (Below.heap_alloc _ _ _ (by simp)).trans (World.alloc_heap_new w _)
  have hI1 : I 0 Wl := by rw [← hWl]; exact hI.alloc _ (hI.alloc _ h0)
  have hbl : Below w0.heap.size w0 Wl := by
    rw [← hWl]; exact hb0.trans ((((Below.refl _ w).alloc (Nat.le_refl _) _).alloc (by simp) _).mono hb0.size)
  have hsz : Wl.heap.size = w.heap.size + 2 := by rw [← hWl]; simp
  refine ⟨w.heap.size + 1, [{ target := .collected w.heap.size, args := #[] }], Wl, { target := .fn (.func gf) lb, args := #[.func (.yield (w.heap.size + 1)) #[] #[]] }, Wl, gf,
    #[.func (.yield (w.heap.size + 1)) #[] #[]] ++ lb, Wl, ?_, ?_, ?_, ?_, fun _ => h1, ?_⟩
  · rw [← hWl, hrec]; exact run_enterLoop_outer _ _ _ _ _
  · simp only [resolve, hg]
    simp [go_sem]
  · intro f' hf'; simp [Target.leads] at hf'; subst hf'; exact hFg
  · simp [invoke, go_sem, eg]
  · have hwalk : ∀ {A : World} {row : Option Nat}, (∀ r, row = some r → Wl.heap.size ≤ r ∧ ∃ o : Obj, A.heap[r]? = some o ∧ o.isWalk = true) → (∀ r, row = some r → w.heap.size ≤ r ∧ ∃ o : Obj, A.heap[r]? = some o ∧ o.isCells = false) :=
      fun hr r e => by obtain ⟨hB, o, ho, hw⟩ := hr r e; exact ⟨by omega, o, ho, Obj.not_cells_of_walk hw⟩
    refine (hseq (w.heap.size + 1)
      (fun k W => I k W ∧ W.heap[w.heap.size + 1]? = some (.loop (rec .ready none)) ∧ W.heap[w.heap.size]? = some (.deferred (some [])))
      (fun k W => ∃ c, Ix c k W ∧ W.heap[w.heap.size + 1]? = some (.loop (rec .done (some c))) ∧ W.heap[w.heap.size]? = some (.deferred (some [])))
      Wl hbl (hKw Wl (by rw [← hWl]; exact ((Below.refl _ w).alloc (Nat.le_refl _) _).alloc (by simp) _))
      (fun s A B row hs hg' hr => ⟨hI s A B row hs.1 hg' (hwalk hr), (grownBy_keeps hg' (fun r e => (hr r e).2) hs.2.1 rfl).trans hs.2.1, (grownBy_keeps hg' (fun r e => (hr r e).2) hs.2.2 rfl).trans hs.2.2⟩)
      (fun s A B row hs hg' hr => by
        obtain ⟨c, hc, hl, hk⟩ := hs
        exact ⟨c, hIx c s A B row hc hg' (hwalk hr), (grownBy_keeps hg' (fun r e => (hr r e).2) hl rfl).trans hl, (grownBy_keeps hg' (fun r e => (hr r e).2) hk rfl).trans hk⟩)
      ?_ ⟨hI1, hloop, hdef⟩).mono ?_
    · rintro k args W ⟨hi, hl, hk⟩ hlen hE
      have hy := run_yield (P := P) (args := args) hl (by rw [hrec]; exact hps k args W hE)
      rw [hrec] at hy
      refine ⟨fn, _, assign, body, hy, roundIn_of_wpIn hfn (hassign _ k args W _ hi hlen hE ?_)⟩
      clear hy
      intro a' Wa hkfa hkpa hia hax
      have hla := hkfa.same _ _ (by omega) hl rfl
      have hka := hkfa.same _ _ (Nat.le_refl _) hk rfl
      have hlt : w.heap.size + 1 < Wa.heap.size := (Array.getElem?_eq_some_iff.1 hla).1
      refine ⟨_, run_beginRound hla (by rw [hrec]), ?_⟩
      have hl2 : (Wa.putObj (w.heap.size + 1) (.loop { rec .ready none with state := .busy })).heap[w.heap.size + 1]? = some (.loop { rec .ready none with state := .busy }) := World.putObj_heap_same hlt
      have hk2 : (Wa.putObj (w.heap.size + 1) (.loop { rec .ready none with state := .busy })).heap[w.heap.size]? = some (.deferred (some [])) := (World.putObj_heap_other (by omega)).trans hka
      have hw2 : Kp Wa (Wa.putObj (w.heap.size + 1) (.loop { rec .ready none with state := .busy })) := hKb _ _ _ _ (by omega) hla rfl rfl
      refine wpIn_mono (hbody _ k a' _ (by omega) ⟨_, hl2⟩ (hI.putObj _ hia (by omega) hla rfl) ((hAx k a').putObj (s := ()) _ hax (by omega) hla rfl) hlen) ?_
      have fin : ∀ (jump : Option Code) (W3 : World), KeepsFrom w.heap.size (Wa.putObj (w.heap.size + 1) (.loop { rec .ready none with state := .busy })) W3 →
          (Instr.endRound (w.heap.size + 1) jump).run P W3 = .ok (.bool jump.isNone) (W3.putObj (w.heap.size + 1) (.loop (rec (if jump.isNone then .ready else .done) jump))) ∧
          W3.heap[w.heap.size + 1]? = some (.loop { rec .ready none with state := .busy }) ∧
          (W3.putObj (w.heap.size + 1) (.loop (rec (if jump.isNone then .ready else .done) jump))).heap[w.heap.size + 1]? = some (.loop (rec (if jump.isNone then .ready else .done) jump)) ∧
          (W3.putObj (w.heap.size + 1) (.loop (rec (if jump.isNone then .ready else .done) jump))).heap[w.heap.size]? = some (.deferred (some [])) := fun jump W3 hk3 => by
        have hl3 := hk3.same _ _ (by omega) hl2 rfl
        have := run_endRound (P := P) jump hl3
        rw [hrec] at this ⊢
        exact ⟨this, by rw [hrec] at hl3; exact hl3, World.putObj_heap_same (Array.getElem?_eq_some_iff.1 hl3).1, (World.putObj_heap_other (by omega)).trans (hk3.same _ _ (Nat.le_refl _) hk2 rfl)⟩
      have out : ∀ (c : Code) (W3 : World), KeepsFrom w.heap.size (Wa.putObj (w.heap.size + 1) (.loop { rec .ready none with state := .busy })) W3 → Ix c k W3 →
          (Instr.endRound (w.heap.size + 1) (some c)).run P W3 = .ok (.bool false) (W3.putObj (w.heap.size + 1) (.loop (rec .done (some c)))) ∧
          ∃ c', Ix c' k (W3.putObj (w.heap.size + 1) (.loop (rec .done (some c)))) ∧ (W3.putObj (w.heap.size + 1) (.loop (rec .done (some c)))).heap[w.heap.size + 1]? = some (.loop (rec .done (some c'))) ∧
            (W3.putObj (w.heap.size + 1) (.loop (rec .done (some c)))).heap[w.heap.size]? = some (.deferred (some [])) := fun c W3 hk3 hi3 => by
        obtain ⟨hr, hl3, hl4, hk4⟩ := fin (some c) W3 hk3
        exact ⟨hr, c, (hIx _).putObj _ hi3 (by omega) hl3 rfl, hl4, hk4⟩
      rintro e a3 W3 hp
      cases e with
      | normal =>
        obtain ⟨hk3, hkp3, hi3⟩ := hp
        obtain ⟨hr, hl3, hl4, hk4⟩ := fin none W3 hk3
        exact ⟨_, _, hr, .inl ⟨rfl, ⟨hI.putObj _ hi3 (by omega) hl3 rfl, hl4, hk4⟩, hKt hkpa (hKt (hKt hw2 hkp3) (hKb _ _ _ _ (by omega) hl3 rfl rfl))⟩⟩
      | ret => obtain ⟨hr, h4⟩ := out .ret W3 hp.1 hp.2; exact ⟨_, _, hr, .inr ⟨rfl, h4⟩⟩
      | exit i => obtain ⟨hr, h4⟩ := out (.exit i) W3 hp.1 hp.2; exact ⟨_, _, hr, .inr ⟨rfl, h4⟩⟩
      | goto t => obtain ⟨hr, h4⟩ := out (.goto t) W3 hp.1 hp.2; exact ⟨_, _, hr, .inr ⟨rfl, h4⟩⟩
      | panic ch => exact hp.elim
      | outgrown => exact hp.elim
    · rintro e W2 ⟨⟨v, rfl⟩, (⟨hi, hl, hk⟩ | ⟨k, hkN, c, hi, hl, hk⟩)⟩
      · exact ⟨none, _, by have := run_endLoop (P := P) hl (by rw [hrec]; simp); rw [hrec] at this; exact this, hdone _ _ (Nat.le_refl _) (hI.putObj _ hi (by omega) hl rfl) ((World.putObj_heap_other (by omega)).trans hk)⟩
      · exact ⟨some c, _, by have := run_endLoop (P := P) hl (by rw [hrec]; simp); rw [hrec] at this; exact this, hstop _ c k _ (Nat.le_refl _) hkN ((hIx c).putObj _ hi (by omega) hl rfl) ((World.putObj_heap_other (by omega)).trans hk)⟩

end Go.Proofs.Ytkhbfjncamobdaa

namespace Go.Proofs.Ytkhbfjncamobdaa
open Go.RowKit
set_option linter.unusedVariables false

def cntL (c : List Nat) : List Value := c.map fun (x : Nat) => .int .i64 (x : Int)
/-- rows of counts, as they lie -/
def RowsOf (W : World) (v : Value) (cs : List (List Nat)) : Prop := ∃ rs : List Value, Lies W v cs.length 1 rs ∧ ∀ (j : Nat) (c : List Nat), cs[j]? = some c → ∃ (ap : Option Addr) (cap : Nat), rs[j]? = some (Value.slice ap c.length cap) ∧ Lies W (Value.slice ap c.length cap) c.length 1 (cntL c)
/-- a balanced tree's counts, level by level -/
structure ShapeOk (cs : List (List Nat)) (n : Nat) : Prop where
  top : ∀ c, cs[0]? = some c → c.length = 1
  next : ∀ j c c', cs[j]? = some c → cs[j + 1]? = some c' → c'.length = (c.map fun x => x + 1).sum
  fit : ∀ j c x, cs[j]? = some c → x ∈ c → 1 ≤ x ∧ x ≤ 7 ∧ (0 < j → 3 ≤ x)
  sum : (cs.map List.sum).sum = n
  pos : cs ≠ [] → 0 < n

theorem sum_take_le (c : List Nat) (k : Nat) : (c.take k).sum ≤ c.sum := by
  have : (c.take k).sum + (c.drop k).sum = c.sum := by rw [← List.sum_append, List.take_append_drop]
  omega
theorem sum_take_one (c : List Nat) (k x : Nat) (h : c[k]? = some x) : (c.take (k + 1)).sum = (c.take k).sum + x := by
  rw [List.take_add_one, h, List.sum_append]
  simp
theorem len_le_sum (c : List Nat) (h : ∀ x, x ∈ c → 1 ≤ x) : c.length ≤ c.sum := by
  induction c with
  | nil => simp
  | cons x c ih =>
    have h1 := h x (by simp)
    have h2 := ih fun y hy => h y (by simp [hy])
    simp only [List.length_cons, List.sum_cons]
    omega
theorem sum_add_one (c : List Nat) : (c.map fun x => x + 1).sum = c.sum + c.length := by
  induction c with
  | nil => rfl
  | cons x c ih => simp only [List.map_cons, List.sum_cons, List.length_cons, ih]; omega
theorem sum_row_le (cs : List (List Nat)) (j : Nat) (c : List Nat) (h : cs[j]? = some c) : ((cs.take j).map List.sum).sum + c.sum ≤ (cs.map List.sum).sum := by
  have h1 := sum_take_le (cs.map List.sum) (j + 1)
  rw [← List.map_take] at h1
  have h2 := sum_take_one (cs.map List.sum) j c.sum (by rw [List.getElem?_map, h]; rfl)
  rw [← List.map_take, ← List.map_take] at h2
  omega

set_option maxRecDepth 100000 in
set_option maxHeartbeats 4000000 in
theorem shaped_true (v : Value) (cs : List (List Nat)) (n : Nat) (w : World) (hR : RowsOf w v cs) (hS : ShapeOk cs n) (hn : n ≤ 1000) :
    Calls Try.prog 8 #[v, .int .i64 (n : Int)] w fun e w' => e = .returned (.bool true) ∧ Below w.heap.size w w' := by
  obtain ⟨rs, hl, hrs⟩ := hR
  obtain ⟨a, c, rfl, H, hnc, hm⟩ := hl.parts
  obtain ⟨N, hN⟩ : ∃ N, cs.length = N := ⟨_, rfl⟩
  rw [hN] at H hnc ⊢
  have HRS := Lib.hid hrs
  have HS := Lib.hid hS
  clear hrs hl hS
  by_cases h0 : N = 0
  · obtain rfl : n = 0 := by
      have := HS.out.sum
      rw [List.length_eq_zero_iff.1 (hN.trans h0)] at this
      simpa using this.symm
    subst h0
    go_enter Try.func8, Try.ntmps8
    go_wp2
    go_ret
    exact ⟨rfl, Below.refl _ _⟩
  · have hN0 : ¬ (N : Int) = 0 := by omega
    have hN1 : ((N : Int) == 0) = false := by simp; omega
    go_enter Try.func8, Try.ntmps8
    go_wp2
    have hcl : ∀ (j : Nat) (c : List Nat), cs[j]? = some c → c.length ≤ c.sum ∧ ((cs.take j).map List.sum).sum + c.sum ≤ n := fun j c h => ⟨len_le_sum c fun x hx => (HS.out.fit j c x h hx).1, by have := sum_row_le cs j c h; rw [HS.out.sum] at this; exact this⟩
    have HCL := Lib.hid hcl
    have hN1000 : N ≤ 1000 := by
      have h1 := len_le_sum (cs.map List.sum) (fun x hx => by
        obtain ⟨c, hc, rfl⟩ := List.mem_map.1 hx
        obtain ⟨j, hj, e⟩ := List.getElem_of_mem hc
        have hcj : cs[j]? = some c := by rw [List.getElem?_eq_getElem hj, e]
        have hl := (hcl j c hcj).1
        have hpos : 0 < c.length := by
          cases j with
          | zero => have := HS.out.top c hcj; omega
          | succ j =>
            obtain ⟨c0, hc0⟩ : ∃ c0, cs[j]? = some c0 := ⟨_, List.getElem?_eq_getElem (by omega)⟩
            rw [HS.out.next j c0 c hc0 hcj, sum_add_one]
            have h2 : ∀ (j : Nat) (c : List Nat), cs[j]? = some c → 0 < c.length := by
              intro j
              induction j with
              | zero => intro c h; have := HS.out.top c h; omega
              | succ j ih =>
                intro c h
                obtain ⟨c0, hc0⟩ : ∃ c0, cs[j]? = some c0 := ⟨_, List.getElem?_eq_getElem (by have := (List.getElem?_eq_some_iff.1 h).1; omega)⟩
                rw [HS.out.next j c0 c hc0 h, sum_add_one]
                have := ih c0 hc0
                omega
            have := h2 j c0 hc0
            omega
        omega)
      rw [HS.out.sum, List.length_map] at h1
      omega
    clear hcl
    go_loopw [5, 6, 7] (fun b s i wr => ∃ (j B S : Nat), j ≤ N ∧ b = .int .i64 (B : Int) ∧ s = .int .i64 (S : Int) ∧ i = .int .i64 (j : Int) ∧ Hid (∀ c : List Nat, cs[j]? = some c → c.length = B) ∧ Hid (S = ((cs.take j).map List.sum).sum) ∧ Below w.heap.size w wr) (fun _ _ i _ => N - (intOf i).toNat)
    case atStart => exact ⟨0, 1, 0, Nat.zero_le _, rfl, rfl, rfl, fun c hc => HS.out.top c hc, rfl, Below.refl _ _⟩
    case round =>
      obtain ⟨j, B, S, hj, rfl, rfl, rfl, hlen, hsum, hB⟩ := hrel
      by_cases hlt : j < N
      · obtain ⟨c, hc⟩ : ∃ c, cs[j]? = some c := ⟨cs[j]'(by omega), by simp⟩
        obtain ⟨ap, cap, hrj, hrl⟩ := HRS.out j c hc
        obtain ⟨b, off, rfl, hcell⟩ := (H.out.below hB).read (j := j) hrj
        have hcB := hlen.out c hc
        obtain ⟨hcl1, hcl2⟩ := HCL.out j c hc
        rw [← hsum.out] at hcl2
        have HFIT := Lib.hid (fun x hx => HS.out.fit j c x hc hx)
        have HC := Lib.hid hc
        have HRL : Hid (∀ W, Below w.heap.size w W → Lies W (.slice ap c.length cap) c.length 1 (cntL c)) := fun W h => hrl.below h
        have HCE : Hid (∀ W, Below wr.heap.size wr W → W.cell? ⟨b, off + j, none⟩ = some (.slice ap c.length cap)) := fun W h => (World.cell?_of_block (h.block b (World.block_lt_of_cell? _ _ hcell))).trans hcell
        obtain ⟨Lc, hLc⟩ : ∃ Lc, c.length = Lc := ⟨_, rfl⟩
        rw [hLc] at hcB hcl1 hcell hrl
        simp only [hLc] at HCE HRL
        obtain rfl : Lc = B := hcB
        have HLC := Lib.hid hLc
        clear hc hrj hrl hlen hLc
        go_wp2
        go_loopw [5, 6, 8] (fun b s i wx => ∃ (k B S' : Nat), k ≤ Lc ∧ b = .int .i64 (B : Int) ∧ s = .int .i64 (S' : Int) ∧ i = .int .i64 (k : Int) ∧ Hid (B = (c.take k).sum + k) ∧ Hid (S' = S + (c.take k).sum) ∧ Below wr.heap.size wr wx) (fun _ _ i _ => Lc - (intOf i).toNat)
        case atStart => exact ⟨0, 0, S, Nat.zero_le _, rfl, rfl, rfl, rfl, rfl, Below.refl _ _⟩
        case round =>
          obtain ⟨k, B2, S2, hk, rfl, rfl, rfl, hB2, hS2, hBx⟩ := hrel
          have hcx := HCE.out _ hBx
          have htl := sum_take_le c k
          have e1 := hB2.out
          have e2 := hS2.out
          have b1 : B2 ≤ 2000 := by omega
          have b2 : S2 ≤ 1000 := by omega
          clear htl e1 e2
          by_cases hlk : k < Lc
          · obtain ⟨x, hx⟩ : ∃ x, c[k]? = some x := ⟨c[k]'(by rw [HLC.out]; exact hlk), by simp⟩
            obtain ⟨x1, x7, x3⟩ := HFIT.out x (List.mem_of_getElem? hx)
            obtain ⟨b', off', rfl, hcy⟩ := (HRL.out _ (below_th hB hBx)).read (j := k) (u := .int .i64 (x : Int)) (by unfold cntL; rw [List.getElem?_map, hx]; rfl)
            have htk := sum_take_one c k x hx
            have HTK := Lib.hid htk
            clear htk hx
            have hx7 : decide ((7 : Int) < (x : Int)) = false := decide_eq_false (by omega)
            have hx1 : decide ((x : Int) < 1) = false := decide_eq_false (by omega)
            have hB3 : Hid (B2 + x + 1 = (c.take (k + 1)).sum + (k + 1)) := by
              unfold Hid
              rw [HTK.out, hB2.out]; omega
            have hS3 : Hid (S2 + x = S + (c.take (k + 1)).sum) := by
              unfold Hid
              rw [HTK.out, hS2.out]; omega
            go_wp2
            all_goals first
              | exact ⟨⟨k + 1, B2 + x + 1, S2 + x, by omega, by go_num, by go_num, by go_num, hB3, hS3, hBx⟩, by simp [intOf]; omega⟩
              | (exfalso; have := x3 (by assumption); omega)
          · obtain rfl : k = Lc := by omega
            have hfull : c.take k = c := List.take_of_length_le (by rw [HLC.out]; exact Nat.le_refl _)
            have hB3 : Hid (∀ c' : List Nat, cs[j + 1]? = some c' → c'.length = B2) := fun c' hc' => by
              rw [HS.out.next j c c' HC.out hc', sum_add_one, hB2.out, hfull, HLC.out]
            have hS3 : Hid (S2 = ((cs.take (j + 1)).map List.sum).sum) := by
              have h2 := sum_take_one (cs.map List.sum) j c.sum (by rw [List.getElem?_map, HC.out]; rfl)
              rw [← List.map_take, ← List.map_take] at h2
              unfold Hid
              rw [h2, hS2.out, hsum.out, hfull]
            have hBy := below_th hB hBx
            clear hfull
            go_wp2
            exact ⟨⟨j + 1, B2, S2, by omega, rfl, rfl, by go_num, hB3, hS3, hBy⟩, by simp [intOf]; omega⟩
      · obtain rfl : j = N := by omega
        have hSn : S = n := by rw [hsum.out, List.take_of_length_le (by omega), HS.out.sum]
        have hpos : 0 < n := HS.out.pos (fun e => h0 (by rw [← hN, e]; rfl))
        subst hSn
        go_wp2
        go_ret
        exact ⟨rfl, hB⟩
end Go.Proofs.Ytkhbfjncamobdaa
