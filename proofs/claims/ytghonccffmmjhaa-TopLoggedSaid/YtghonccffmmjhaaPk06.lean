/- Several texts in one, each under its own heading. -/
import Derived.StillTail
import Derived.StillTailTactics
import Derived.OrdersIn
import Derived.RangeFuncCalls
import Derived.Test.YtghonccffmmjhaaPk01
import Derived.Test.YtghonccffmmjhaaPk05
/- A region that draws its order, in a loop's body over an iterator (a fence with a round): what a plain walk of the region shows holds there too; so the law of the quiet beginning serves. -/
namespace Go.Proofs.Ytghonccffmmjhaa
set_option linter.unusedVariables false

section
variable {P : Program} {ops : Array Oper} {Q : Exit → Act → World → Prop} {md : Region.Mode}

def noDefer (ops : Array Oper) : Bool := ops.all fun o => match o.op with | .defer _ => false | _ => true
theorem noDefer_at {i : Nat} {o : Oper} (h : noDefer ops = true) (hi : ops[i]? = some o) : ∀ c, o.op ≠ .defer c := by
  intro c hc
  have := (Array.all_eq_true.1 h) i (Array.getElem?_eq_some_iff.1 hi).1
  obtain ⟨hl, he⟩ := Array.getElem?_eq_some_iff.1 hi
  rw [he] at this
  simp [hc] at this

theorem upIn_of_up {l n : Nat} {o : Oper} {a : Act} {K : Act → World → Prop} {r : Result Next} (h : o.upon P a K Q r) : o.uponIn (Fence.wide.inRound l) n P a K Q r := by
  cases r with
  | ok x w' =>
    cases x <;> simp only [Oper.upon] at h <;> try exact h
    · exact ⟨fun hd => absurd hd (by simp [Fence.wide]), CallsIn.inRound l (callsIn_wide.2 h)⟩
    · refine ⟨fun hd => absurd hd (by simp [Fence.wide]), fun c cs _ => ?_⟩
      obtain ⟨v, w'', r, s⟩ := h c cs
      exact ⟨v, w'', r, stepsIn_wide.2 s⟩
  | halt x w' => cases x <;> simp only [Oper.upon] at h <;> exact h

theorem opIn_of_op {l n i : Nat} {K : Act → World → Prop} {a : Act} {w : World} (hd : noDefer ops = true) (hQ : ¬ LetsOut Q) (h : wpOp P ops Q i K a w) : wpOpIn (Fence.wide.inRound l) n P ops Q i K a w := by
  unfold wpOp at h
  unfold wpOpIn
  cases hi : ops[i]? with
  | none => simp only [hi] at h ⊢; exact h
  | some o =>
    simp only [hi] at h ⊢
    split
    · rename_i hw
      simp only [hw, if_true] at h
      rcases h with h | h
      · exact ⟨fun _ _ => trivial, by rw [Oper.semAt_eq _ _ _ (noDefer_at hd hi)]; exact upIn_of_up h⟩
      · exact absurd h.2 hQ
    · rename_i hw
      simp only [hw] at h
      exact ⟨fun _ _ => trivial, h⟩
theorem anyIn_of_any {l n : Nat} (hd : noDefer ops = true) (hQ : ¬ LetsOut Q) : ∀ (fuel : Nat) (listed : Array Bool) (a : Act) (w : World), wpAny P md ops Q fuel listed a w → wpAnyIn (Fence.wide.inRound l) n P md ops Q fuel listed a w
  | 0, _, _, _, h => h
  | fuel + 1, _, _, _, h => ⟨h.1, fun i hi => wpOpIn_mono (fun _ _ hh => anyIn_of_any hd hQ fuel _ _ _ hh) (opIn_of_op hd hQ (h.2 i hi))⟩

theorem wpIn_round_still_tail {l0 nF : Nat} {id : Nat} {a : Act} {w : World} {l : List Oper} (n : Nat) (hm : P.follows .mixedOrders = true) (hB : Region.lexTailB .any l.toArray n = true) (hd : noDefer l.toArray = true) (hQ : ¬ LetsOut Q)
    (h : wpStill P l.toArray w.drew (fun a' => wpList P l.toArray Q (l.drop n) a' w.drew) (l.take n) a) : (Code.region id l.toArray true).wpIn (Fence.wide.inRound l0) nF P Q a w := by
  simp only [Region.lexTailB, Bool.and_eq_true, decide_eq_true_eq] at hB
  obtain ⟨⟨⟨⟨hsel, hn⟩, hs⟩, hc⟩, hlex⟩ := hB
  have hn' : n < l.length := by simpa using hn
  have htl : (l.take n).length = n := by simp; omega
  have hdl : (l.drop n).length = l.toArray.size - n := by simp
  have inv0 : HeadInv .any l.toArray n (Array.replicate l.toArray.size false) :=
    ⟨by simp, fun j oj _ hl => (by rw [getD_replicate_false] at hl; cases hl), fun t _ ht => getD_in (by simpa using ht) (getD_replicate_false _ _)⟩
  have H := wpAnyL_lex (md := .any) (g := l.toArray.size - n) hsel hs hc hn (l.take n) 0 _ a (fun j hj => by
    have hj' : j < n := by rw [htl] at hj; exact hj
    simp [hj']) (by simpa using htl) inv0 (by rw [htl]; exact hlex) h
  refine wpIn_region_any hm (anyIn_of_any hd hQ _ _ _ _ ?_)
  have := wpAny_of_head (Q' := Q) (g := l.toArray.size - n) (fun listed a' hL => by
    have := wpAny_of_seq (md := .any) (Q' := Q) (l.drop n) n listed a' w.drew (fun j => by simp [List.getElem?_drop]) (by rw [hdl]; exact hL.1) hL.2
    rwa [hdl] at this) _ _ _ H
  rw [htl, show n + (l.toArray.size - n) = l.toArray.size by omega] at this
  exact this
end
end Go.Proofs.Ytghonccffmmjhaa
/- The disk's Flush: behind it no write is loose, and the blocks of the flush are those that are read. -/
namespace Go.Proofs.Ytghonccffmmjhaa.Disk
open Go.RowKit Go.Shelf
attribute [local go_sem] Oper.semAt_some
set_option linter.unusedVariables false

section
variable {p : Nat} {F : Nat → Prop} {d : D} {w : World}
set_option maxRecDepth 100000
theorem flush_off (h : IsDisk w p F d) (ho : d.off) : Calls Try.prog 46 #[.pointer (some ⟨p, 0, none⟩)] w fun e w' => e = .returned (.int .i64 43) ∧ Below w.heap.size w w' := by
  obtain ⟨a, b, v, hA, hF⟩ := h.mem
  have hB := (Below.refl w.heap.size w).alloc (Nat.le_refl _) (.cells #[.pointer (some ⟨p, 0, none⟩)] 27)
  have hc := isNone_not p a b v d _ (hA.below hB) h.ok.lo h.ok.hi
  have hx := isOff_yes p a b v d _ (hA.below hB) ho
  clear ho
  go_enter Try.func46, Try.ntmps46
  go_wp2_with (first | (go_at_call 38; refine hc.mono ?_; rintro e w' ⟨rfl, rfl⟩) | (go_at_call 64; refine hx.mono ?_; rintro e w' ⟨rfl, nd, rfl⟩))
  go_ret
  exact ⟨rfl, below_drewN hB _⟩

/-- what the loop has done: k writes laid -/
def FlushI (W0 : World) (a : Nat) (B : List ByteArray) (L : List Wr) (k : Nat) (W : World) : Prop := Only (fun i => i = a) W0 W ∧ Row W a 9 (strs (settle B (L.take k)))
theorem flushI_own {W0 : World} {a : Nat} {B : List ByteArray} {L : List Wr} : OwnFrom W0.heap.size (FlushI W0 a B L) := fun k W W' row hI hg hr =>
  ⟨hI.1.grown hg (fun r e => .inl (hr r e).1), kept_cells hI.2 hg hr⟩
def FlushA (W0 : World) (L : List Wr) (p bx : Nat) (k : Nat) (a' : Act) (W : World) : Prop :=
  ∃ Bx x, L[k]? = some x ∧ W0.heap.size ≤ Bx ∧ W.heap[Bx]? = some (.cells #[.int .i64 (x.1 : Int), .string x.2] 98 (0, 0)) ∧ a' = { tmps := #[.pointer (some ⟨p, 0, none⟩), .pointer (some ⟨bx, 0, none⟩), .int .i64 0, undef, .pointer (some ⟨Bx, 0, none⟩), .pointer (some ⟨p, 0, none⟩), .bool false, .pointer (some ⟨p, 0, none⟩), .bool false, .pointer (some ⟨p, 0, none⟩), .func (.func 67) #[] #[.pointer (some ⟨bx + 1, 0, none⟩)], .int .i64 (k : Int), .agg #[.int .i64 (x.1 : Int), .string x.2], undef, undef, undef, undef, undef, undef, undef, undef, undef, undef, undef, undef, undef, undef, undef, undef, undef, undef, undef], defers := [] }
theorem flushA_own {W0 : World} {L : List Wr} {p bx B : Nat} (k : Nat) (a' : Act) : OwnFrom B (fun (_ : Unit) W => FlushA W0 L p bx k a' W) := fun _ W W' row hI hg hr => by
  obtain ⟨Bx, x, h1, h2, h3, h4⟩ := hI
  exact ⟨Bx, x, h1, h2, kept_cells h3 hg hr, h4⟩

def FlushPost (p : Nat) (F : Nat → Prop) (d : D) (w : World) (e : Ending) (w' : World) : Prop := e = .returned (.int .i64 0) ∧ Left p F d.flushed w w'
set_option maxHeartbeats 2000000 in
theorem flush_in (h : IsDisk w p F d) (ho : ¬ d.off) (hops : d.ops ≤ 1099511627776) : CallsIn Fence.wide 9 Try.prog 46 #[.pointer (some ⟨p, 0, none⟩)] w (FlushPost p F d w) := by
  obtain ⟨a, b, v, hA, hF⟩ := h.mem
  have hfn : ∀ f, Fence.wide.fn f := fun _ => trivial
  have hB := (Below.refl w.heap.size w).alloc (Nat.le_refl _) (.cells #[.pointer (some ⟨p, 0, none⟩)] 27)
  have hc := isNone_not p a b v d _ (hA.below hB) h.ok.lo h.ok.hi
  have hx := isOff_no p a b v d _ (hA.below hB) ho
  have hfew := h.ok.few
  clear ho
  refine callsIn_of_wp_marks Try.func46 rfl trivial ?_ rfl
  simp only [Try.ntmps46, List.size_toArray, List.length_cons, List.length_nil, Nat.reduceAdd, Nat.reduceSub, Array.replicate_succ, Array.replicate_zero, List.push_toArray, List.append_toArray, List.nil_append, List.cons_append]
  gi_wp2_with (first
    | (gi_at_call 38; refine (callsIn_wide.2 hc).mono ?_; rintro e w' ⟨rfl, rfl⟩)
    | (gi_at_call 64; refine (callsIn_wide.2 hx).mono ?_; rintro e w' ⟨rfl, nd, rfl⟩)
    | (gi_at_call 51; refine (loose_in _ _ _).mono ?_; rintro e w' ⟨rfl, rfl⟩))
  obtain ⟨W0, hW0⟩ : ∃ W0, ((w.alloc (.cells #[.pointer (some ⟨p, 0, none⟩)] 27)).drewN nd).alloc (.cells #[.pointer (some ⟨p, 0, none⟩)] 27) = W0 := ⟨_, rfl⟩
  have hs0 : W0.heap.size = w.heap.size + 2 := by rw [← hW0]; simp
  have hBW : Below w.heap.size w W0 := by rw [← hW0]; exact (below_drewN hB nd).alloc (by simp) _
  have hb0 : W0.heap[w.heap.size]? = some (.cells #[.pointer (some ⟨p, 0, none⟩)] 27 (0, 0)) := by
    rw [← hW0]
    exact (Below.heap_alloc _ _ _ (by simp)).trans (heap_alloc_new w _)
  have hb1 : W0.heap[w.heap.size + 1]? = some (.cells #[.pointer (some ⟨p, 0, none⟩)] 27 (0, 0)) := by
    rw [← hW0]
    have := heap_alloc_new ((w.alloc (.cells #[.pointer (some ⟨p, 0, none⟩)] 27)).drewN nd) (.cells #[.pointer (some ⟨p, 0, none⟩)] 27)
    simpa using this
  have hA0 := hA.below hBW
  have hst := loose_steps 8 (by decide) (w.heap.size + 1) p d.L v (by omega) W0 (cell_of_one hb1) hA0.c2 hA0.ls
  obtain ⟨k1, k2, k3⟩ := hA.kinds
  rw [hW0]
  refine wpIn_rangeFunc_steps rfl (by decide) (gf := 67) (lb := #[.pointer (some ⟨w.heap.size + 1, 0, none⟩)]) rfl trivial (enters_of Try.func67 (by kernel_rfl) rfl)
    hst SameO.trans (fun W l o o' hl _ _ _ b' hb' => World.putObj_heap_other (by have := (hA0.ls.lt b' hb').2; omega)) (Below.refl _ _) (fun _ => rfl)
    (FlushI W0 a d.B d.L) (fun c k W => False) flushI_own (fun c k W W' row hI hg hr => hI) ⟨Only.refl _ _, hA0.fl⟩
    (FlushA W0 d.L p w.heap.size) (fun k a' => flushA_own k a') ?assign ?body ?done ?stop
  case assign =>
    intro l k W K hI hk hK
    obtain ⟨x, hx⟩ : ∃ x, d.L[k]? = some x := ⟨_, List.getElem?_eq_getElem hk⟩
    have henc : looseEnc d.L k = #[.int .i64 (k : Int), .agg #[.int .i64 (x.1 : Int), .string x.2]] := by
      unfold looseEnc
      rw [List.getD_eq_getElem?_getD, hx]
      rfl
    rw [henc]
    have hz : W0.heap.size ≤ W.heap.size := hI.1.size
    have HK := Lib.hid (hK _ _ ((KeepsOthers.alloc W _).from _) (fun b' hb' => Below.heap_alloc W _ b' (by have := (hA0.ls.lt b' hb').2; omega)) (flushI_own _ _ _ none hI (World.grownBy_alloc W _ _) (fun r e => by cases e)) ⟨W.heap.size, x, hx, hz, heap_alloc_new W _, rfl⟩)
    clear hK henc hI hst hx
    gi_wp2
    exact HK.out
  case body =>
    rintro l k a' W hl hrec ⟨hon, hrow⟩ ⟨Bx, x, hx, hBx, hbx, rfl⟩ hk
    have hlim := h.ok.hi
    have hat := h.ok.at_ x (List.mem_of_getElem? hx)
    have hTW : W.heap[p]? = some (topO a b d.B.length v d.ops d.cut) := (hon.block p (by rw [hs0]; have := hA.lt p (.inl rfl); omega) k1).trans hA0.top
    have c0 : W.cell? ⟨p, 0, none⟩ = some (.slice (some ⟨a, 0, none⟩) d.B.length d.B.length) := by simp only [World.cell?, hTW]; rfl
    have q0 : W.cell? ⟨w.heap.size, 0, none⟩ = some (.pointer (some ⟨p, 0, none⟩)) := cell_of_one ((hon.block w.heap.size (by omega) (fun e => by have := hA.lt a (.inr (.inl rfl)); omega)).trans hb0)
    have x0 : W.cell? ⟨Bx, 0, none⟩ = some (.int .i64 (x.1 : Int)) := by simp only [World.cell?, hbx]; rfl
    have x1 : W.cell? ⟨Bx, 1, none⟩ = some (.string x.2) := by simp only [World.cell?, hbx]; rfl
    have hlen : (strs (settle d.B (d.L.take k))).length = d.B.length := by rw [strs_length, settle_length]
    obtain ⟨u, cu⟩ : ∃ u, W.cell? ⟨a, x.1, none⟩ = some u := ⟨_, by rw [hrow.at_]; exact List.getElem?_eq_getElem (by rw [hlen]; exact hat)⟩
    have fu := hrow.frozen x.1
    have hnext : FlushI W0 a d.B d.L (k + 1) (W.setCell ⟨a, x.1, none⟩ (.string x.2)) := ⟨hon.setCell (p := ⟨a, x.1, none⟩) (.inr rfl) _, by rw [settle_take d.B d.L k x hx, strs_set]; exact Row.setCell hrow _⟩
    have HNX := Lib.hid hnext
    obtain ⟨N, hN⟩ : ∃ N, d.B.length = N := ⟨_, rfl⟩
    rw [hN] at c0 hat hlim
    have hmix : Try.prog.follows .mixedOrders = true := by kernel_rfl
    clear hnext hx hst hTW hlen hon hrow hbx hN hA0 hb0 hb1
    gi_wp2
    refine wpIn_round_still_tail 9 hmix (by kernel_rfl) (by kernel_rfl) (by rintro ⟨_, _, hh⟩; exact hh) ?_
    simp only [List.take_succ_cons, List.take_zero, List.drop_succ_cons, List.drop_zero]
    repeat still_step
    try refine wpStill_nil ?_
    go_wp2
    exact ⟨((KeepsOthers.setCell _ _ _).trans (KeepsOthers.drew _)).from _, fun g hg => Below.heap_setCell _ _ _ _ (k3 g hg).2.1, HNX.out.1.drew, HNX.out.2⟩
  case done =>
    rintro D W hD ⟨hon, hrow⟩ hKD
    rw [List.take_length] at hrow
    have hpl := hA.lt p (.inl rfl)
    have hTW : W.heap[p]? = some (topO a b d.B.length v d.ops d.cut) := (hon.block p (by omega) k1).trans hA0.top
    have hnw : Row W b 9 (strs d.now) := hA0.nw.of_heap (hon.block b hA0.nw.lt hA0.ne.symm)
    have c2 := (cell_top hTW).1
    have f2 := (cell_top hTW).2.2 2
    have hT2 := top_loose (v' := .slice none 0 0) hTW
    have c3 := (cell_top hT2).2.1
    have f3 := (cell_top hT2).2.2 3
    have q0 : W.cell? ⟨w.heap.size, 0, none⟩ = some (.pointer (some ⟨p, 0, none⟩)) := cell_of_one ((hon.block w.heap.size (by omega) (fun e => by have := hA.lt a (.inr (.inl rfl)); omega)).trans hb0)
    have q1 : (W.setCell ⟨p, 2, none⟩ (.slice none 0 0)).cell? ⟨w.heap.size, 0, none⟩ = some (.pointer (some ⟨p, 0, none⟩)) := cell_of_one ((Below.heap_setCell _ _ _ _ (by show w.heap.size ≠ p; omega)).trans ((hon.block w.heap.size (by omega) (fun e => by have := hA.lt a (.inr (.inl rfl)); omega)).trans hb0))
    have HT2 := Lib.hid hT2
    have HD := Lib.hid hKD
    clear hTW hT2 hKD hst hb0 hb1
    gi_wp2
    have hset : ∀ k, k ≠ p → ((W.setCell ⟨p, 2, none⟩ (.slice none 0 0)).setCell ⟨p, 3, none⟩ (.int .i64 ((d.ops : Int) + 1))).heap[k]? = W.heap[k]? := fun k hk => (Below.heap_setCell _ _ _ _ hk).trans (Below.heap_setCell _ _ _ _ hk)
    have hD5 := (hset D (by omega)).trans HD.out
    refine ⟨by simp, .inl ⟨_, _, rfl, run_takeDeferred hD5, ?_⟩⟩
    have hput : ∀ (V : World) k, k ≠ D → (V.putObj D (.deferred none)).heap[k]? = V.heap[k]? := fun V k hk => World.putObj_heap_other hk
    have hal := hA.lt a (.inr (.inl rfl))
    have hbl := hA.lt b (.inr (.inr (.inl rfl)))
    have hok := h.ok.flushed
    have elen : d.flushed.B.length = d.B.length := d.now_length
    refine ⟨_, results_tmp rfl _ _ _, rfl, Foot p a b (.slice none 0 0), ⟨hok, a, b, .slice none 0 0, ⟨?_, ?_, ?_, World.ownsRow_nil _ _ _ _, hA.ne⟩, fun _ hh => hh⟩, ?_, ?_⟩
    · rw [elen]
      exact (hput _ p (by omega)).trans (top_ops (ops' := d.ops + 1) HT2.out)
    · exact hrow.of_heap ((hput _ a (by omega)).trans (hset a k1.symm))
    · exact hnw.of_heap ((hput _ b (by omega)).trans (hset b k2.symm))
    · have h1 : Only F w W := (Only.of_below hBW).step hon (fun i _ hi => hi ▸ hF a (.inr (.inl rfl)))
      have h2 := (h1.setCell (p := ⟨p, 2, none⟩) (.inr (hF p (.inl rfl))) (.slice none 0 0)).setCell (p := ⟨p, 3, none⟩) (.inr (hF p (.inl rfl))) (.int .i64 ((d.ops : Int) + 1))
      exact ⟨h2.os, h2.tape, h2.output, by have := h2.size; simpa [World.putObj] using this, fun k hk hn => (hput _ k (by omega)).trans (h2.block k hk hn)⟩
    · rintro k (rfl | rfl | rfl | hk)
      · exact .inl (hF _ (.inl rfl))
      · exact .inl (hF _ (.inr (.inl rfl)))
      · exact .inl (hF _ (.inr (.inr (.inl rfl))))
      · simp [Value.ownBlock] at hk
  case stop =>
    rintro D c k W hD hk hE hKD
    exact hE.elim
theorem flush_ok (h : IsDisk w p F d) (ho : ¬ d.off) (hops : d.ops ≤ 1099511627776) : Calls Try.prog 46 #[.pointer (some ⟨p, 0, none⟩)] w fun e w' => e = .returned (.int .i64 0) ∧ Left p F d.flushed w w' :=
  callsIn_wide.1 (flush_in h ho hops)
end
end Go.Proofs.Ytghonccffmmjhaa.Disk
