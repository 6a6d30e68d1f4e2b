/- A table of checkpoints that it shares no memory with, of the program: what an iterator hands out. -/
import Derived.Test.YtoedjemelblpaaaRoundTail
import Derived.Test.YtoedjemelblpaaaCpsIter
namespace Go.Proofs.Ytoedjemelblpaaa.Cps
open Go.RowKit Go.Shelf
attribute [local go_sem] Oper.semAt_some
set_option linter.unusedVariables false
set_option linter.unusedSimpArgs false

/-- one value lies at block q -/
def CellAt (W : World) (q : Nat) (t : TypeId) (v : Value) : Prop := W.heap[q]? = some (.cells #[v] t (0, 0))
theorem CellAt.c {W : World} {q : Nat} {t : TypeId} {v : Value} (h : CellAt W q t v) : W.cell? ⟨q, 0, none⟩ = some v := by unfold CellAt at h; simp only [World.cell?, h]; rfl
theorem CellAt.f {W : World} {q : Nat} {t : TypeId} {v : Value} (h : CellAt W q t v) : W.frozen? ⟨q, 0, none⟩ = false := by unfold CellAt at h; simp [World.frozen?, h]
theorem CellAt.put {W : World} {q : Nat} {t : TypeId} {v : Value} (h : CellAt W q t v) (u : Value) : CellAt (W.setCell ⟨q, 0, none⟩ u) q t u := by unfold CellAt at h ⊢; rw [heap_setCell_same W q 0 _ _ u h]; rfl
theorem CellAt.lt {W : World} {q : Nat} {t : TypeId} {v : Value} (h : CellAt W q t v) : q < W.heap.size := (Array.getElem?_eq_some_iff.1 h).1
theorem CellAt.of_heap {W W' : World} {q : Nat} {t : TypeId} {v : Value} (h : CellAt W q t v) (hb : W'.heap[q]? = W.heap[q]?) : CellAt W' q t v := hb.trans h
theorem CellAt.th {W W' : World} {q : Nat} {t : TypeId} {v : Value} (h : CellAt W q t v) (hB : Below W.heap.size W W') : CellAt W' q t v := h.of_heap (hB.block q h.lt)
theorem CellAt.new (w : World) (t : TypeId) (v : Value) : CellAt (w.alloc (.cells #[v] t)) w.heap.size t v := World.alloc_heap_new w _
/-- a region's plain walk holds in a round, too -/
theorem wpIn_round_any {P : Program} {ops : Array Oper} {Q : Exit → Act → World → Prop} {id l0 nF : Nat} {a : Act} {w : World} (hm : P.follows .mixedOrders = true) (hd : noDefer ops = true) (hQ : ¬ LetsOut Q)
    (h : wpAny P .any ops Q ops.size (Array.replicate ops.size false) a w.drew) : (Code.region id ops true).wpIn (Fence.wide.inRound l0) nF P Q a w := wpIn_region_any hm (anyIn_of_any hd hQ _ _ _ _ h)
theorem results_tmpc {fn : Func} {r : Tmp} (h : fn.results = #[.tmp r]) (tmps : Array Value) (w : World) : (results fn tmps).run Try.prog w = .ok (tmps.getD r undef) w := by
  simp [results, h, go_sem]
theorem own_put {w : World} {base e size n D : Nat} {v : Value} {xs : List Value} {o : Obj} (h : w.ownsRow base e size v n xs) (hD : w.heap[D]? = some (.deferred (some []))) : (w.putObj D o).ownsRow base e size v n xs := h.kept (row := some D) ⟨rfl, rfl, rfl, by simp [World.putObj], fun j _ hj => World.putObj_heap_other (fun e => hj (by rw [e]))⟩ (by
  cases hv : v.ownBlock with
  | none => exact .inl rfl
  | some g =>
    right
    intro e1
    cases e1
    rcases h.2 with ⟨e1, _⟩ | ⟨g2, cap, cur, e1, _, hgg, _⟩
    · rw [e1] at hv; cases hv
    · rw [e1] at hv
      have e2 : g2 = D := by simpa [Value.ownBlock] using hv
      rw [e2, hD] at hgg
      cases hgg)
theorem below_putObj {n : Nat} {w W : World} (h : Below n w W) (D : Nat) (hD : n ≤ D) (o : Obj) : Below n w (W.putObj D o) := ⟨h.1, h.2, h.3, by simpa [World.putObj] using h.4, fun k hk => (World.putObj_heap_other (by omega)).trans (h.5 k hk)⟩
/-- what has come behind k rounds -/
def TabI (W0 : World) (M : List C) (s : Nat) (k : Nat) (W : World) : Prop :=
  Only (fun i => i = s) W0 W ∧ ∃ v, CellAt W s 22 v ∧ W.ownsRow W0.heap.size 25 4 v k (cellsL (M.take k))
theorem tabI_own {W0 : World} {M : List C} {s : Nat} : OwnFrom W0.heap.size (TabI W0 M s) := fun k W W' row hI hg hr => by
  obtain ⟨h1, v, h2, h3⟩ := hI
  refine ⟨h1.grown hg (fun r e => .inl (hr r e).1), v, kept_cells h2 hg hr, h3.kept hg ?_⟩
  cases hv : v.ownBlock with
  | none => exact .inl rfl
  | some g =>
    right
    intro e
    obtain ⟨_, o, ho, hc⟩ := hr g e.symm
    rcases h3.2 with ⟨e1, _⟩ | ⟨g2, cap, cur, e1, _, hgg, _⟩
    · rw [e1] at hv; cases hv
    · rw [e1] at hv
      have e2 : g2 = g := by simpa [Value.ownBlock] using hv
      rw [e2, ho] at hgg
      cases hgg
      cases hc
def TabA (tmps : Nat → Nat → Array Value) (W0 : World) (M : List C) (k : Nat) (a' : Act) (W : World) : Prop :=
  ∃ Bx, W0.heap.size ≤ Bx ∧ At W Bx (ck M k) ∧ a' = { tmps := tmps k Bx, defers := [] }
theorem tabA_own {tmps : Nat → Nat → Array Value} {W0 : World} {M : List C} {B : Nat} (k : Nat) (a' : Act) : OwnFrom B (fun (_ : Unit) W => TabA tmps W0 M k a' W) := fun _ W W' row hI hg hr => by
  obtain ⟨Bx, h1, h2, h3⟩ := hI
  exact ⟨Bx, h1, kept_cells h2 hg hr, h3⟩
section
set_option maxRecDepth 100000
set_option maxHeartbeats 4000000
theorem tableOf_in (gf : Nat) (lb : Array Value) (M : List C) (w : World) (hM : M.length ≤ 1000) (hr : ∀ c ∈ M, c.root.size ≤ 281474976710656) (eg : ∀ args w, (callFunc gf args).run Try.prog w = .ok (.enter gf args) w)
    (hIt : ∀ W0, Below w.heap.size w W0 → IterOf gf lb M w.heap.size W0) :
    CallsIn Fence.wide 9 Try.prog 36 #[.func (.func gf) #[] lb] w fun e w' => ∃ v, e = .returned v ∧ w'.ownsRow w.heap.size 25 4 v M.length (cellsL M) ∧ Below w.heap.size w w' := by
  have hfn : ∀ f, Fence.wide.fn f := fun _ => trivial
  obtain ⟨i0, hin, hz0, hz1, hz2⟩ := info_parts infoCh
  refine callsIn_of_wp_marks Try.func36 rfl trivial ?_ rfl
  simp only [Try.ntmps36, List.size_toArray, List.length_cons, List.length_nil, Nat.reduceAdd, Nat.reduceSub, Array.replicate_succ, Array.replicate_zero, List.push_toArray, List.append_toArray, List.nil_append, List.cons_append]
  gi_wp2
  obtain ⟨s, hs⟩ : ∃ s, w.heap.size = s := ⟨_, rfl⟩
  obtain ⟨W0, hW0⟩ : ∃ W0, w.alloc (.cells #[.slice none 0 0] 22) = W0 := ⟨_, rfl⟩
  have hs0 : W0.heap.size = s + 1 := by rw [← hW0, ← hs]; simp
  have hBW : Below w.heap.size w W0 := by rw [← hW0]; exact below_new _ _
  have b0 : CellAt W0 s 22 (.slice none 0 0) := by rw [← hW0, ← hs]; exact CellAt.new _ _ _
  have hsq := hIt W0 hBW
  rw [hW0]
  rw [hs] at hsq hBW ⊢
  clear hW0 hIt
  unfold IterOf at hsq
  refine wpIn_rangeFunc_steps rfl (by decide) (gf := gf) (lb := lb) rfl trivial eg
    hsq kept_t (kept_b (by omega)) (Below.refl _ _) (fun k => by unfold encL; rfl)
    (TabI W0 M s) (fun c k W => False) tabI_own (fun c k W W' row hI hg hr => hI) ⟨Only.refl _ _, _, b0, World.ownsRow_nil _ _ _ _⟩
    (TabA (fun k Bx => #[.func (.func gf) #[] lb, undef, .slice none 0 0, .pointer (some ⟨s, 0, none⟩), .pointer (some ⟨Bx, 0, none⟩), .func (.func gf) #[] lb, (ck M k).val, undef, undef, undef, undef, undef, undef]) W0 M) (fun k a' => tabA_own k a') ?assign ?body ?done ?stop
  case assign =>
    intro l k W K hI hk hK
    have hz : W0.heap.size ≤ W.heap.size := hI.1.size
    have HK := Lib.hid (hK _ _ ((KeepsOthers.alloc W _).from _) (Kept.below (below_new W _) (by omega)) (tabI_own _ _ _ none hI (World.grownBy_alloc W _ _) (fun r e => by cases e)) ⟨W.heap.size, hz, At.new W (ck M k), rfl⟩)
    unfold encL
    clear hK hI hsq
    dsimp only at HK
    unfold boxO C.val at HK
    unfold C.val
    dsimp only at HK ⊢
    generalize ck M k = y at HK ⊢
    obtain ⟨y0, y1, y2, y3⟩ := y
    dsimp only at HK ⊢
    gi_wp2
    exact HK.out
  case body =>
    rintro l k a' W hl hrec ⟨hon, v, hc, hown⟩ ⟨Bx, hBx, hX, rfl⟩ hk
    have hsz := hon.size
    have hsuc : cellsL (M.take (k + 1)) = cellsL (M.take k) ++ (ck M k).cells := by rw [take_snoc hk, cellsL_snoc]
    have HO := Lib.hid (fun W => own_any (ck M k) W (hr _ (ck_mem hk)))
    obtain ⟨y, hy⟩ : ∃ y, ck M k = y := ⟨_, rfl⟩
    rw [hy] at HO hX hsuc
    have hfin : ∀ W2 v' W4, Below W.heap.size W W2 → W4.ownsRow W0.heap.size 25 4 v' (k + 1) (cellsL (M.take k) ++ y.cells) → (W2.alloc (boxO y)).grownBy W4 v.ownBlock → CellAt W4 s 22 v ∧ (KeepsFrom W0.heap.size W (W4.setCell ⟨s, 0, none⟩ v') ∧ Kept s W (W4.setCell ⟨s, 0, none⟩ v') ∧ TabI W0 M s (k + 1) (W4.setCell ⟨s, 0, none⟩ v')) := fun W2 v' W4 h2 ho hg => by
      have hvb : ∀ r, v.ownBlock = some r → W0.heap.size ≤ r ∧ ∃ c t f, W.heap[r]? = some (.cells c t f) := fun r e => by
        rcases hown.2 with ⟨e1, _⟩ | ⟨g2, cap2, cur, e1, hb2, hgg, _⟩
        · rw [e1] at e; cases e
        · rw [e1] at e
          have e2 : g2 = r := by simpa [Value.ownBlock] using e
          rw [← e2]
          exact ⟨hb2, _, _, _, hgg⟩
      have hon2 : Only (fun i => i = s ∨ v.ownBlock = some i) W W4 := ((Only.of_below h2).alloc (boxO y)).grown hg (fun r e => .inr (.inr e))
      have hne : ∀ r, v.ownBlock = some r → ¬ s = r := fun r e => by have := (hvb r e).1; omega
      have hc4 : CellAt W4 s 22 v := by
        have h3 : CellAt (W2.alloc (boxO y)) s 22 v := (hc.th h2).of_heap (Below.heap_alloc _ _ _ (hc.th h2).lt)
        exact h3.of_heap (hg.block s h3.lt (fun e => hne s e.symm rfl))
      have hon5 : Only (fun i => i = s ∨ v.ownBlock = some i) W (W4.setCell ⟨s, 0, none⟩ v') := hon2.setCell (p := ⟨s, 0, none⟩) (.inr (.inl rfl)) _
      refine ⟨hc4, keeps_of_only _ hon5 (fun j hj => ?_), ⟨fun y hy => ?_, hon5.size⟩, hon.step hon5 (fun i hi h => ?_), v', hc4.put v', ?_⟩
      · rcases hj with rfl | hj
        · exact ⟨_, _, _, hc⟩
        · exact (hvb j hj).2
      · refine hon5.block y (by omega) (fun hh => ?_)
        rcases hh with rfl | hh
        · omega
        · have := (hvb y hh).1; omega
      · rcases h with h | h
        · exact h
        · have := (hvb i h).1; omega
      · rw [hsuc]
        have h6 := ho.kept (w' := W4.setCell ⟨s, 0, none⟩ v') (row := some s) ⟨rfl, rfl, rfl, (KeepsWalks.setCell W4 ⟨s, 0, none⟩ v').size, fun j hj hn => Below.heap_setCell _ _ _ _ (fun e => hn (by rw [e]))⟩ (by
          cases hv : v'.ownBlock with
          | none => exact .inl rfl
          | some g => exact .inr (fun e => by have := (ho.lt g hv).1; cases e; omega))
        exact h6
    have c4 := hc.c
    have HOW : Hid (∀ W2, Below W.heap.size W W2 → (W2.alloc (boxO y)).ownsRow W0.heap.size 25 4 v k (cellsL (M.take k))) := fun W2 h => (hown.kept (grown_of_below h) (by cases hv : v.ownBlock <;> simp)).alloc _
    have HC4 : Hid (∀ W2, Below W.heap.size W W2 → W2.cell? ⟨s, 0, none⟩ = some v ∧ (W2.alloc (boxO y)).cell? ⟨s, 0, none⟩ = some v) := fun W2 h => ⟨(hc.th h).c, ((hc.th h).of_heap (Below.heap_alloc _ _ _ (hc.th h).lt)).c⟩
    have hself : Below W.heap.size W W.drew := (Below.refl _ _).drew
    have HSZ : Hid (∀ W2, Below W.heap.size W W2 → W0.heap.size ≤ (W2.alloc (boxO y)).heap.size) := fun W2 h => by have := h.size; simp; omega
    have d4 : W.drew.cell? ⟨s, 0, none⟩ = some v := c4
    obtain ⟨x0, x1, x2, x3⟩ := hX.drew.c
    dsimp only
    rw [hy]
    obtain ⟨ncp, ti, sn, ro⟩ := y
    unfold boxO at hfin HOW HC4 HSZ
    unfold C.cells at hfin
    unfold C.val at HO ⊢
    dsimp only at hfin HOW HC4 HSZ HO x0 x1 x2 x3 ⊢
    have HFIN := Lib.hid hfin
    have hk9 : k ≤ 1000 := by omega
    clear hon hc hown hsq hfin hrec b0 c4 hsuc hX hy hr hM
    gi_wp2
    refine wpIn_round_any (by kernel_rfl) (by kernel_rfl) (by rintro ⟨_, _, hh⟩; exact hh) ?_
    refine wpAny_ready (rs := [0, 1]) (by kernel_rfl) (by simp) ?_
    refine AllReady.cons rfl (fun K hK => ?_) (AllReady.cons rfl (fun K hK => ?_) AllReady.nil)
    · go_simp
      refine hK _ _ ?_
      clear hK K
      refine wpAny_ready (rs := [1]) (by kernel_rfl) (by simp) ?_
      refine AllReady.cons rfl (fun K hK => ?_) AllReady.nil
      go_simp
      refine hK _ _ ?_
      clear hK K
      refine wpAny_ready (rs := [2]) (by kernel_rfl) (by simp) ?_
      refine AllReady.cons rfl (fun K hK => ?_) AllReady.nil
      go_simp
      go_at_call 39
      (with_reducible refine Calls.mono (HO.out _) ?_)
      rintro e w2 ⟨rfl, hB2⟩
      have hb2 : Below W.heap.size W w2 := below_th hself hB2
      obtain ⟨q1, q2⟩ := HC4.out _ hb2
      try go_simp
      refine hK _ _ ?_
      clear hK K
      refine wpAny_ready (rs := [3]) (by kernel_rfl) (by simp) ?_
      refine AllReady.cons rfl (fun K hK => ?_) AllReady.nil
      go_simp
      refine hK _ _ ?_
      clear hK K
      refine wpAny_ready (rs := [4]) (by kernel_rfl) (by simp) ?_
      refine AllReady.cons rfl (fun K hK => ?_) AllReady.nil
      refine step_append_lies _ rfl (.tmp 7) (.tmp 10) 22 rfl W0.heap.size 25 i0 (.agg #[.int .u64 0, .int .u64 0, .bool false, .string ⟨#[]⟩]) 4 40 Try.underlying22 hin hz0 hz1 hz2 rfl (by decide) v k (cellsL (M.take k)) rfl (HOW.out _ hb2) ⟨w2.heap.size, 0, none⟩ 1 1 [.int .u64 ncp, .int .u64 ti, .bool sn, .string ro] rfl rfl (World.news_of_block (World.alloc_heap_new w2 _)) (by simp [Value.oneCell']) (by decide) (by unfold maxLen; omega) (by omega) (HSZ.out _ hb2) _ rfl ?_
      intro g2 cap2 w4 hown4 hgrow4 hat4 hlt4
      obtain ⟨hcc, hfi⟩ := HFIN.out w2 _ w4 hb2 hown4 hgrow4
      have e4 := hcc.c
      have f4 := hcc.f
      have HFI := Lib.hid hfi
      clear hown4 hgrow4 hat4 hlt4 hcc hfi
      try go_simp
      refine hK _ _ ?_
      clear hK K
      refine wpAny_ready (rs := [5]) (by kernel_rfl) (by simp) ?_
      refine AllReady.cons rfl (fun K hK => ?_) AllReady.nil
      go_simp
      refine hK _ _ ?_
      clear hK K
      refine wpAny_done (by kernel_rfl) ?_ _
      exact HFI.out
    · go_simp
      refine hK _ _ ?_
      clear hK K
      refine wpAny_ready (rs := [0, 2]) (by kernel_rfl) (by simp) ?_
      refine AllReady.cons rfl (fun K hK => ?_) (AllReady.cons rfl (fun K hK => ?_) AllReady.nil)
      · go_simp
        refine hK _ _ ?_
        clear hK K
        refine wpAny_ready (rs := [2]) (by kernel_rfl) (by simp) ?_
        refine AllReady.cons rfl (fun K hK => ?_) AllReady.nil
        go_simp
        go_at_call 39
        (with_reducible refine Calls.mono (HO.out _) ?_)
        rintro e w2 ⟨rfl, hB2⟩
        have hb2 : Below W.heap.size W w2 := below_th hself hB2
        obtain ⟨q1, q2⟩ := HC4.out _ hb2
        try go_simp
        refine hK _ _ ?_
        clear hK K
        refine wpAny_ready (rs := [3]) (by kernel_rfl) (by simp) ?_
        refine AllReady.cons rfl (fun K hK => ?_) AllReady.nil
        go_simp
        refine hK _ _ ?_
        clear hK K
        refine wpAny_ready (rs := [4]) (by kernel_rfl) (by simp) ?_
        refine AllReady.cons rfl (fun K hK => ?_) AllReady.nil
        refine step_append_lies _ rfl (.tmp 7) (.tmp 10) 22 rfl W0.heap.size 25 i0 (.agg #[.int .u64 0, .int .u64 0, .bool false, .string ⟨#[]⟩]) 4 40 Try.underlying22 hin hz0 hz1 hz2 rfl (by decide) v k (cellsL (M.take k)) rfl (HOW.out _ hb2) ⟨w2.heap.size, 0, none⟩ 1 1 [.int .u64 ncp, .int .u64 ti, .bool sn, .string ro] rfl rfl (World.news_of_block (World.alloc_heap_new w2 _)) (by simp [Value.oneCell']) (by decide) (by unfold maxLen; omega) (by omega) (HSZ.out _ hb2) _ rfl ?_
        intro g2 cap2 w4 hown4 hgrow4 hat4 hlt4
        obtain ⟨hcc, hfi⟩ := HFIN.out w2 _ w4 hb2 hown4 hgrow4
        have e4 := hcc.c
        have f4 := hcc.f
        have HFI := Lib.hid hfi
        clear hown4 hgrow4 hat4 hlt4 hcc hfi
        try go_simp
        refine hK _ _ ?_
        clear hK K
        refine wpAny_ready (rs := [5]) (by kernel_rfl) (by simp) ?_
        refine AllReady.cons rfl (fun K hK => ?_) AllReady.nil
        go_simp
        refine hK _ _ ?_
        clear hK K
        refine wpAny_done (by kernel_rfl) ?_ _
        exact HFI.out
      · go_simp
        go_at_call 39
        (with_reducible refine Calls.mono (HO.out _) ?_)
        rintro e w2 ⟨rfl, hB2⟩
        have hb2 : Below W.heap.size W w2 := below_th hself hB2
        obtain ⟨q1, q2⟩ := HC4.out _ hb2
        try go_simp
        refine hK _ _ ?_
        clear hK K
        refine wpAny_ready (rs := [0, 3]) (by kernel_rfl) (by simp) ?_
        refine AllReady.cons rfl (fun K hK => ?_) (AllReady.cons rfl (fun K hK => ?_) AllReady.nil)
        · go_simp
          refine hK _ _ ?_
          clear hK K
          refine wpAny_ready (rs := [3]) (by kernel_rfl) (by simp) ?_
          refine AllReady.cons rfl (fun K hK => ?_) AllReady.nil
          go_simp
          refine hK _ _ ?_
          clear hK K
          refine wpAny_ready (rs := [4]) (by kernel_rfl) (by simp) ?_
          refine AllReady.cons rfl (fun K hK => ?_) AllReady.nil
          refine step_append_lies _ rfl (.tmp 7) (.tmp 10) 22 rfl W0.heap.size 25 i0 (.agg #[.int .u64 0, .int .u64 0, .bool false, .string ⟨#[]⟩]) 4 40 Try.underlying22 hin hz0 hz1 hz2 rfl (by decide) v k (cellsL (M.take k)) rfl (HOW.out _ hb2) ⟨w2.heap.size, 0, none⟩ 1 1 [.int .u64 ncp, .int .u64 ti, .bool sn, .string ro] rfl rfl (World.news_of_block (World.alloc_heap_new w2 _)) (by simp [Value.oneCell']) (by decide) (by unfold maxLen; omega) (by omega) (HSZ.out _ hb2) _ rfl ?_
          intro g2 cap2 w4 hown4 hgrow4 hat4 hlt4
          obtain ⟨hcc, hfi⟩ := HFIN.out w2 _ w4 hb2 hown4 hgrow4
          have e4 := hcc.c
          have f4 := hcc.f
          have HFI := Lib.hid hfi
          clear hown4 hgrow4 hat4 hlt4 hcc hfi
          try go_simp
          refine hK _ _ ?_
          clear hK K
          refine wpAny_ready (rs := [5]) (by kernel_rfl) (by simp) ?_
          refine AllReady.cons rfl (fun K hK => ?_) AllReady.nil
          go_simp
          refine hK _ _ ?_
          clear hK K
          refine wpAny_done (by kernel_rfl) ?_ _
          exact HFI.out
        · go_simp
          refine hK _ _ ?_
          clear hK K
          refine wpAny_ready (rs := [0]) (by kernel_rfl) (by simp) ?_
          refine AllReady.cons rfl (fun K hK => ?_) AllReady.nil
          go_simp
          refine hK _ _ ?_
          clear hK K
          refine wpAny_ready (rs := [4]) (by kernel_rfl) (by simp) ?_
          refine AllReady.cons rfl (fun K hK => ?_) AllReady.nil
          refine step_append_lies _ rfl (.tmp 7) (.tmp 10) 22 rfl W0.heap.size 25 i0 (.agg #[.int .u64 0, .int .u64 0, .bool false, .string ⟨#[]⟩]) 4 40 Try.underlying22 hin hz0 hz1 hz2 rfl (by decide) v k (cellsL (M.take k)) rfl (HOW.out _ hb2) ⟨w2.heap.size, 0, none⟩ 1 1 [.int .u64 ncp, .int .u64 ti, .bool sn, .string ro] rfl rfl (World.news_of_block (World.alloc_heap_new w2 _)) (by simp [Value.oneCell']) (by decide) (by unfold maxLen; omega) (by omega) (HSZ.out _ hb2) _ rfl ?_
          intro g2 cap2 w4 hown4 hgrow4 hat4 hlt4
          obtain ⟨hcc, hfi⟩ := HFIN.out w2 _ w4 hb2 hown4 hgrow4
          have e4 := hcc.c
          have f4 := hcc.f
          have HFI := Lib.hid hfi
          clear hown4 hgrow4 hat4 hlt4 hcc hfi
          try go_simp
          refine hK _ _ ?_
          clear hK K
          refine wpAny_ready (rs := [5]) (by kernel_rfl) (by simp) ?_
          refine AllReady.cons rfl (fun K hK => ?_) AllReady.nil
          go_simp
          refine hK _ _ ?_
          clear hK K
          refine wpAny_done (by kernel_rfl) ?_ _
          exact HFI.out
  case done =>
    rintro D W hD ⟨hon, v, hc, hown⟩ hKD
    have hsz := hon.size
    have c4 := hc.c
    rw [List.take_length] at hown
    have HP : Hid ((W.putObj D (.deferred none)).ownsRow s 25 4 v M.length (cellsL M) ∧ Below s w (W.putObj D (.deferred none))) := by
      have h1 := own_put (o := .deferred none) hown hKD
      refine ⟨?_, ?_⟩
      · refine ⟨h1.1, ?_⟩
        rcases h1.2 with h2 | ⟨g, cap, cur, e1, hb, hrest⟩
        · exact .inl h2
        · exact .inr ⟨g, cap, cur, e1, by omega, hrest⟩
      · have h2 := hBW.trans (hon.below (n := s) (by omega) (by rintro j rfl; exact Nat.le_refl _))
        exact below_putObj h2 D (by omega) (.deferred none)
    have HKD := Lib.hid hKD
    clear hon hc hown hsq hKD b0 hr hM
    gi_wp2
    refine ⟨by simp, .inl ⟨_, _, rfl, run_takeDeferred HKD.out, ?_⟩⟩
    refine ⟨_, results_tmpc rfl _ _, ?_⟩
    exact ⟨v, rfl, by rw [hs]; exact HP.out.1, by rw [hs]; exact HP.out.2⟩
  case stop =>
    rintro D c k W hD hk hf
    exact hf.elim
theorem tableOf_any (gf : Nat) (lb : Array Value) (M : List C) (w : World) (hM : M.length ≤ 1000) (hr : ∀ c ∈ M, c.root.size ≤ 281474976710656) (eg : ∀ args w, (callFunc gf args).run Try.prog w = .ok (.enter gf args) w)
    (hIt : ∀ W0, Below w.heap.size w W0 → IterOf gf lb M w.heap.size W0) :
    Calls Try.prog 36 #[.func (.func gf) #[] lb] w fun e w' => ∃ v, e = .returned v ∧ w'.ownsRow w.heap.size 25 4 v M.length (cellsL M) ∧ Below w.heap.size w w' := callsIn_wide.1 (tableOf_in gf lb M w hM hr eg hIt)
end
end Go.Proofs.Ytoedjemelblpaaa.Cps
