/- What the calls on one node do: an item more, parting it in two. -/
import Derived.Deep.RegionWith
import Derived.Deep.Cut
import Derived.Deep.DeepCutAuto
import Derived.Test.YtkhbfjncamobdaaBagPkDS
namespace Go.Proofs.Ytkhbfjncamobdaa.S
open Go.RowKit
set_option linter.unusedVariables false

theorem cellsI_one (l : List It) : ∀ v ∈ cellsI l, v.oneCell' = true := by
  intro v hv
  simp only [cellsI, List.mem_flatMap] at hv
  obtain ⟨x, _, hx⟩ := hv
  simp only [List.mem_cons, List.not_mem_nil, or_false] at hx
  rcases hx with rfl | rfl <;> rfl
theorem cellsP_one (l : List Nat) : ∀ v ∈ cellsP l, v.oneCell' = true := by
  intro v hv
  simp only [cellsP, List.mem_map] at hv
  obtain ⟨x, _, rfl⟩ := hv
  rfl

theorem cellsI_ins (l : List It) (p : Nat) (x : It) : cellsI (l.take p ++ x :: l.drop p) = (cellsI l).take (p * 2) ++ [.int .i64 x.1, .string x.2] ++ (cellsI l).drop (p * 2) := by
  rw [← cellsI_take, ← cellsI_drop, cellsI_append, List.append_assoc]
  rfl
theorem cellsP_ins (l : List Nat) (p : Nat) (x : Nat) : cellsP (l.take p ++ x :: l.drop p) = (cellsP l).take (p * 1) ++ [ptrV x] ++ (cellsP l).drop (p * 1) := by
  simp [cellsP, List.map_take, List.map_drop]

/-- a node behind a call: it lies there, in its own blocks or new ones, and nothing else has turned -/
structure Turned (w : World) (r : Rec ByteArray) (w' : World) (r' : Rec ByteArray) : Prop where
  ok : Ok w' r'
  b : r'.b = r.b
  only : Only (fun k => k ∈ r.blocks) w w'
  blocks : ∀ k, k ∈ r'.blocks → k ∈ r.blocks ∨ w.heap.size ≤ k

theorem ne_types {w : World} {g g' : Nat} {c c' : Array Value} {t t' : TypeId} {f f' : Nat × Nat} (h : w.heap[g]? = some (.cells c t f)) (h' : w.heap[g']? = some (.cells c' t' f')) (hne : t ≠ t') : g ≠ g' := by
  rintro rfl
  rw [h] at h'
  cases h'
  exact hne rfl
theorem Ok.iblk {w : World} {r : Rec ByteArray} (h : Ok w r) : ∃ c, w.heap[r.g]? = some (.cells c 62 (0, 0)) := by
  obtain ⟨rest, hr, _⟩ := row_of_own h.irow
  exact ⟨_, hr⟩
theorem Ok.kblk {w : World} {r : Rec ByteArray} (h : Ok w r) {p : Nat × Nat} (hp : r.kv = some p) : ∃ c, w.heap[p.1]? = some (.cells c 40 (0, 0)) := by
  have := h.krow
  simp only [Rec.kvv, hp] at this
  obtain ⟨rest, hr, _⟩ := row_of_own this
  exact ⟨_, hr⟩
theorem Ok.b_ne_g {w : World} {r : Rec ByteArray} (h : Ok w r) : r.b ≠ r.g := by
  obtain ⟨c, hc⟩ := h.iblk
  exact ne_types h.node hc (by decide)
theorem Ok.b_ne_k {w : World} {r : Rec ByteArray} (h : Ok w r) {p : Nat × Nat} (hp : r.kv = some p) : r.b ≠ p.1 := by
  obtain ⟨c, hc⟩ := h.kblk hp
  exact ne_types h.node hc (by decide)
theorem Ok.g_ne_k {w : World} {r : Rec ByteArray} (h : Ok w r) {p : Nat × Nat} (hp : r.kv = some p) : r.g ≠ p.1 := by
  obtain ⟨c, hc⟩ := h.iblk
  obtain ⟨d, hd⟩ := h.kblk hp
  exact ne_types hc hd (by decide)
theorem mem_blocks {α : Type} (r : Rec α) (k : Nat) : k ∈ r.blocks ↔ k = r.b ∨ k = r.g ∨ ∃ p, r.kv = some p ∧ k = p.1 := by
  unfold Rec.blocks
  cases h : r.kv with
  | none => simp
  | some p => simp
theorem own_kept {w w' : World} {base e size n g c : Nat} {xs : List Value} (h : w.ownsRow base e size (.slice (some ⟨g, 0, none⟩) n c) n xs) (hk : w'.heap[g]? = w.heap[g]?) : w'.ownsRow base e size (.slice (some ⟨g, 0, none⟩) n c) n xs := by
  obtain ⟨rest, hr, h1, h2, h3, h4, h5⟩ := row_of_own h
  exact own_of_row (hr.of_heap hk) h1 h2 h3 h4 h5
theorem set_node {w : World} {b : Nat} {u v u' : Value} {t : TypeId} (h : w.heap[b]? = some (.cells #[u, v] t (0, 0))) : (w.setCell ⟨b, 0, none⟩ u').heap[b]? = some (.cells #[u', v] t (0, 0)) := by
  obtain ⟨hlt, hk⟩ := Array.getElem?_eq_some_iff.1 h
  show (w.heap.modify b _)[b]? = _
  rw [Array.getElem?_eq_getElem (by rw [Array.size_modify]; exact hlt), Array.getElem_modify_self, hk]
  rfl
theorem set_node1 {w : World} {b : Nat} {u v v' : Value} {t : TypeId} (h : w.heap[b]? = some (.cells #[u, v] t (0, 0))) : (w.setCell ⟨b, 1, none⟩ v').heap[b]? = some (.cells #[u, v'] t (0, 0)) := by
  obtain ⟨hlt, hk⟩ := Array.getElem?_eq_some_iff.1 h
  show (w.heap.modify b _)[b]? = _
  rw [Array.getElem?_eq_getElem (by rw [Array.size_modify]; exact hlt), Array.getElem_modify_self, hk]
  rfl
theorem set_far (w : World) (b i k : Nat) (u : Value) (h : k ≠ b) : (w.setCell ⟨b, i, none⟩ u).heap[k]? = w.heap[k]? := Below.heap_setCell _ _ _ _ h

theorem Turned.refl {w : World} {r : Rec ByteArray} (h : Ok w r) : Turned w r w r := ⟨h, rfl, Only.refl _ w, fun k hk => .inl hk⟩
theorem Turned.trans {w w' w'' : World} {r r' r'' : Rec ByteArray} (h : Turned w r w' r') (k : Turned w' r' w'' r'') : Turned w r w'' r'' :=
  ⟨k.ok, k.b.trans h.b, h.only.step k.only (fun i hi hh => (h.blocks i hh).elim id (fun h2 => by omega)), fun i hi => (k.blocks i hi).elim (h.blocks i) (fun h2 => .inr (Nat.le_trans h.only.size h2))⟩
/-- what lay below stays -/
theorem Turned.after {w W w' : World} {r r' : Rec ByteArray} (hb : Below w.heap.size w W) (h : Turned W r w' r') : Turned w r w' r' :=
  ⟨h.ok, h.b, (Only.of_below hb).step h.only (fun _ _ hh => hh), fun k hk => (h.blocks k hk).elim .inl (fun h2 => .inr (Nat.le_trans hb.size h2))⟩

/-- a node's items are another row now -/
theorem turned_items {W w1 : World} {r : Rec ByteArray} {items' : List It} {g' cap' n : Nat} (h : Ok W r) (hon : Only (fun k => k = r.g) W w1) (hn : items'.length = n)
    (hown : w1.ownsRow 0 62 2 (.slice (some ⟨g', 0, none⟩) n cap') n (cellsI items')) (hg : g' = r.g ∨ W.heap.size ≤ g') :
    Turned W r (w1.setCell ⟨r.b, 0, none⟩ (.slice (some ⟨g', 0, none⟩) n cap')) { r with g := g', cap := cap', items := items' } := by
  subst hn
  have hbg := h.b_ne_g
  have hb := h.blk r.b (by simp [Rec.blocks])
  have hnode := (hon.block r.b hb hbg).trans h.node
  obtain ⟨rest, hrow, _⟩ := row_of_own hown
  have hbg' : r.b ≠ g' := ne_types hnode hrow (by decide)
  refine ⟨⟨?_, ?_, ?_⟩, rfl, ?_, ?_⟩
  · exact set_node hnode
  · exact own_kept hown (set_far _ _ _ _ _ hbg'.symm)
  · cases hkv : r.kv with
    | none =>
      have := h.krow
      simp only [Rec.kvv, hkv] at this ⊢
      refine ⟨this.1, .inl ⟨rfl, ?_⟩⟩
      rcases this.2 with ⟨_, h0⟩ | ⟨_, _, _, hh, _⟩
      · exact h0
      · cases hh
    | some p =>
      have := h.krow
      simp only [Rec.kvv, hkv] at this ⊢
      refine own_kept this ((set_far _ _ _ _ _ (h.b_ne_k hkv).symm).trans (hon.block _ (h.blk _ ((mem_blocks r _).2 (.inr (.inr ⟨p, hkv, rfl⟩)))) (h.g_ne_k hkv).symm))
  · exact (hon.mono (fun k _ hk => by subst hk; exact (mem_blocks r _).2 (.inr (.inl rfl)))).setCell (.inr ((mem_blocks r _).2 (.inl rfl))) _
  · intro k hk
    rw [mem_blocks] at hk ⊢
    rcases hk with hk | hk | hk
    · exact .inl (.inl hk)
    · rcases hg with hg | hg
      · exact .inl (.inr (.inl (hk.trans hg)))
      · exact .inr (by rw [hk]; exact hg)
    · exact .inl (.inr (.inr hk))

/-- a node's row of the nodes below is another one now -/
theorem turned_kids {W w1 : World} {r : Rec ByteArray} {kids' : List Nat} {g' cap' n : Nat} {p : Nat × Nat} (h : Ok W r) (hkv : r.kv = some p) (hon : Only (fun k => k = p.1) W w1) (hn : kids'.length = n)
    (hown : w1.ownsRow 0 40 1 (.slice (some ⟨g', 0, none⟩) n cap') n (cellsP kids')) (hg : g' = p.1 ∨ W.heap.size ≤ g') :
    Turned W r (w1.setCell ⟨r.b, 1, none⟩ (.slice (some ⟨g', 0, none⟩) n cap')) { r with kv := some (g', cap'), kids := kids' } := by
  subst hn
  have hbk := h.b_ne_k hkv
  have hb := h.blk r.b (by simp [Rec.blocks])
  have hnode := (hon.block r.b hb hbk).trans h.node
  obtain ⟨rest, hrow, _⟩ := row_of_own hown
  have hbg' : r.b ≠ g' := ne_types hnode hrow (by decide)
  refine ⟨⟨?_, ?_, ?_⟩, rfl, ?_, ?_⟩
  · exact set_node1 hnode
  · exact own_kept h.irow ((set_far _ _ _ _ _ h.b_ne_g.symm).trans (hon.block _ (h.blk _ ((mem_blocks r _).2 (.inr (.inl rfl)))) (h.g_ne_k hkv)))
  · exact own_kept hown (set_far _ _ _ _ _ hbg'.symm)
  · exact (hon.mono (fun k _ hk => by subst hk; exact (mem_blocks r _).2 (.inr (.inr ⟨p, hkv, rfl⟩)))).setCell (.inr ((mem_blocks r _).2 (.inl rfl))) _
  · intro k hk
    rw [mem_blocks] at hk ⊢
    rcases hk with hk | hk | ⟨q, hq, hk⟩
    · exact .inl (.inl hk)
    · exact .inl (.inr (.inl hk))
    · obtain rfl : q = (g', cap') := by simpa using hq.symm
      rcases hg with hg | hg
      · exact .inl (.inr (.inr ⟨p, hkv, hk.trans hg⟩))
      · exact .inr (by rw [hk]; exact hg)

/-- Insert at a node's items, in whatever world in which the node lies and the new item lies in a block of its own -/
theorem insI_at (r : Rec ByteArray) (p B : Nat) (x : It) (W : World) (h : Ok W r) (hp : p ≤ r.items.length) (hn : r.items.length < 1000) (hB : Row W B 62 [.int .i64 x.1, .string x.2]) (hg : B ≠ r.g) :
    Calls Try.prog 39 #[.slice (some ⟨r.g, 0, none⟩) r.items.length r.cap, .int .i64 p, .slice (some ⟨B, 0, none⟩) 1 1] W
      (InsdI r.g r.items.length p (cellsI r.items) [.int .i64 x.1, .string x.2] W) :=
  insI r.g r.items.length r.cap B p (cellsI r.items) [.int .i64 x.1, .string x.2] W (by omega) hp h.irow hB hg rfl (by simp [Value.oneCell']) (cellsI_one _)

set_option maxRecDepth 100000 in
set_option maxHeartbeats 4000000 in
theorem insert_leaf (r : Rec ByteArray) (p : Nat) (x : It) (w : World) (h : Ok w r) (hp : p ≤ r.items.length) (hn : r.items.length < 1000) :
    Calls Try.prog 33 #[ptrV r.b, .int .i64 p, .agg #[.int .i64 x.1, .string x.2], .pointer none] w fun e w' => e = .returned (.tuple #[]) ∧
      ∃ r', Turned w r w' r' ∧ r'.items = r.items.take p ++ x :: r.items.drop p ∧ r'.kids = r.kids ∧ r'.kv = r.kv := by
  have c0 := h.c0
  have hil := h.ilen
  have hlt := h.blk r.g (by simp [Rec.blocks])
  have hltb := h.blk r.b (by simp [Rec.blocks])
  have hb2 : Below w.heap.size w ((w.alloc (.cells #[.int .i64 x.1, .string x.2] 62)).alloc (.cells #[.int .i64 x.1, .string x.2] 62)) := ((Below.refl _ w).alloc (Nat.le_refl _) _).alloc (by simp) _
  have h2 : Ok (((w.alloc (.cells #[.int .i64 x.1, .string x.2] 62)).alloc (.cells #[.int .i64 x.1, .string x.2] 62)).drew) r := h.below hb2.drew
  have cI := insI_at r p (w.heap.size + 1) x _ h2 hp hn (by
    have := heap_alloc_new (w.alloc (.cells #[.int .i64 x.1, .string x.2] 62)) (.cells #[.int .i64 x.1, .string x.2] 62)
    rw [World.size_alloc] at this
    exact this) (by omega)
  unfold Rec.iv at c0
  unfold ptrV
  have hf := h.f 0
  have H2 := Lib.hid h2
  have HB := Lib.hid h.b_ne_g
  have HBW := Lib.hid hb2.drew
  clear h h2 hb2
  go_enter Try.func33, Try.ntmps33
  go_wp2
  go_region_with (first | (go_at_call 39; refine cI.mono ?_; rintro e w1 ⟨g', cap', rfl, hown1, hon1, hg1⟩; have d0 := (World.cell?_of_block (hon1.block r.b (by simp; omega) HB.out) : w1.cell? ⟨r.b, 0, none⟩ = _); have e0 := (World.frozen?_of_block (hon1.block r.b (by simp; omega) HB.out) : w1.frozen? ⟨r.b, 0, none⟩ = _)))
  all_goals
    go_wp2
    go_end0
    refine ⟨rfl, _, Turned.after HBW.out (turned_items H2.out hon1 (by simp; omega) (by rw [cellsI_ins]; exact hown1) hg1), rfl, rfl, rfl⟩

theorem insP_at (r : Rec ByteArray) (q : Int) (p B : Nat) (x : Nat) (f : Nat × Nat) (W : World) (h : Ok W r) (hkv : r.kv = some f) (hq : q = (p : Int)) (hp : p ≤ r.kids.length) (hn : r.kids.length < 1000) (hB : Row W B 40 [ptrV x]) (hg : B ≠ f.1) :
    Calls Try.prog 40 #[.slice (some ⟨f.1, 0, none⟩) r.kids.length f.2, .int .i64 q, .slice (some ⟨B, 0, none⟩) 1 1] W
      (InsdP f.1 r.kids.length p (cellsP r.kids) [ptrV x] W) := by
  subst hq
  have hk := h.krow
  simp only [Rec.kvv, hkv] at hk
  exact insP f.1 r.kids.length f.2 B p (cellsP r.kids) [ptrV x] W (by omega) hp hk hB hg rfl (by simp [Value.oneCell', ptrV]) (cellsP_one _)

set_option maxRecDepth 100000 in
set_option maxHeartbeats 4000000 in
theorem insert_node (r : Rec ByteArray) (p : Nat) (x : It) (rb : Nat) (f : Nat × Nat) (w : World) (h : Ok w r) (hkv : r.kv = some f) (hp : p ≤ r.items.length) (hn : r.items.length < 1000) (hp2 : p + 1 ≤ r.kids.length) (hn2 : r.kids.length < 1000) :
    Calls Try.prog 33 #[ptrV r.b, .int .i64 p, .agg #[.int .i64 x.1, .string x.2], ptrV rb] w fun e w' => e = .returned (.tuple #[]) ∧
      ∃ r', Turned w r w' r' ∧ r'.items = r.items.take p ++ x :: r.items.drop p ∧ r'.kids = r.kids.take (p + 1) ++ rb :: r.kids.drop (p + 1) ∧ r'.kv.isSome = true := by
  have c0 := h.c0
  have hil := h.ilen
  have hlt := h.blk r.g (by simp [Rec.blocks])
  have hltb := h.blk r.b (by simp [Rec.blocks])
  have hltk := h.blk f.1 ((mem_blocks r _).2 (.inr (.inr ⟨f, hkv, rfl⟩)))
  have hb2 : Below w.heap.size w ((w.alloc (.cells #[.int .i64 x.1, .string x.2] 62)).alloc (.cells #[.int .i64 x.1, .string x.2] 62)) := ((Below.refl _ w).alloc (Nat.le_refl _) _).alloc (by simp) _
  have h2 : Ok (((w.alloc (.cells #[.int .i64 x.1, .string x.2] 62)).alloc (.cells #[.int .i64 x.1, .string x.2] 62)).drew) r := h.below hb2.drew
  have cI := insI_at r p (w.heap.size + 1) x _ h2 hp hn (by
    have := heap_alloc_new (w.alloc (.cells #[.int .i64 x.1, .string x.2] 62)) (.cells #[.int .i64 x.1, .string x.2] 62)
    rw [World.size_alloc] at this
    exact this) (by omega)
  unfold Rec.iv at c0
  unfold ptrV
  have hf := h.f 0
  have H2 := Lib.hid h2
  have HB := Lib.hid h.b_ne_g
  have HBW := Lib.hid hb2.drew
  have HKV := Lib.hid hkv
  clear h h2 hb2 hkv
  go_enter Try.func33, Try.ntmps33
  go_wp2
  go_region_with (first | (go_at_call 39; refine cI.mono ?_; rintro e w1 ⟨g', cap', rfl, hown1, hon1, hg1⟩; have d0 := (World.cell?_of_block (hon1.block r.b (by simp; omega) HB.out) : w1.cell? ⟨r.b, 0, none⟩ = _); have e0 := (World.frozen?_of_block (hon1.block r.b (by simp; omega) HB.out) : w1.frozen? ⟨r.b, 0, none⟩ = _)))
  all_goals
    have T1 := Turned.after HBW.out (turned_items (n := r.items.length + 1) (items' := r.items.take p ++ x :: r.items.drop p) H2.out hon1 (by simp; omega) (by rw [cellsI_ins]; exact hown1) hg1)
    obtain ⟨r1, hr1⟩ : ∃ r1 : Rec ByteArray, r1 = { r with g := g', cap := cap', items := r.items.take p ++ x :: r.items.drop p } := ⟨_, rfl⟩
    have hk1 : r1.kv = some f := by rw [hr1]; exact HKV.out
    have hks : r1.kids = r.kids := by rw [hr1]
    have hi1 : r1.items = r.items.take p ++ x :: r.items.drop p := by rw [hr1]
    have hbb : r1.b = r.b := by rw [hr1]
    rw [← hr1] at T1
    have k1 := T1.ok.c1
    have kf := T1.ok.f 1
    simp only [Rec.kvv, hk1, hks, hbb] at k1
    rw [hbb] at kf
    have hszz := T1.only.size
    rw [World.size_setCell] at hszz
    have hB2 : Below (w1.setCell ⟨r.b, 0, none⟩ (.slice (some ⟨g', 0, none⟩) (r.items.length + 1) cap')).heap.size (w1.setCell ⟨r.b, 0, none⟩ (.slice (some ⟨g', 0, none⟩) (r.items.length + 1) cap')) ((w1.setCell ⟨r.b, 0, none⟩ (.slice (some ⟨g', 0, none⟩) (r.items.length + 1) cap')).alloc (.cells #[ptrV rb] 40)) := (Below.refl _ _).alloc (Nat.le_refl _) _
    have cP := insP_at r1 ((p : Int) + 1) (p + 1) w1.heap.size rb f _ (T1.ok.below hB2) hk1 (by omega) (by rw [hks]; exact hp2) (by rw [hks]; exact hn2) (by
      have := heap_alloc_new (w1.setCell ⟨r.b, 0, none⟩ (.slice (some ⟨g', 0, none⟩) (r.items.length + 1) cap')) (.cells #[ptrV rb] 40)
      rw [World.size_setCell] at this
      exact this) (by have := T1.ok.blk f.1 ((mem_blocks r1 _).2 (.inr (.inr ⟨f, hk1, rfl⟩))); rw [World.size_setCell] at this; omega)
    rw [hks] at cP
    unfold ptrV at cP
    have HX := Lib.hid (And.intro hk1 (And.intro hks (And.intro hi1 hbb)))
    have HT := Lib.hid T1
    have HB2 := Lib.hid hB2
    clear T1 hB2 hr1 hk1 hks hi1 hbb
    go_wp2_with (go_at_call 40; refine cP.mono ?_; rintro e w2 ⟨g2, cap2, rfl, hown2, hon2, hg2⟩; have d1 := (World.cell?_of_block (a := ⟨r.b, 1, none⟩) (hon2.block r.b (by simp; omega) (by have := HT.out.ok.b_ne_k HX.out.1; rw [HX.out.2.2.2] at this; exact this))).trans ((HB2.out.cell (p := ⟨r.b, 1, none⟩) (by simp; omega)).trans k1); have e1 := (World.frozen?_of_block (a := ⟨r.b, 1, none⟩) (hon2.block r.b (by simp; omega) (by have := HT.out.ok.b_ne_k HX.out.1; rw [HX.out.2.2.2] at this; exact this))).trans ((HB2.out.frozen (p := ⟨r.b, 1, none⟩) (by simp; omega)).trans kf))
    go_end0
    have T2 := Turned.after (w := w1.setCell ⟨r.b, 0, none⟩ (.slice (some ⟨g', 0, none⟩) (r.items.length + 1) cap')) HB2.out (turned_kids (n := r.kids.length + 1) (kids' := r.kids.take (p + 1) ++ rb :: r.kids.drop (p + 1)) (HT.out.ok.below HB2.out) HX.out.1 hon2 (by simp; omega) (by rw [cellsP_ins]; exact hown2) hg2)
    rw [HX.out.2.2.2] at T2
    exact ⟨rfl, _, HT.out.trans T2, HX.out.2.2.1, rfl, rfl⟩

end Go.Proofs.Ytkhbfjncamobdaa.S
