/- Parting a node of eight items in two. -/
import Derived.Test.YtkhbfjncamobdaaBagNodeS
namespace Go.Proofs.Ytkhbfjncamobdaa.S
open Go.RowKit
set_option linter.unusedVariables false

theorem cellsI_four (l : List It) (h : l.length = 8) : ∃ a b c d x e f g : It, l = [a, b, c, d, x, e, f, g] := by
  match l, h with
  | [a, b, c, d, x, e, f, g], _ => exact ⟨a, b, c, d, x, e, f, g, rfl⟩

theorem no_kids {w : World} {r : Rec ByteArray} (h : Ok w r) (hkv : r.kv = none) : r.kids = [] := by
  have := h.krow
  simp only [Rec.kvv, hkv] at this
  rcases this.2 with ⟨_, h0⟩ | ⟨_, _, _, hh, _⟩
  · exact List.eq_nil_of_length_eq_zero h0
  · cases hh

/-- the two halves, and the item between them -/
structure Parted (w : World) (r : Rec ByteArray) (x : It) (w' : World) (r' rr : Rec ByteArray) : Prop where
  left : Turned w r w' r'
  same : r'.blocks = r.blocks
  right : Ok w' rr
  new : ∀ k, k ∈ rr.blocks → w.heap.size ≤ k
  li : r'.items = r.items.take 4
  mi : r.items[4]? = some x
  ri : rr.items = r.items.drop 5
  lk : r'.kids = r.kids.take 5
  rk : rr.kids = r.kids.drop 5
  lv : r'.kv = r.kv
  rv : rr.kv.isSome = r.kv.isSome

/-- what lies in the middle of a node -/
theorem mid_at (r : Rec ByteArray) (w : World) (h : Ok w r) (hn : r.items.length = 8) : ∃ x : It, r.items[4]? = some x ∧ w.cell? ⟨r.g, 8, none⟩ = some (.int .i64 x.1) ∧ w.cell? ⟨r.g, 9, none⟩ = some (.string x.2) := by
  have : r.items[4]? = some r.items[4] := List.getElem?_eq_getElem (by omega)
  exact ⟨_, this, (h.item this).1, (h.item this).2⟩

theorem cloneI_at (r : Rec ByteArray) (W : World) (h : Ok W r) (hn : r.items.length = 8) (c : Nat) :
    Calls Try.prog 41 #[.slice (some ⟨r.g, 10, none⟩) 3 c] W (ClonedI 3 (cellsI (r.items.drop 5)) W) := by
  refine cloneI ⟨r.g, 10, none⟩ 3 c (cellsI (r.items.drop 5)) W (by omega) (by omega) (by rw [cellsI_length, List.length_drop]; omega) (fun j u hj => ?_) (cellsI_one _) (h.blk r.g (by simp [Rec.blocks]))
  rw [cellsI_drop, List.getElem?_drop] at hj
  have hl : 5 * 2 + j < (cellsI r.items).length := (List.getElem?_eq_some_iff.1 hj).1
  rw [cellsI_length] at hl
  rw [Addr.add_lit]
  exact (h.irow.cellAt _ hl).trans hj

theorem cutI_at (r : Rec ByteArray) (W : World) (h : Ok W r) (hn : r.items.length = 8) :
    Calls Try.prog 35 #[.slice (some ⟨r.g, 0, none⟩) 8 r.cap, .int .i64 4, .int .i64 8] W fun e w' =>
      e = .returned (.slice (some ⟨r.g, 0, none⟩) 4 r.cap) ∧ w'.ownsRow 0 62 2 (.slice (some ⟨r.g, 0, none⟩) 4 r.cap) 4 (cellsI (r.items.take 4)) ∧ Only (fun k => k = r.g) W w' := by
  have hr := h.irow
  unfold Rec.iv at hr
  rw [hn] at hr
  have := delI_some 0 r.g 8 r.cap 4 8 (cellsI r.items) W (by omega) (by omega) (by omega) hr (cellsI_one _)
  refine this.mono ?_
  rintro e w' ⟨he, ho, hon⟩
  refine ⟨he, ?_, hon⟩
  rw [cellsI_take]
  rw [List.drop_eq_nil_of_le (by rw [cellsI_length]; omega), List.append_nil] at ho
  exact ho

theorem neqN (a : Option Addr) (n c : Nat) (w : World) : (binOp .neq 52 (.slice a n c) (.slice none 0 0)).run Try.prog w = .ok (.bool (!a.isNone)) w :=
  run_neq_slice_nil_any w _ _ a n c 0 0 Try.underlying52

theorem own_zero {w : World} {base n size : Nat} {e : TypeId} {v : Value} {xs : List Value} (h : w.ownsRow base e size v n xs) : w.ownsRow 0 e size v n xs :=
  ⟨h.1, h.2.imp id (fun ⟨g, cap, cur, a, _, c⟩ => ⟨g, cap, cur, a, Nat.zero_le _, c⟩)⟩

/-- the end of a call whose result lies in a block of two cells that it laid itself -/
theorem turned_end {w W3 W4 : World} {r r1 : Rec ByteArray} {b : Nat} {u v : Value} (hBW : Below w.heap.size w W3) (T : Turned W3 r W4 r1) (hr : ∀ k, k ∈ r.blocks → k < w.heap.size) (hbl : r1.blocks = r.blocks) (hb : w.heap.size ≤ b) :
    Turned w r ((W4.setCell ⟨b, 0, none⟩ u).setCell ⟨b, 1, none⟩ v) r1 := by
  have hok : Ok ((W4.setCell ⟨b, 0, none⟩ u).setCell ⟨b, 1, none⟩ v) r1 := T.ok.kept fun k hk => by
    rw [hbl] at hk
    have := hr k hk
    exact (set_far _ _ _ _ _ (by omega)).trans (set_far _ _ _ _ _ (by omega))
  exact ⟨hok, T.b, (((Only.of_below hBW).step T.only (fun _ _ h => h)).setCell (.inl hb) u).setCell (.inl hb) v, fun k hk => .inl (hbl ▸ hk)⟩

set_option maxRecDepth 100000 in
set_option maxHeartbeats 4000000 in
theorem part_leaf (r : Rec ByteArray) (w : World) (h : Ok w r) (hn : r.items.length = 8) (hkv : r.kv = none) :
    Calls Try.prog 34 #[ptrV r.b] w fun e w' => ∃ x r' rr, e = .returned (.tuple #[.agg #[.int .i64 x.1, .string x.2], ptrV rr.b]) ∧ Parted w r x w' r' rr := by
  have c0 := h.c0
  have c1 := h.c1
  have hil := h.ilen
  have hltb := h.blk r.b (by simp [Rec.blocks])
  have hltg := h.blk r.g (by simp [Rec.blocks])
  have hf := h.f 0
  unfold Rec.iv at c0
  rw [hn] at c0 hil
  simp only [Rec.kvv, hkv] at c1
  obtain ⟨x, hx, m0, m1⟩ := mid_at r w h hn
  have hq := neqN none 0 0
  have hbA : Below w.heap.size w ((w.alloc (.cells #[.int .i64 0, .string ⟨#[]⟩] 62)).alloc (.cells #[.int .i64 x.1, .string x.2] 62)) := ((Below.refl _ w).alloc (Nat.le_refl _) _).alloc (by simp) _
  have cC := cloneI_at r _ (h.below hbA) hn (r.cap - 5)
  have HX := Lib.hid hx
  have HH := Lib.hid h
  have HN := Lib.hid hn
  have HA := Lib.hid hbA
  have HKV := Lib.hid hkv
  clear h hn hx hbA hkv
  unfold ptrV
  go_enter Try.func34, Try.ntmps34
  go_wp2_with (go_at_call 41; refine cC.mono ?_; rintro e w2 ⟨g2, cap2, rfl, hown2, hB2⟩)
  have hszA : (((w.alloc (.cells #[.int .i64 0, .string ⟨#[]⟩] 62)).alloc (.cells #[.int .i64 x.1, .string x.2] 62))).heap.size = w.heap.size + 2 := by simp
  rw [hszA] at hB2 hown2
  have hz2 := hB2.size
  rw [hszA] at hz2
  have hg2' := hown2.lt g2 rfl
  obtain ⟨W3, hW3⟩ : ∃ W3, w2.alloc (.cells #[.slice (some ⟨g2, 0, none⟩) 3 cap2, .slice none 0 0] 55) = W3 := ⟨_, rfl⟩
  have hB3 : Below (w.heap.size + 2) ((w.alloc (.cells #[.int .i64 0, .string ⟨#[]⟩] 62)).alloc (.cells #[.int .i64 x.1, .string x.2] 62)) W3 := by rw [← hW3]; exact hB2.alloc hz2 _
  have hBW : Below w.heap.size w W3 := HA.out.trans (hB3.mono (by omega))
  have hz3 : W3.heap.size = w2.heap.size + 1 := by rw [← hW3]; simp
  have hk3 := HH.out.below hBW
  have hres : W3.heap[w.heap.size]? = some (.cells #[.int .i64 0, .string ⟨#[]⟩] 62 (0, 0)) := (hB3.block _ (by omega)).trans ((Below.heap_alloc _ _ _ (by simp)).trans (heap_alloc_new w _))
  have hmid : W3.heap[w.heap.size + 1]? = some (.cells #[.int .i64 x.1, .string x.2] 62 (0, 0)) := (hB3.block _ (by omega)).trans (by
    have := heap_alloc_new (w.alloc (.cells #[.int .i64 0, .string ⟨#[]⟩] 62)) (.cells #[.int .i64 x.1, .string x.2] 62)
    rw [World.size_alloc] at this
    exact this)
  have hnew : W3.heap[w2.heap.size]? = some (.cells #[.slice (some ⟨g2, 0, none⟩) 3 cap2, .slice none 0 0] 55 (0, 0)) := by rw [← hW3]; exact heap_alloc_new w2 _
  have hrow3 : W3.ownsRow (w.heap.size + 2) 62 2 (.slice (some ⟨g2, 0, none⟩) 3 cap2) 3 (cellsI (r.items.drop 5)) := by rw [← hW3]; exact hown2.alloc _
  have hg2 := hrow3.lt g2 rfl
  rw [hW3]
  have cD := cutI_at r W3.drew hk3.drew HN.out
  have b0 := hk3.c0
  have b1 := hk3.c1
  unfold Rec.iv at b0
  rw [HN.out] at b0
  simp only [Rec.kvv, HKV.out] at b1
  have bf := hk3.f 0
  have HBG := Lib.hid hk3.b_ne_g
  have hlb3 : r.b < W3.heap.size := by omega
  have HR := Lib.hid hres
  have HM := Lib.hid hmid
  have HNW := Lib.hid hnew
  have HR3 := Lib.hid hrow3
  have HK3 := Lib.hid hk3
  have HBW := Lib.hid hBW
  clear hres hmid hnew hrow3 hk3 hBW hB3 hW3 hszA hB2 hown2 cC
  go_region_with (first | (go_at_call 35; refine cD.mono ?_; rintro e w3 ⟨rfl, hown3, hon3⟩; have d0 := (World.cell?_of_block (a := ⟨r.b, 0, none⟩) (hon3.block r.b hlb3 HBG.out)).trans b0; have e0 := (World.frozen?_of_block (a := ⟨r.b, 0, none⟩) (hon3.block r.b hlb3 HBG.out)).trans bf))
  all_goals
    have T1 := turned_items (n := 4) (items' := r.items.take 4) HK3.out hon3.ofDrew (by rw [List.length_take, HN.out]; rfl) hown3 (.inl rfl)
    obtain ⟨W4, hW4⟩ : ∃ W4, w3.setCell ⟨r.b, 0, none⟩ (.slice (some ⟨r.g, 0, none⟩) 4 r.cap) = W4 := ⟨_, rfl⟩
    rw [hW4] at T1 ⊢
    obtain ⟨r1, hr1⟩ : ∃ r1 : Rec ByteArray, r1 = { r with g := r.g, cap := r.cap, items := r.items.take 4 } := ⟨_, rfl⟩
    rw [← hr1] at T1
    have hr1b : r1.b = r.b := by rw [hr1]
    have hr1i : r1.items = r.items.take 4 := by rw [hr1]
    have hr1k : r1.kids = r.kids := by rw [hr1]
    have hr1v : r1.kv = r.kv := by rw [hr1]
    have hr1bl : r1.blocks = r.blocks := by rw [hr1]; rfl
    have hfar : ∀ k, k < W3.heap.size → k ≠ r.g → k ≠ r.b → W4.heap[k]? = W3.heap[k]? := fun k hk h1 h2 => by rw [← hW4]; exact (set_far _ _ _ _ _ h2).trans (hon3.block k hk h1)
    have hz4 : W3.heap.size ≤ W4.heap.size := by rw [← hW4, World.size_setCell]; exact hon3.size
    have k1 := T1.ok.c1
    simp only [Rec.kvv, hr1v, HKV.out, hr1b] at k1
    have q0 : W4.cell? ⟨w.heap.size + 1, 0, none⟩ = some (.int .i64 x.1) := by rw [cell_of_row W4 _ 0 _ _ _ ((hfar _ (by omega) (by omega) (by omega)).trans HM.out)]; rfl
    have q1 : W4.cell? ⟨w.heap.size + 1, 1, none⟩ = some (.string x.2) := by rw [cell_of_row W4 _ 1 _ _ _ ((hfar _ (by omega) (by omega) (by omega)).trans HM.out)]; rfl
    have hr4 : W4.heap[w.heap.size]? = some (.cells #[.int .i64 0, .string ⟨#[]⟩] 62 (0, 0)) := (hfar _ (by omega) (by omega) (by omega)).trans HR.out
    have u0 : W4.cell? ⟨w.heap.size, 0, none⟩ = some (.int .i64 0) := by rw [cell_of_row W4 _ 0 _ _ _ hr4]; rfl
    have u1 : W4.cell? ⟨w.heap.size, 1, none⟩ = some (.string ⟨#[]⟩) := by rw [cell_of_row W4 _ 1 _ _ _ hr4]; rfl
    have uf : ∀ i, W4.frozen? ⟨w.heap.size, i, none⟩ = false := fun i => by simp [World.frozen?, hr4]
    have uf0 := uf 0
    have uf1 := uf 1
    have HT1 := Lib.hid T1
    have HF := Lib.hid hfar
    have HE := Lib.hid (And.intro hr1b (And.intro hr1i (And.intro hr1k (And.intro hr1v hr1bl))))
    clear T1 hfar hr4 uf hW4 hr1 hr1b hr1i hr1k hr1v hr1bl d0 e0
    go_wp2
    refine bodyPost_ret (v := .tuple #[.agg #[.int .i64 x.1, .string x.2], .pointer (some ⟨w2.heap.size, 0, none⟩)]) (by simp [results, Try.results34, go_sem, u0, u1]) rfl ?_
    refine ⟨x, r1, { b := w2.heap.size, g := g2, cap := cap2, items := r.items.drop 5, kv := none, kids := [] }, rfl, ?_⟩
    obtain ⟨e1, e2, e3, e4, e5⟩ := HE.out
    have hrr := HH.out.blk
    have hl3 : (r.items.drop 5).length = 3 := by rw [List.length_drop, HN.out]
    have far2 : ∀ k, w.heap.size < k → k < W3.heap.size → ((W4.setCell ⟨w.heap.size, 0, none⟩ (.int .i64 x.1)).setCell ⟨w.heap.size, 1, none⟩ (.string x.2)).heap[k]? = W3.heap[k]? := fun k h1 h2 =>
      (set_far _ _ _ _ _ (by omega)).trans ((set_far _ _ _ _ _ (by omega)).trans (HF.out k h2 (by omega) (by omega)))
    refine ⟨turned_end HBW.out HT1.out hrr e5 (Nat.le_refl _), e5, ⟨?_, ?_, ?_⟩, ?_, e2, HX.out, rfl, ?_, ?_, e4, by rw [HKV.out]⟩
    · simp only [Rec.iv, Rec.kvv, hl3]
      exact (far2 _ (by omega) (by omega)).trans HNW.out
    · simp only [Rec.iv, hl3]
      exact own_kept (own_zero HR3.out) (far2 _ (by omega) (by omega))
    · exact ⟨rfl, .inl ⟨rfl, rfl⟩⟩
    · intro k hk
      simp only [Rec.blocks, List.mem_cons, List.not_mem_nil, or_false] at hk
      omega
    · rw [e3, no_kids HH.out HKV.out]; rfl
    · rw [no_kids HH.out HKV.out]; rfl

theorem cloneP_at (r : Rec ByteArray) (f : Nat × Nat) (W : World) (h : Ok W r) (hkv : r.kv = some f) (hn : r.kids.length = 9) (c : Nat) :
    Calls Try.prog 42 #[.slice (some ⟨f.1, 5, none⟩) 4 c] W (ClonedP 4 (cellsP (r.kids.drop 5)) W) := by
  refine cloneP ⟨f.1, 5, none⟩ 4 c (cellsP (r.kids.drop 5)) W (by omega) (by omega) (by simp [cellsP]; omega) (fun j u hj => ?_) (cellsP_one _) (h.blk f.1 ((mem_blocks r _).2 (.inr (.inr ⟨f, hkv, rfl⟩))))
  have hj' : (cellsP r.kids)[5 + j]? = some u := by simpa [cellsP, List.map_drop] using hj
  have hl : 5 + j < (cellsP r.kids).length := (List.getElem?_eq_some_iff.1 hj').1
  have hr := h.krow
  simp only [Rec.kvv, hkv] at hr
  rw [Addr.add_lit]
  exact (hr.cellAt _ (by simp [cellsP] at hl; omega)).trans hj'

theorem cutP_at (r : Rec ByteArray) (f : Nat × Nat) (W : World) (h : Ok W r) (hkv : r.kv = some f) (hn : r.kids.length = 9) :
    Calls Try.prog 43 #[.slice (some ⟨f.1, 0, none⟩) 9 f.2, .int .i64 5, .int .i64 9] W fun e w' =>
      e = .returned (.slice (some ⟨f.1, 0, none⟩) 5 f.2) ∧ w'.ownsRow 0 40 1 (.slice (some ⟨f.1, 0, none⟩) 5 f.2) 5 (cellsP (r.kids.take 5)) ∧ Only (fun k => k = f.1) W w' := by
  have hr := h.krow
  simp only [Rec.kvv, hkv] at hr
  rw [hn] at hr
  have := delP_some 0 f.1 9 f.2 5 9 (cellsP r.kids) W (by omega) (by omega) (by omega) hr (cellsP_one _)
  refine this.mono ?_
  rintro e w' ⟨he, ho, hon⟩
  refine ⟨he, ?_, hon⟩
  rw [List.drop_eq_nil_of_le (by simp [cellsP]; omega), List.append_nil] at ho
  simpa [cellsP, List.map_take] using ho

set_option maxRecDepth 100000 in
set_option maxHeartbeats 4000000 in
theorem part_node (r : Rec ByteArray) (f : Nat × Nat) (w : World) (h : Ok w r) (hn : r.items.length = 8) (hkv : r.kv = some f) (hk9 : r.kids.length = 9) :
    Calls Try.prog 34 #[ptrV r.b] w fun e w' => ∃ x r' rr, e = .returned (.tuple #[.agg #[.int .i64 x.1, .string x.2], ptrV rr.b]) ∧ Parted w r x w' r' rr := by
  have c0 := h.c0
  have c1 := h.c1
  have hil := h.ilen
  have hltb := h.blk r.b (by simp [Rec.blocks])
  have hltg := h.blk r.g (by simp [Rec.blocks])
  have hf := h.f 0
  unfold Rec.iv at c0
  rw [hn] at c0 hil
  simp only [Rec.kvv, hkv, hk9] at c1
  have hkl := h.klen hkv
  rw [hk9] at hkl
  have hltk := h.blk f.1 ((mem_blocks r _).2 (.inr (.inr ⟨f, hkv, rfl⟩)))
  obtain ⟨x, hx, m0, m1⟩ := mid_at r w h hn
  have hq := neqN (some ⟨f.1, 0, none⟩) 9 f.2
  have hbA : Below w.heap.size w ((w.alloc (.cells #[.int .i64 0, .string ⟨#[]⟩] 62)).alloc (.cells #[.int .i64 x.1, .string x.2] 62)) := ((Below.refl _ w).alloc (Nat.le_refl _) _).alloc (by simp) _
  have cC := cloneI_at r _ (h.below hbA) hn (r.cap - 5)
  have HX := Lib.hid hx
  have HH := Lib.hid h
  have HN := Lib.hid hn
  have HA := Lib.hid hbA
  have HKV := Lib.hid hkv
  have HK9 := Lib.hid hk9
  clear h hn hx hbA hkv hk9
  unfold ptrV
  go_enter Try.func34, Try.ntmps34
  go_wp2_with (go_at_call 41; refine cC.mono ?_; rintro e w2 ⟨g2, cap2, rfl, hown2, hB2⟩)
  have hszA : (((w.alloc (.cells #[.int .i64 0, .string ⟨#[]⟩] 62)).alloc (.cells #[.int .i64 x.1, .string x.2] 62))).heap.size = w.heap.size + 2 := by simp
  rw [hszA] at hB2 hown2
  have hz2 := hB2.size
  rw [hszA] at hz2
  have hg2' := hown2.lt g2 rfl
  obtain ⟨W3, hW3⟩ : ∃ W3, w2.alloc (.cells #[.slice (some ⟨g2, 0, none⟩) 3 cap2, .slice none 0 0] 55) = W3 := ⟨_, rfl⟩
  have hB3 : Below (w.heap.size + 2) ((w.alloc (.cells #[.int .i64 0, .string ⟨#[]⟩] 62)).alloc (.cells #[.int .i64 x.1, .string x.2] 62)) W3 := by rw [← hW3]; exact hB2.alloc hz2 _
  have hBW : Below w.heap.size w W3 := HA.out.trans (hB3.mono (by omega))
  have hz3 : W3.heap.size = w2.heap.size + 1 := by rw [← hW3]; simp
  have hk3 := HH.out.below hBW
  have hres : W3.heap[w.heap.size]? = some (.cells #[.int .i64 0, .string ⟨#[]⟩] 62 (0, 0)) := (hB3.block _ (by omega)).trans ((Below.heap_alloc _ _ _ (by simp)).trans (heap_alloc_new w _))
  have hmid : W3.heap[w.heap.size + 1]? = some (.cells #[.int .i64 x.1, .string x.2] 62 (0, 0)) := (hB3.block _ (by omega)).trans (by
    have := heap_alloc_new (w.alloc (.cells #[.int .i64 0, .string ⟨#[]⟩] 62)) (.cells #[.int .i64 x.1, .string x.2] 62)
    rw [World.size_alloc] at this
    exact this)
  have hnew : W3.heap[w2.heap.size]? = some (.cells #[.slice (some ⟨g2, 0, none⟩) 3 cap2, .slice none 0 0] 55 (0, 0)) := by rw [← hW3]; exact heap_alloc_new w2 _
  have hrow3 : W3.ownsRow (w.heap.size + 2) 62 2 (.slice (some ⟨g2, 0, none⟩) 3 cap2) 3 (cellsI (r.items.drop 5)) := by rw [← hW3]; exact hown2.alloc _
  have hg2 := hrow3.lt g2 rfl
  rw [hW3]
  have cD := cutI_at r W3.drew hk3.drew HN.out
  have b0 := hk3.c0
  have b1 := hk3.c1
  unfold Rec.iv at b0
  rw [HN.out] at b0
  simp only [Rec.kvv, HKV.out, HK9.out] at b1
  have bf := hk3.f 0
  have HBG := Lib.hid hk3.b_ne_g
  have hlb3 : r.b < W3.heap.size := by omega
  have HR := Lib.hid hres
  have HM := Lib.hid hmid
  have HNW := Lib.hid hnew
  have HR3 := Lib.hid hrow3
  have HK3 := Lib.hid hk3
  have HBW := Lib.hid hBW
  clear hres hmid hnew hrow3 hk3 hBW hB3 hW3 hszA hB2 hown2 cC
  go_region_with (first | (go_at_call 35; refine cD.mono ?_; rintro e w3 ⟨rfl, hown3, hon3⟩; have d0 := (World.cell?_of_block (a := ⟨r.b, 0, none⟩) (hon3.block r.b hlb3 HBG.out)).trans b0; have e0 := (World.frozen?_of_block (a := ⟨r.b, 0, none⟩) (hon3.block r.b hlb3 HBG.out)).trans bf))
  all_goals
    have T1 := turned_items (n := 4) (items' := r.items.take 4) HK3.out hon3.ofDrew (by rw [List.length_take, HN.out]; rfl) hown3 (.inl rfl)
    obtain ⟨W4, hW4⟩ : ∃ W4, w3.setCell ⟨r.b, 0, none⟩ (.slice (some ⟨r.g, 0, none⟩) 4 r.cap) = W4 := ⟨_, rfl⟩
    rw [hW4] at T1 ⊢
    obtain ⟨r1, hr1⟩ : ∃ r1 : Rec ByteArray, r1 = { r with g := r.g, cap := r.cap, items := r.items.take 4 } := ⟨_, rfl⟩
    rw [← hr1] at T1
    have hr1b : r1.b = r.b := by rw [hr1]
    have hr1i : r1.items = r.items.take 4 := by rw [hr1]
    have hr1k : r1.kids = r.kids := by rw [hr1]
    have hr1v : r1.kv = r.kv := by rw [hr1]
    have hr1bl : r1.blocks = r.blocks := by rw [hr1]; rfl
    have hfar : ∀ k, k < W3.heap.size → k ≠ r.g → k ≠ r.b → W4.heap[k]? = W3.heap[k]? := fun k hk h1 h2 => by rw [← hW4]; exact (set_far _ _ _ _ _ h2).trans (hon3.block k hk h1)
    have hz4 : W3.heap.size ≤ W4.heap.size := by rw [← hW4, World.size_setCell]; exact hon3.size
    have k1 := T1.ok.c1
    simp only [Rec.kvv, hr1v, HKV.out, hr1b, hr1k, HK9.out] at k1
    have q0 : W4.cell? ⟨w.heap.size + 1, 0, none⟩ = some (.int .i64 x.1) := by rw [cell_of_row W4 _ 0 _ _ _ ((hfar _ (by omega) (by omega) (by omega)).trans HM.out)]; rfl
    have q1 : W4.cell? ⟨w.heap.size + 1, 1, none⟩ = some (.string x.2) := by rw [cell_of_row W4 _ 1 _ _ _ ((hfar _ (by omega) (by omega) (by omega)).trans HM.out)]; rfl
    have hr4 : W4.heap[w.heap.size]? = some (.cells #[.int .i64 0, .string ⟨#[]⟩] 62 (0, 0)) := (hfar _ (by omega) (by omega) (by omega)).trans HR.out
    have u0 : W4.cell? ⟨w.heap.size, 0, none⟩ = some (.int .i64 0) := by rw [cell_of_row W4 _ 0 _ _ _ hr4]; rfl
    have u1 : W4.cell? ⟨w.heap.size, 1, none⟩ = some (.string ⟨#[]⟩) := by rw [cell_of_row W4 _ 1 _ _ _ hr4]; rfl
    have uf : ∀ i, W4.frozen? ⟨w.heap.size, i, none⟩ = false := fun i => by simp [World.frozen?, hr4]
    have uf0 := uf 0
    have uf1 := uf 1
    have hnew4 : W4.heap[w2.heap.size]? = some (.cells #[.slice (some ⟨g2, 0, none⟩) 3 cap2, .slice none 0 0] 55 (0, 0)) := (hfar _ (by omega) (by omega) (by omega)).trans HNW.out
    have hrow4 := own_kept HR3.out (hfar g2 (by omega) (by omega) (by omega))
    have cK := cloneP_at r1 f W4 T1.ok (hr1v.trans HKV.out) (by rw [hr1k]; exact HK9.out) (f.2 - 5)
    rw [hr1k] at cK
    have HV : Hid (∀ w5 : World, Below W4.heap.size W4 w5 → w5.cell? ⟨w2.heap.size, 1, none⟩ = some (.slice none 0 0) ∧ w5.frozen? ⟨w2.heap.size, 1, none⟩ = false) := fun w5 hB5 => by
      have h5 := (hB5.block w2.heap.size (by omega)).trans hnew4
      exact ⟨by rw [cell_of_row w5 _ 1 _ _ _ h5]; rfl, by simp [World.frozen?, h5]⟩
    have HT1 := Lib.hid T1
    have HF := Lib.hid hfar
    have HE := Lib.hid (And.intro hr1b (And.intro hr1i (And.intro hr1k (And.intro hr1v hr1bl))))
    have HR4 := Lib.hid hr4
    have HN4 := Lib.hid hnew4
    have HR44 := Lib.hid hrow4
    clear T1 hfar hr4 uf hW4 hr1 hr1b hr1i hr1k hr1v hr1bl d0 e0 hnew4 hrow4 u0 u1 uf0 uf1 q0 q1
    go_wp2_with (go_at_call 42; refine cK.mono ?_; rintro e w5 ⟨g5, cap5, rfl, hown5, hB5⟩; obtain ⟨v1, vf⟩ := HV.out _ hB5)
    have hN5 := set_node1 (v' := .slice (some ⟨g5, 0, none⟩) 4 cap5) ((hB5.block _ (by omega)).trans HN4.out)
    have hown5' := own_kept (own_zero hown5) (set_far w5 w2.heap.size 1 g5 (.slice (some ⟨g5, 0, none⟩) 4 cap5) (by have := hown5.lt g5 rfl; omega))
    have hg5 := hown5.lt g5 rfl
    have hz5 := hB5.size
    have hon6 : Only (fun k => k = w2.heap.size) W4 (w5.setCell ⟨w2.heap.size, 1, none⟩ (.slice (some ⟨g5, 0, none⟩) 4 cap5)) := Only.setCell (S := fun k => k = w2.heap.size) (p := ⟨w2.heap.size, 1, none⟩) (Only.of_below hB5) (.inr rfl) _
    have hz6 : (w5.setCell ⟨w2.heap.size, 1, none⟩ (.slice (some ⟨g5, 0, none⟩) 4 cap5)).heap.size = w5.heap.size := World.size_setCell ..
    obtain ⟨W6, hW6⟩ : ∃ W6, w5.setCell ⟨w2.heap.size, 1, none⟩ (.slice (some ⟨g5, 0, none⟩) 4 cap5) = W6 := ⟨_, rfl⟩
    rw [hW6] at hN5 hown5' hon6 hz6 ⊢
    have hrr := HH.out.blk
    have hk6 : Ok W6 r1 := HT1.out.ok.only hon6 (fun k hk he => by rw [HE.out.2.2.2.2] at hk; have := hrr k hk; omega)
    have cD2 := cutP_at r1 f W6.drew hk6.drew (HE.out.2.2.2.1.trans HKV.out) (by rw [HE.out.2.2.1]; exact HK9.out)
    rw [HE.out.2.2.1] at cD2
    have b61 := hk6.c1
    simp only [Rec.kvv, HE.out.1, HE.out.2.2.1, HE.out.2.2.2.1, HKV.out, HK9.out] at b61
    have bf1 := hk6.f 1
    rw [HE.out.1] at bf1
    have HBK : Hid (r.b ≠ f.1) := by have := hk6.b_ne_k (HE.out.2.2.2.1.trans HKV.out); rw [HE.out.1] at this; exact this
    have hlb6 : r.b < W6.heap.size := by omega
    have HN6 := Lib.hid hN5
    have HO6 := Lib.hid hown5'
    have HON6 := Lib.hid hon6
    have HK6 := Lib.hid hk6
    clear hW6 hN5 hown5' hon6 hk6 v1 vf hown5 hB5 k1 cK
    go_region_with (first | (go_at_call 43; refine cD2.mono ?_; rintro e w7 ⟨rfl, hown7, hon7⟩; have d1 := (World.cell?_of_block (a := ⟨r.b, 1, none⟩) (hon7.block r.b hlb6 HBK.out)).trans b61; have e1 := (World.frozen?_of_block (a := ⟨r.b, 1, none⟩) (hon7.block r.b hlb6 HBK.out)).trans bf1))
    all_goals
      have T2 := turned_kids (n := 5) (kids' := r.kids.take 5) HK6.out (HE.out.2.2.2.1.trans HKV.out) hon7.ofDrew (by rw [List.length_take, HK9.out]; rfl) hown7 (.inl rfl)
      obtain ⟨r2, hr2⟩ : ∃ r2 : Rec ByteArray, r2 = { r1 with kv := some (f.1, f.2), kids := r.kids.take 5 } := ⟨_, rfl⟩
      rw [← hr2, HE.out.1] at T2
      have HR2 := Lib.hid hr2
      clear hr2
      obtain ⟨W8, hW8⟩ : ∃ W8, w7.setCell ⟨r.b, 1, none⟩ (.slice (some ⟨f.1, 0, none⟩) 5 f.2) = W8 := ⟨_, rfl⟩
      rw [hW8] at T2 ⊢
      have hfar8 : ∀ k, k < W6.heap.size → k ≠ f.1 → k ≠ r.b → W8.heap[k]? = W6.heap[k]? := fun k hk h1 h2 => by rw [← hW8]; exact (set_far _ _ _ _ _ h2).trans (hon7.block k hk h1)
      have hz8 : W6.heap.size ≤ W8.heap.size := by rw [← hW8, World.size_setCell]; exact hon7.size
      have hm8 : W8.heap[w.heap.size + 1]? = some (.cells #[.int .i64 x.1, .string x.2] 62 (0, 0)) := (hfar8 _ (by omega) (by omega) (by omega)).trans ((HON6.out.block _ (by omega) (by omega)).trans ((HF.out _ (by omega) (by omega) (by omega)).trans HM.out))
      have hr8 : W8.heap[w.heap.size]? = some (.cells #[.int .i64 0, .string ⟨#[]⟩] 62 (0, 0)) := (hfar8 _ (by omega) (by omega) (by omega)).trans ((HON6.out.block _ (by omega) (by omega)).trans HR4.out)
      have q0 : W8.cell? ⟨w.heap.size + 1, 0, none⟩ = some (.int .i64 x.1) := by rw [cell_of_row W8 _ 0 _ _ _ hm8]; rfl
      have q1 : W8.cell? ⟨w.heap.size + 1, 1, none⟩ = some (.string x.2) := by rw [cell_of_row W8 _ 1 _ _ _ hm8]; rfl
      have u0 : W8.cell? ⟨w.heap.size, 0, none⟩ = some (.int .i64 0) := by rw [cell_of_row W8 _ 0 _ _ _ hr8]; rfl
      have u1 : W8.cell? ⟨w.heap.size, 1, none⟩ = some (.string ⟨#[]⟩) := by rw [cell_of_row W8 _ 1 _ _ _ hr8]; rfl
      have uf : ∀ i, W8.frozen? ⟨w.heap.size, i, none⟩ = false := fun i => by simp [World.frozen?, hr8]
      have uf0 := uf 0
      have uf1 := uf 1
      have HF8 := Lib.hid hfar8
      have HT2 := Lib.hid T2
      clear hfar8 hm8 hr8 uf T2 hW8 d1 e1
      go_wp2
      refine bodyPost_ret (v := .tuple #[.agg #[.int .i64 x.1, .string x.2], .pointer (some ⟨w2.heap.size, 0, none⟩)]) (by simp [results, Try.results34, go_sem, u0, u1]) rfl ?_
      obtain ⟨e1, e2, e3, e4, e5⟩ := HE.out
      refine ⟨x, r2, { b := w2.heap.size, g := g2, cap := cap2, items := r.items.drop 5, kv := some (g5, cap5), kids := r.kids.drop 5 }, rfl, ?_⟩
      have hl3 : (r.items.drop 5).length = 3 := by rw [List.length_drop, HN.out]
      have hl4 : (r.kids.drop 5).length = 4 := by rw [List.length_drop, HK9.out]
      have far6 : ∀ k, w.heap.size < k → k < W6.heap.size → ((W8.setCell ⟨w.heap.size, 0, none⟩ (.int .i64 x.1)).setCell ⟨w.heap.size, 1, none⟩ (.string x.2)).heap[k]? = W6.heap[k]? := fun k h1 h2 =>
        (set_far _ _ _ _ _ (by omega)).trans ((set_far _ _ _ _ _ (by omega)).trans (HF8.out k h2 (by omega) (by omega)))
      have hbl : r2.blocks = r.blocks := by
        rw [← e5, HR2.out]
        simp only [Rec.blocks, e4, HKV.out]
      have honly : Only (fun k => k ∈ r.blocks) w ((W8.setCell ⟨w.heap.size, 0, none⟩ (.int .i64 x.1)).setCell ⟨w.heap.size, 1, none⟩ (.string x.2)) :=
        Only.setCell (p := ⟨w.heap.size, 1, none⟩) (Only.setCell (p := ⟨w.heap.size, 0, none⟩) ((((Only.of_below (S := fun k => k ∈ r.blocks) HBW.out).step HT1.out.only (fun _ _ h => h)).step HON6.out (fun i hi he => by omega)).step HT2.out.only (fun i hi h => by rw [e5] at h; exact h)) (.inl (Nat.le_refl _)) _) (.inl (Nat.le_refl _)) _
      refine ⟨⟨?_, by rw [HR2.out]; exact e1, honly, fun k hk => .inl (hbl ▸ hk)⟩, hbl, ⟨?_, ?_, ?_⟩, ?_, by rw [HR2.out]; exact e2, HX.out, rfl, by rw [HR2.out], rfl, by rw [HR2.out]; exact HKV.out.symm, by rw [HKV.out]; rfl⟩
      · exact HT2.out.ok.kept fun k hk => by
          rw [hbl] at hk
          have := hrr k hk
          exact (set_far _ _ _ _ _ (by omega)).trans (set_far _ _ _ _ _ (by omega))
      · simp only [Rec.iv, Rec.kvv, hl3, hl4]
        exact (far6 _ (by omega) (by omega)).trans HN6.out
      · simp only [Rec.iv, hl3]
        exact own_kept (own_zero HR44.out) ((far6 _ (by omega) (by omega)).trans (HON6.out.block _ (by omega) (by omega)))
      · simp only [Rec.kvv, hl4]
        exact own_kept HO6.out (far6 _ (by omega) (by omega))
      · intro k hk
        simp only [Rec.blocks, List.mem_cons, List.not_mem_nil, or_false] at hk
        omega

end Go.Proofs.Ytkhbfjncamobdaa.S
