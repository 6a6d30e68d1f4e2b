/- The library's Clone and Insert on a slice that lies in a block of its own: what is copied, and where one element more stands. The library's Clone and Insert on a slice that lies in a block of its own: what is copied, and where one element more stands. -/
import Derived.Test.YtkhbfjncamobdaaBagPkCS
namespace Go.Proofs.Ytkhbfjncamobdaa.S
open Go.RowKit
set_option linter.unusedVariables false

def ClonedI (m : Nat) (news : List Value) (w : World) (e : Ending) (w' : World) : Prop :=
  ∃ g cap, e = .returned (.slice (some ⟨g, 0, none⟩) m cap) ∧ w'.ownsRow w.heap.size 62 2 (.slice (some ⟨g, 0, none⟩) m cap) m news ∧ Below w.heap.size w w'

theorem eqlNI (a : Option Addr) (n c : Nat) (w : World) : (binOp .eql 53 (.slice a n c) (.slice none 0 0)).run Try.prog w = .ok (.bool a.isNone) w :=
  Lib.run_eql_slice_nil w _ _ a n c 0 0 Try.underlying53

set_option maxRecDepth 100000 in
set_option maxHeartbeats 1000000 in
theorem cloneI (a : Addr) (m c : Nat) (news : List Value) (w : World) (hm : 0 < m) (hm2 : m < 1000000) (hl : news.length = m * 2) (hsrc : ∀ j u, news[j]? = some u → w.cell? (a.add j) = some u) (h1 : ∀ v ∈ news, v.oneCell' = true) (ha : a.block < w.heap.size) :
    Calls Try.prog 41 #[.slice (some a) m c] w (ClonedI m news w) := by
  obtain ⟨i0, hi0, hz0, hz1, hz2⟩ := info_parts infoI
  have hq := eqlNI (some a) m c
  have hmade : (w.alloc (.cells #[] 62)).ownsRow w.heap.size 62 2 (.slice (some ⟨w.heap.size, 0, none⟩) 0 0) 0 [] := World.ownsRow_made w #[] 0 (Nat.le_refl _) (Nat.zero_le _) (by simp)
  have HS : Hid (∀ j u, news[j]? = some u → (w.alloc (.cells #[] 62)).cell? (a.add j) = some u) := fun j u hj => by
    have := hsrc j u hj
    exact (World.cell?_alloc_lt w _ _ (by rw [block_add]; exact ha)).trans this
  have HL := Lib.hid hl
  have HZ := Lib.hid hz0
  clear hl hsrc
  go_enter Try.func41, Try.ntmps41
  go_wp2_with (at_builtin; refine wpList_append_lies _ rfl _ _ 53 rfl w.heap.size 62 i0 (.agg #[.int .i64 0, .string ⟨#[]⟩]) 2 24 Try.underlying53 hi0 hz0 hz1 hz2 rfl (by decide) (.slice (some ⟨w.heap.size, 0, none⟩) 0 0) 0 [] rfl hmade a m c news rfl HL.out HS.out h1 hm (by unfold maxLen; omega) (by omega) (by simp) _ rfl ?_; intro g cap w1 hown1 hgrow hat hlt; simp only [Nat.zero_add, List.nil_append] at hown1)
  go_ret
  refine ⟨g, cap, by simp, hown1, ((Below.refl _ w).alloc (Nat.le_refl _) _).grown hgrow (by simp) (fun k hk => by simp [Value.ownBlock] at hk; omega)⟩

def InsdI (g n i : Nat) (xs news : List Value) (w : World) (e : Ending) (w' : World) : Prop :=
  ∃ g' cap', e = .returned (.slice (some ⟨g', 0, none⟩) (n + 1) cap') ∧ w'.ownsRow 0 62 2 (.slice (some ⟨g', 0, none⟩) (n + 1) cap') (n + 1) (xs.take (i * 2) ++ news ++ xs.drop (i * 2)) ∧ Only (fun k => k = g) w w' ∧ (g' = g ∨ w.heap.size ≤ g')

set_option maxRecDepth 100000 in
set_option maxHeartbeats 1000000 in
theorem insI_end (g n c B : Nat) (xs news : List Value) (w : World) (hn : n < 1000000) (hown : w.ownsRow 0 62 2 (.slice (some ⟨g, 0, none⟩) n c) n xs) (hB : Row w B 62 news) (hl : news.length = 2) (h1 : ∀ v ∈ news, v.oneCell' = true) :
    Calls Try.prog 39 #[.slice (some ⟨g, 0, none⟩) n c, .int .i64 n, .slice (some ⟨B, 0, none⟩) 1 1] w (InsdI g n n xs news w) := by
  obtain ⟨i0, hi0, hz0, hz1, hz2⟩ := info_parts infoI
  obtain ⟨rest, _, _, hnc, hcm, hxl, _⟩ := row_of_own hown
  unfold maxLen at hcm
  have hsrc := World.news_of_block hB
  simp only [] at hsrc
  have HX := Lib.hid hxl
  have HN : Hid (news.length = 1 * 2) := by unfold Hid; omega
  clear hxl hl
  go_enter Try.func39, Try.ntmps39
  go_wp2_with (at_builtin; refine wpList_append_lies _ rfl _ _ 53 rfl 0 62 i0 (.agg #[.int .i64 0, .string ⟨#[]⟩]) 2 24 Try.underlying53 hi0 hz0 hz1 hz2 rfl (by decide) (.slice (some ⟨g, 0, none⟩) n c) n xs rfl hown ⟨B, 0, none⟩ 1 1 news rfl HN.out hsrc h1 (by omega) (by unfold maxLen; omega) (by omega) (by simp) _ rfl ?_; intro g' cap w1 hown1 hgrow hat hlt)
  all_goals
    go_ret
    refine ⟨g', cap, rfl, ?_, (Only.refl _ w).grown hgrow (fun r e => .inr (by cases e; rfl)), ?_⟩
    · rw [List.take_of_length_le (by rw [HX.out]; omega), List.drop_eq_nil_of_le (by rw [HX.out]; omega), List.append_nil]
      exact hown1
    · rcases hat with h | h
      · exact .inl (by simpa [Value.ownBlock] using h.symm)
      · exact .inr (by omega)

set_option maxRecDepth 100000 in
set_option maxHeartbeats 2000000 in
theorem insI_room (g n c B i : Nat) (xs news : List Value) (w : World) (hn : n < 1000000) (hi : i < n) (hroom : n + 1 ≤ c) (hown : w.ownsRow 0 62 2 (.slice (some ⟨g, 0, none⟩) n c) n xs) (hB : Row w B 62 news) (hBg : B ≠ g) (hl : news.length = 2) (h1 : ∀ v ∈ news, v.oneCell' = true) (hx1 : ∀ v ∈ xs, v.oneCell' = true) :
    Calls Try.prog 39 #[.slice (some ⟨g, 0, none⟩) n c, .int .i64 i, .slice (some ⟨B, 0, none⟩) 1 1] w (InsdI g n i xs news w) := by
  obtain ⟨i0, hi0, hz0, hz1, hz2⟩ := info_parts infoI
  obtain ⟨rest, hrow, hlen, hnc, hcm, hxl, _⟩ := row_of_own hown
  unfold maxLen at hcm
  have hne : ((i : Int) == (n : Int)) = false := by simp; omega
  have hne2 : ¬ ((i : Int) = (n : Int)) := by omega
  have hci1 : ¬ (c = i + 1) := by omega
  have hci : ¬ (c = i) := by omega
  have hdl : (xs.drop (i * 2)).length = (n - i) * 2 := by rw [List.length_drop, hxl]; omega
  have hov : ∀ lb cb, (callFunc 49 #[.slice (some ⟨B, 0, none⟩) 1 1, .slice (some ⟨g, (i + 1) * 2, none⟩) lb cb]).run Try.prog w = .ok (.value (.bool false)) w := fun lb cb => by
    rw [run_callFunc_extern Try.func49 (by kernel_rfl) (by kernel_rfl) (by kernel_rfl) (e := Extern.SlicesOverlaps.overlaps #[53, 53] #[4]) (by kernel_rfl),
      Lib.run_overlaps_apart w 53 4 62 Try.underlying53 2 (fun w => by kernel_rfl) ⟨B, 0, none⟩ ⟨g, (i + 1) * 2, none⟩ 1 1 lb cb hBg 62 62 news.length (xs ++ rest).length (hB.shape) (hrow.shape) (by rw [hlen]; omega) (hB.frozen _) (hB.frozen _)]
    rfl
  have hmin : Nat.min (n + 1 - i) (n - i) = n - i := by show min _ _ = _; omega
  have hmin2 : Nat.min 1 (n + 1 - i) = 1 := by show min _ _ = _; omega
  obtain ⟨cur1, hcur1⟩ : ∃ cur1, splice (xs ++ rest) ((i + 1) * 2) (xs.drop (i * 2)) = cur1 := ⟨_, rfl⟩
  have hc1l : cur1.length = c * 2 := by rw [← hcur1, length_splice _ _ _ (by rw [hdl, hlen]; omega), hlen]
  have hcp1 : ∀ ty dc sc, (Builtin.copy_ #[53, 53] ty #[.slice (some ⟨g, (i + 1) * 2, none⟩) (n - i) dc, .slice (some ⟨g, i * 2, none⟩) (n + 1 - i) sc]).run Try.prog w.drew = .ok (goInt ((n - i : Nat) : Int)) (w.drew.setRow g cur1.toArray) := fun ty dc sc => by
    have := run_copyR (P := Try.prog) w.drew 53 53 ty 62 i0 2 Try.underlying53 hi0 hz1 g ((i + 1) * 2) (n - i) dc ⟨g, i * 2, none⟩ (n + 1 - i) sc (xs ++ rest) 62 (xs.drop (i * 2)) hrow (by rw [hdl, hmin]) (fun k u hk => by
      have hkl := (List.getElem?_eq_some_iff.1 hk).1
      rw [hdl] at hkl
      rw [Addr.add_lit]
      show w.cell? _ = _
      rw [hrow.at_, List.getElem?_append_left (by omega)]
      rwa [List.getElem?_drop] at hk) (by rw [hdl, hlen]; omega) (fun u hu => hx1 u (List.mem_of_mem_drop hu))
    rw [hmin, hcur1] at this
    exact this
  obtain ⟨W1, hW1⟩ : ∃ W1, w.drew.setRow g cur1.toArray = W1 := ⟨_, rfl⟩
  have hrow1 : Row W1 g 62 cur1 := by rw [← hW1]; exact Row.set (w := w.drew) hrow cur1
  have hB1 : Row W1 B 62 news := by rw [← hW1]; exact Row.of_heap (w := w.drew) hB (setRow_other w.drew g B _ hBg)
  have hon1 : Only (fun k => k = g) w W1 := by rw [← hW1]; exact ((Only.refl _ w).drew).grown (grown_setRow w.drew g _) (fun r e => .inr (by cases e; rfl))
  rw [hW1] at hcp1
  obtain ⟨cur2, hcur2⟩ : ∃ cur2, splice cur1 (i * 2) news = cur2 := ⟨_, rfl⟩
  have hc2l : cur2.length = c * 2 := by rw [← hcur2, length_splice _ _ _ (by rw [hc1l, hl]; omega), hc1l]
  have hcp2 : ∀ ty dc, (Builtin.copy_ #[53, 53] ty #[.slice (some ⟨g, i * 2, none⟩) (n + 1 - i) dc, .slice (some ⟨B, 0, none⟩) 1 1]).run Try.prog W1 = .ok (goInt 1) (W1.setRow g cur2.toArray) := fun ty dc => by
    have := run_copyR (P := Try.prog) W1 53 53 ty 62 i0 2 Try.underlying53 hi0 hz1 g (i * 2) (n + 1 - i) dc ⟨B, 0, none⟩ 1 1 cur1 62 news hrow1 (by rw [hl, hmin2, Nat.one_mul]) (World.news_of_block hB1) (by rw [hl, hc1l]; omega) h1
    rw [hmin2, hcur2] at this
    exact this
  obtain ⟨W2, hW2⟩ : ∃ W2, W1.setRow g cur2.toArray = W2 := ⟨_, rfl⟩
  have hrow2 : Row W2 g 62 cur2 := by rw [← hW2]; exact hrow1.set cur2
  have hon2 : Only (fun k => k = g) w W2 := by rw [← hW2]; exact hon1.grown (grown_setRow W1 g _) (fun r e => .inr (by cases e; rfl))
  rw [hW2] at hcp2
  have hfin : cur2.take ((n + 1) * 2) = xs.take (i * 2) ++ news ++ xs.drop (i * 2) := by
    rw [← hcur2, ← hcur1]
    exact splice_ins xs rest news i n 2 hxl (by omega) hl (by simp only [List.length_append] at hlen; omega)
  have hown2 : W2.ownsRow 0 62 2 (.slice (some ⟨g, 0, none⟩) (n + 1) c) (n + 1) (xs.take (i * 2) ++ news ++ xs.drop (i * 2)) := by
    have h := List.take_append_drop ((n + 1) * 2) cur2
    rw [hfin] at h
    rw [← h] at hrow2 hc2l
    exact own_of_row hrow2 hc2l (by omega) (by unfold maxLen; omega) (by simp only [List.length_append, List.length_take, List.length_drop]; omega) (Nat.zero_le _)
  have H1 := Lib.hid hcp1
  have H2 := Lib.hid hcp2
  clear hcur1 hW1 hrow1 hon1 hcur2 hfin hW2 hrow2 hc2l hc1l hcp1 hcp2 hi0 hz0 hz1 hz2 hown hdl hxl hlen hrow hB hB1 hl h1 hx1
  clear hmin hmin2
  have hw1 : IntKind.i64.wrap ((i : Int) + 1) = (i : Int) + 1 := by rw [IntKind.wrap_i64]; omega
  have hb1 : (0 : Int) ≤ (i : Int) + 1 := by omega
  have hin : i ≤ n := by omega
  have htn : ((i : Int) + 1).toNat = i + 1 := by omega
  have hb3 : (i : Int) ≤ (n : Int) + 1 := by omega
  have hb5 : (i : Int) + 1 ≤ (n : Int) + 1 := by omega
  have hsub : n + 1 - (i + 1) = n - i := by omega
  go_enter Try.func39, Try.ntmps39
  go_wp2_with (simp only [hov])
  go_region_law (refine step_copyR rfl _ _ 53 53 rfl (.slice (some ⟨g, (i + 1) * 2, none⟩) (n - i) (c - (i + 1))) (.slice (some ⟨g, i * 2, none⟩) (n + 1 - i) (c - i)) (by simp [Act.eval, Act.put]) (by simp [Act.eval, Act.put]) (H1.out _ _ _) ?_)
  go_wp2_with (refine wpList_copyR _ rfl _ _ 53 53 rfl _ _ rfl rfl (H2.out _ _) ?_)
  go_ret
  exact ⟨g, c, rfl, hown2, hon2, .inl rfl⟩

set_option maxRecDepth 100000 in
set_option maxHeartbeats 4000000 in
theorem insI_grow (g n c B i : Nat) (xs news : List Value) (w : World) (hn : n < 1000000) (hi : i < n) (hroom : c < n + 1) (hown : w.ownsRow 0 62 2 (.slice (some ⟨g, 0, none⟩) n c) n xs) (hB : Row w B 62 news) (hBg : B ≠ g) (hl : news.length = 2) (h1 : ∀ v ∈ news, v.oneCell' = true) (hx1 : ∀ v ∈ xs, v.oneCell' = true) :
    Calls Try.prog 39 #[.slice (some ⟨g, 0, none⟩) n c, .int .i64 i, .slice (some ⟨B, 0, none⟩) 1 1] w (InsdI g n i xs news w) := by
  obtain ⟨i0, hi0, hz0, hz1, hz2⟩ := info_parts infoI
  obtain ⟨rest, hrow, hlen, hnc, hcm, hxl, _⟩ := row_of_own hown
  unfold maxLen at hcm
  have hgw := hrow.lt
  have hBw := hB.lt
  have hne : ((i : Int) == (n : Int)) = false := by simp; omega
  have hne2 : ¬ ((i : Int) = (n : Int)) := by omega
  have hdl : (xs.drop (i * 2)).length = (n - i) * 2 := by rw [List.length_drop, hxl]; omega
  have htl : (xs.take (i * 2)).length = i * 2 := by rw [List.length_take, hxl]; omega
  have hold : (Builtin.firstCells i0.size i (.slice (some ⟨g, 0, none⟩) i c)).run Try.prog w.drew = .ok (xs.take (i * 2)).toArray w.drew := by
    rw [hz1]
    refine run_firstCells_some w.drew 2 i ⟨g, 0, none⟩ i c (xs.take (i * 2)) htl (fun j v hj => ?_)
    rw [Addr.add_lit]
    show w.cell? _ = _
    rw [List.getElem?_take] at hj
    split at hj
    · rw [hrow.at_, List.getElem?_append_left (by omega), Nat.zero_add]; exact hj
    · cases hj
  obtain ⟨G, hG⟩ : ∃ G, grownCap w (n + 1) c 62 = G := ⟨_, rfl⟩
  have hGn : n + 1 ≤ G := by rw [← hG]; exact grownCap_ge w _ _ _
  have hG63 : G ≤ 9223372036854775807 := by
    have := grownCap_le_maxLen w (n + 1) c 62 (by unfold maxLen; omega)
    rw [hG] at this
    unfold maxLen at this
    omega
  obtain ⟨row0, hrow0⟩ : ∃ row0 : Array Value, (xs.take (i * 2)).toArray ++ Builtin.zeroCells (Value.cells (.agg #[.int .i64 0, .string ⟨#[]⟩])) (n + 1 - i) ++ Builtin.zeroCells (Value.cells (.agg #[.int .i64 0, .string ⟨#[]⟩])) (G - (n + 1)) = row0 := ⟨_, rfl⟩
  have hr0l : row0.size = G * 2 := by
    rw [← hrow0]
    simp only [Array.size_append, List.size_toArray, size_zeroCells, htl]
    simp [Value.cells]
    omega
  have hr0ll : row0.toList.length = G * 2 := by rw [Array.length_toList, hr0l]
  have hr0t : row0.toList.take (i * 2) = xs.take (i * 2) := by
    rw [← hrow0]
    simp only [Array.toList_append, List.append_assoc]
    rw [List.take_append_of_le_length (by omega), List.take_of_length_le (by omega)]
  have hrz : ∀ ty, (Builtin.append_ #[53, 3] ty #[.slice (some ⟨g, 0, none⟩) i c, .int .i64 ((n : Int) + 1 - (i : Int))]).run Try.prog w = .ok (.slice (some ⟨w.heap.size, 0, none⟩) (n + 1) G) (w.drew.alloc (.cells row0 62)) := fun ty => by
    have h := Lib.run_append_grow_zeros w 53 3 ty 62 i0 _ .i64 .i64 Try.underlying53 Try.underlying3 hi0 hz0 (some ⟨g, 0, none⟩) i c (xs.take (i * 2)) hold (n + 1 - i) (by omega) (by omega) (by omega) (by omega) (by rw [hz2]; omega) (by rw [hz2, show i + (n + 1 - i) = n + 1 from by omega]; exact growslice_fits hroom (by omega))
    rw [show i + (n + 1 - i) = n + 1 from by omega, hG, hrow0] at h
    rw [show (n : Int) + 1 - (i : Int) = ((n + 1 - i : Nat) : Int) from by omega]
    exact h
  obtain ⟨W0, hW0⟩ : ∃ W0, w.drew.alloc (.cells row0 62) = W0 := ⟨_, rfl⟩
  have hrow1 : Row W0 w.heap.size 62 row0.toList := by
    rw [← hW0]
    have := heap_alloc_new w.drew (.cells row0 62)
    show _ = _
    simpa using this
  have hg0 : Row W0 g 62 (xs ++ rest) := by rw [← hW0]; exact Row.of_heap (w := w.drew) hrow (Below.heap_alloc w.drew _ g hgw)
  have hB0 : Row W0 B 62 news := by rw [← hW0]; exact Row.of_heap (w := w.drew) hB (Below.heap_alloc w.drew _ B hBw)
  have hon0 : Only (fun k => k = g) w W0 := by rw [← hW0]; exact ((Only.refl _ w).drew).alloc _
  rw [hW0] at hrz
  have hmin : Nat.min (n - i) (n - i) = n - i := by show min _ _ = _; omega
  have hmin2 : Nat.min 1 (n + 1 - i) = 1 := by show min _ _ = _; omega
  obtain ⟨cur1, hcur1⟩ : ∃ cur1, splice row0.toList (i * 2) news = cur1 := ⟨_, rfl⟩
  have hc1l : cur1.length = G * 2 := by rw [← hcur1, length_splice _ _ _ (by rw [hr0ll, hl]; omega), hr0ll]
  have hcp1 : ∀ ty dc, (Builtin.copy_ #[53, 53] ty #[.slice (some ⟨w.heap.size, i * 2, none⟩) (n + 1 - i) dc, .slice (some ⟨B, 0, none⟩) 1 1]).run Try.prog W0 = .ok (goInt 1) (W0.setRow w.heap.size cur1.toArray) := fun ty dc => by
    have := run_copyR (P := Try.prog) W0 53 53 ty 62 i0 2 Try.underlying53 hi0 hz1 w.heap.size (i * 2) (n + 1 - i) dc ⟨B, 0, none⟩ 1 1 row0.toList 62 news hrow1 (by rw [hl, hmin2, Nat.one_mul]) (World.news_of_block hB0) (by rw [hl, hr0ll]; omega) h1
    rw [hmin2, hcur1] at this
    exact this
  obtain ⟨W1, hW1⟩ : ∃ W1, W0.setRow w.heap.size cur1.toArray = W1 := ⟨_, rfl⟩
  have hrow2 : Row W1 w.heap.size 62 cur1 := by rw [← hW1]; exact hrow1.set cur1
  have hg1 : Row W1 g 62 (xs ++ rest) := by rw [← hW1]; exact Row.of_heap hg0 (setRow_other W0 _ g _ (by omega))
  have hon1 : Only (fun k => k = g) w W1 := by rw [← hW1]; exact hon0.grown (grown_setRow W0 _ _) (fun r e => .inl (by cases e; exact Nat.le_refl _))
  rw [hW1] at hcp1
  obtain ⟨cur2, hcur2⟩ : ∃ cur2, splice cur1 ((i + 1) * 2) (xs.drop (i * 2)) = cur2 := ⟨_, rfl⟩
  have hc2l : cur2.length = G * 2 := by rw [← hcur2, length_splice _ _ _ (by rw [hc1l, hdl]; omega), hc1l]
  have hcp2 : ∀ ty dc sc, (Builtin.copy_ #[53, 53] ty #[.slice (some ⟨w.heap.size, (i + 1) * 2, none⟩) (n - i) dc, .slice (some ⟨g, i * 2, none⟩) (n - i) sc]).run Try.prog W1.drew = .ok (goInt ((n - i : Nat) : Int)) (W1.drew.setRow w.heap.size cur2.toArray) := fun ty dc sc => by
    have := run_copyR (P := Try.prog) W1.drew 53 53 ty 62 i0 2 Try.underlying53 hi0 hz1 w.heap.size ((i + 1) * 2) (n - i) dc ⟨g, i * 2, none⟩ (n - i) sc cur1 62 (xs.drop (i * 2)) hrow2 (by rw [hdl, hmin]) (fun k u hk => by
      have hkl := (List.getElem?_eq_some_iff.1 hk).1
      rw [hdl] at hkl
      rw [Addr.add_lit]
      show W1.cell? _ = _
      rw [hg1.at_, List.getElem?_append_left (by omega)]
      rwa [List.getElem?_drop] at hk) (by rw [hdl, hc1l]; omega) (fun u hu => hx1 u (List.mem_of_mem_drop hu))
    rw [hmin, hcur2] at this
    exact this
  obtain ⟨W2, hW2⟩ : ∃ W2, W1.drew.setRow w.heap.size cur2.toArray = W2 := ⟨_, rfl⟩
  have hrow3 : Row W2 w.heap.size 62 cur2 := by rw [← hW2]; exact Row.set (w := W1.drew) hrow2 cur2
  have hon2 : Only (fun k => k = g) w W2 := by rw [← hW2]; exact (hon1.drew).grown (grown_setRow W1.drew _ _) (fun r e => .inl (by cases e; exact Nat.le_refl _))
  rw [hW2] at hcp2
  have hfin : cur2.take ((n + 1) * 2) = xs.take (i * 2) ++ news ++ xs.drop (i * 2) := by
    rw [← hcur2, ← hcur1]
    exact splice_new xs row0.toList news i n 2 hxl (by omega) hl hr0t (by rw [hr0ll]; omega)
  have hown2 : W2.ownsRow 0 62 2 (.slice (some ⟨w.heap.size, 0, none⟩) (n + 1) G) (n + 1) (xs.take (i * 2) ++ news ++ xs.drop (i * 2)) := by
    have h := List.take_append_drop ((n + 1) * 2) cur2
    rw [hfin] at h
    rw [← h] at hrow3 hc2l
    exact own_of_row hrow3 hc2l (by omega) (by unfold maxLen; omega) (by simp only [List.length_append, List.length_take, List.length_drop]; omega) (Nat.zero_le _)
  have H0 := Lib.hid hrz
  have H1 := Lib.hid hcp1
  have H2 := Lib.hid hcp2
  clear hcur1 hW0 hW1 hrow1 hg0 hB0 hon0 hg1 hon1 hcur2 hfin hW2 hrow2 hrow3 hc2l hc1l hrz hcp1 hcp2 hi0 hz0 hz1 hz2 hown hdl htl hxl hlen hrow hB hl h1 hx1 hmin hmin2 hold hrow0 hr0l hr0ll hr0t hG
  have hw1 : IntKind.i64.wrap ((i : Int) + 1) = (i : Int) + 1 := by rw [IntKind.wrap_i64]; omega
  have hb1 : (0 : Int) ≤ (i : Int) + 1 := by omega
  have hin : i ≤ n := by omega
  have htn : ((i : Int) + 1).toNat = i + 1 := by omega
  have hb3 : (i : Int) ≤ (n : Int) + 1 := by omega
  have hb5 : (i : Int) + 1 ≤ (n : Int) + 1 := by omega
  have hsub : n + 1 - (i + 1) = n - i := by omega
  have hci : ¬ (c = i) := by omega
  have hGi : ¬ (G = i) := by omega
  have hGi1 : ¬ (G = i + 1) := by omega
  have hz3 : (c : Int) < (n : Int) + 1 := by omega
  go_enter Try.func39, Try.ntmps39
  go_wp2_with (first | (at_builtin; refine wpList_appendR _ rfl _ _ 53 3 rfl _ _ rfl rfl (H0.out _) ?_) | (refine wpList_copyR _ rfl _ _ 53 53 rfl _ _ rfl rfl (H1.out _ _) ?_))
  go_region_law (refine step_copyR rfl _ _ 53 53 rfl (.slice (some ⟨w.heap.size, (i + 1) * 2, none⟩) (n - i) (G - (i + 1))) (.slice (some ⟨g, i * 2, none⟩) (n - i) (c - i)) (by simp [Act.eval, Act.put]) (by simp [Act.eval, Act.put]) (H2.out _ _ _) ?_)
  go_wp2
  go_ret
  exact ⟨_, G, rfl, hown2, hon2, .inr (Nat.le_refl _)⟩

/-- Insert of one element, wherever there is a place for it -/
theorem insI (g n c B i : Nat) (xs news : List Value) (w : World) (hn : n < 1000000) (hi : i ≤ n) (hown : w.ownsRow 0 62 2 (.slice (some ⟨g, 0, none⟩) n c) n xs) (hB : Row w B 62 news) (hBg : B ≠ g) (hl : news.length = 2) (h1 : ∀ v ∈ news, v.oneCell' = true) (hx1 : ∀ v ∈ xs, v.oneCell' = true) :
    Calls Try.prog 39 #[.slice (some ⟨g, 0, none⟩) n c, .int .i64 i, .slice (some ⟨B, 0, none⟩) 1 1] w (InsdI g n i xs news w) := by
  rcases Nat.lt_or_ge i n with h | h
  · rcases Nat.lt_or_ge c (n + 1) with hc | hc
    · exact insI_grow g n c B i xs news w hn h hc hown hB hBg hl h1 hx1
    · exact insI_room g n c B i xs news w hn h hc hown hB hBg hl h1 hx1
  · obtain rfl : n = i := by omega
    exact insI_end g n c B xs news w hn hown hB hl h1

end Go.Proofs.Ytkhbfjncamobdaa.S

namespace Go.Proofs.Ytkhbfjncamobdaa.S
open Go.RowKit
set_option linter.unusedVariables false

def ClonedP (m : Nat) (news : List Value) (w : World) (e : Ending) (w' : World) : Prop :=
  ∃ g cap, e = .returned (.slice (some ⟨g, 0, none⟩) m cap) ∧ w'.ownsRow w.heap.size 40 1 (.slice (some ⟨g, 0, none⟩) m cap) m news ∧ Below w.heap.size w w'

theorem eqlNP (a : Option Addr) (n c : Nat) (w : World) : (binOp .eql 52 (.slice a n c) (.slice none 0 0)).run Try.prog w = .ok (.bool a.isNone) w :=
  Lib.run_eql_slice_nil w _ _ a n c 0 0 Try.underlying52

set_option maxRecDepth 100000 in
set_option maxHeartbeats 1000000 in
theorem cloneP (a : Addr) (m c : Nat) (news : List Value) (w : World) (hm : 0 < m) (hm2 : m < 1000000) (hl : news.length = m * 1) (hsrc : ∀ j u, news[j]? = some u → w.cell? (a.add j) = some u) (h1 : ∀ v ∈ news, v.oneCell' = true) (ha : a.block < w.heap.size) :
    Calls Try.prog 42 #[.slice (some a) m c] w (ClonedP m news w) := by
  obtain ⟨i0, hi0, hz0, hz1, hz2⟩ := info_parts infoP
  have hq := eqlNP (some a) m c
  have hmade : (w.alloc (.cells #[] 40)).ownsRow w.heap.size 40 1 (.slice (some ⟨w.heap.size, 0, none⟩) 0 0) 0 [] := World.ownsRow_made w #[] 0 (Nat.le_refl _) (Nat.zero_le _) (by simp)
  have HS : Hid (∀ j u, news[j]? = some u → (w.alloc (.cells #[] 40)).cell? (a.add j) = some u) := fun j u hj => by
    have := hsrc j u hj
    exact (World.cell?_alloc_lt w _ _ (by rw [block_add]; exact ha)).trans this
  have HL := Lib.hid hl
  have HZ := Lib.hid hz0
  clear hl hsrc
  go_enter Try.func42, Try.ntmps42
  go_wp2_with (at_builtin; refine wpList_append_lies _ rfl _ _ 52 rfl w.heap.size 40 i0 (.pointer none) 1 8 Try.underlying52 hi0 hz0 hz1 hz2 rfl (by decide) (.slice (some ⟨w.heap.size, 0, none⟩) 0 0) 0 [] rfl hmade a m c news rfl HL.out HS.out h1 hm (by unfold maxLen; omega) (by omega) (by simp) _ rfl ?_; intro g cap w1 hown1 hgrow hat hlt; simp only [Nat.zero_add, List.nil_append] at hown1)
  go_ret
  refine ⟨g, cap, by simp, hown1, ((Below.refl _ w).alloc (Nat.le_refl _) _).grown hgrow (by simp) (fun k hk => by simp [Value.ownBlock] at hk; omega)⟩

def InsdP (g n i : Nat) (xs news : List Value) (w : World) (e : Ending) (w' : World) : Prop :=
  ∃ g' cap', e = .returned (.slice (some ⟨g', 0, none⟩) (n + 1) cap') ∧ w'.ownsRow 0 40 1 (.slice (some ⟨g', 0, none⟩) (n + 1) cap') (n + 1) (xs.take (i * 1) ++ news ++ xs.drop (i * 1)) ∧ Only (fun k => k = g) w w' ∧ (g' = g ∨ w.heap.size ≤ g')

set_option maxRecDepth 100000 in
set_option maxHeartbeats 1000000 in
theorem insP_end (g n c B : Nat) (xs news : List Value) (w : World) (hn : n < 1000000) (hown : w.ownsRow 0 40 1 (.slice (some ⟨g, 0, none⟩) n c) n xs) (hB : Row w B 40 news) (hl : news.length = 1) (h1 : ∀ v ∈ news, v.oneCell' = true) :
    Calls Try.prog 40 #[.slice (some ⟨g, 0, none⟩) n c, .int .i64 n, .slice (some ⟨B, 0, none⟩) 1 1] w (InsdP g n n xs news w) := by
  obtain ⟨i0, hi0, hz0, hz1, hz2⟩ := info_parts infoP
  obtain ⟨rest, _, _, hnc, hcm, hxl, _⟩ := row_of_own hown
  unfold maxLen at hcm
  have hsrc := World.news_of_block hB
  simp only [] at hsrc
  have HX := Lib.hid hxl
  have HN : Hid (news.length = 1 * 1) := by unfold Hid; omega
  clear hxl hl
  go_enter Try.func40, Try.ntmps40
  go_wp2_with (at_builtin; refine wpList_append_lies _ rfl _ _ 52 rfl 0 40 i0 (.pointer none) 1 8 Try.underlying52 hi0 hz0 hz1 hz2 rfl (by decide) (.slice (some ⟨g, 0, none⟩) n c) n xs rfl hown ⟨B, 0, none⟩ 1 1 news rfl HN.out hsrc h1 (by omega) (by unfold maxLen; omega) (by omega) (by simp) _ rfl ?_; intro g' cap w1 hown1 hgrow hat hlt)
  all_goals
    go_ret
    refine ⟨g', cap, rfl, ?_, (Only.refl _ w).grown hgrow (fun r e => .inr (by cases e; rfl)), ?_⟩
    · rw [List.take_of_length_le (by rw [HX.out]; omega), List.drop_eq_nil_of_le (by rw [HX.out]; omega), List.append_nil]
      exact hown1
    · rcases hat with h | h
      · exact .inl (by simpa [Value.ownBlock] using h.symm)
      · exact .inr (by omega)

set_option maxRecDepth 100000 in
set_option maxHeartbeats 2000000 in
theorem insP_room (g n c B i : Nat) (xs news : List Value) (w : World) (hn : n < 1000000) (hi : i < n) (hroom : n + 1 ≤ c) (hown : w.ownsRow 0 40 1 (.slice (some ⟨g, 0, none⟩) n c) n xs) (hB : Row w B 40 news) (hBg : B ≠ g) (hl : news.length = 1) (h1 : ∀ v ∈ news, v.oneCell' = true) (hx1 : ∀ v ∈ xs, v.oneCell' = true) :
    Calls Try.prog 40 #[.slice (some ⟨g, 0, none⟩) n c, .int .i64 i, .slice (some ⟨B, 0, none⟩) 1 1] w (InsdP g n i xs news w) := by
  obtain ⟨i0, hi0, hz0, hz1, hz2⟩ := info_parts infoP
  obtain ⟨rest, hrow, hlen, hnc, hcm, hxl, _⟩ := row_of_own hown
  unfold maxLen at hcm
  have hne : ((i : Int) == (n : Int)) = false := by simp; omega
  have hne2 : ¬ ((i : Int) = (n : Int)) := by omega
  have hci1 : ¬ (c = i + 1) := by omega
  have hci : ¬ (c = i) := by omega
  have hdl : (xs.drop (i * 1)).length = (n - i) * 1 := by rw [List.length_drop, hxl]; omega
  have hov : ∀ lb cb, (callFunc 51 #[.slice (some ⟨B, 0, none⟩) 1 1, .slice (some ⟨g, (i + 1) * 1, none⟩) lb cb]).run Try.prog w = .ok (.value (.bool false)) w := fun lb cb => by
    rw [run_callFunc_extern Try.func51 (by kernel_rfl) (by kernel_rfl) (by kernel_rfl) (e := Extern.SlicesOverlaps.overlaps #[52, 52] #[4]) (by kernel_rfl),
      Lib.run_overlaps_apart w 52 4 40 Try.underlying52 1 (fun w => by kernel_rfl) ⟨B, 0, none⟩ ⟨g, (i + 1) * 1, none⟩ 1 1 lb cb hBg 40 40 news.length (xs ++ rest).length (hB.shape) (hrow.shape) (by rw [hlen]; omega) (hB.frozen _) (hB.frozen _)]
    rfl
  have hmin : Nat.min (n + 1 - i) (n - i) = n - i := by show min _ _ = _; omega
  have hmin2 : Nat.min 1 (n + 1 - i) = 1 := by show min _ _ = _; omega
  obtain ⟨cur1, hcur1⟩ : ∃ cur1, splice (xs ++ rest) ((i + 1) * 1) (xs.drop (i * 1)) = cur1 := ⟨_, rfl⟩
  have hc1l : cur1.length = c * 1 := by rw [← hcur1, length_splice _ _ _ (by rw [hdl, hlen]; omega), hlen]
  have hcp1 : ∀ ty dc sc, (Builtin.copy_ #[52, 52] ty #[.slice (some ⟨g, (i + 1) * 1, none⟩) (n - i) dc, .slice (some ⟨g, i * 1, none⟩) (n + 1 - i) sc]).run Try.prog w.drew = .ok (goInt ((n - i : Nat) : Int)) (w.drew.setRow g cur1.toArray) := fun ty dc sc => by
    have := run_copyR (P := Try.prog) w.drew 52 52 ty 40 i0 1 Try.underlying52 hi0 hz1 g ((i + 1) * 1) (n - i) dc ⟨g, i * 1, none⟩ (n + 1 - i) sc (xs ++ rest) 40 (xs.drop (i * 1)) hrow (by rw [hdl, hmin]) (fun k u hk => by
      have hkl := (List.getElem?_eq_some_iff.1 hk).1
      rw [hdl] at hkl
      rw [Addr.add_lit]
      show w.cell? _ = _
      rw [hrow.at_, List.getElem?_append_left (by omega)]
      rwa [List.getElem?_drop] at hk) (by rw [hdl, hlen]; omega) (fun u hu => hx1 u (List.mem_of_mem_drop hu))
    rw [hmin, hcur1] at this
    exact this
  obtain ⟨W1, hW1⟩ : ∃ W1, w.drew.setRow g cur1.toArray = W1 := ⟨_, rfl⟩
  have hrow1 : Row W1 g 40 cur1 := by rw [← hW1]; exact Row.set (w := w.drew) hrow cur1
  have hB1 : Row W1 B 40 news := by rw [← hW1]; exact Row.of_heap (w := w.drew) hB (setRow_other w.drew g B _ hBg)
  have hon1 : Only (fun k => k = g) w W1 := by rw [← hW1]; exact ((Only.refl _ w).drew).grown (grown_setRow w.drew g _) (fun r e => .inr (by cases e; rfl))
  rw [hW1] at hcp1
  obtain ⟨cur2, hcur2⟩ : ∃ cur2, splice cur1 (i * 1) news = cur2 := ⟨_, rfl⟩
  have hc2l : cur2.length = c * 1 := by rw [← hcur2, length_splice _ _ _ (by rw [hc1l, hl]; omega), hc1l]
  have hcp2 : ∀ ty dc, (Builtin.copy_ #[52, 52] ty #[.slice (some ⟨g, i * 1, none⟩) (n + 1 - i) dc, .slice (some ⟨B, 0, none⟩) 1 1]).run Try.prog W1 = .ok (goInt 1) (W1.setRow g cur2.toArray) := fun ty dc => by
    have := run_copyR (P := Try.prog) W1 52 52 ty 40 i0 1 Try.underlying52 hi0 hz1 g (i * 1) (n + 1 - i) dc ⟨B, 0, none⟩ 1 1 cur1 40 news hrow1 (by rw [hl, hmin2, Nat.one_mul]) (World.news_of_block hB1) (by rw [hl, hc1l]; omega) h1
    rw [hmin2, hcur2] at this
    exact this
  obtain ⟨W2, hW2⟩ : ∃ W2, W1.setRow g cur2.toArray = W2 := ⟨_, rfl⟩
  have hrow2 : Row W2 g 40 cur2 := by rw [← hW2]; exact hrow1.set cur2
  have hon2 : Only (fun k => k = g) w W2 := by rw [← hW2]; exact hon1.grown (grown_setRow W1 g _) (fun r e => .inr (by cases e; rfl))
  rw [hW2] at hcp2
  have hfin : cur2.take ((n + 1) * 1) = xs.take (i * 1) ++ news ++ xs.drop (i * 1) := by
    rw [← hcur2, ← hcur1]
    exact splice_ins xs rest news i n 1 hxl (by omega) hl (by simp only [List.length_append] at hlen; omega)
  have hown2 : W2.ownsRow 0 40 1 (.slice (some ⟨g, 0, none⟩) (n + 1) c) (n + 1) (xs.take (i * 1) ++ news ++ xs.drop (i * 1)) := by
    have h := List.take_append_drop ((n + 1) * 1) cur2
    rw [hfin] at h
    rw [← h] at hrow2 hc2l
    exact own_of_row hrow2 hc2l (by omega) (by unfold maxLen; omega) (by simp only [List.length_append, List.length_take, List.length_drop]; omega) (Nat.zero_le _)
  have H1 := Lib.hid hcp1
  have H2 := Lib.hid hcp2
  simp only [Nat.mul_one] at H1 H2 hov
  clear hcur1 hW1 hrow1 hon1 hcur2 hfin hW2 hrow2 hc2l hc1l hcp1 hcp2 hi0 hz0 hz1 hz2 hown hdl hxl hlen hrow hB hB1 hl h1 hx1
  clear hmin hmin2
  have hw1 : IntKind.i64.wrap ((i : Int) + 1) = (i : Int) + 1 := by rw [IntKind.wrap_i64]; omega
  have hb1 : (0 : Int) ≤ (i : Int) + 1 := by omega
  have hin : i ≤ n := by omega
  have htn : ((i : Int) + 1).toNat = i + 1 := by omega
  have hb3 : (i : Int) ≤ (n : Int) + 1 := by omega
  have hb5 : (i : Int) + 1 ≤ (n : Int) + 1 := by omega
  have hsub : n + 1 - (i + 1) = n - i := by omega
  go_enter Try.func40, Try.ntmps40
  go_wp2_with (simp only [hov])
  go_region_law (refine step_copyR rfl _ _ 52 52 rfl (.slice (some ⟨g, i + 1, none⟩) (n - i) (c - (i + 1))) (.slice (some ⟨g, i, none⟩) (n + 1 - i) (c - i)) (by simp [Act.eval, Act.put]) (by simp [Act.eval, Act.put]) (H1.out _ _ _) ?_)
  go_wp2_with (refine wpList_copyR _ rfl _ _ 52 52 rfl _ _ rfl rfl (H2.out _ _) ?_)
  go_ret
  exact ⟨g, c, rfl, hown2, hon2, .inl rfl⟩

set_option maxRecDepth 100000 in
set_option maxHeartbeats 4000000 in
theorem insP_grow (g n c B i : Nat) (xs news : List Value) (w : World) (hn : n < 1000000) (hi : i < n) (hroom : c < n + 1) (hown : w.ownsRow 0 40 1 (.slice (some ⟨g, 0, none⟩) n c) n xs) (hB : Row w B 40 news) (hBg : B ≠ g) (hl : news.length = 1) (h1 : ∀ v ∈ news, v.oneCell' = true) (hx1 : ∀ v ∈ xs, v.oneCell' = true) :
    Calls Try.prog 40 #[.slice (some ⟨g, 0, none⟩) n c, .int .i64 i, .slice (some ⟨B, 0, none⟩) 1 1] w (InsdP g n i xs news w) := by
  obtain ⟨i0, hi0, hz0, hz1, hz2⟩ := info_parts infoP
  obtain ⟨rest, hrow, hlen, hnc, hcm, hxl, _⟩ := row_of_own hown
  unfold maxLen at hcm
  have hgw := hrow.lt
  have hBw := hB.lt
  have hne : ((i : Int) == (n : Int)) = false := by simp; omega
  have hne2 : ¬ ((i : Int) = (n : Int)) := by omega
  have hdl : (xs.drop (i * 1)).length = (n - i) * 1 := by rw [List.length_drop, hxl]; omega
  have htl : (xs.take (i * 1)).length = i * 1 := by rw [List.length_take, hxl]; omega
  have hold : (Builtin.firstCells i0.size i (.slice (some ⟨g, 0, none⟩) i c)).run Try.prog w.drew = .ok (xs.take (i * 1)).toArray w.drew := by
    rw [hz1]
    refine run_firstCells_some w.drew 1 i ⟨g, 0, none⟩ i c (xs.take (i * 1)) htl (fun j v hj => ?_)
    rw [Addr.add_lit]
    show w.cell? _ = _
    rw [List.getElem?_take] at hj
    split at hj
    · rw [hrow.at_, List.getElem?_append_left (by omega), Nat.zero_add]; exact hj
    · cases hj
  obtain ⟨G, hG⟩ : ∃ G, grownCap w (n + 1) c 40 = G := ⟨_, rfl⟩
  have hGn : n + 1 ≤ G := by rw [← hG]; exact grownCap_ge w _ _ _
  have hG63 : G ≤ 9223372036854775807 := by
    have := grownCap_le_maxLen w (n + 1) c 40 (by unfold maxLen; omega)
    rw [hG] at this
    unfold maxLen at this
    omega
  obtain ⟨row0, hrow0⟩ : ∃ row0 : Array Value, (xs.take (i * 1)).toArray ++ Builtin.zeroCells (Value.cells (.pointer none)) (n + 1 - i) ++ Builtin.zeroCells (Value.cells (.pointer none)) (G - (n + 1)) = row0 := ⟨_, rfl⟩
  have hr0l : row0.size = G * 1 := by
    rw [← hrow0]
    simp only [Array.size_append, List.size_toArray, size_zeroCells, htl]
    simp [Value.cells]
    omega
  have hr0ll : row0.toList.length = G * 1 := by rw [Array.length_toList, hr0l]
  have hr0t : row0.toList.take (i * 1) = xs.take (i * 1) := by
    rw [← hrow0]
    simp only [Array.toList_append, List.append_assoc]
    rw [List.take_append_of_le_length (by omega), List.take_of_length_le (by omega)]
  have hrz : ∀ ty, (Builtin.append_ #[52, 3] ty #[.slice (some ⟨g, 0, none⟩) i c, .int .i64 ((n : Int) + 1 - (i : Int))]).run Try.prog w = .ok (.slice (some ⟨w.heap.size, 0, none⟩) (n + 1) G) (w.drew.alloc (.cells row0 40)) := fun ty => by
    have h := Lib.run_append_grow_zeros w 52 3 ty 40 i0 _ .i64 .i64 Try.underlying52 Try.underlying3 hi0 hz0 (some ⟨g, 0, none⟩) i c (xs.take (i * 1)) hold (n + 1 - i) (by omega) (by omega) (by omega) (by omega) (by rw [hz2]; omega) (by rw [hz2, show i + (n + 1 - i) = n + 1 from by omega]; exact growslice_fits hroom (by omega))
    rw [show i + (n + 1 - i) = n + 1 from by omega, hG, hrow0] at h
    rw [show (n : Int) + 1 - (i : Int) = ((n + 1 - i : Nat) : Int) from by omega]
    exact h
  obtain ⟨W0, hW0⟩ : ∃ W0, w.drew.alloc (.cells row0 40) = W0 := ⟨_, rfl⟩
  have hrow1 : Row W0 w.heap.size 40 row0.toList := by
    rw [← hW0]
    have := heap_alloc_new w.drew (.cells row0 40)
    show _ = _
    simpa using this
  have hg0 : Row W0 g 40 (xs ++ rest) := by rw [← hW0]; exact Row.of_heap (w := w.drew) hrow (Below.heap_alloc w.drew _ g hgw)
  have hB0 : Row W0 B 40 news := by rw [← hW0]; exact Row.of_heap (w := w.drew) hB (Below.heap_alloc w.drew _ B hBw)
  have hon0 : Only (fun k => k = g) w W0 := by rw [← hW0]; exact ((Only.refl _ w).drew).alloc _
  rw [hW0] at hrz
  have hmin : Nat.min (n - i) (n - i) = n - i := by show min _ _ = _; omega
  have hmin2 : Nat.min 1 (n + 1 - i) = 1 := by show min _ _ = _; omega
  obtain ⟨cur1, hcur1⟩ : ∃ cur1, splice row0.toList (i * 1) news = cur1 := ⟨_, rfl⟩
  have hc1l : cur1.length = G * 1 := by rw [← hcur1, length_splice _ _ _ (by rw [hr0ll, hl]; omega), hr0ll]
  have hcp1 : ∀ ty dc, (Builtin.copy_ #[52, 52] ty #[.slice (some ⟨w.heap.size, i * 1, none⟩) (n + 1 - i) dc, .slice (some ⟨B, 0, none⟩) 1 1]).run Try.prog W0 = .ok (goInt 1) (W0.setRow w.heap.size cur1.toArray) := fun ty dc => by
    have := run_copyR (P := Try.prog) W0 52 52 ty 40 i0 1 Try.underlying52 hi0 hz1 w.heap.size (i * 1) (n + 1 - i) dc ⟨B, 0, none⟩ 1 1 row0.toList 40 news hrow1 (by rw [hl, hmin2, Nat.one_mul]) (World.news_of_block hB0) (by rw [hl, hr0ll]; omega) h1
    rw [hmin2, hcur1] at this
    exact this
  obtain ⟨W1, hW1⟩ : ∃ W1, W0.setRow w.heap.size cur1.toArray = W1 := ⟨_, rfl⟩
  have hrow2 : Row W1 w.heap.size 40 cur1 := by rw [← hW1]; exact hrow1.set cur1
  have hg1 : Row W1 g 40 (xs ++ rest) := by rw [← hW1]; exact Row.of_heap hg0 (setRow_other W0 _ g _ (by omega))
  have hon1 : Only (fun k => k = g) w W1 := by rw [← hW1]; exact hon0.grown (grown_setRow W0 _ _) (fun r e => .inl (by cases e; exact Nat.le_refl _))
  rw [hW1] at hcp1
  obtain ⟨cur2, hcur2⟩ : ∃ cur2, splice cur1 ((i + 1) * 1) (xs.drop (i * 1)) = cur2 := ⟨_, rfl⟩
  have hc2l : cur2.length = G * 1 := by rw [← hcur2, length_splice _ _ _ (by rw [hc1l, hdl]; omega), hc1l]
  have hcp2 : ∀ ty dc sc, (Builtin.copy_ #[52, 52] ty #[.slice (some ⟨w.heap.size, (i + 1) * 1, none⟩) (n - i) dc, .slice (some ⟨g, i * 1, none⟩) (n - i) sc]).run Try.prog W1.drew = .ok (goInt ((n - i : Nat) : Int)) (W1.drew.setRow w.heap.size cur2.toArray) := fun ty dc sc => by
    have := run_copyR (P := Try.prog) W1.drew 52 52 ty 40 i0 1 Try.underlying52 hi0 hz1 w.heap.size ((i + 1) * 1) (n - i) dc ⟨g, i * 1, none⟩ (n - i) sc cur1 40 (xs.drop (i * 1)) hrow2 (by rw [hdl, hmin]) (fun k u hk => by
      have hkl := (List.getElem?_eq_some_iff.1 hk).1
      rw [hdl] at hkl
      rw [Addr.add_lit]
      show W1.cell? _ = _
      rw [hg1.at_, List.getElem?_append_left (by omega)]
      rwa [List.getElem?_drop] at hk) (by rw [hdl, hc1l]; omega) (fun u hu => hx1 u (List.mem_of_mem_drop hu))
    rw [hmin, hcur2] at this
    exact this
  obtain ⟨W2, hW2⟩ : ∃ W2, W1.drew.setRow w.heap.size cur2.toArray = W2 := ⟨_, rfl⟩
  have hrow3 : Row W2 w.heap.size 40 cur2 := by rw [← hW2]; exact Row.set (w := W1.drew) hrow2 cur2
  have hon2 : Only (fun k => k = g) w W2 := by rw [← hW2]; exact (hon1.drew).grown (grown_setRow W1.drew _ _) (fun r e => .inl (by cases e; exact Nat.le_refl _))
  rw [hW2] at hcp2
  have hfin : cur2.take ((n + 1) * 1) = xs.take (i * 1) ++ news ++ xs.drop (i * 1) := by
    rw [← hcur2, ← hcur1]
    exact splice_new xs row0.toList news i n 1 hxl (by omega) hl hr0t (by rw [hr0ll]; omega)
  have hown2 : W2.ownsRow 0 40 1 (.slice (some ⟨w.heap.size, 0, none⟩) (n + 1) G) (n + 1) (xs.take (i * 1) ++ news ++ xs.drop (i * 1)) := by
    have h := List.take_append_drop ((n + 1) * 1) cur2
    rw [hfin] at h
    rw [← h] at hrow3 hc2l
    exact own_of_row hrow3 hc2l (by omega) (by unfold maxLen; omega) (by simp only [List.length_append, List.length_take, List.length_drop]; omega) (Nat.zero_le _)
  have H0 := Lib.hid hrz
  have H1 := Lib.hid hcp1
  have H2 := Lib.hid hcp2
  simp only [Nat.mul_one] at H1 H2
  clear hcur1 hW0 hW1 hrow1 hg0 hB0 hon0 hg1 hon1 hcur2 hfin hW2 hrow2 hrow3 hc2l hc1l hrz hcp1 hcp2 hi0 hz0 hz1 hz2 hown hdl htl hxl hlen hrow hB hl h1 hx1 hmin hmin2 hold hrow0 hr0l hr0ll hr0t hG
  have hw1 : IntKind.i64.wrap ((i : Int) + 1) = (i : Int) + 1 := by rw [IntKind.wrap_i64]; omega
  have hb1 : (0 : Int) ≤ (i : Int) + 1 := by omega
  have hin : i ≤ n := by omega
  have htn : ((i : Int) + 1).toNat = i + 1 := by omega
  have hb3 : (i : Int) ≤ (n : Int) + 1 := by omega
  have hb5 : (i : Int) + 1 ≤ (n : Int) + 1 := by omega
  have hsub : n + 1 - (i + 1) = n - i := by omega
  have hci : ¬ (c = i) := by omega
  have hGi : ¬ (G = i) := by omega
  have hGi1 : ¬ (G = i + 1) := by omega
  have hz3 : (c : Int) < (n : Int) + 1 := by omega
  go_enter Try.func40, Try.ntmps40
  go_wp2_with (first | (at_builtin; refine wpList_appendR _ rfl _ _ 52 3 rfl _ _ rfl rfl (H0.out _) ?_) | (refine wpList_copyR _ rfl _ _ 52 52 rfl _ _ rfl rfl (H1.out _ _) ?_))
  go_region_law (refine step_copyR rfl _ _ 52 52 rfl (.slice (some ⟨w.heap.size, i + 1, none⟩) (n - i) (G - (i + 1))) (.slice (some ⟨g, i, none⟩) (n - i) (c - i)) (by simp [Act.eval, Act.put]) (by simp [Act.eval, Act.put]) (H2.out _ _ _) ?_)
  go_wp2
  go_ret
  exact ⟨_, G, rfl, hown2, hon2, .inr (Nat.le_refl _)⟩

/-- Insert of one element, wherever there is a place for it -/
theorem insP (g n c B i : Nat) (xs news : List Value) (w : World) (hn : n < 1000000) (hi : i ≤ n) (hown : w.ownsRow 0 40 1 (.slice (some ⟨g, 0, none⟩) n c) n xs) (hB : Row w B 40 news) (hBg : B ≠ g) (hl : news.length = 1) (h1 : ∀ v ∈ news, v.oneCell' = true) (hx1 : ∀ v ∈ xs, v.oneCell' = true) :
    Calls Try.prog 40 #[.slice (some ⟨g, 0, none⟩) n c, .int .i64 i, .slice (some ⟨B, 0, none⟩) 1 1] w (InsdP g n i xs news w) := by
  rcases Nat.lt_or_ge i n with h | h
  · rcases Nat.lt_or_ge c (n + 1) with hc | hc
    · exact insP_grow g n c B i xs news w hn h hc hown hB hBg hl h1 hx1
    · exact insP_room g n c B i xs news w hn h hc hown hB hBg hl h1 hx1
  · obtain rfl : n = i := by omega
    exact insP_end g n c B xs news w hn hown hB hl h1

end Go.Proofs.Ytkhbfjncamobdaa.S
