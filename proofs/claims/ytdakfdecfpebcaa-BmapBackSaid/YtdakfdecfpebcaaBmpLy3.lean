/- The program's Lay of the depth two. -/
import Derived.Test.YtdakfdecfpebcaaBmpLy1
namespace Go.Proofs.Ytdakfdecfpebcaa.Bmp
open Go.RowKit Ino
attribute [local go_sem] Oper.semAt_some
set_option linter.unusedVariables false
set_option linter.unusedSimpArgs false
section
set_option maxRecDepth 100000
set_option maxHeartbeats 4000000
theorem layTwo_in (s : Nat) (v1 v2 : Value) (V I : List Nat) (w : World) (h : s < 4294967296) (hV : U32s w v1 V) (hI : U32s w v2 I) (hok : layP s V I) (hsm : Small V) (hsi : Small I) (hd : dpN s = 2) :
    CallsIn Fence.wide 9 Try.prog 15 #[.int .u32 s, v1, v2] w (LayPost s V I w) := by
  have hfn : ∀ f, Fence.wide.fn f := fun _ => trivial
  obtain ⟨i0, hin, hz0, hz1, hz2⟩ := info_parts infoStr
  have HY := Lib.hid (fun v w' (hv : Strs w' v (blocksOf s V I)) (hB : Below w.heap.size w w') => lay_yes (w := w) hok hv hB)
  have HH := Lib.hid (fun W (hB : Below w.heap.size w W) => has_any v2 I W (hI.below hB))
  obtain ⟨o1, o2, o3, o4⟩ := hok
  rw [decide_eq_false (fun hm => o4 _ hm rfl)] at HH
  have hi1 : I.length = 1 + lowN s := by rw [o3, cnt_def o1, if_pos hd]
  have hc1 : cntN s = I.length := o3.symm
  have n1 := dp_two hd
  have n2 := bl_max o1
  have hlow := low_max o1
  have hlw : lowN s = (V.length + 126) / 127 := by rw [o2]; rfl
  rw [← o2] at n1 n2
  have hbo : blocksOf s V I = [blkB I.tail] ++ lowers V (lowN s) := by unfold blocksOf; rw [if_neg (by omega), if_neg (by omega)]; rfl
  have hmo : mapOf s V I = ⟨I.getD 0 0, 0, 0, 0, 0, 0⟩ := by unfold mapOf; rw [if_neg (by omega)]
  obtain ⟨a1, c1, rfl, hca, hcb⟩ := hV.parts
  obtain ⟨a2, c2, rfl, hcc, hcd⟩ := hI.parts
  obtain ⟨b, off, rfl, _⟩ := hV.get (k := 0) (by omega)
  obtain ⟨bi, oi, rfl, _⟩ := hI.get (k := 0) (by omega)
  have HI0 := Lib.hid (fun W (hB : Below w.heap.size w W) => by
    obtain ⟨b2, o2, e, hc⟩ := (hI.below hB).get (k := 0) (by omega)
    cases e
    exact hc)
  have hx := hsi (I.getD 0 0) (by
    rw [List.getD_eq_getElem?_getD, List.getElem?_eq_getElem (by omega)]
    exact List.getElem_mem (by omega))
  have hBl := Lib.hid (fun W => Ino.blocks_any s W h)
  have hC := Lib.hid (fun W => count_eq s W h)
  rw [hc1] at hC
  rw [hbo, hmo, hlw] at HY
  rw [← o2] at hBl
  have HTOP : Hid (∀ W, Below w.heap.size w W → Calls Try.prog 28 #[.slice (some ⟨bi, oi + 1, none⟩) (I.length - 1) (c2 - 1)] W (Ans W (.string (blkB I.tail)))) := fun W hB => by
    have h1 := U32s.sub (U32s.below hI hB) 1 I.length (by omega) (Nat.le_refl _)
    have e : (I.drop 1).take (I.length - 1) = I.tail := by rw [List.drop_one, List.take_of_length_le (by rw [List.length_tail]; exact Nat.le_refl _)]
    rw [e] at h1
    exact blockOf_any _ I.tail W h1 (small_tail hsi) (by rw [List.length_tail]; omega)
  obtain ⟨ni, hni⟩ : ∃ ni, I.length = ni := ⟨_, rfl⟩
  rw [hni] at HH hcc hC HTOP hi1 ⊢
  have hq1 : ¬ c2 = 1 := by omega
  have hq2 : 1 < ni := by omega
  have hq3 : (0 : Int) < ((ni - 1 : Nat) : Int) := by omega
  have hq4 : ¬ ni = 0 := by omega
  have hq5 : (1 : Int) ≤ (ni : Int) := by omega
  have hq6 : 0 < ni - 1 := by omega
  have g3 : ((ni : Int) != (ni : Int)) = false := by simp
  have g4 : ((ni : Int) == 0) = false := beq_eq_false_iff_ne.2 (by omega)
  have g5 : (ni == 0) = false := beq_eq_false_iff_ne.2 hq4
  have hq7 : (0 : Int) < (ni : Int) := by omega
  have hq8 : (ni : Int) ≤ (c2 : Int) := by omega
  obtain ⟨N, hN⟩ : ∃ N, V.length = N := ⟨_, rfl⟩
  have HNN := Lib.hid hN
  have hpiece : ∀ W k (h : Below w.heap.size w W) (hk : 127 * k < N), Calls Try.prog 28 #[.slice (some ⟨b, off + 127 * k, none⟩) (chN N k) (chN N k)] W (Ans W (.string (blkB (chk V k)))) := fun W k h hk =>
    blockOf_any _ (chk V k) W (by have h3 := hV.below h; rw [hN] at h3; exact chk_piece hN h3 k hk) (chk_small hsm k) (by rw [chk_length]; omega)
  rw [hN] at hBl hca n1 n2 HY ⊢
  have g1 : ¬ (8193532 : Int) < (s : Int) := by omega
  have g2 : ((N : Int) != (N : Int)) = false := by simp
  have hZ1 := (zM_new w).th (below_new _ boxZM)
  have hZ2 := zM_new (w.alloc boxZM)
  have HB := Lib.hid (below_al (below_new w boxZM) boxZM)
  rw [World.size_alloc] at hZ2
  obtain ⟨x0, x1, x2, x3, x4, x5⟩ := zM_c hZ1
  obtain ⟨y0, y1, y2, y3, y4, y5⟩ := zM_c hZ2
  have ff0 := hZ2.f 0
  have d0 := HI0.out _ HB.out
  rw [Nat.add_zero] at d0
  obtain ⟨x, hxx⟩ : ∃ x, I.getD 0 0 = x := ⟨_, rfl⟩
  rw [hxx] at d0 hx HY
  have HZ1 := Lib.hid hZ1
  have HZ2 := Lib.hid hZ2
  unfold boxZM at x0 x1 x2 x3 x4 x5 y0 y1 y2 y3 y4 y5 HZ1 HZ2 HB ff0 d0
  have hlt1 : (0 : Int) < 1 := by omega
  clear hZ1 hZ2 hV hI hbo hmo hd o1 o2 o3 o4 hc1 hi1 h hxx HI0 hni hlow hlw
  obtain ⟨R, hR⟩ : ∃ R, LayPost s V I w = R := ⟨_, rfl⟩
  rw [hR] at HY ⊢
  clear hR
  -- the loop
  refine callsIn_of_wp_marks Try.func15 rfl trivial ?_ rfl
  simp only [Try.ntmps15, List.size_toArray, List.length_cons, List.length_nil, Nat.reduceAdd, Nat.reduceSub, Array.replicate_succ, Array.replicate_zero, List.push_toArray, List.append_toArray, List.nil_append, List.cons_append]
  gi_wp2_with (first
    | (gi_at_call 22; refine (callsIn_wide.2 (hBl.out _)).mono ?_; rintro e w1 ⟨rfl, hw⟩; rw [← hw]; clear hw w1)
    | (gi_at_call 12; refine (callsIn_wide.2 (hC.out _)).mono ?_; rintro e w1 ⟨rfl, hw⟩; rw [← hw]; clear hw w1)
    | (gi_at_call 27; refine (callsIn_wide.2 (HH.out _ HB.out)).mono ?_; rintro e w1 ⟨rfl, hw⟩; rw [hw]; clear hw w1))
  obtain ⟨s0, hs⟩ : ∃ s0, w.heap.size = s0 := ⟨_, rfl⟩
  obtain ⟨W1, hW1⟩ : ∃ W1, ((w.alloc (.cells #[.int .u32 0, .int .u32 0, .int .u32 0, .int .u32 0, .int .u32 0, .int .u32 0] 32)).alloc (.cells #[.int .u32 x, .int .u32 0, .int .u32 0, .int .u32 0, .int .u32 0, .int .u32 0] 32)).alloc (.cells #[.slice none 0 0] 33) = W1 := ⟨_, rfl⟩
  have hz : ∀ (W : World) (o : Obj) (k : Nat) (y : Obj), W.heap[k]? = some y → (W.alloc o).heap[k]? = some y := fun W o k y h => (Below.heap_alloc _ _ _ (Array.getElem?_eq_some_iff.1 h).1).trans h
  have hn : ∀ (W : World) (o : Obj) (n : Nat), W.heap.size = n → (W.alloc o).heap[n]? = some o := fun W o n h => h ▸ World.alloc_heap_new W o
  have j1 : W1.heap.size = s0 + 1 + 1 + 1 := by rw [← hW1, ← hs]; simp
  have j2 : AtM W1 s0 M.zero := by rw [← hW1, ← hs]; exact hz _ _ _ _ (hz _ _ _ _ (hn _ _ _ rfl))
  have j3 : AtM W1 (s0 + 1) ⟨x, 0, 0, 0, 0, 0⟩ := by rw [← hW1, ← hs]; exact hz _ _ _ _ (hn _ _ _ (by simp))
  have j4 : CellAt W1 (s0 + 1 + 1) 33 (.slice none 0 0) := by rw [← hW1, ← hs]; exact hn _ _ _ (by simp)
  have j5 : Below w.heap.size w W1 := by rw [← hW1]; exact below_al (below_al (below_new w _) _) _
  rw [hW1, hs]
  clear hW1 HB HZ1 HZ2 HH hC hBl x0 x1 x2 x3 x4 x5 y0 y1 y2 y3 y4 y5 ff0 d0
  obtain ⟨y, hy⟩ : ∃ y, blkB I.tail = y := ⟨_, rfl⟩
  rw [hy] at HTOP HY
  have hI1 : LyI W1 (.slice none 0 0) (s0 + 1 + 1) (fun k => List.replicate k y) 0 W1 := ⟨Only.refl _ _, _, j4, World.ownsRow_nil _ _ _ _, fun g hg => by simp [Value.ownBlock] at hg⟩
  refine wpIn_mono (Q := fun e a W => e = Exit.normal ∧ ∃ p v9, a = { tmps := #[.int .u32 s, .slice (some ⟨b, off, none⟩) N c1, .slice (some ⟨bi, oi, none⟩) ni c2, undef, undef, undef, .pointer (some ⟨s0, 0, none⟩), .slice none 0 0, .int .i64 0, .pointer (some ⟨s0 + 1, 0, none⟩), .pointer (some ⟨s0 + 1 + 1, 0, none⟩), .slice (some ⟨bi, oi + 1, none⟩) (ni - 1) (c2 - 1), undef, .int .u32 s, .bool false, .bool false, .slice (some ⟨b, off, none⟩) N c1, .int .i64 N, .int .u32 s, .int .i64 N, .bool false, .bool false, .bool false, .slice (some ⟨bi, oi, none⟩) ni c2, .int .i64 ni, .int .u32 s, .int .i64 ni, .bool false, .bool false, .bool false, .slice (some ⟨bi, oi, none⟩) ni c2, .bool false, .bool false, undef, .slice (some ⟨bi, oi, none⟩) ni c2, .int .i64 ni, .bool false, undef, undef, undef, undef, .slice (some ⟨bi, oi, none⟩) ni c2, .pointer (some ⟨bi, oi, none⟩), .int .u32 x, .pointer (some ⟨s0 + 1, 0, none⟩), .slice (some ⟨bi, oi, none⟩) ni c2, .slice (some ⟨bi, oi + 1, none⟩) (ni - 1) (c2 - 1), .slice (some ⟨bi, oi + 1, none⟩) (ni - 1) (c2 - 1), .int .i64 ((ni - 1 : Nat) : Int), .bool true, .slice none 0 0, .slice (some ⟨bi, oi + 1, none⟩) (ni - 1) (c2 - 1), .string y, .slice (some ⟨p, 0, none⟩) 1 1, v9, undef, undef, undef, undef, undef, undef, undef, undef, undef, undef], defers := [] } ∧ KeepsFrom W1.heap.size W1 W ∧ Only (fun i => i = s0 + 1 + 1 ∨ W1.heap.size ≤ i ∨ (Value.slice none 0 0).ownBlock = some i) W1 W ∧ LyI W1 (.slice none 0 0) (s0 + 1 + 1) (fun k => List.replicate k y) 1 W) ?_ ?_
  · obtain ⟨v, c4, HOWN, HCELL, HEND⟩ := hI1.more0 (L := []) (y := y) rfl rfl
    have hv9 : v = .slice none 0 0 := by
      have := j4.c
      rw [c4] at this
      exact Option.some.inj this
    have hxs : (([] : List ByteArray).map Value.string) = [] := rfl
    obtain ⟨ln, hln⟩ : ∃ ln, ([] : List ByteArray).length = ln := ⟨_, rfl⟩
    obtain ⟨xs, hxs⟩ : ∃ xs, ([] : List ByteArray).map Value.string = xs := ⟨_, rfl⟩
    have hlnb : ln ≤ 300 := by rw [← hln]; exact Nat.zero_le _
    rw [hln, hxs] at HOWN HEND
    have HEND2 := Lib.hid HEND
    have HOW := Lib.hid HOWN
    have HC4 := Lib.hid HCELL
    have HBL := Lib.hid (fun W2 (h : Below W1.heap.size W1 W2) => HTOP.out W2 (below_th j5 h))
    have HSZ : Hid (∀ W2, Below W1.heap.size W1 W2 → s0 + 1 + 1 + 1 ≤ (W2.alloc (.cells #[.string y] 9)).heap.size) := fun W2 h => by have := h.size; simp; omega
    have hself : Below W1.heap.size W1 W1.drew := (Below.refl _ _).drew
    have d4 : W1.drew.cell? ⟨s0 + 1 + 1, 0, none⟩ = some v := c4
    subst hv9
    clear hI1 c4 HOWN HCELL HEND HTOP HY j2 j3 j4 j5 hy hz hn hpiece
    refine wpIn_wide.2 (wp_region_any (by kernel_rfl) ?_)
    refine wpAny_take (i := 1) (v := .slice (some ⟨bi, oi + 1, none⟩) (ni - 1) (c2 - 1)) rfl (by kernel_rfl) (by kernel_rfl) (by kernel_rfl) (fun _ _ _ h => nomatch h.1) (Or.inl ⟨by rfl, by intro w; go_simp⟩) ?_
    refine wpAny_ready (rs := [0, 2]) (by kernel_rfl) (by simp) ?_
    refine AllReady.cons rfl (fun K hK => ?_) (AllReady.cons rfl (fun K hK => ?_) AllReady.nil)
    · go_simp
      refine hK _ _ ?_
      clear hK K
      refine wpAny_ready (rs := [2]) (by kernel_rfl) (by simp) ?_
      refine AllReady.cons rfl (fun K hK => ?_) AllReady.nil
      go_simp
      go_at_call 28
      (with_reducible refine Calls.mono (HBL.out _ hself) ?_)
      rintro e w2 ⟨rfl, hB2⟩
      have hb2 : Below W1.heap.size W1 w2 := below_th hself hB2
      obtain ⟨q1, q2⟩ := HC4.out _ hb2
      try go_simp
      refine hK _ _ ?_
      clear hK K
      refine wpAny_ready (rs := [3]) (by kernel_rfl) (by simp) ?_
      refine AllReady.cons rfl (fun K hK => ?_) AllReady.nil
      go_simp
      refine hK _ _ ?_
      clear hK K
      refine wpAny_ready (rs := [4]) (by kernel_rfl) (by simp) ?_
      refine AllReady.cons rfl (fun K hK => ?_) AllReady.nil
      refine step_append_lies _ rfl (.tmp 50) (.tmp 53) 33 rfl (s0 + 1 + 1 + 1) 9 i0 (.string ⟨#[]⟩) 1 16 Try.underlying33 hin hz0 hz1 hz2 rfl (by decide) (.slice none 0 0) ln xs rfl (HOW.out _ hb2) ⟨w2.heap.size, 0, none⟩ 1 1 [.string y] rfl rfl (World.news_of_block (World.alloc_heap_new w2 _)) (by simp [Value.oneCell']) (by decide) (by unfold maxLen; omega) (by omega) (HSZ.out _ hb2) _ rfl ?_
      intro g2 cap2 w4 hown4 hgrow4 hat4 hlt4
      obtain ⟨hcc4, hfi⟩ := HEND2.out w2 g2 cap2 w4 hb2 hown4 hgrow4 hat4
      have e4 := hcc4.c
      have f4 := hcc4.f
      have HFI := Lib.hid hfi
      clear hown4 hgrow4 hat4 hlt4 hcc4 hfi
      try go_simp
      refine hK _ _ ?_
      clear hK K
      refine wpAny_ready (rs := [5]) (by kernel_rfl) (by simp) ?_
      refine AllReady.cons rfl (fun K hK => ?_) AllReady.nil
      go_simp
      refine hK _ _ ?_
      clear hK K
      refine wpAny_done (by kernel_rfl) ?_ _
      exact ⟨rfl, _, _, rfl, HFI.out⟩
    · go_simp
      go_at_call 28
      (with_reducible refine Calls.mono (HBL.out _ hself) ?_)
      rintro e w2 ⟨rfl, hB2⟩
      have hb2 : Below W1.heap.size W1 w2 := below_th hself hB2
      obtain ⟨q1, q2⟩ := HC4.out _ hb2
      try go_simp
      refine hK _ _ ?_
      clear hK K
      refine wpAny_ready (rs := [0, 3]) (by kernel_rfl) (by simp) ?_
      refine AllReady.cons rfl (fun K hK => ?_) (AllReady.cons rfl (fun K hK => ?_) AllReady.nil)
      · go_simp
        refine hK _ _ ?_
        clear hK K
        refine wpAny_ready (rs := [3]) (by kernel_rfl) (by simp) ?_
        refine AllReady.cons rfl (fun K hK => ?_) AllReady.nil
        go_simp
        refine hK _ _ ?_
        clear hK K
        refine wpAny_ready (rs := [4]) (by kernel_rfl) (by simp) ?_
        refine AllReady.cons rfl (fun K hK => ?_) AllReady.nil
        refine step_append_lies _ rfl (.tmp 50) (.tmp 53) 33 rfl (s0 + 1 + 1 + 1) 9 i0 (.string ⟨#[]⟩) 1 16 Try.underlying33 hin hz0 hz1 hz2 rfl (by decide) (.slice none 0 0) ln xs rfl (HOW.out _ hb2) ⟨w2.heap.size, 0, none⟩ 1 1 [.string y] rfl rfl (World.news_of_block (World.alloc_heap_new w2 _)) (by simp [Value.oneCell']) (by decide) (by unfold maxLen; omega) (by omega) (HSZ.out _ hb2) _ rfl ?_
        intro g2 cap2 w4 hown4 hgrow4 hat4 hlt4
        obtain ⟨hcc4, hfi⟩ := HEND2.out w2 g2 cap2 w4 hb2 hown4 hgrow4 hat4
        have e4 := hcc4.c
        have f4 := hcc4.f
        have HFI := Lib.hid hfi
        clear hown4 hgrow4 hat4 hlt4 hcc4 hfi
        try go_simp
        refine hK _ _ ?_
        clear hK K
        refine wpAny_ready (rs := [5]) (by kernel_rfl) (by simp) ?_
        refine AllReady.cons rfl (fun K hK => ?_) AllReady.nil
        go_simp
        refine hK _ _ ?_
        clear hK K
        refine wpAny_done (by kernel_rfl) ?_ _
        exact ⟨rfl, _, _, rfl, HFI.out⟩
      · go_simp
        refine hK _ _ ?_
        clear hK K
        refine wpAny_ready (rs := [0]) (by kernel_rfl) (by simp) ?_
        refine AllReady.cons rfl (fun K hK => ?_) AllReady.nil
        go_simp
        refine hK _ _ ?_
        clear hK K
        refine wpAny_ready (rs := [4]) (by kernel_rfl) (by simp) ?_
        refine AllReady.cons rfl (fun K hK => ?_) AllReady.nil
        refine step_append_lies _ rfl (.tmp 50) (.tmp 53) 33 rfl (s0 + 1 + 1 + 1) 9 i0 (.string ⟨#[]⟩) 1 16 Try.underlying33 hin hz0 hz1 hz2 rfl (by decide) (.slice none 0 0) ln xs rfl (HOW.out _ hb2) ⟨w2.heap.size, 0, none⟩ 1 1 [.string y] rfl rfl (World.news_of_block (World.alloc_heap_new w2 _)) (by simp [Value.oneCell']) (by decide) (by unfold maxLen; omega) (by omega) (HSZ.out _ hb2) _ rfl ?_
        intro g2 cap2 w4 hown4 hgrow4 hat4 hlt4
        obtain ⟨hcc4, hfi⟩ := HEND2.out w2 g2 cap2 w4 hb2 hown4 hgrow4 hat4
        have e4 := hcc4.c
        have f4 := hcc4.f
        have HFI := Lib.hid hfi
        clear hown4 hgrow4 hat4 hlt4 hcc4 hfi
        try go_simp
        refine hK _ _ ?_
        clear hK K
        refine wpAny_ready (rs := [5]) (by kernel_rfl) (by simp) ?_
        refine AllReady.cons rfl (fun K hK => ?_) AllReady.nil
        go_simp
        refine hK _ _ ?_
        clear hK K
        refine wpAny_done (by kernel_rfl) ?_ _
        exact ⟨rfl, _, _, rfl, HFI.out⟩
  rintro e a3 W3 ⟨rfl, p, v9, rfl, hkf9, hon9, hI9⟩
  obtain ⟨hon, v0, hc9, hown9, hv9⟩ := hI9
  have hsz9 := hon.size
  have hv0 : ∀ g, v0.ownBlock = some g → s0 + 1 + 1 < g ∧ g < W3.heap.size := fun g hg => by
    rcases hown9.2 with ⟨e1, _⟩ | ⟨g2, cap2, cur, e1, hb2, hgg, _⟩
    · rw [e1] at hg; cases hg
    · rw [e1] at hg
      have e2 : g2 = g := by simpa [Value.ownBlock] using hg
      rw [← e2]
      exact ⟨by omega, (Array.getElem?_eq_some_iff.1 hgg).1⟩
  have k2 : AtM W3 s0 M.zero := j2.of_heap (hon.block _ j2.lt (fun e => e.elim (fun h => by omega) (fun h => by simp [Value.ownBlock] at h)))
  have k3 : AtM W3 (s0 + 1) ⟨x, 0, 0, 0, 0, 0⟩ := j3.of_heap (hon.block _ j3.lt (fun e => e.elim (fun h => by omega) (fun h => by simp [Value.ownBlock] at h)))
  have k5 : Below w.heap.size w W3 := j5.trans (hon.below (n := w.heap.size) (by omega) (by
    rintro i (h | h)
    · omega
    · simp [Value.ownBlock] at h))
  dsimp only
  gi_wp2_with (gi_at_call 29; refine (chunk_in _ _ _ _ _).mono ?_; rintro e w4 ⟨rfl, rfl⟩)
  obtain ⟨W0, hW0⟩ : ∃ W0, (W3.alloc (.cells #[.slice (some ⟨b, off, none⟩) N c1] 31)).alloc (.cells #[.int .i64 127] 3) = W0 := ⟨_, rfl⟩
  obtain ⟨pre, hpre⟩ : ∃ pre : List ByteArray, [y] = pre := ⟨_, rfl⟩
  have hst : Start w W0 x b off N c1 s0 W3.heap.size v0 pre V := by
    refine ⟨?_, ?_, ?_, ?_, ?_, ?_, ?_, hv0, ?_, by omega, by omega⟩
    · rw [← hW0]; simp
    · rw [← hW0]; exact hz _ _ _ _ (hz _ _ _ _ k2)
    · rw [← hW0]; exact hz _ _ _ _ (hz _ _ _ _ k3)
    · rw [← hW0]; exact hz _ _ _ _ (hz _ _ _ _ hc9)
    · rw [← hW0]; exact hz _ _ _ _ (hn _ _ _ rfl)
    · rw [← hW0]; exact hn _ _ _ (by simp)
    · rw [← hpre, ← hW0]; exact (hown9.alloc _).alloc _
    · rw [← hW0]; exact below_al (below_al k5 _) _
  rw [hW0]
  have hws9 : s0 + 1 + 1 < W3.heap.size := by omega
  obtain ⟨cb, hcb⟩ : ∃ cb, W3.heap.size = cb := ⟨_, rfl⟩
  rw [hcb] at hst ⊢
  have hpl : pre.length ≤ 1 := by rw [← hpre]; exact Nat.le_refl _
  rw [hpre] at HY
  clear hW0 hcb hpre k2 k3 k5 hv0 hc9 hown9 hv9 hon hon9 hkf9 j1 j2 j3 j4 j5 hz hn hI1 HTOP hsz9 hws9 hy
  obtain ⟨hs0, hA1, hA2, b0, b1, b2, hown0, hv0, hBW, hws⟩ := hst
  have hsq : SeqSteps Fence.wide 8 Try.prog 40 #[.pointer (some ⟨cb, 0, none⟩), .pointer (some ⟨cb + 1, 0, none⟩)] (chEnc b off N) (Same [cb, cb + 1]) ((N + 126) / 127) W0 := by
    intro l J Jx W' hB hJ _ hY h0
    exact chunk1_in 8 (by decide) l cb (cb + 1) b off c1 N (by omega) (by omega) J Jx _ hJ (fun k W1 h1 h2 => hY k W1 h1 (by omega)) W' (b1.th hB).c (b2.th hB).c hca hcb h0
  refine wpIn_rangeFunc_steps rfl (by decide) (gf := 40) (lb := #[.pointer (some ⟨cb, 0, none⟩), .pointer (some ⟨cb + 1, 0, none⟩)]) rfl trivial (enters_of Try.func40 (by kernel_rfl) rfl)
    hsq sameK_t (sameK_b (by simp; omega)) (Below.refl _ _) (fun k => by unfold chEnc; rfl)
    (LyI W0 v0 (s0 + 1 + 1) (fun k => pre ++ lowers V k)) (fun c k W => False) lyI_own (fun c k W W' row hI hg hr => hI) ⟨Only.refl _ _, v0, b0, hown0, fun g hg => .inr hg⟩
    (ActA (fun k => [.int .u32 s, .slice (some ⟨b, off, none⟩) N c1, .slice (some ⟨bi, oi, none⟩) ni c2, undef, undef, undef, .pointer (some ⟨s0, 0, none⟩), .slice none 0 0, .int .i64 0, .pointer (some ⟨s0 + 1, 0, none⟩), .pointer (some ⟨s0 + 1 + 1, 0, none⟩), .slice (some ⟨bi, oi + 1, none⟩) (ni - 1) (c2 - 1), .slice (some ⟨b, off + 127 * k, none⟩) (chN N k) (chN N k), .int .u32 s, .bool false, .bool false, .slice (some ⟨b, off, none⟩) N c1, .int .i64 N, .int .u32 s, .int .i64 N, .bool false, .bool false, .bool false, .slice (some ⟨bi, oi, none⟩) ni c2, .int .i64 ni, .int .u32 s, .int .i64 ni, .bool false, .bool false, .bool false, .slice (some ⟨bi, oi, none⟩) ni c2, .bool false, .bool false, undef, .slice (some ⟨bi, oi, none⟩) ni c2, .int .i64 ni, .bool false, undef, undef, undef, undef, .slice (some ⟨bi, oi, none⟩) ni c2, .pointer (some ⟨bi, oi, none⟩), .int .u32 x, .pointer (some ⟨s0 + 1, 0, none⟩), .slice (some ⟨bi, oi, none⟩) ni c2, .slice (some ⟨bi, oi + 1, none⟩) (ni - 1) (c2 - 1), .slice (some ⟨bi, oi + 1, none⟩) (ni - 1) (c2 - 1), .int .i64 ((ni - 1 : Nat) : Int), .bool true, .slice none 0 0, .slice (some ⟨bi, oi + 1, none⟩) (ni - 1) (c2 - 1), .string y, .slice (some ⟨p, 0, none⟩) 1 1, v9, .slice (some ⟨b, off, none⟩) N c1, .func (.func 40) #[] #[.pointer (some ⟨cb, 0, none⟩), .pointer (some ⟨cb + 1, 0, none⟩)], .slice (some ⟨b, off + 127 * k, none⟩) (chN N k) (chN N k), undef, undef, undef, undef, undef, undef, undef])) (fun k a' => actA_own k a') ?assign ?body ?done ?stop
  case assign =>
    intro l k W K hI hk hK
    have HK := Lib.hid (hK _ _ (KeepsFrom.refl _ _) (Same.refl _ _) hI rfl)
    unfold chEnc
    clear hK hI hsq
    dsimp only at HK
    gi_wp2
    exact HK.out
  case body =>
    rintro l k a' W hl hrec hI rfl hk
    have hk127 : 127 * k < N := by omega
    have hBwW := hI.below hBW hws hv0
    have HBL := Lib.hid (fun W2 (h : Below W.heap.size W W2) => hpiece W2 k (below_th hBwW h) hk127)
    obtain ⟨v, c4, hmo⟩ := hI.more (L := pre ++ lowers V k) (y := blkB (chk V k)) hs0 hws.2 hv0 rfl (by rw [lowers_succ, List.append_assoc])
    obtain ⟨ln, hln⟩ : ∃ ln, (pre ++ lowers V k).length = ln := ⟨_, rfl⟩
    have hlnb : ln ≤ 300 := by rw [← hln, List.length_append, lowers_length]; omega
    obtain ⟨xs, hxs⟩ : ∃ xs, (pre ++ lowers V k).map Value.string = xs := ⟨_, rfl⟩
    rw [hln, hxs] at hmo
    obtain ⟨y, hy⟩ : ∃ y, blkB (chk V k) = y := ⟨_, rfl⟩
    rw [hy] at HBL hmo
    obtain ⟨HOWN, HCELL, HEND⟩ := hmo
    have HEND2 := Lib.hid HEND
    have HOW := Lib.hid HOWN
    have HC4 := Lib.hid HCELL
    have hself : Below W.heap.size W W.drew := (Below.refl _ _).drew
    have HSZ : Hid (∀ W2, Below W.heap.size W W2 → s0 + 1 + 1 + 1 ≤ (W2.alloc (.cells #[.string y] 9)).heap.size) := fun W2 h => by have := h.size; have := hI.1.size; simp; omega
    have d4 : W.drew.cell? ⟨s0 + 1 + 1, 0, none⟩ = some v := c4
    clear hI hsq hpiece hBwW hy hrec b0 b1 b2 hk127 c4 HOWN HCELL HEND hln hxs hown0 hA1 hA2
    dsimp only
    gi_wp2
    refine wpIn_round_any (by kernel_rfl) (by kernel_rfl) (by rintro ⟨_, _, hh⟩; exact hh) ?_
    refine wpAny_take (i := 1) (v := .slice (some ⟨b, off + 127 * k, none⟩) (chN N k) (chN N k)) rfl (by kernel_rfl) (by kernel_rfl) (by kernel_rfl) (fun _ _ _ h => h) (Or.inl ⟨by rfl, by intro w; go_simp⟩) ?_
    refine wpAny_ready (rs := [0, 2]) (by kernel_rfl) (by simp) ?_
    refine AllReady.cons rfl (fun K hK => ?_) (AllReady.cons rfl (fun K hK => ?_) AllReady.nil)
    · go_simp
      refine hK _ _ ?_
      clear hK K
      refine wpAny_ready (rs := [2]) (by kernel_rfl) (by simp) ?_
      refine AllReady.cons rfl (fun K hK => ?_) AllReady.nil
      go_simp
      go_at_call 28
      (with_reducible refine Calls.mono (HBL.out _ hself) ?_)
      rintro e w2 ⟨rfl, hB2⟩
      have hb2 : Below W.heap.size W w2 := below_th hself hB2
      obtain ⟨q1, q2⟩ := HC4.out _ hb2
      try go_simp
      refine hK _ _ ?_
      clear hK K
      refine wpAny_ready (rs := [3]) (by kernel_rfl) (by simp) ?_
      refine AllReady.cons rfl (fun K hK => ?_) AllReady.nil
      go_simp
      refine hK _ _ ?_
      clear hK K
      refine wpAny_ready (rs := [4]) (by kernel_rfl) (by simp) ?_
      refine AllReady.cons rfl (fun K hK => ?_) AllReady.nil
      refine step_append_lies _ rfl (.tmp 58) (.tmp 61) 33 rfl (s0 + 1 + 1 + 1) 9 i0 (.string ⟨#[]⟩) 1 16 Try.underlying33 hin hz0 hz1 hz2 rfl (by decide) v ln xs rfl (HOW.out _ hb2) ⟨w2.heap.size, 0, none⟩ 1 1 [.string y] rfl rfl (World.news_of_block (World.alloc_heap_new w2 _)) (by simp [Value.oneCell']) (by decide) (by unfold maxLen; omega) (by omega) (HSZ.out _ hb2) _ rfl ?_
      intro g2 cap2 w4 hown4 hgrow4 hat4 hlt4
      obtain ⟨hcc4, hfi⟩ := HEND2.out w2 g2 cap2 w4 hb2 hown4 hgrow4 hat4
      have e4 := hcc4.c
      have f4 := hcc4.f
      have HFI := Lib.hid hfi
      clear hown4 hgrow4 hat4 hlt4 hcc4 hfi
      try go_simp
      refine hK _ _ ?_
      clear hK K
      refine wpAny_ready (rs := [5]) (by kernel_rfl) (by simp) ?_
      refine AllReady.cons rfl (fun K hK => ?_) AllReady.nil
      go_simp
      refine hK _ _ ?_
      clear hK K
      refine wpAny_done (by kernel_rfl) ?_ _
      exact HFI.out
    · go_simp
      go_at_call 28
      (with_reducible refine Calls.mono (HBL.out _ hself) ?_)
      rintro e w2 ⟨rfl, hB2⟩
      have hb2 : Below W.heap.size W w2 := below_th hself hB2
      obtain ⟨q1, q2⟩ := HC4.out _ hb2
      try go_simp
      refine hK _ _ ?_
      clear hK K
      refine wpAny_ready (rs := [0, 3]) (by kernel_rfl) (by simp) ?_
      refine AllReady.cons rfl (fun K hK => ?_) (AllReady.cons rfl (fun K hK => ?_) AllReady.nil)
      · go_simp
        refine hK _ _ ?_
        clear hK K
        refine wpAny_ready (rs := [3]) (by kernel_rfl) (by simp) ?_
        refine AllReady.cons rfl (fun K hK => ?_) AllReady.nil
        go_simp
        refine hK _ _ ?_
        clear hK K
        refine wpAny_ready (rs := [4]) (by kernel_rfl) (by simp) ?_
        refine AllReady.cons rfl (fun K hK => ?_) AllReady.nil
        refine step_append_lies _ rfl (.tmp 58) (.tmp 61) 33 rfl (s0 + 1 + 1 + 1) 9 i0 (.string ⟨#[]⟩) 1 16 Try.underlying33 hin hz0 hz1 hz2 rfl (by decide) v ln xs rfl (HOW.out _ hb2) ⟨w2.heap.size, 0, none⟩ 1 1 [.string y] rfl rfl (World.news_of_block (World.alloc_heap_new w2 _)) (by simp [Value.oneCell']) (by decide) (by unfold maxLen; omega) (by omega) (HSZ.out _ hb2) _ rfl ?_
        intro g2 cap2 w4 hown4 hgrow4 hat4 hlt4
        obtain ⟨hcc4, hfi⟩ := HEND2.out w2 g2 cap2 w4 hb2 hown4 hgrow4 hat4
        have e4 := hcc4.c
        have f4 := hcc4.f
        have HFI := Lib.hid hfi
        clear hown4 hgrow4 hat4 hlt4 hcc4 hfi
        try go_simp
        refine hK _ _ ?_
        clear hK K
        refine wpAny_ready (rs := [5]) (by kernel_rfl) (by simp) ?_
        refine AllReady.cons rfl (fun K hK => ?_) AllReady.nil
        go_simp
        refine hK _ _ ?_
        clear hK K
        refine wpAny_done (by kernel_rfl) ?_ _
        exact HFI.out
      · go_simp
        refine hK _ _ ?_
        clear hK K
        refine wpAny_ready (rs := [0]) (by kernel_rfl) (by simp) ?_
        refine AllReady.cons rfl (fun K hK => ?_) AllReady.nil
        go_simp
        refine hK _ _ ?_
        clear hK K
        refine wpAny_ready (rs := [4]) (by kernel_rfl) (by simp) ?_
        refine AllReady.cons rfl (fun K hK => ?_) AllReady.nil
        refine step_append_lies _ rfl (.tmp 58) (.tmp 61) 33 rfl (s0 + 1 + 1 + 1) 9 i0 (.string ⟨#[]⟩) 1 16 Try.underlying33 hin hz0 hz1 hz2 rfl (by decide) v ln xs rfl (HOW.out _ hb2) ⟨w2.heap.size, 0, none⟩ 1 1 [.string y] rfl rfl (World.news_of_block (World.alloc_heap_new w2 _)) (by simp [Value.oneCell']) (by decide) (by unfold maxLen; omega) (by omega) (HSZ.out _ hb2) _ rfl ?_
        intro g2 cap2 w4 hown4 hgrow4 hat4 hlt4
        obtain ⟨hcc4, hfi⟩ := HEND2.out w2 g2 cap2 w4 hb2 hown4 hgrow4 hat4
        have e4 := hcc4.c
        have f4 := hcc4.f
        have HFI := Lib.hid hfi
        clear hown4 hgrow4 hat4 hlt4 hcc4 hfi
        try go_simp
        refine hK _ _ ?_
        clear hK K
        refine wpAny_ready (rs := [5]) (by kernel_rfl) (by simp) ?_
        refine AllReady.cons rfl (fun K hK => ?_) AllReady.nil
        go_simp
        refine hK _ _ ?_
        clear hK K
        refine wpAny_done (by kernel_rfl) ?_ _
        exact HFI.out
  case done =>
    rintro D W hD hI hKD
    have hBwW := hI.below hBW hws hv0
    have hR1 : AtM W s0 M.zero := hA1.of_heap (hI.1.block _ hA1.lt (fun e => e.elim (fun h => by omega) (fun h => by have := hv0 _ h; omega)))
    have hR2 : AtM W (s0 + 1) ⟨x, 0, 0, 0, 0, 0⟩ := hA2.of_heap (hI.1.block _ hA2.lt (fun e => e.elim (fun h => by omega) (fun h => by have := hv0 _ h; omega)))
    obtain ⟨v, hc, hown, _⟩ := hI.2
    have hls := Lies.own hown
    have c4 := hc.c
    obtain ⟨p0, p1, p2, p3, p4, p5⟩ := hR2.c
    obtain ⟨r0, r1, r2, r3, r4, r5⟩ := zM_c hR1
    have f0 := hR1.f 0
    have f1 := hR1.f 1
    have f2 := hR1.f 2
    have f3 := hR1.f 3
    have f4 := hR1.f 4
    have f5 := hR1.f 5
    dsimp only at p0 p1 p2 p3 p4 p5
    obtain ⟨hP, hBP⟩ := put6M hR1 ⟨x, 0, 0, 0, 0, 0⟩
    have hD9 := (set6_other W s0 D (.int .u32 x) (by omega)).trans hKD
    have ho9 : ((((((W.setCell ⟨s0, 0, none⟩ (.int .u32 x)).setCell ⟨s0, 1, none⟩ (.int .u32 0)).setCell ⟨s0, 2, none⟩ (.int .u32 0)).setCell ⟨s0, 3, none⟩ (.int .u32 0)).setCell ⟨s0, 4, none⟩ (.int .u32 0)).setCell ⟨s0, 5, none⟩ (.int .u32 0)).ownsRow (s0 + 1 + 1 + 1) 9 1 v (pre ++ lowers V ((N + 126) / 127)).length ((pre ++ lowers V ((N + 126) / 127)).map .string) := own_set6 hown (by omega)
    dsimp only at hP hBP
    rw [show ((0 : Nat) : Int) = 0 from rfl] at hP hBP
    obtain ⟨X6, hX6⟩ : ∃ X6, (((((W.setCell ⟨s0, 0, none⟩ (.int .u32 x)).setCell ⟨s0, 1, none⟩ (.int .u32 0)).setCell ⟨s0, 2, none⟩ (.int .u32 0)).setCell ⟨s0, 3, none⟩ (.int .u32 0)).setCell ⟨s0, 4, none⟩ (.int .u32 0)).setCell ⟨s0, 5, none⟩ (.int .u32 0) = X6 := ⟨_, rfl⟩
    rw [hX6] at hP hBP hD9 ho9
    have hg9 : X6.drew.grownBy (X6.drew.putObj D (.deferred none)) (some D) := ⟨rfl, rfl, rfl, by simp [World.putObj], fun j _ hj => World.putObj_heap_other (fun e => hj (by rw [e]))⟩
    have hl9 : Lies X6.drew v _ 1 _ := Lies.own (own_below2 ho9 ((Below.refl _ X6).drew))
    have hs9 : Strs (X6.drew.putObj D (.deferred none)) v (pre ++ lowers V ((N + 126) / 127)) := Lies.grown hl9 hg9 (fun j hj c t f h => by
      cases hj
      have hD8 : X6.drew.heap[D]? = some (.deferred (some [])) := hD9
      rw [hD8] at h
      cases h)
    have HX : Hid (R (.returned (.tuple #[(⟨x, 0, 0, 0, 0, 0⟩ : M).val, v, .int .i64 0])) (X6.drew.putObj D (.deferred none))) := HY.out v _ hs9 (below_putObj (hBwW.trans ((hBP.mono hws.1).drew)) D (by omega) _)
    have HP : Hid (AtM (X6.drew.putObj D (.deferred none)) s0 ⟨x, 0, 0, 0, 0, 0⟩) := AtM.of_heap (W := X6.drew) (AtM.drew hP) (World.putObj_heap_other (by omega))
    have HKD : Hid (X6.drew.heap[D]? = some (.deferred (some []))) := hD9
    rw [← hX6] at HX HP HKD
    clear hI hBwW hR1 hR2 hc hown hls hP hBP hD9 ho9 hg9 hl9 hs9 hX6 hsq hpiece b0 b1 b2 hA1 hA2 hown0 hKD
    gi_wp2
    gi_region
    all_goals
      gi_wp2
      refine ⟨by simp, .inl ⟨_, _, rfl, run_takeDeferred HKD.out, ?_⟩⟩
      refine ⟨_, results_lay (r := 6) (x := 7) (e := 8) rfl _ _ rfl HP.out, ?_⟩
      exact HX.out
  case stop =>
    rintro D c k W hD hk hf
    exact hf.elim
end
end Go.Proofs.Ytdakfdecfpebcaa.Bmp
