/- Several texts in one, each under its own heading. -/
import Derived.Test.YteopcjfakhmifaaPk27
/- The program's iterator over a file's contents. -/
namespace Go.Proofs.Yteopcjfakhmifaa.Vol
open Go.RowKit
attribute [local go_sem] Oper.semAt_some
set_option linter.unusedVariables false
set_option linter.unusedSimpArgs false
section
set_option maxRecDepth 100000
set_option maxHeartbeats 4000000
/-- the iterator hands out a file's contents -/
theorem conts1_in (n : Nat) (hn : 1 ≤ n) (l Bs : Nat) (s : ByteArray) (hs : s.size ≤ 100000) (w : World) (hS : w.cell? ⟨Bs, 0, none⟩ = some (.string s)) (J Jx : Nat → World → Prop) (B0 : Nat) (hJ : AbidesFrom B0 J)
    (hY : ∀ k W, J k W → k < nb s.size → YieldAt Fence.wide (n - 1) Try.prog l (encC s k) W fun e W' => (e = .returned (.bool true) ∧ J (k + 1) W' ∧ Same [Bs] W W') ∨ (e = .returned (.bool false) ∧ Jx k W'))
    (W : World) (hSW : Same [Bs] w W) (h0 : J 0 W) :
    CallsIn Fence.wide n Try.prog 57 #[.func (.yield l) #[] #[], .pointer (some ⟨Bs, 0, none⟩)] W fun e W' => (∃ v, e = .returned v) ∧ (J (nb s.size) W' ∨ ∃ k, k < nb s.size ∧ Jx k W') := by
  have hfn : ∀ f, Fence.wide.fn f := fun _ => trivial
  have hJa : ∀ k W1 W2, J k W1 → Below W1.heap.size W1 W2 → J k W2 := fun k W1 W2 h hB => hJ _ _ _ none h (grown_of_below hB) (fun r e => by cases e)
  have HJA := Lib.hid hJa
  have HY := Lib.hid hY
  have HX := Lib.hid (fun W' (h : Same [Bs] w W') => (h.cell (p := ⟨Bs, 0, none⟩) (by simp)).trans hS)
  have HAT := Lib.hid (fun (k : Nat) W (hk : k ≤ 100000) => at_any s k W (by omega) hk)
  have hN9 : nb s.size ≤ 200 := by unfold nb; omega
  have HCP : Hid (∀ k, k < nb s.size → ¬ ch s k = ⟨#[]⟩) := fun k h e => by
    have := ch_pos h
    rw [e] at this
    exact absurd this (by decide)
  have HCO : Hid (ch s (nb s.size) = ⟨#[]⟩) := ch_out (Nat.le_refl _)
  obtain ⟨N, hN⟩ : ∃ N, nb s.size = N := ⟨_, rfl⟩
  rw [hN] at HY HCP HCO hN9 ⊢
  clear hJa hY hJ hS hN
  refine callsIn_of_wp Try.func57 rfl trivial ?_ rfl
  simp only [Try.ntmps57, List.size_toArray, List.length_cons, List.length_nil, Nat.reduceAdd, Nat.reduceSub, Array.replicate_succ, Array.replicate_zero, List.push_toArray, List.append_toArray, List.nil_append, List.cons_append]
  gi_wp2
  gi_loopw [3] (fun i wr => ∃ k : Nat, i = .int .i64 (k : Int) ∧ k ≤ N ∧ J k wr ∧ Same [Bs] w wr) (fun i _ => N + 1 - (intOf i).toNat)
  case atStart => exact ⟨0, rfl, by omega, h0, hSW⟩
  case round =>
    obtain ⟨k, rfl, hk, hJk, hS⟩ := hrel
    have c0 := HX.out _ hS
    have hC := Lib.hid (fun W => HAT.out k W (by omega))
    by_cases hlt : k < N
    · have hne := HCP.out k hlt
      obtain ⟨fn, tmps, assign, body, hy, hR⟩ := HY.out k wr hJk hlt
      unfold encC at hy
      have HK := Lib.hid hS
      generalize ch s k = x at hC hne hy hR
      have q0 : x.toList.isEmpty = false := by
        cases hx : x.toList.isEmpty with
        | false => rfl
        | true => exact absurd (ba_ext (by rw [← Lib.toList_data]; simpa using hx)) hne
      have q1 : (x.toList == []) = false := by
        cases hx : (x.toList == []) with
        | false => rfl
        | true => exact absurd (ba_ext (by rw [← Lib.toList_data]; simpa using hx)) hne
      clear hJk hS hne HY HAT HCO HCP
      gi_wp2_with (gi_at_call 41; refine (callsIn_wide.2 (hC.out _)).mono ?_; rintro e w1 ⟨rfl, rfl⟩)
      refine hR.mono ?_
      rintro e W3 (⟨rfl, hJ3, hk3⟩ | ⟨rfl, hJx3⟩)
      · gi_wp2
        go_roundw
        case rel => exact ⟨k + 1, by go_num, hlt, hJ3, HK.out.trans hk3⟩
        case measure => simp [intOf]; omega
      · gi_wp2
        refine bodyPost_ret (results_none rfl _ _ _) rfl ?_
        exact ⟨⟨_, rfl⟩, .inr ⟨k, hlt, hJx3⟩⟩
    · obtain rfl : k = N := by omega
      rw [HCO.out] at hC
      gi_wp2_with (gi_at_call 41; refine (callsIn_wide.2 (hC.out _)).mono ?_; rintro e w1 ⟨rfl, rfl⟩)
      refine bodyPost_ret (results_none rfl _ _ _) rfl ?_
      exact ⟨⟨_, rfl⟩, .inl hJk⟩
theorem conts_in (n : Nat) (s : ByteArray) (w : World) :
    CallsIn Fence.wide n Try.prog 39 #[.string s] w fun e w' => e = .returned (.func (.func 57) #[] #[.pointer (some ⟨w.heap.size, 0, none⟩)]) ∧ w.alloc (.cells #[.string s] 9) = w' := by
  refine callsIn_of_wp Try.func39 rfl trivial ?_ rfl
  simp only [Try.ntmps39, List.size_toArray, List.length_cons, List.length_nil, Nat.reduceAdd, Nat.reduceSub, Array.replicate_succ, Array.replicate_zero, List.push_toArray, List.append_toArray, List.nil_append, List.cons_append]
  gi_wp2
  go_ret
  exact ⟨rfl, rfl⟩
theorem conts_steps (Bs : Nat) (s : ByteArray) (hs : s.size ≤ 100000) (w : World) (hS : w.cell? ⟨Bs, 0, none⟩ = some (.string s)) : SeqSteps Fence.wide 8 Try.prog 57 #[.pointer (some ⟨Bs, 0, none⟩)] (encC s) (Same [Bs]) (nb s.size) w := by
  intro l J Jx W' hB' hJ _ hY h0
  have hlt : Bs < w.heap.size := World.block_lt_of_cell? _ _ hS
  exact conts1_in 8 (by decide) l Bs s hs w hS J Jx _ hJ hY W' (Same.below hB' (by intro x hx; simp at hx; omega)) h0
end
end Go.Proofs.Yteopcjfakhmifaa.Vol
/- Cut of the program. -/
namespace Go.Proofs.Yteopcjfakhmifaa.Vol
open Go.RowKit
attribute [local go_sem] Oper.semAt_some
set_option linter.unusedVariables false
set_option linter.unusedSimpArgs false
/-- what has been cut behind k rounds -/
def CutI (W0 : World) (s : ByteArray) (q : Nat) (k : Nat) (W : World) : Prop :=
  Only (fun i => i = q) W0 W ∧ ∃ v, CellAt W q 22 v ∧ W.ownsRow W0.heap.size 9 1 v k ((cutsK s k).map fun x => .string x)
theorem cutI_own {W0 : World} {s : ByteArray} {q : Nat} : OwnFrom W0.heap.size (CutI W0 s q) := fun k W W' row hI hg hr => by
  obtain ⟨h1, v, h2, h3⟩ := hI
  exact ⟨h1.grown hg (fun r e => .inl (hr r e).1), v, kept_cells h2 hg hr, own_row h3 hg hr⟩
section
set_option maxRecDepth 100000
set_option maxHeartbeats 4000000
theorem cut_in (s : ByteArray) (w : World) (hs : s.size ≤ 100000) : CallsIn Fence.wide 9 Try.prog 15 #[.string s] w (CutPost s w) := by
  have hfn : ∀ f, Fence.wide.fn f := fun _ => trivial
  obtain ⟨i0, hin, hz0, hz1, hz2⟩ := info_parts infoStrs
  refine callsIn_of_wp_marks Try.func15 rfl trivial ?_ rfl
  simp only [Try.ntmps15, List.size_toArray, List.length_cons, List.length_nil, Nat.reduceAdd, Nat.reduceSub, Array.replicate_succ, Array.replicate_zero, List.push_toArray, List.append_toArray, List.nil_append, List.cons_append]
  gi_wp2_with (gi_at_call 39; refine (conts_in _ _ _).mono ?_; rintro e w4 ⟨rfl, rfl⟩)
  obtain ⟨q, hq⟩ : ∃ q, w.heap.size = q := ⟨_, rfl⟩
  obtain ⟨W0, hW0⟩ : ∃ W0, (w.alloc (.cells #[.slice none 0 0] 22)).alloc (.cells #[.string s] 9) = W0 := ⟨_, rfl⟩
  have hs0 : W0.heap.size = q + 2 := by rw [← hW0, ← hq]; simp
  have hBW : Below w.heap.size w W0 := by rw [← hW0]; exact below_al (below_al (Below.refl _ _) _) _
  have b0 : CellAt W0 q 22 (.slice none 0 0) := by rw [← hW0, ← hq]; exact (CellAt.new w _ _).th (below_new _ _)
  have b1 : CellAt W0 (q + 1) 9 (.string s) := by
    have h := CellAt.new (w.alloc (.cells #[.slice none 0 0] 22)) 9 (.string s)
    rw [hW0, World.size_alloc, hq] at h
    exact h
  have hsq := conts_steps (q + 1) s hs W0 b1.c
  rw [hW0]
  rw [hq]
  obtain ⟨N, hN⟩ : ∃ N, nb s.size = N := ⟨_, rfl⟩
  have hN9 : N ≤ 200 := by rw [← hN]; unfold nb; omega
  have HNN := Lib.hid hN
  have HCH : Hid (∀ k, (ch s k).size ≤ 508) := ch_le s
  rw [hN] at hsq
  clear hW0 hN
  refine wpIn_rangeFunc_steps rfl (by decide) (gf := 57) (lb := #[.pointer (some ⟨q + 1, 0, none⟩)]) rfl trivial (enters_of Try.func57 (by kernel_rfl) rfl)
    hsq sameK_t (sameK_b (by simp; omega)) (Below.refl _ _) (fun k => by unfold encC; rfl)
    (CutI W0 s q) (fun c k W => False) cutI_own (fun c k W W' row hI hg hr => hI) ⟨Only.refl _ _, _, b0, World.ownsRow_nil _ _ _ _⟩
    (ActA (fun k => #[.string s, undef, .slice none 0 0, .pointer (some ⟨q, 0, none⟩), undef, .string (ch s k), .string s, .func (.func 57) #[] #[.pointer (some ⟨q + 1, 0, none⟩)], .int .i64 (k : Int), .string (ch s k), undef, undef, undef, undef, undef, undef])) (fun k a' => actA_own k a') ?assign ?body ?done ?stop
  case assign =>
    intro l k W K hI hk hK
    have HK := Lib.hid (hK _ _ (KeepsFrom.refl _ _) (Same.refl _ _) hI rfl)
    unfold encC
    clear hK hI hsq
    dsimp only at HK
    gi_wp2
    exact HK.out
  case body =>
    rintro l k a' W hl hrec ⟨hon, v, hc, hown⟩ rfl hk
    have hsz := hon.size
    have HBL := Lib.hid (fun W2 => clone_any (ch s k) W2 (by have := ch_le s k; omega))
    dsimp only
    have hks := cutsK_succ s k
    obtain ⟨x, hx⟩ : ∃ x, ch s k = x := ⟨_, rfl⟩
    rw [hx] at HBL hks ⊢
    have hfin : ∀ W2 v' W4, Below W.heap.size W W2 → W4.ownsRow W0.heap.size 9 1 v' (k + 1) ((cutsK s k).map (fun x => .string x) ++ [.string x]) → (W2.alloc (.cells #[.string x] 9)).grownBy W4 v.ownBlock → CellAt W4 q 22 v ∧ (KeepsFrom W0.heap.size W (W4.setCell ⟨q, 0, none⟩ v') ∧ Same [q + 1] W (W4.setCell ⟨q, 0, none⟩ v') ∧ CutI W0 s q (k + 1) (W4.setCell ⟨q, 0, none⟩ v')) := fun W2 v' W4 h2 ho hg => by
      have hvb : ∀ r, v.ownBlock = some r → W0.heap.size ≤ r ∧ ∃ c t f, W.heap[r]? = some (.cells c t f) := fun r e => by
        rcases hown.2 with ⟨e1, _⟩ | ⟨g2, cap2, cur, e1, hb2, hgg, _⟩
        · rw [e1] at e; cases e
        · rw [e1] at e
          have e2 : g2 = r := by simpa [Value.ownBlock] using e
          rw [← e2]
          exact ⟨hb2, _, _, _, hgg⟩
      have hon2 : Only (fun i => i = q ∨ v.ownBlock = some i) W W4 := ((Only.of_below h2).alloc (.cells #[.string x] 9)).grown hg (fun r e => .inr (.inr e))
      have hne : ∀ r, v.ownBlock = some r → ¬ q = r := fun r e => by have := (hvb r e).1; omega
      have hc4 : CellAt W4 q 22 v := by
        have h3 : CellAt (W2.alloc (.cells #[.string x] 9)) q 22 v := (hc.th h2).of_heap (Below.heap_alloc _ _ _ (hc.th h2).lt)
        exact h3.of_heap (hg.block q h3.lt (fun e => hne q e.symm rfl))
      have hon5 : Only (fun i => i = q ∨ v.ownBlock = some i) W (W4.setCell ⟨q, 0, none⟩ v') := hon2.setCell (p := ⟨q, 0, none⟩) (.inr (.inl rfl)) _
      refine ⟨hc4, keeps_of_only _ hon5 (fun j hj => ?_), fun y hy => ?_, hon.step hon5 (fun i hi h => ?_), v', hc4.put v', ?_⟩
      · rcases hj with rfl | hj
        · exact ⟨_, _, _, hc⟩
        · exact (hvb j hj).2
      · refine hon5.block y (by simp at hy; omega) (fun hh => ?_)
        simp at hy
        rcases hh with hh | hh
        · omega
        · have := (hvb y hh).1; omega
      · rcases h with h | h
        · exact h
        · have := (hvb i h).1; omega
      · rw [hks, List.map_append]
        have h6 := ho.kept (w' := W4.setCell ⟨q, 0, none⟩ v') (row := some q) ⟨rfl, rfl, rfl, (KeepsWalks.setCell W4 ⟨q, 0, none⟩ v').size, fun j hj hn => Below.heap_setCell _ _ _ _ (fun e => hn (by rw [e]))⟩ (by
          cases hv : v'.ownBlock with
          | none => exact .inl rfl
          | some g => exact .inr (fun e => by have := (ho.lt g hv).1; cases e; omega))
        exact h6
    have HFIN := Lib.hid hfin
    have c4 := hc.c
    have hk9 : k ≤ 200 := by omega
    have HOW : Hid (∀ W2, Below W.heap.size W W2 → (W2.alloc (.cells #[.string x] 9)).ownsRow W0.heap.size 9 1 v k ((cutsK s k).map fun x => .string x)) := fun W2 h => (hown.kept (grown_of_below h) (by cases hv : v.ownBlock <;> simp)).alloc _
    have HC4 : Hid (∀ W2, Below W.heap.size W W2 → W2.cell? ⟨q, 0, none⟩ = some v ∧ (W2.alloc (.cells #[.string x] 9)).cell? ⟨q, 0, none⟩ = some v) := fun W2 h => ⟨(hc.th h).c, ((hc.th h).of_heap (Below.heap_alloc _ _ _ (hc.th h).lt)).c⟩
    have hself : Below W.heap.size W W.drew := (Below.refl _ _).drew
    have HSZ : Hid (∀ W2, Below W.heap.size W W2 → W0.heap.size ≤ (W2.alloc (.cells #[.string x] 9)).heap.size) := fun W2 h => by have := h.size; simp; omega
    have d4 : W.drew.cell? ⟨q, 0, none⟩ = some v := c4
    clear hon hc hown hsq hx hks hfin hrec b0 b1 c4
    gi_wp2
    refine wpIn_round_any (by kernel_rfl) (by kernel_rfl) (by rintro ⟨_, _, hh⟩; exact hh) ?_
    refine wpAny_take (i := 1) (v := .string x) rfl (by kernel_rfl) (by kernel_rfl) (by kernel_rfl) (fun _ _ _ h => h) (Or.inl ⟨by rfl, by intro w; go_simp⟩) ?_
    refine wpAny_ready (rs := [0, 2]) (by kernel_rfl) (by simp) ?_
    refine AllReady.cons rfl (fun K hK => ?_) (AllReady.cons rfl (fun K hK => ?_) AllReady.nil)
    · go_simp
      refine hK _ _ ?_
      clear hK K
      refine wpAny_ready (rs := [2]) (by kernel_rfl) (by simp) ?_
      refine AllReady.cons rfl (fun K hK => ?_) AllReady.nil
      go_simp
      go_at_call 40
      (with_reducible refine Calls.mono (HBL.out _) ?_)
      rintro e w2 ⟨rfl, hB2⟩
      have hb2 : Below W.heap.size W w2 := below_th hself hB2
      obtain ⟨q1, q2⟩ := HC4.out _ hb2
      try go_simp
      refine hK _ _ ?_
      clear hK K
      refine wpAny_ready (rs := [3]) (by kernel_rfl) (by simp) ?_
      refine AllReady.cons rfl (fun K hK => ?_) AllReady.nil
      go_simp
      refine hK _ _ ?_
      clear hK K
      refine wpAny_ready (rs := [4]) (by kernel_rfl) (by simp) ?_
      refine AllReady.cons rfl (fun K hK => ?_) AllReady.nil
      refine step_append_lies _ rfl (.tmp 10) (.tmp 13) 22 rfl W0.heap.size 9 i0 (.string ⟨#[]⟩) 1 16 Try.underlying22 hin hz0 hz1 hz2 rfl (by decide) v k ((cutsK s k).map fun x => .string x) rfl (HOW.out _ hb2) ⟨w2.heap.size, 0, none⟩ 1 1 [.string x] rfl rfl (World.news_of_block (World.alloc_heap_new w2 _)) (by simp [Value.oneCell']) (by decide) (by unfold maxLen; omega) (by omega) (HSZ.out _ hb2) _ rfl ?_
      intro g2 cap2 w4 hown4 hgrow4 hat4 hlt4
      obtain ⟨hcc, hfi⟩ := HFIN.out w2 _ w4 hb2 hown4 hgrow4
      have e4 := hcc.c
      have f4 := hcc.f
      have HFI := Lib.hid hfi
      clear hown4 hgrow4 hat4 hlt4 hcc hfi
      try go_simp
      refine hK _ _ ?_
      clear hK K
      refine wpAny_ready (rs := [5]) (by kernel_rfl) (by simp) ?_
      refine AllReady.cons rfl (fun K hK => ?_) AllReady.nil
      go_simp
      refine hK _ _ ?_
      clear hK K
      refine wpAny_done (by kernel_rfl) ?_ _
      exact HFI.out
    · go_simp
      go_at_call 40
      (with_reducible refine Calls.mono (HBL.out _) ?_)
      rintro e w2 ⟨rfl, hB2⟩
      have hb2 : Below W.heap.size W w2 := below_th hself hB2
      obtain ⟨q1, q2⟩ := HC4.out _ hb2
      try go_simp
      refine hK _ _ ?_
      clear hK K
      refine wpAny_ready (rs := [0, 3]) (by kernel_rfl) (by simp) ?_
      refine AllReady.cons rfl (fun K hK => ?_) (AllReady.cons rfl (fun K hK => ?_) AllReady.nil)
      · go_simp
        refine hK _ _ ?_
        clear hK K
        refine wpAny_ready (rs := [3]) (by kernel_rfl) (by simp) ?_
        refine AllReady.cons rfl (fun K hK => ?_) AllReady.nil
        go_simp
        refine hK _ _ ?_
        clear hK K
        refine wpAny_ready (rs := [4]) (by kernel_rfl) (by simp) ?_
        refine AllReady.cons rfl (fun K hK => ?_) AllReady.nil
        refine step_append_lies _ rfl (.tmp 10) (.tmp 13) 22 rfl W0.heap.size 9 i0 (.string ⟨#[]⟩) 1 16 Try.underlying22 hin hz0 hz1 hz2 rfl (by decide) v k ((cutsK s k).map fun x => .string x) rfl (HOW.out _ hb2) ⟨w2.heap.size, 0, none⟩ 1 1 [.string x] rfl rfl (World.news_of_block (World.alloc_heap_new w2 _)) (by simp [Value.oneCell']) (by decide) (by unfold maxLen; omega) (by omega) (HSZ.out _ hb2) _ rfl ?_
        intro g2 cap2 w4 hown4 hgrow4 hat4 hlt4
        obtain ⟨hcc, hfi⟩ := HFIN.out w2 _ w4 hb2 hown4 hgrow4
        have e4 := hcc.c
        have f4 := hcc.f
        have HFI := Lib.hid hfi
        clear hown4 hgrow4 hat4 hlt4 hcc hfi
        try go_simp
        refine hK _ _ ?_
        clear hK K
        refine wpAny_ready (rs := [5]) (by kernel_rfl) (by simp) ?_
        refine AllReady.cons rfl (fun K hK => ?_) AllReady.nil
        go_simp
        refine hK _ _ ?_
        clear hK K
        refine wpAny_done (by kernel_rfl) ?_ _
        exact HFI.out
      · go_simp
        refine hK _ _ ?_
        clear hK K
        refine wpAny_ready (rs := [0]) (by kernel_rfl) (by simp) ?_
        refine AllReady.cons rfl (fun K hK => ?_) AllReady.nil
        go_simp
        refine hK _ _ ?_
        clear hK K
        refine wpAny_ready (rs := [4]) (by kernel_rfl) (by simp) ?_
        refine AllReady.cons rfl (fun K hK => ?_) AllReady.nil
        refine step_append_lies _ rfl (.tmp 10) (.tmp 13) 22 rfl W0.heap.size 9 i0 (.string ⟨#[]⟩) 1 16 Try.underlying22 hin hz0 hz1 hz2 rfl (by decide) v k ((cutsK s k).map fun x => .string x) rfl (HOW.out _ hb2) ⟨w2.heap.size, 0, none⟩ 1 1 [.string x] rfl rfl (World.news_of_block (World.alloc_heap_new w2 _)) (by simp [Value.oneCell']) (by decide) (by unfold maxLen; omega) (by omega) (HSZ.out _ hb2) _ rfl ?_
        intro g2 cap2 w4 hown4 hgrow4 hat4 hlt4
        obtain ⟨hcc, hfi⟩ := HFIN.out w2 _ w4 hb2 hown4 hgrow4
        have e4 := hcc.c
        have f4 := hcc.f
        have HFI := Lib.hid hfi
        clear hown4 hgrow4 hat4 hlt4 hcc hfi
        try go_simp
        refine hK _ _ ?_
        clear hK K
        refine wpAny_ready (rs := [5]) (by kernel_rfl) (by simp) ?_
        refine AllReady.cons rfl (fun K hK => ?_) AllReady.nil
        go_simp
        refine hK _ _ ?_
        clear hK K
        refine wpAny_done (by kernel_rfl) ?_ _
        exact HFI.out
  case done =>
    rintro D W hD ⟨hon, v, hc, hown⟩ hKD
    have hsz := hon.size
    have c4 := hc.c
    have hlies : Lies W v N 1 ((cutsK s N).map fun x => .string x) := Lies.own hown
    have hgr : W.grownBy (W.putObj D (.deferred none)) (some D) := ⟨rfl, rfl, rfl, by simp [World.putObj], fun j _ hj => World.putObj_heap_other (fun e => hj (by rw [e]))⟩
    have HP : Hid (CutPost s w (.returned v) (W.putObj D (.deferred none))) := by
      refine ⟨v, rfl, ?_, below_putObj (hBW.trans (hon.below (by omega) (by rintro j rfl; omega))) D (by omega) _⟩
      have h3 : Strs (W.putObj D (.deferred none)) v (cutsK s N) := by
        unfold Strs
        rw [cutsK_len]
        exact hlies.grown hgr (fun j hj c t f h => by cases hj; rw [hKD] at h; cases h)
      rw [← HNN.out] at h3
      exact h3
    have HKD := Lib.hid hKD
    clear hon hc hown hsq hlies hgr hKD b0 b1
    gi_wp2
    refine ⟨by simp, .inl ⟨_, _, rfl, run_takeDeferred HKD.out, ?_⟩⟩
    refine ⟨_, results_tmp rfl _ _, ?_⟩
    exact HP.out
  case stop =>
    rintro D c k W hD hk hf
    exact hf.elim
theorem cut_any (s : ByteArray) (w : World) (hs : s.size ≤ 100000) : Calls Try.prog 15 #[.string s] w (CutPost s w) := callsIn_wide.1 (cut_in s w hs)
end
end Go.Proofs.Yteopcjfakhmifaa.Vol
