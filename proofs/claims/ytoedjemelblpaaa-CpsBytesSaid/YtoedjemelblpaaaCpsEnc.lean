/- Encode of the program. -/
import Derived.Test.YtoedjemelblpaaaRoundTail
import Derived.Test.YtoedjemelblpaaaCpsBlk
namespace Go.Proofs.Ytoedjemelblpaaa.Cps
open Go.RowKit Go.Shelf
attribute [local go_sem] Oper.semAt_some
set_option linter.unusedVariables false
set_option linter.unusedSimpArgs false

/-- texts -/
def Strs (w : World) (v : Value) (C : List ByteArray) : Prop := Lies w v C.length 1 (C.map .string)
theorem Strs.below {w w' : World} {v : Value} {C : List ByteArray} (h : Strs w v C) (hB : Below w.heap.size w w') : Strs w' v C := Lies.below h hB
theorem Strs.nil (w : World) : Strs w (.slice none 0 0) [] := Lies.nil w 1
def EncPost (L : List C) (w : World) (e : Ending) (w' : World) : Prop := ∃ v, e = .returned (.tuple #[v, .int .i64 (encE L)]) ∧ Strs w' v (encV L) ∧ Below w.heap.size w w'
theorem infoStr : (Try.prog.info? 9).map (fun i => (i.zero, i.size, i.bytes)) = some (some (.string ⟨#[]⟩), 1, 16) := by kernel_rfl
theorem results_two {fn : Func} {r t : Tmp} (h : fn.results = #[.tmp r, .tmp t]) (tmps : Array Value) (w : World) : (results fn tmps).run Try.prog w = .ok (.tuple #[tmps.getD r undef, tmps.getD t undef]) w := by
  simp [results, h, go_sem]
/-- a piece of a table -/
theorem Chs.piece {w : World} {b off N cap : Nat} {L : List C} (hN : L.length = N) (h : Chs w (.slice (some ⟨b, off, none⟩) N cap) L) (k : Nat) (hk : 9 * k < N) : Chs w (.slice (some ⟨b, off + 9 * k * 4, none⟩) (chN N k) (chN N k)) (chunk L k) := by
  subst hN
  have hm := chunk_length L k
  have hmN : (chunk L k).length = chN L.length k := hm
  have hcap : L.length ≤ maxLen := by
    obtain ⟨a1, c1, e, g1, ⟨g2, _⟩, _⟩ := h
    cases e
    omega
  refine ⟨_, chN L.length k, by rw [hmN], by rw [hmN]; exact Nat.le_refl _, ⟨by unfold chN; omega, fun e => by cases e⟩, flat_length C.cells 4 _ (fun _ _ => rfl), fun hp => ⟨b, off + 9 * k * 4, rfl, fun j u hj => ?_⟩⟩
  have hjl := (List.getElem?_eq_some_iff.1 hj).1
  rw [flat_length C.cells 4 _ (fun _ _ => rfl), hm] at hjl
  obtain ⟨p, r, hr, rfl⟩ : ∃ p r, r < 4 ∧ j = p * 4 + r := ⟨j / 4, j % 4, Nat.mod_lt _ (by decide), by omega⟩
  have hp9 : p < 9 := by omega
  have hpl : 9 * k + p < L.length := by omega
  have h1 := flat_at C.cells 4 (chunk L k) (fun _ _ => rfl) p r (ck (chunk L k) p) (ck_get (by rw [hm]; omega)) hr
  rw [h1, ck_chunk L k hp9] at hj
  obtain ⟨a1, c1, e, _, _, _, h5⟩ := h
  cases e
  obtain ⟨b2, o2, e2, hc⟩ := h5 (by omega)
  cases e2
  have h2 := hc ((9 * k + p) * 4 + r) u (by rw [flat_at C.cells 4 L (fun _ _ => rfl) (9 * k + p) r (ck L (9 * k + p)) (ck_get hpl) hr]; exact hj)
  rw [show off + 9 * k * 4 + (p * 4 + r) = off + ((9 * k + p) * 4 + r) by omega]
  exact h2
def ActA (tmps : Nat → Array Value) (k : Nat) (a' : Act) (W : World) : Prop := a' = { tmps := tmps k, defers := [] }
theorem actA_own {tmps : Nat → Array Value} {B : Nat} (k : Nat) (a' : Act) : OwnFrom B (fun (_ : Unit) W => ActA tmps k a' W) := fun _ W W' row hI hg hr => hI
/-- what has been encoded behind k pieces -/
def EncI (W0 : World) (L : List C) (s : Nat) (k : Nat) (W : World) : Prop :=
  Only (fun i => i = s) W0 W ∧ ∃ v, CellAt W s 44 v ∧ W.ownsRow W0.heap.size 9 1 v k ((blksK L k).map .string)
theorem encI_own {W0 : World} {L : List C} {s : Nat} : OwnFrom W0.heap.size (EncI W0 L s) := fun k W W' row hI hg hr => by
  obtain ⟨h1, v, h2, h3⟩ := hI
  refine ⟨h1.grown hg (fun r e => .inl (hr r e).1), v, kept_cells h2 hg hr, h3.kept hg ?_⟩
  cases hv : v.ownBlock with
  | none => exact .inl rfl
  | some g =>
    right
    intro e
    obtain ⟨_, o, ho, hc⟩ := hr g e.symm
    rcases h3.2 with ⟨e1, _⟩ | ⟨g2, cap, cur, e1, _, hgg, _⟩
    · rw [e1] at hv; cases hv
    · rw [e1] at hv
      have e2 : g2 = g := by simpa [Value.ownBlock] using hv
      rw [e2, ho] at hgg
      cases hgg
      cases hc
section
set_option maxRecDepth 100000
set_option maxHeartbeats 4000000
theorem encode_in (b off cap N : Nat) (a : Option Addr) (ha : 0 < N → a = some ⟨b, off, none⟩) (L : List C) (w : World) (hN : L.length = N) (hL : Chs w (.slice a N cap) L) (hr : RightP L) :
    CallsIn Fence.wide 9 Try.prog 29 #[.slice a N cap] w (EncPost L w) := by
  have hfn : ∀ f, Fence.wide.fn f := fun _ => trivial
  obtain ⟨i0, hin, hz0, hz1, hz2⟩ := info_parts infoStr
  have hN2 : N ≤ 108 := by have := hr.1; omega
  have hR := right_any _ L w hL
  rw [rightB_yes hr] at hR
  have HNN := Lib.hid hN
  have HR := Lib.hid hR
  clear hR hN
  refine callsIn_of_wp_marks Try.func29 rfl trivial ?_ rfl
  simp only [Try.ntmps29, List.size_toArray, List.length_cons, List.length_nil, Nat.reduceAdd, Nat.reduceSub, Array.replicate_succ, Array.replicate_zero, List.push_toArray, List.append_toArray, List.nil_append, List.cons_append]
  gi_wp2_with (first
    | (gi_at_call 17; refine (callsIn_wide.2 HR.out).mono ?_; rintro e w1 ⟨rfl, hB1⟩)
    | (gi_at_call 48; refine (chunk_in _ _ _ _ _).mono ?_; rintro e w4 ⟨rfl, rfl⟩))
  obtain ⟨s, hs⟩ : ∃ s, w1.heap.size = s := ⟨_, rfl⟩
  obtain ⟨W0, hW0⟩ : ∃ W0, ((w1.alloc (.cells #[.slice none 0 0] 44)).alloc (.cells #[.slice a N cap] 22)).alloc (.cells #[.int .i64 9] 3) = W0 := ⟨_, rfl⟩
  have hs0 : W0.heap.size = s + 3 := by rw [← hW0, ← hs]; simp
  have hB0 : Below w1.heap.size w1 W0 := by rw [← hW0]; exact below_al (below_al (below_al (Below.refl _ _) _) _) _
  have hBW : Below w.heap.size w W0 := below_th hB1 hB0
  have hz : ∀ (W : World) (o : Obj) (k : Nat) (x : Obj), W.heap[k]? = some x → (W.alloc o).heap[k]? = some x := fun W o k x h => (Below.heap_alloc _ _ _ (Array.getElem?_eq_some_iff.1 h).1).trans h
  have hn : ∀ (W : World) (o : Obj) (n : Nat), W.heap.size = n → (W.alloc o).heap[n]? = some o := fun W o n h => h ▸ World.alloc_heap_new W o
  have b0 : CellAt W0 s 44 (.slice none 0 0) := by rw [← hW0, ← hs]; exact hz _ _ _ _ (hz _ _ _ _ (hn _ _ _ rfl))
  have b1 : CellAt W0 (s + 1) 22 (.slice a N cap) := by rw [← hW0, ← hs]; exact hz _ _ _ _ (hn _ _ _ (by simp))
  have b2 : CellAt W0 (s + 1 + 1) 3 (.int .i64 9) := by rw [← hW0, ← hs]; exact hn _ _ _ (by simp)
  have hws : w.heap.size ≤ s := by rw [← hs]; exact hB1.size
  rw [hW0]
  rw [hs]
  have hcaps : N ≤ cap ∧ cap ≤ 9223372036854775807 := by
    obtain ⟨a1, cap1, e, g1, g2⟩ := hL.parts
    have hN' : L.length = N := HNN.out
    rw [hN'] at e
    cases e
    omega
  have hsq : SeqSteps Fence.wide 8 Try.prog 62 #[.pointer (some ⟨s + 1, 0, none⟩), .pointer (some ⟨s + 1 + 1, 0, none⟩)] (chEnc b off N) (Same [s + 1, s + 1 + 1]) ((N + 8) / 9) W0 := by
    intro l J Jx W' hB hJ _ hY h0
    exact chunk1_in 8 (by decide) l (s + 1) (s + 1 + 1) b off cap N a ha (by omega) J Jx _ hJ (fun k W1 h1 h2 => hY k W1 h1 (by omega)) W' (b1.th hB).c (b2.th hB).c hcaps.1 hcaps.2 h0
  have hpiece := fun W k (h : Below w.heap.size w W) (hk : 9 * k < N) => blockOf_any _ (chunk L k) W (by have h2 := hL.below h; rw [ha (by omega)] at h2; exact h2.piece HNN.out k hk) (by rw [chunk_length]; omega) (fun i hi => by
    have hcl := chunk_length L k
    rw [ck_chunk L k (by omega)]; exact hr.fine (by omega))
  clear hW0 hz hn hL
  refine wpIn_rangeFunc_steps rfl (by decide) (gf := 62) (lb := #[.pointer (some ⟨s + 1, 0, none⟩), .pointer (some ⟨s + 1 + 1, 0, none⟩)]) rfl trivial (enters_of Try.func62 (by kernel_rfl) rfl)
    hsq sameK_t (sameK_b (by simp; omega)) (Below.refl _ _) (fun k => by unfold chEnc; rfl)
    (EncI W0 L s) (fun c k W => False) encI_own (fun c k W W' row hI hg hr => hI) ⟨Only.refl _ _, _, b0, World.ownsRow_nil _ _ _ _⟩
    (ActA (fun k => #[.slice a N cap, undef, .slice none 0 0, .int .i64 0, .pointer (some ⟨s, 0, none⟩), .slice (some ⟨b, off + 9 * k * 4, none⟩) (chN N k) (chN N k), .slice a N cap, .bool true, .bool false, .slice a N cap, .func (.func 62) #[] #[.pointer (some ⟨s + 1, 0, none⟩), .pointer (some ⟨s + 1 + 1, 0, none⟩)], .slice (some ⟨b, off + 9 * k * 4, none⟩) (chN N k) (chN N k), undef, undef, undef, undef, undef, undef])) (fun k a' => actA_own k a') ?assign ?body ?done ?stop
  case assign =>
    intro l k W K hI hk hK
    have HK := Lib.hid (hK _ _ (KeepsFrom.refl _ _) (Same.refl _ _) hI rfl)
    unfold chEnc
    clear hK hI hsq
    dsimp only at HK
    gi_wp2
    exact HK.out
  case body =>
    rintro l k a' W hl hrec ⟨hon, v, hc, hown⟩ rfl hk
    have hsz := hon.size
    have hk9 : 9 * k < N := by omega
    have hBwW : Below w.heap.size w W := hBW.trans (hon.below (by omega) (by rintro j rfl; exact hws))
    have HBL := Lib.hid (fun W2 (h : Below W.heap.size W W2) => hpiece W2 k (below_th hBwW h) hk9)
    obtain ⟨x, hx⟩ : ∃ x, blkB (chunk L k) = x := ⟨_, rfl⟩
    rw [hx] at HBL
    have hfin : ∀ W2 v' W4, Below W.heap.size W W2 → W4.ownsRow W0.heap.size 9 1 v' (k + 1) ((blksK L k).map .string ++ [.string x]) → (W2.alloc (.cells #[.string x] 9)).grownBy W4 v.ownBlock → CellAt W4 s 44 v ∧ (KeepsFrom W0.heap.size W (W4.setCell ⟨s, 0, none⟩ v') ∧ Same [s + 1, s + 1 + 1] W (W4.setCell ⟨s, 0, none⟩ v') ∧ EncI W0 L s (k + 1) (W4.setCell ⟨s, 0, none⟩ v')) := fun W2 v' W4 h2 ho hg => by
      have hvb : ∀ r, v.ownBlock = some r → W0.heap.size ≤ r ∧ ∃ c t f, W.heap[r]? = some (.cells c t f) := fun r e => by
        rcases hown.2 with ⟨e1, _⟩ | ⟨g2, cap2, cur, e1, hb2, hgg, _⟩
        · rw [e1] at e; cases e
        · rw [e1] at e
          have e2 : g2 = r := by simpa [Value.ownBlock] using e
          rw [← e2]
          exact ⟨hb2, _, _, _, hgg⟩
      have hon2 : Only (fun i => i = s ∨ v.ownBlock = some i) W W4 := ((Only.of_below h2).alloc (.cells #[.string x] 9)).grown hg (fun r e => .inr (.inr e))
      have hne : ∀ r, v.ownBlock = some r → ¬ s = r := fun r e => by have := (hvb r e).1; omega
      have hc4 : CellAt W4 s 44 v := by
        have h3 : CellAt (W2.alloc (.cells #[.string x] 9)) s 44 v := (hc.th h2).of_heap (Below.heap_alloc _ _ _ (hc.th h2).lt)
        exact h3.of_heap (hg.block s h3.lt (fun e => hne s e.symm rfl))
      have hon5 : Only (fun i => i = s ∨ v.ownBlock = some i) W (W4.setCell ⟨s, 0, none⟩ v') := hon2.setCell (p := ⟨s, 0, none⟩) (.inr (.inl rfl)) _
      refine ⟨hc4, keeps_of_only _ hon5 (fun j hj => ?_), fun y hy => ?_, hon.step hon5 (fun i hi h => ?_), v', hc4.put v', ?_⟩
      · rcases hj with rfl | hj
        · exact ⟨_, _, _, hc⟩
        · exact (hvb j hj).2
      · refine hon5.block y (by simp at hy; omega) (fun hh => ?_)
        rcases hh with rfl | hh
        · simp at hy; omega
        · have := (hvb y hh).1; simp at hy; omega
      · rcases h with h | h
        · exact h
        · have := (hvb i h).1; omega
      · rw [blksK_succ, List.map_append, hx]
        have h6 := ho.kept (w' := W4.setCell ⟨s, 0, none⟩ v') (row := some s) ⟨rfl, rfl, rfl, (KeepsWalks.setCell W4 ⟨s, 0, none⟩ v').size, fun j hj hn => Below.heap_setCell _ _ _ _ (fun e => hn (by rw [e]))⟩ (by
          cases hv : v'.ownBlock with
          | none => exact .inl rfl
          | some g => exact .inr (fun e => by have := (ho.lt g hv).1; cases e; omega))
        exact h6
    have HFIN := Lib.hid hfin
    have c4 := hc.c
    have hk9 : k ≤ 108 := by omega
    have HOW : Hid (∀ W2, Below W.heap.size W W2 → (W2.alloc (.cells #[.string x] 9)).ownsRow W0.heap.size 9 1 v k ((blksK L k).map .string)) := fun W2 h => (hown.kept (grown_of_below h) (by cases hv : v.ownBlock <;> simp)).alloc _
    have HC4 : Hid (∀ W2, Below W.heap.size W W2 → W2.cell? ⟨s, 0, none⟩ = some v ∧ (W2.alloc (.cells #[.string x] 9)).cell? ⟨s, 0, none⟩ = some v) := fun W2 h => ⟨(hc.th h).c, ((hc.th h).of_heap (Below.heap_alloc _ _ _ (hc.th h).lt)).c⟩
    have hself : Below W.heap.size W W.drew := (Below.refl _ _).drew
    have HSZ : Hid (∀ W2, Below W.heap.size W W2 → W0.heap.size ≤ (W2.alloc (.cells #[.string x] 9)).heap.size) := fun W2 h => by have := h.size; simp; omega
    have d4 : W.drew.cell? ⟨s, 0, none⟩ = some v := c4
    clear hon hc hown hsq hpiece hBwW hx hfin hrec b0 b1 b2 hk9 c4
    dsimp only
    gi_wp2
    refine wpIn_round_any (by kernel_rfl) (by kernel_rfl) (by rintro ⟨_, _, hh⟩; exact hh) ?_
    refine wpAny_take (i := 1) (v := .slice (some ⟨b, off + 9 * k * 4, none⟩) (chN N k) (chN N k)) rfl (by kernel_rfl) (by kernel_rfl) (by kernel_rfl) (fun _ _ _ h => h) (Or.inl ⟨by rfl, by intro w; go_simp⟩) ?_
    refine wpAny_ready (rs := [0, 2]) (by kernel_rfl) (by simp) ?_
    refine AllReady.cons rfl (fun K hK => ?_) (AllReady.cons rfl (fun K hK => ?_) AllReady.nil)
    · go_simp
      refine hK _ _ ?_
      clear hK K
      refine wpAny_ready (rs := [2]) (by kernel_rfl) (by simp) ?_
      refine AllReady.cons rfl (fun K hK => ?_) AllReady.nil
      go_simp
      go_at_call 49
      (with_reducible refine Calls.mono (HBL.out _ hself) ?_)
      rintro e w2 ⟨rfl, hB2⟩
      have hb2 : Below W.heap.size W w2 := below_th hself hB2
      obtain ⟨q1, q2⟩ := HC4.out _ hb2
      try go_simp
      refine hK _ _ ?_
      clear hK K
      refine wpAny_ready (rs := [3]) (by kernel_rfl) (by simp) ?_
      refine AllReady.cons rfl (fun K hK => ?_) AllReady.nil
      go_simp
      refine hK _ _ ?_
      clear hK K
      refine wpAny_ready (rs := [4]) (by kernel_rfl) (by simp) ?_
      refine AllReady.cons rfl (fun K hK => ?_) AllReady.nil
      refine step_append_lies _ rfl (.tmp 12) (.tmp 15) 44 rfl W0.heap.size 9 i0 (.string ⟨#[]⟩) 1 16 Try.underlying44 hin hz0 hz1 hz2 rfl (by decide) v k ((blksK L k).map .string) rfl (HOW.out _ hb2) ⟨w2.heap.size, 0, none⟩ 1 1 [.string x] rfl rfl (World.news_of_block (World.alloc_heap_new w2 _)) (by simp [Value.oneCell']) (by decide) (by unfold maxLen; omega) (by omega) (HSZ.out _ hb2) _ rfl ?_
      intro g2 cap2 w4 hown4 hgrow4 hat4 hlt4
      obtain ⟨hcc, hfi⟩ := HFIN.out w2 _ w4 hb2 hown4 hgrow4
      have e4 := hcc.c
      have f4 := hcc.f
      have HFI := Lib.hid hfi
      clear hown4 hgrow4 hat4 hlt4 hcc hfi
      try go_simp
      refine hK _ _ ?_
      clear hK K
      refine wpAny_ready (rs := [5]) (by kernel_rfl) (by simp) ?_
      refine AllReady.cons rfl (fun K hK => ?_) AllReady.nil
      go_simp
      refine hK _ _ ?_
      clear hK K
      refine wpAny_done (by kernel_rfl) ?_ _
      exact HFI.out
    · go_simp
      go_at_call 49
      (with_reducible refine Calls.mono (HBL.out _ hself) ?_)
      rintro e w2 ⟨rfl, hB2⟩
      have hb2 : Below W.heap.size W w2 := below_th hself hB2
      obtain ⟨q1, q2⟩ := HC4.out _ hb2
      try go_simp
      refine hK _ _ ?_
      clear hK K
      refine wpAny_ready (rs := [0, 3]) (by kernel_rfl) (by simp) ?_
      refine AllReady.cons rfl (fun K hK => ?_) (AllReady.cons rfl (fun K hK => ?_) AllReady.nil)
      · go_simp
        refine hK _ _ ?_
        clear hK K
        refine wpAny_ready (rs := [3]) (by kernel_rfl) (by simp) ?_
        refine AllReady.cons rfl (fun K hK => ?_) AllReady.nil
        go_simp
        refine hK _ _ ?_
        clear hK K
        refine wpAny_ready (rs := [4]) (by kernel_rfl) (by simp) ?_
        refine AllReady.cons rfl (fun K hK => ?_) AllReady.nil
        refine step_append_lies _ rfl (.tmp 12) (.tmp 15) 44 rfl W0.heap.size 9 i0 (.string ⟨#[]⟩) 1 16 Try.underlying44 hin hz0 hz1 hz2 rfl (by decide) v k ((blksK L k).map .string) rfl (HOW.out _ hb2) ⟨w2.heap.size, 0, none⟩ 1 1 [.string x] rfl rfl (World.news_of_block (World.alloc_heap_new w2 _)) (by simp [Value.oneCell']) (by decide) (by unfold maxLen; omega) (by omega) (HSZ.out _ hb2) _ rfl ?_
        intro g2 cap2 w4 hown4 hgrow4 hat4 hlt4
        obtain ⟨hcc, hfi⟩ := HFIN.out w2 _ w4 hb2 hown4 hgrow4
        have e4 := hcc.c
        have f4 := hcc.f
        have HFI := Lib.hid hfi
        clear hown4 hgrow4 hat4 hlt4 hcc hfi
        try go_simp
        refine hK _ _ ?_
        clear hK K
        refine wpAny_ready (rs := [5]) (by kernel_rfl) (by simp) ?_
        refine AllReady.cons rfl (fun K hK => ?_) AllReady.nil
        go_simp
        refine hK _ _ ?_
        clear hK K
        refine wpAny_done (by kernel_rfl) ?_ _
        exact HFI.out
      · go_simp
        refine hK _ _ ?_
        clear hK K
        refine wpAny_ready (rs := [0]) (by kernel_rfl) (by simp) ?_
        refine AllReady.cons rfl (fun K hK => ?_) AllReady.nil
        go_simp
        refine hK _ _ ?_
        clear hK K
        refine wpAny_ready (rs := [4]) (by kernel_rfl) (by simp) ?_
        refine AllReady.cons rfl (fun K hK => ?_) AllReady.nil
        refine step_append_lies _ rfl (.tmp 12) (.tmp 15) 44 rfl W0.heap.size 9 i0 (.string ⟨#[]⟩) 1 16 Try.underlying44 hin hz0 hz1 hz2 rfl (by decide) v k ((blksK L k).map .string) rfl (HOW.out _ hb2) ⟨w2.heap.size, 0, none⟩ 1 1 [.string x] rfl rfl (World.news_of_block (World.alloc_heap_new w2 _)) (by simp [Value.oneCell']) (by decide) (by unfold maxLen; omega) (by omega) (HSZ.out _ hb2) _ rfl ?_
        intro g2 cap2 w4 hown4 hgrow4 hat4 hlt4
        obtain ⟨hcc, hfi⟩ := HFIN.out w2 _ w4 hb2 hown4 hgrow4
        have e4 := hcc.c
        have f4 := hcc.f
        have HFI := Lib.hid hfi
        clear hown4 hgrow4 hat4 hlt4 hcc hfi
        try go_simp
        refine hK _ _ ?_
        clear hK K
        refine wpAny_ready (rs := [5]) (by kernel_rfl) (by simp) ?_
        refine AllReady.cons rfl (fun K hK => ?_) AllReady.nil
        go_simp
        refine hK _ _ ?_
        clear hK K
        refine wpAny_done (by kernel_rfl) ?_ _
        exact HFI.out
  case done =>
    rintro D W hD ⟨hon, v, hc, hown⟩ hKD
    have hsz := hon.size
    have c4 := hc.c
    have hnl : nBl L.length = (N + 8) / 9 := by unfold nBl; rw [HNN.out]
    have hlies := Lies.own hown
    have hgr : W.grownBy (W.putObj D (.deferred none)) (some D) := ⟨rfl, rfl, rfl, by simp [World.putObj], fun j _ hj => World.putObj_heap_other (fun e => hj (by rw [e]))⟩
    have HP : Hid (EncPost L w (.returned (.tuple #[v, .int .i64 0])) (W.putObj D (.deferred none))) := by
      refine ⟨v, by rw [show encE L = 0 from if_pos hr], ?_, below_putObj (hBW.trans (hon.below (by omega) (by rintro j rfl; exact hws))) D (by omega) _⟩
      have e : encV L = blksK L ((N + 8) / 9) := by unfold encV; rw [if_pos hr, hnl]
      rw [e]
      unfold Strs
      rw [blksK_length]
      exact hlies.grown hgr (fun j hj c t f h => by cases hj; rw [hKD] at h; cases h)
    have HKD := Lib.hid hKD
    clear hon hc hown hsq hpiece hlies hgr hKD b0 b1 b2
    gi_wp2
    refine ⟨by simp, .inl ⟨_, _, rfl, run_takeDeferred HKD.out, ?_⟩⟩
    refine ⟨_, results_two rfl _ _, ?_⟩
    exact HP.out
  case stop =>
    rintro D c k W hD hk hf
    exact hf.elim
theorem encode_any (v : Value) (L : List C) (w : World) (hL : Chs w v L) : Calls Try.prog 29 #[v] w (EncPost L w) := by
  by_cases hr : RightP L
  · rcases hL.open with ⟨a, cap, rfl, rfl⟩ | ⟨b, off, cap, rfl, h0, h1, h2⟩
    · exact callsIn_wide.1 (encode_in 0 0 cap 0 a (fun h => absurd h (by omega)) [] w rfl hL hr)
    · exact callsIn_wide.1 (encode_in b off cap L.length _ (fun _ => rfl) L w rfl hL hr)
  · have HF : Hid (∀ W, Below w.heap.size w W → EncPost L w (.returned (.tuple #[.slice none 0 0, .int .i64 90])) W) := fun W h => ⟨_, by rw [show encE L = 90 from if_neg hr], by rw [show encV L = [] from if_neg hr]; exact Strs.nil W, h⟩
    have hR := right_any v L w hL
    rw [rightB_no hr] at hR
    obtain ⟨a, cap, rfl, hn, hm⟩ := hL.parts
    obtain ⟨N, hN⟩ : ∃ N, L.length = N := ⟨_, rfl⟩
    rw [hN] at hR hn ⊢
    have HR := Lib.hid hR
    clear hR hL hr hN
    go_enter Try.func29, Try.ntmps29
    go_wp2_with (go_at_call 17; (with_reducible refine Calls.mono HR.out ?_); rintro e w1 ⟨rfl, hB1⟩)
    go_returns
    exact HF.out _ hB1
end
end Go.Proofs.Ytoedjemelblpaaa.Cps
