/- Several texts in one, each under its own heading. -/
import Derived.Test.YteopcjfakhmifaaPk34
import Derived.Test.YteopcjfakhmifaaPk31
import Derived.Test.YteopcjfakhmifaaPk25
import Derived.Deep.MidRow
import Derived.Test.YteopcjfakhmifaaPk27
import Derived.Test.YteopcjfakhmifaaPk23
import Derived.Test.YteopcjfakhmifaaPk24
/- Table of the program. -/
namespace Go.Proofs.Yteopcjfakhmifaa.Vol
open Go.RowKit
open Ino (I M IOk RightP laid)
attribute [local go_sem] Oper.semAt_some
set_option linter.unusedVariables false
set_option linter.unusedSimpArgs false
/-! ### pieces of twelve -/
def pcI (L : List I) (k : Nat) : List I := (L.drop (12 * k)).take 12
theorem pcI_len (L : List I) (k : Nat) : (pcI L k).length = chN L.length k := by
  unfold pcI chN
  rw [List.length_take, List.length_drop]
theorem pcI_at (L : List I) (k : Nat) {i : Nat} (h : i < 12) : ino (pcI L k) i = ino L (12 * k + i) := by
  unfold ino pcI
  rw [List.getD_eq_getElem?_getD, List.getD_eq_getElem?_getD, List.getElem?_take_of_lt h, List.getElem?_drop]
theorem blk_congr {A B : List I} {f g : Nat} : ∀ n, (∀ i, i < n → ino A (f + i) = ino B (g + i)) → blk A f n = blk B g n
  | 0, _ => rfl
  | n + 1, h => by rw [blk_succ, blk_succ, blk_congr n (fun i hi => h i (by omega)), h n (by omega)]
theorem conV_pc {L : List I} {k : Nat} (h : conO (pcI L k)) : conV (pcI L k) = blk L (12 * k) (chN L.length k) := by
  unfold conV
  rw [if_pos h, pcI_len]
  refine blk_congr _ (fun i hi => ?_)
  rw [Nat.zero_add]
  exact pcI_at L k (by unfold chN at hi; omega)
/-- the contents of the first k pieces -/
def tabK (L : List I) (k : Nat) : List ByteArray := (List.range k).map fun j => blk L (12 * j) (chN L.length j)
theorem tabK_succ (L : List I) (k : Nat) : tabK L (k + 1) = tabK L k ++ [blk L (12 * k) (chN L.length k)] := by
  unfold tabK
  rw [List.range_succ, List.map_append]
  rfl
theorem tabK_len (L : List I) (k : Nat) : (tabK L k).length = k := by unfold tabK; simp
theorem tabK_all (L : List I) : tabC L L.length = tabK L ((L.length + 11) / 12) := rfl
theorem tabP_iff {L : List I} (hl : L.length ≤ 240) : tabP L ↔ ∀ k, k < (L.length + 11) / 12 → conO (pcI L k) := by
  unfold tabP
  constructor
  · rintro ⟨_, h⟩ k hk i hi
    rw [pcI_len] at hi
    unfold chN at hi
    rw [pcI_at L k (by omega)]
    exact h _ (by omega)
  · intro h
    refine ⟨hl, fun i hi => ?_⟩
    have h1 := h (i / 12) (by omega) (i % 12) (by rw [pcI_len]; unfold chN; omega)
    rw [pcI_at L (i / 12) (Nat.mod_lt _ (by decide)), show 12 * (i / 12) + i % 12 = i by omega] at h1
    exact h1
theorem Inos.piece {w : World} {b off N cap : Nat} {L : List I} (hN : L.length = N) (h : Inos w (.slice (some ⟨b, off, none⟩) N cap) L) (k : Nat) (hk : 12 * k < N) : Inos w (.slice (some ⟨b, off + 12 * k * 12, none⟩) (chN N k) (chN N k)) (pcI L k) := by
  subst hN
  have hm := pcI_len L k
  have hcap : L.length ≤ maxLen := by
    obtain ⟨a1, c1, e, g1, ⟨g2, _⟩, _⟩ := h
    cases e
    omega
  refine ⟨_, chN L.length k, by rw [hm], by rw [hm]; exact Nat.le_refl _, ⟨by unfold chN; omega, fun e => by cases e⟩, cellsIs_length _, fun hp => ⟨b, off + 12 * k * 12, rfl, fun j u hj => ?_⟩⟩
  have hjl := (List.getElem?_eq_some_iff.1 hj).1
  rw [flat_length cellsI 12 _ (fun _ _ => rfl), hm] at hjl
  obtain ⟨p, r, hr, rfl⟩ : ∃ p r, r < 12 ∧ j = p * 12 + r := ⟨j / 12, j % 12, Nat.mod_lt _ (by decide), by omega⟩
  have hpl : 12 * k + p < L.length := by unfold chN at hjl; omega
  have hp12 : p < 12 := by unfold chN at hjl; omega
  have h1 := flat_at cellsI 12 (pcI L k) (fun _ _ => rfl) p r (ino (pcI L k) p) (ino_get (by rw [hm]; unfold chN; omega)) hr
  rw [h1, pcI_at L k hp12] at hj
  obtain ⟨a1, c1, e, _, _, _, h5⟩ := h
  cases e
  obtain ⟨b2, o2, e2, hc⟩ := h5 (by omega)
  cases e2
  have h2 := hc ((12 * k + p) * 12 + r) u (by rw [flat_at cellsI 12 L (fun _ _ => rfl) (12 * k + p) r (ino L (12 * k + p)) (ino_get hpl) hr]; exact hj)
  rw [show off + 12 * k * 12 + (p * 12 + r) = off + ((12 * k + p) * 12 + r) by omega]
  exact h2
set_option maxRecDepth 100000 in
theorem results_cl {fn : Func} {r e : Tmp} (h : fn.results = #[.cell r 22, .cell e 26]) (tmps : Array Value) (w : World) {b1 b2 : Nat} {a : Option Addr} {n c : Nat} {x : Int} (hp : tmps.getD r undef = .pointer (some ⟨b1, 0, none⟩)) (hq : tmps.getD e undef = .pointer (some ⟨b2, 0, none⟩)) (c1 : w.cell? ⟨b1, 0, none⟩ = some (.slice a n c)) (c2 : w.cell? ⟨b2, 0, none⟩ = some (.int .i64 x)) :
    (results fn tmps).run Try.prog w = .ok (.tuple #[.slice a n c, .int .i64 x]) w := by
  rw [Array.getD_eq_getD_getElem?] at hp hq
  simp [results, h, hp, hq, go_sem, c1, c2]
structure TbI (W0 : World) (L : List I) (q : Nat) (k : Nat) (W : World) : Prop where
  row : RowI W0 q 22 9 1 k ((tabK L k).map fun x => .string x) W
  fits : ∀ j, j < k → conO (pcI L j)
theorem tbI_own {W0 : World} {L : List I} {q : Nat} : OwnFrom W0.heap.size (TbI W0 L q) := fun k W W' row hI hg hr =>
  ⟨rowI_own (n := fun k => k) (xs := fun k => (tabK L k).map fun x => .string x) k W W' row hI.row hg hr, hI.fits⟩
structure TbX (w W0 : World) (L : List I) (q : Nat) (c : Code) (k : Nat) (W : World) : Prop where
  code : c = .ret
  bad : ¬ tabP L
  b1 : CellAt W q 22 (.slice none 0 0)
  b2 : CellAt W (q + 1) 26 (.int .i64 154)
  below : Below w.heap.size w W
  size : W0.heap.size ≤ W.heap.size
theorem tbX_own {w W0 : World} {L : List I} {q : Nat} (hz : w.heap.size ≤ W0.heap.size) (c : Code) : OwnFrom W0.heap.size (TbX w W0 L q c) := fun k W W' row h hg hr =>
  ⟨h.code, h.bad, kept_cells h.b1 hg hr, kept_cells h.b2 hg hr, h.below.grown hg h.below.size (fun r e => Nat.le_trans hz (hr r e).1), Nat.le_trans h.size hg.size⟩
section
set_option maxRecDepth 100000
set_option maxHeartbeats 4000000
theorem table_in (b off cap N : Nat) (a : Option Addr) (ha : 0 < N → a = some ⟨b, off, none⟩) (L : List I) (w : World) (hN : L.length = N) (hL : Inos w (.slice a N cap) L) (hl : N ≤ 240) (ho : ∀ i, IOk (ino L i)) :
    CallsIn Fence.wide 9 Try.prog 27 #[.slice a N cap] w (TabPost L w) := by
  have hfn : ∀ f, Fence.wide.fn f := fun _ => trivial
  have HNO : Hid (∀ w', ¬ tabP L → Below w.heap.size w w' → TabPost L w (.returned (.tuple #[.slice none 0 0, .int .i64 154])) w') := fun w' h hB => by
    obtain ⟨e1, e2⟩ := tab_no h
    exact ⟨_, by rw [e2], by rw [e1]; exact Strs.nil w', hB⟩
  have HYES : Hid (∀ v w', tabP L → Strs w' v (tabK L ((N + 11) / 12)) → Below w.heap.size w w' → TabPost L w (.returned (.tuple #[v, .int .i64 0])) w') := fun v w' h hv hB => by
    obtain ⟨e1, e2⟩ := tab_yes h
    exact ⟨_, by rw [e2], by rw [e1, tabK_all, hN]; exact hv, hB⟩
  have HIF : Hid (tabP L ↔ ∀ k, k < (N + 11) / 12 → conO (pcI L k)) := by
    unfold Hid
    rw [tabP_iff (by omega), hN]
  obtain ⟨i0, hin, hz0, hz1, hz2⟩ := info_parts infoStrs
  have g2 : ¬ (240 : Int) < (N : Int) := by omega
  have g1 : decide ((N : Int) > 240) = false := decide_eq_false (by omega)
  have HN1 := Lib.hid hN
  obtain ⟨_, _, e0, hcap1, hcap2⟩ := hL.parts
  rw [hN] at e0 hcap1
  cases e0
  clear hN
  refine callsIn_of_wp_marks Try.func27 rfl trivial ?_ rfl
  simp only [Try.ntmps27, List.size_toArray, List.length_cons, List.length_nil, Nat.reduceAdd, Nat.reduceSub, Array.replicate_succ, Array.replicate_zero, List.push_toArray, List.append_toArray, List.nil_append, List.cons_append]
  gi_wp2_with (gi_at_call 49; refine (chunk_in _ _ _ _ _).mono ?_; rintro e w4 ⟨rfl, hw⟩; rw [← hw]; clear hw w4)
  obtain ⟨q, hq⟩ : ∃ q, w.heap.size = q := ⟨_, rfl⟩
  obtain ⟨W0, hW0⟩ : ∃ W0, ((((w.alloc (.cells #[.slice none 0 0] 22)).alloc (.cells #[.int .i64 0] 26)).alloc (.cells #[.slice none 0 0] 22)).alloc (.cells #[.slice a N cap] 50)).alloc (.cells #[.int .i64 12] 3) = W0 := ⟨_, rfl⟩
  have hs0 : W0.heap.size = q + 5 := by rw [← hW0, ← hq]; simp
  have hBW : Below w.heap.size w W0 := by rw [← hW0]; exact below_al (below_al (below_al (below_al (below_al (Below.refl _ _) _) _) _) _) _
  have hz' : ∀ (W : World) (o : Obj) (k : Nat) (x : Obj), W.heap[k]? = some x → (W.alloc o).heap[k]? = some x := fun W o k x h => (Below.heap_alloc _ _ _ (Array.getElem?_eq_some_iff.1 h).1).trans h
  have hn' : ∀ (W : World) (o : Obj) (n : Nat), W.heap.size = n → (W.alloc o).heap[n]? = some o := fun W o n h => h ▸ World.alloc_heap_new W o
  have b1 : CellAt W0 q 22 (.slice none 0 0) := by rw [← hW0, ← hq]; exact hz' _ _ _ _ (hz' _ _ _ _ (hz' _ _ _ _ (hz' _ _ _ _ (hn' _ _ _ rfl))))
  have b2 : CellAt W0 (q + 1) 26 (.int .i64 0) := by rw [← hW0, ← hq]; exact hz' _ _ _ _ (hz' _ _ _ _ (hz' _ _ _ _ (hn' _ _ _ (by simp))))
  have b3 : CellAt W0 (q + 1 + 1) 22 (.slice none 0 0) := by rw [← hW0, ← hq]; exact hz' _ _ _ _ (hz' _ _ _ _ (hn' _ _ _ (by simp)))
  have b4 : CellAt W0 (q + 1 + 1 + 1) 50 (.slice a N cap) := by rw [← hW0, ← hq]; exact hz' _ _ _ _ (hn' _ _ _ (by simp))
  have b5 : CellAt W0 (q + 1 + 1 + 1 + 1) 3 (.int .i64 12) := by rw [← hW0, ← hq]; exact hn' _ _ _ (by simp)
  have hsq : SeqSteps Fence.wide 8 Try.prog 62 #[.pointer (some ⟨q + 1 + 1 + 1, 0, none⟩), .pointer (some ⟨q + 1 + 1 + 1 + 1, 0, none⟩)] (chEnc b off N) (Same [q + 1 + 1 + 1, q + 1 + 1 + 1 + 1]) ((N + 11) / 12) W0 := by
    intro l J Jx W' hB hJ _ hY h0
    exact chunk1_in 8 (by decide) l _ _ b off cap N a ha (by omega) J Jx _ hJ (fun k W1 h1 h2 => hY k W1 h1 (by omega)) W' (b4.th hB).c (b5.th hB).c hcap1 hcap2 h0
  have hpiece : ∀ W k, Below w.heap.size w W → 12 * k < N → Inos W (.slice (some ⟨b, off + 12 * k * 12, none⟩) (chN N k) (chN N k)) (pcI L k) := fun W k h hk => by
    have h2 := hL.below h
    rw [ha (by omega)] at h2
    exact h2.piece HN1.out k hk
  try rw [hW0]
  rw [hq]
  clear hW0 hz' hn'
  have hI0 : TbI W0 L (q + 1 + 1) 0 W0 := ⟨RowI.nil b3, fun j hj => absurd hj (Nat.not_lt_zero _)⟩
  refine wpIn_rangeFunc_steps rfl (by decide) (gf := 62) (lb := #[.pointer (some ⟨q + 1 + 1 + 1, 0, none⟩), .pointer (some ⟨q + 1 + 1 + 1 + 1, 0, none⟩)]) rfl trivial (enters_of Try.func62 (by kernel_rfl) rfl)
    hsq sameK_t (sameK_b (by simp; omega)) (Below.refl _ _) (fun k => by unfold chEnc; rfl)
    (TbI W0 L (q + 1 + 1)) (TbX w W0 L q) tbI_own (tbX_own (by omega)) hI0
    (ActA (fun k => #[.slice a N cap, undef, .pointer (some ⟨q, 0, none⟩), .pointer (some ⟨q + 1, 0, none⟩), .pointer (some ⟨q + 1 + 1, 0, none⟩), .slice (some ⟨b, off + 12 * k * 12, none⟩) (chN N k) (chN N k), undef, undef, .slice a N cap, .int .i64 (N : Int), .bool false, .slice a N cap, .func (.func 62) #[] #[.pointer (some ⟨q + 1 + 1 + 1, 0, none⟩), .pointer (some ⟨q + 1 + 1 + 1 + 1, 0, none⟩)], .slice (some ⟨b, off + 12 * k * 12, none⟩) (chN N k) (chN N k), undef, undef, undef, undef, undef, undef, undef, undef, undef, undef, undef, undef, undef])) (fun k a' => actA_own k a') ?assign ?body ?done ?stop
  case assign =>
    intro l k W K hI hk hK
    have HK := Lib.hid (hK _ _ (KeepsFrom.refl _ _) (Same.refl _ _) hI rfl)
    unfold chEnc
    clear hK hI hsq
    dsimp only at HK
    gi_wp2
    exact HK.out
  case body =>
    rintro l k a' W hl' hrec hI rfl hk
    obtain ⟨⟨hon, v0, hc, hown⟩, hfits⟩ := hI
    obtain ⟨ap, cp, rfl, _, hcp⟩ := lies_own hown
    dsimp only
    have hsz := hon.size
    have hk12 : 12 * k < N := by omega
    have hBwW : Below w.heap.size w W := hBW.trans (hon.below (n := w.heap.size) (by omega) (by rintro j rfl; omega))
    have hchN : chN N k ≤ 12 := by unfold chN; omega
    have hpl : (pcI L k).length = chN N k := by rw [pcI_len, HN1.out]
    have hG : ∀ W2, Below W.heap.size W W2 → Calls Try.prog 50 #[.slice (some ⟨b, off + 12 * k * 12, none⟩) (chN N k) (chN N k)] W2 (Ans W2 (.tuple #[.string (conV (pcI L k)), .int .i64 (conE (pcI L k))])) := fun W2 h => callsIn_wide.1 (cto_in _ _ _ (pcI L k) W2 hpl (hpiece W2 k (below_th hBwW h) hk12) hchN (fun i => by
      by_cases hi : i < 12
      · rw [pcI_at L k hi]; exact ho _
      · have : ino (pcI L k) i = I.zero := by unfold ino; rw [List.getD_eq_getElem?_getD, List.getElem?_eq_none (by omega)]; rfl
        rw [this]; exact IOk.zero))
    have hsucc := tabK_succ L k
    have d1 : CellAt W q 22 (.slice none 0 0) := b1.of_heap (hon.block _ (by omega) (by omega))
    have d2 : CellAt W (q + 1) 26 (.int .i64 0) := b2.of_heap (hon.block _ (by omega) (by omega))
    have hself : Below W.heap.size W W := Below.refl _ _
    by_cases hC : conO (pcI L k)
    · simp only [show conE (pcI L k) = 0 from if_pos hC, conV_pc hC] at hG
      rw [HN1.out] at hsucc hG
      have hf2 : ∀ j, j < k + 1 → conO (pcI L j) := fun j hj => by
        rcases Nat.lt_succ_iff_lt_or_eq.1 hj with h | h
        · exact hfits j h
        · rw [h]; exact hC
      obtain ⟨x, hx⟩ : ∃ x, blk L (12 * k) (chN N k) = x := ⟨_, rfl⟩
      rw [hx] at hsucc hG
      have HGO : Hid (∀ W2 v' W4, Below W.heap.size W W2 → W4.ownsRow W0.heap.size 9 1 v' (k + 1) ((tabK L k).map (fun x => Value.string x) ++ [.string x]) → W2.grownBy W4 (Value.slice ap k cp).ownBlock → CellAt W4 (q + 1 + 1) 22 (.slice ap k cp) ∧ (KeepsFrom W0.heap.size W (W4.setCell ⟨q + 1 + 1, 0, none⟩ v') ∧ Same [q + 1 + 1 + 1, q + 1 + 1 + 1 + 1] W (W4.setCell ⟨q + 1 + 1, 0, none⟩ v') ∧ TbI W0 L (q + 1 + 1) (k + 1) (W4.setCell ⟨q + 1 + 1, 0, none⟩ v'))) := fun W2 v' W4 hB ho hg => by
        obtain ⟨r1, r2, r3, r4⟩ := RowI.next (by omega) hon hc hown hB ho hg
        refine ⟨r1, r2, r3 _ (by intro y hy; simp at hy; omega), ⟨?_, hf2⟩⟩
        rw [hsucc, List.map_append]
        exact r4
      have HOW : Hid (∀ W2, Below W.heap.size W W2 → (W2.alloc (.cells #[.string x] 9)).ownsRow W0.heap.size 9 1 (.slice ap k cp) k ((tabK L k).map fun x => .string x)) := fun W2 h => (own_row hown (grown_of_below h) (fun r e => by cases e)).alloc _
      have HCC : Hid (∀ W2, Below W.heap.size W W2 → W2.cell? ⟨q + 1 + 1, 0, none⟩ = some (.slice ap k cp) ∧ W0.heap.size ≤ (W2.alloc (.cells #[.string x] 9)).heap.size) := fun W2 h => ⟨(hc.th h).c, by have := h.size; simp; omega⟩
      obtain ⟨xs, hxs⟩ : ∃ xs, ((tabK L k).map fun x => Value.string x) = xs := ⟨_, rfl⟩
      simp only [hxs] at HGO HOW
      have hk9 : k ≤ 20 := by omega
      have HG := Lib.hid hG
      clear hon hc hown hsq hx hrec b1 b2 b3 b4 b5 hxs hI0 hG hC hf2 hfits d1 d2 hpiece hpl hBwW hsucc ho hs0
      gi_wp2_with (first
        | (gi_at_call 50; refine (CallsIn.inRound l (callsIn_wide.2 (HG.out _ hself))).mono ?_; rintro e w2 ⟨rfl, hB2⟩; have hc2 := (HCC.out _ hB2).1; have HB2 := Lib.hid hB2; clear hB2)
        | (gi_at_builtin; refine wpListIn_append_own _ rfl _ _ 22 rfl W0.heap.size 9 i0 (.string ⟨#[]⟩) 1 16 Try.underlying22 hin hz0 hz1 hz2 rfl (by decide) (.slice ap k cp) k xs rfl (HOW.out _ HB2.out) ⟨w2.heap.size, 0, none⟩ 1 1 [.string x] rfl rfl (World.news_of_block (World.alloc_heap_new w2 _)) (by simp [Value.oneCell']) (by unfold maxLen; omega) (by omega) (HCC.out _ HB2.out).2 ?_; intro v' w3 hown' hgrow _; obtain ⟨g', cap', rfl, _, _⟩ := lies_own hown'; obtain ⟨r1, r2⟩ := HGO.out _ _ w3 (below_al HB2.out _) hown' hgrow; have hc3 := r1.c; have hf3 := r1.f; have HR := Lib.hid r2; clear r1 r2 hown' hgrow))
      exact HR.out
    · simp only [show conE (pcI L k) = 154 from if_neg hC, show conV (pcI L k) = ⟨#[]⟩ from if_neg hC] at hG
      have HBAD : Hid (∀ W2, Below W.heap.size W W2 → CellAt W2 q 22 (.slice none 0 0) ∧ CellAt W2 (q + 1) 26 (.int .i64 0) ∧ KeepsFrom W0.heap.size W ((W2.setCell ⟨q, 0, none⟩ (.slice none 0 0)).setCell ⟨q + 1, 0, none⟩ (.int .i64 154)) ∧ TbX w W0 L q .ret k ((W2.setCell ⟨q, 0, none⟩ (.slice none 0 0)).setCell ⟨q + 1, 0, none⟩ (.int .i64 154))) := fun W2 hB => by
        have hon2 : Only (fun i => i = q ∨ i = q + 1) W ((W2.setCell ⟨q, 0, none⟩ (.slice none 0 0)).setCell ⟨q + 1, 0, none⟩ (.int .i64 154)) := Only.setCell (p := ⟨q + 1, 0, none⟩) (Only.setCell (p := ⟨q, 0, none⟩) (Only.of_below hB) (.inr (.inl rfl)) _) (.inr (.inr rfl)) _
        have e1 := d1.th hB
        have e2 := d2.th hB
        refine ⟨e1, e2, keeps_of_only _ hon2 (by rintro j (rfl | rfl); exact ⟨_, _, _, d1⟩; exact ⟨_, _, _, d2⟩), rfl, fun hp => hC ((HIF.out.1 hp) k hk), (e1.put _).other (by omega) _, (e2.other (by omega) _).put _, ?_, Nat.le_trans hsz hon2.size⟩
        exact hBwW.trans (hon2.below (n := w.heap.size) (by omega) (by rintro j (rfl | rfl) <;> omega))
      have HG := Lib.hid hG
      clear hon hc hown hsq hrec b1 b2 b3 b4 b5 hI0 hG hC hfits d1 d2 hs0 hpiece hpl hBwW hsucc ho
      gi_wp2_with (gi_at_call 50; refine (CallsIn.inRound l (callsIn_wide.2 (HG.out _ hself))).mono ?_; rintro e w2 ⟨rfl, hB2⟩; obtain ⟨e1, e2, e3⟩ := HBAD.out _ hB2; have p1 := e1.c; have p2 := e1.f; have p3 := (e2.other (r := q) (by omega) (.slice none 0 0)).c; have p4 := (e2.other (r := q) (by omega) (.slice none 0 0)).f; have HE := Lib.hid e3; clear e1 e2 e3 hB2)
      exact HE.out
  case done =>
    rintro D W hD hI hKD
    obtain ⟨⟨hon, v0, hc, hown⟩, hfits⟩ := hI
    obtain ⟨ap, cp, rfl, _, hcp⟩ := lies_own hown
    have hp : tabP L := HIF.out.2 hfits
    have hsz := hon.size
    have c4 := hc.c
    have d1 : CellAt W q 22 (.slice none 0 0) := b1.of_heap (hon.block _ (by omega) (by omega))
    have d2 : CellAt W (q + 1) 26 (.int .i64 0) := b2.of_heap (hon.block _ (by omega) (by omega))
    have hlies : Strs W (.slice ap ((N + 11) / 12) cp) (tabK L ((N + 11) / 12)) := by
      have := Lies.own hown
      unfold Strs
      rw [tabK_len]
      exact this
    obtain ⟨n, hn⟩ : ∃ n, (N + 11) / 12 = n := ⟨_, rfl⟩
    rw [hn] at hlies c4
    have HFIN : Hid (((W.setCell ⟨q, 0, none⟩ (.slice ap n cp)).setCell ⟨q + 1, 0, none⟩ (.int .i64 0)).heap[D]? = some (.deferred (some [])) ∧
        (((W.setCell ⟨q, 0, none⟩ (.slice ap n cp)).setCell ⟨q + 1, 0, none⟩ (.int .i64 0)).putObj D (.deferred none)).cell? ⟨q, 0, none⟩ = some (.slice ap n cp) ∧
        (((W.setCell ⟨q, 0, none⟩ (.slice ap n cp)).setCell ⟨q + 1, 0, none⟩ (.int .i64 0)).putObj D (.deferred none)).cell? ⟨q + 1, 0, none⟩ = some (.int .i64 0) ∧
        TabPost L w (.returned (.tuple #[.slice ap n cp, .int .i64 0])) (((W.setCell ⟨q, 0, none⟩ (.slice ap n cp)).setCell ⟨q + 1, 0, none⟩ (.int .i64 0)).putObj D (.deferred none))) := by
      have hon2 : Only (fun i => i = q ∨ i = q + 1) W ((W.setCell ⟨q, 0, none⟩ (.slice ap n cp)).setCell ⟨q + 1, 0, none⟩ (.int .i64 0)) := Only.setCell (p := ⟨q + 1, 0, none⟩) (Only.setCell (p := ⟨q, 0, none⟩) (Only.refl _ W) (.inr (.inl rfl)) _) (.inr (.inr rfl)) _
      have hDW : D < W.heap.size := (Array.getElem?_eq_some_iff.1 hKD).1
      have hD3 := (hon2.block D hDW (by omega)).trans hKD
      refine ⟨hD3, ?_, ?_, ?_⟩
      · exact (((d1.put (.slice ap n cp)).other (by omega) _).of_heap (World.putObj_heap_other (by omega))).c
      · exact (((d2.other (by omega) _).put _).of_heap (World.putObj_heap_other (by omega))).c
      · refine HYES.out _ _ hp ?_ ?_
        · rw [hn]
          have hbr : ∀ r, (Value.slice ap n cp).ownBlock = some r → W0.heap.size ≤ r := fun r e => (hown.lt r (by rw [hn]; exact e)).1
          refine hlies.keep (fun g o k2 c2 e hk2 => ?_)
          cases e
          have hg := hbr g rfl
          have hlt : g < W.heap.size := hlies.lt (by rw [tabK_len]) hk2
          rw [World.putObj_heap_other (by
            intro e
            subst e
            have h7 := hown.2
            rcases h7 with ⟨e7, _⟩ | ⟨g7, c7, cur7, e7, _, hg7, _⟩
            · cases e7
            · cases e7
              rw [hKD] at hg7
              cases hg7)]
          exact hon2.block g hlt (by omega)
        · have h6 : Below w.heap.size w W := hBW.trans (hon.below (n := w.heap.size) (by omega) (by rintro j rfl; omega))
          exact below_putObj (h6.trans (hon2.below (n := w.heap.size) (by omega) (by rintro j (rfl | rfl) <;> omega))) D (by omega) _
    have p1 := d1.c
    have p2 := d1.f
    have p3 := (d2.other (r := q) (by omega) (.slice ap n cp)).c
    have p4 := (d2.other (r := q) (by omega) (.slice ap n cp)).f
    clear hon hc hown hsq hp b1 b2 b3 b4 b5 hI0 hpiece hKD hn d1 d2 hlies hfits
    gi_wp2
    refine ⟨by simp, .inl ⟨_, _, rfl, run_takeDeferred HFIN.out.1, ?_⟩⟩
    refine ⟨_, results_cl rfl _ _ rfl rfl HFIN.out.2.1 HFIN.out.2.2.1, ?_⟩
    exact HFIN.out.2.2.2
  case stop =>
    rintro D c k W hD hk hX hKD
    obtain rfl := hX.code
    have HKD := Lib.hid hKD
    have hsz := hX.size
    have HB := Lib.hid (HNO.out _ hX.bad (below_putObj hX.below D (by omega) (.deferred none)))
    have HC1 := Lib.hid (hX.b1.of_heap (W' := W.putObj D (.deferred none)) (World.putObj_heap_other (by omega))).c
    have HC2 := Lib.hid (hX.b2.of_heap (W' := W.putObj D (.deferred none)) (World.putObj_heap_other (by omega))).c
    clear hX hsq hKD b1 b2 b3 b4 b5 hI0 hpiece
    gi_wp2
    refine ⟨by simp, .inl ⟨_, _, rfl, run_takeDeferred HKD.out, ?_⟩⟩
    refine ⟨_, results_cl rfl _ _ rfl rfl HC1.out HC2.out, ?_⟩
    exact HB.out
theorem table_any (v : Value) (L : List I) (w : World) (hL : Inos w v L) (ho : ∀ i, IOk (ino L i)) : Calls Try.prog 27 #[v] w (TabPost L w) := by
  obtain ⟨a, cap, rfl, m1, m2⟩ := hL.parts
  obtain ⟨N, hN⟩ : ∃ N, L.length = N := ⟨_, rfl⟩
  by_cases h1 : N ≤ 240
  · rw [hN] at hL ⊢
    by_cases h0 : 0 < N
    · obtain ⟨b, off, e, _⟩ := hL.at hN (k := 0) h0
      exact callsIn_wide.1 (table_in b off cap N a (fun _ => e) L w hN hL h1 ho)
    · exact callsIn_wide.1 (table_in 0 0 cap N a (fun h => absurd h h0) L w hN hL h1 ho)
  · have HNO : Hid (∀ w', Below w.heap.size w w' → TabPost L w (.returned (.tuple #[.slice none 0 0, .int .i64 154])) w') := fun w' hB => by
      obtain ⟨e1, e2⟩ := tab_no (L := L) (fun h => h1 (hN ▸ h.1))
      exact ⟨_, by rw [e2], by rw [e1]; exact Strs.nil w', hB⟩
    rw [hN] at hL m1 ⊢
    have g1 : decide ((N : Int) > 240) = true := decide_eq_true (by omega)
    have g2 : (240 : Int) < (N : Int) := by omega
    have HB := Lib.hid (pair_new w 22 26 (.slice none 0 0) (.int .i64 154))
    clear h1 hN hL ho
    go_enter Try.func27, Try.ntmps27
    go_wp2
    refine bodyPost_ret (results_cl rfl _ _ rfl rfl HB.out.1.c HB.out.2.1.c) rfl ?_
    exact HNO.out _ HB.out.2.2
end
end Go.Proofs.Yteopcjfakhmifaa.Vol
/- The inodes of a content, as the program reads them. -/
namespace Go.Proofs.Yteopcjfakhmifaa.Vol
open Go.RowKit
open Ino (I M IOk RightP getV getE)
attribute [local go_sem] Oper.semAt_some
set_option linter.unusedVariables false
set_option linter.unusedSimpArgs false
/-- the first n inodes of a content -/
def gets (c : ByteArray) (n : Nat) : List I := (List.range n).map fun k => getV c ((k : Nat) : Int)
theorem gets_len (c : ByteArray) (n : Nat) : (gets c n).length = n := by unfold gets; simp
theorem gets_at (c : ByteArray) {n k : Nat} (h : k < n) : (gets c n)[k]? = some (getV c ((k : Nat) : Int)) := by
  unfold gets
  rw [List.getElem?_map, List.getElem?_range h]
  rfl
/-- k of the twelve inodes at block B are written -/
def RowG (W : World) (B : Nat) (c : ByteArray) (k : Nat) : Prop := ∃ X : Array Value, W.heap[B]? = some (.cells X 41 (0, 0)) ∧ X.size = 144 ∧ ∀ j, j < 12 * k → X[j]? = (cellsIs (gets c 12))[j]?
theorem setCells_block (b : Nat) (t : TypeId) : ∀ (vs : List Value) (o : Nat) (w : World) (X : Array Value), w.heap[b]? = some (.cells X t (0, 0)) → ∃ Y : Array Value, (w.setCells b o vs).heap[b]? = some (.cells Y t (0, 0)) ∧ Y.size = X.size ∧ (∀ j, j < o → Y[j]? = X[j]?) ∧ (o + vs.length ≤ X.size → ∀ j, j < vs.length → Y[o + j]? = vs[j]?) ∧ ∀ g, g ≠ b → (w.setCells b o vs).heap[g]? = w.heap[g]?
  | [], o, w, X, h => ⟨X, h, rfl, fun _ _ => rfl, fun _ j hj => absurd hj (Nat.not_lt_zero _), fun _ _ => rfl⟩
  | v :: vs, o, w, X, h => by
    obtain ⟨Y, y1, y2, y3, y4, y5⟩ := setCells_block b t vs (o + 1) (w.setCell ⟨b, o, none⟩ v) (X.setIfInBounds o v) (heap_setCell_same w b o X t v h)
    refine ⟨Y, y1, by rw [y2]; simp, fun j hj => ?_, fun hs j hj => ?_, fun g hg => ?_⟩
    · rw [y3 j (by omega), Array.getElem?_setIfInBounds_ne (by omega)]
    · simp only [List.length_cons] at hs hj
      cases j with
      | zero =>
        rw [Nat.add_zero, y3 o (by omega), Array.getElem?_setIfInBounds_self_of_lt (by omega)]
        rfl
      | succ j =>
        rw [show o + (j + 1) = o + 1 + j by omega, y4 (by simp; omega) j (by omega)]
        rfl
    · exact (y5 g hg).trans (Below.heap_setCell _ _ _ _ (fun e => hg e))
theorem setCells_size (b : Nat) : ∀ (vs : List Value) (o : Nat) (w : World), (w.setCells b o vs).heap.size = w.heap.size
  | [], _, _ => rfl
  | v :: vs, o, w => (setCells_size b vs (o + 1) _).trans (by simp [World.setCell])
theorem below_setCells {n : Nat} {w0 : World} (b : Nat) (hb : n ≤ b) : ∀ (vs : List Value) (o : Nat) (w : World), Below n w0 w → Below n w0 (w.setCells b o vs)
  | [], _, _, h => h
  | v :: vs, o, w, h => below_setCells b hb vs (o + 1) _ (h.setCell (p := ⟨b, o, none⟩) hb v)
theorem RowG.there {W : World} {B : Nat} {c : ByteArray} {k : Nat} (h : RowG W B c k) (hk : k < 12) : W.there B (k * 12) 12 := fun j hj => by
  obtain ⟨X, h1, h2, _⟩ := h
  refine ⟨?_, by simp [World.frozen?, h1]⟩
  simp only [World.cell?, h1]
  have : k * 12 + j < X.size := by omega
  simp [this]
theorem RowG.th {W W' : World} {B : Nat} {c : ByteArray} {k : Nat} (h : RowG W B c k) (hB : Below W.heap.size W W') : RowG W' B c k := by
  obtain ⟨X, h1, h2, h3⟩ := h
  exact ⟨X, (hB.block B (Array.getElem?_eq_some_iff.1 h1).1).trans h1, h2, h3⟩
theorem RowG.next {W : World} {B : Nat} {c : ByteArray} {k : Nat} (h : RowG W B c k) (hk : k < 12) : RowG (W.setCells B (k * 12) (cellsI (getV c ((k : Nat) : Int)))) B c (k + 1) := by
  obtain ⟨X, h1, h2, h3⟩ := h
  obtain ⟨Y, y1, y2, y3, y4, _⟩ := setCells_block B _ (cellsI (getV c ((k : Nat) : Int))) (k * 12) W X h1
  refine ⟨Y, y1, by rw [y2, h2], fun j hj => ?_⟩
  by_cases hj2 : j < 12 * k
  · rw [y3 j (by omega), h3 j hj2]
  · obtain ⟨r, hr, rfl⟩ : ∃ r, r < 12 ∧ j = k * 12 + r := ⟨j - k * 12, by omega, by omega⟩
    have h12 : (cellsI (getV c ((k : Nat) : Int))).length = 12 := rfl
    rw [y4 (by rw [h12, h2]; omega) r (by rw [h12]; exact hr)]
    exact (flat_at cellsI 12 (gets c 12) (fun _ _ => rfl) k r _ (gets_at c hk) hr).symm
theorem RowG.lies {W : World} {B : Nat} {c : ByteArray} (h : RowG W B c 12) : Inos W (.slice (some ⟨B, 0, none⟩) 12 12) (gets c 12) := by
  obtain ⟨X, h1, h2, h3⟩ := h
  have hl := gets_len c 12
  refine ⟨_, 12, by rw [hl], by rw [hl]; exact Nat.le_refl _, ⟨by unfold maxLen; omega, fun e => by cases e⟩, cellsIs_length _, fun hp => ⟨B, 0, rfl, fun j u hj => ?_⟩⟩
  have hjn : j < 144 := by
    have := (List.getElem?_eq_some_iff.1 hj).1
    have h5 : ((gets c 12).flatMap cellsI).length = 144 := by have := cellsIs_length (gets c 12); rw [hl] at this; exact this
    omega
  rw [Nat.zero_add]
  simp only [World.cell?, h1]
  rw [h3 j (by omega)]
  exact hj
/-- what inodesOf answers -/
def GetsPost (c : ByteArray) (w : World) (e : Ending) (w' : World) : Prop := ∃ v, e = .returned (.tuple #[v, .int .i64 (if conP c then 0 else 154)]) ∧ Inos w' v (if conP c then gets c 12 else []) ∧ Below w.heap.size w w'
section
set_option maxRecDepth 100000
set_option maxHeartbeats 4000000
theorem made_inos (W : World) : (Instr.makeSlice 50 (.int .i64 12) (.int .i64 12)).run Try.prog W = .ok (.slice (some ⟨W.heap.size, 0, none⟩) 12 12) (W.alloc (.cells (madeCells (.agg #[.int .i64 0, .int .u16 0, .int .u16 0, .int .u32 0, .int .u64 0, .int .i64 0, .int .u32 0, .int .u32 0, .int .u32 0, .int .u32 0, .int .u32 0, .int .u32 0] : Value).cells 144) 41)) := by
  obtain ⟨i0, hi, hz0, hz1, hz2⟩ := info_parts infoInos
  have hr := run_make (P := Try.prog) W 50 41 i0 _ Try.underlying50 hi hz0 .i64 .i64 12 12 (by decide) (by omega) (by rw [hz2]; omega) (by omega)
  rw [hz1] at hr
  exact hr
theorem infI12 : (Try.prog.info? 41).map (·.size) = some 12 := by kernel_rfl
theorem gets_any (c : ByteArray) (w : World) (hc : c.size ≤ 9223372036854775807) : Calls Try.prog 53 #[.string c] w (GetsPost c w) := by
  have HNO : Hid (¬ conP c → ∀ W, Below w.heap.size w W → GetsPost c w (.returned (.tuple #[.slice none 0 0, .int .i64 154])) W) := fun h W hB => ⟨_, by rw [if_neg h], by rw [if_neg h]; exact Inos.nil W, hB⟩
  by_cases h1 : c.size = 508
  · have g1 : ((c.size : Int) != 508) = false := by simp [h1]
    have hB := fun W => bare_any c 504 W (by omega)
    cases h2 : bareB c 504 with
    | false =>
      rw [show (504 : Int).toNat = 504 from rfl, h2] at hB
      have HB := Lib.hid hB
      have HF := Lib.hid (HNO.out (fun h => by have := h.2.1; rw [h2] at this; cases this))
      clear h1 h2 hB HNO
      go_enter Try.func53, Try.ntmps53
      go_wp2_with (go_at_call 34; refine Calls.mono (HB.out _) ?_; rintro e w1 ⟨rfl, hw⟩; rw [← hw]; clear hw w1)
      go_returns
      exact HF.out _ (Below.refl _ _)
    | true =>
      rw [show (504 : Int).toNat = 504 from rfl, h2] at hB
      have HB := Lib.hid hB
      have HG := Lib.hid (fun (k : Nat) W => Ino.get_any c (k : Int) W (by omega))
      have HC : Hid (conP c ↔ ∀ k, k < 12 → getE c ((k : Nat) : Int) = 0) := ⟨fun h => h.2.2, fun h => ⟨h1, h2, h⟩⟩
      have HYES : Hid (conP c → ∀ v W, Inos W v (gets c 12) → Below w.heap.size w W → GetsPost c w (.returned (.tuple #[v, .int .i64 0])) W) := fun h v W hv hB => ⟨_, by rw [if_pos h], by rw [if_pos h]; exact hv, hB⟩
      have hmk := made_inos
      have HINF := Lib.hid infI12
      have hsz := size_madeCells (.agg #[.int .i64 0, .int .u16 0, .int .u16 0, .int .u32 0, .int .u64 0, .int .i64 0, .int .u32 0, .int .u32 0, .int .u32 0, .int .u32 0, .int .u32 0, .int .u32 0] : Value).cells 144
      generalize madeCells (.agg #[.int .i64 0, .int .u16 0, .int .u16 0, .int .u32 0, .int .u64 0, .int .i64 0, .int .u32 0, .int .u32 0, .int .u32 0, .int .u32 0, .int .u32 0, .int .u32 0] : Value).cells 144 = X at hmk hsz
      have HR0 : Hid (RowG (w.alloc (.cells X 41)) w.heap.size c 0) := ⟨X, World.alloc_heap_new _ _, hsz, fun j hj => by omega⟩
      have HB0 := Lib.hid (below_new w (.cells X 41))
      clear h1 h2 hB hsz
      go_enter Try.func53, Try.ntmps53
      go_wp2_with (go_at_call 34; refine Calls.mono (HB.out _) ?_; rintro e w1 ⟨rfl, hw⟩; rw [← hw]; clear hw w1)
      go_loopw [5, 6, 7, 19] (fun _ _ _ i wr => ∃ k : Nat, k ≤ 12 ∧ i = .int .i64 (k : Int) ∧ Hid (RowG wr w.heap.size c k) ∧ Hid (Below w.heap.size w wr) ∧ Hid (∀ j, j < k → getE c ((j : Nat) : Int) = 0)) (fun _ _ _ i _ => 12 - (intOf i).toNat)
      case atStart => exact ⟨0, by omega, rfl, HR0, HB0, fun j hj => absurd hj (Nat.not_lt_zero _)⟩
      case round =>
        obtain ⟨k, hk, rfl, HR, HBk, HE⟩ := hrel
        clear hmk
        by_cases hlt : k < 12
        · have hkI : (k : Int) < 12 := by omega
          have hGk := HG.out k
          have HNX : Hid (∀ W, Below wr.heap.size wr W → W.there w.heap.size (k * 12) 12 ∧ RowG (W.setCells w.heap.size (k * 12) (cellsI (getV c ((k : Nat) : Int)))) w.heap.size c (k + 1) ∧ Below w.heap.size w (W.setCells w.heap.size (k * 12) (cellsI (getV c ((k : Nat) : Int))))) := fun W h => ⟨(HR.out.th h).there hlt, (HR.out.th h).next hlt, below_setCells _ (Nat.le_refl _) _ _ _ (below_th HBk.out h)⟩
          by_cases he : getE c ((k : Nat) : Int) = 0
          · have HE2 : Hid (∀ j, j < k + 1 → getE c ((j : Nat) : Int) = 0) := fun j hj => by
              rcases Nat.lt_succ_iff_lt_or_eq.1 hj with h | h
              · exact HE.out j h
              · rw [h]; exact he
            rw [he] at hGk
            obtain ⟨x, hx⟩ : ∃ x, getV c ((k : Nat) : Int) = x := ⟨_, rfl⟩
            rw [hx] at hGk HNX
            unfold Ino.I.val at hGk
            unfold cellsI at HNX
            have HGk := Lib.hid hGk
            clear hGk he hx HG HYES HC
            go_wp2_with (first
              | (go_at_call 68; (with_reducible refine Calls.mono (HGk.out _) ?_); rintro e w2 ⟨rfl, hB2⟩; obtain ⟨d0, d1, d2, d3, d4, d5, d6, d7, d8, d9, d10, d11⟩ := (Ino.At.new w2 x).c; unfold Ino.boxO at d0 d1 d2 d3 d4 d5 d6 d7 d8 d9 d10 d11; have HB2 := Lib.hid (below_al hB2 (.cells #[.int .i64 x.kind, .int .u16 x.mode, .int .u16 x.links, .int .u32 x.size, .int .u64 x.time, .int .i64 x.depth, .int .u32 x.m.a, .int .u32 x.m.b, .int .u32 x.m.c, .int .u32 x.m.d, .int .u32 x.m.e, .int .u32 x.m.f] 41)); clear hB2)
              | ((with_reducible show wpList _ _ _ (Oper.mk none (Op.store 41 (Operand.tmp 33) (Operand.tmp 32)) _ _ _ _ :: _) _ _); refine wpList_store_mid rfl 41 (.tmp 33) (.tmp 32) rfl w.heap.size (k * 12) #[.int .i64 x.kind, .int .u16 x.mode, .int .u16 x.links, .int .u32 x.size, .int .u64 x.time, .int .i64 x.depth, .int .u32 x.m.a, .int .u32 x.m.b, .int .u32 x.m.c, .int .u32 x.m.d, .int .u32 x.m.e, .int .u32 x.m.f] rfl rfl (HNX.out _ HB2.out).1 HINF.out (by simp [Value.oneCell']) ?_; obtain ⟨_, r2, r3⟩ := HNX.out _ HB2.out; have HR2 := Lib.hid r2; have HR3 := Lib.hid r3; clear r2 r3))
            go_roundw
            case rel => exact ⟨k + 1, by omega, by go_num, HR2.out, HR3.out, HE2.out⟩
            case measure => simp [intOf]; omega
          · have HF := Lib.hid (HNO.out (fun h => he (HC.out.1 h k hlt)))
            obtain ⟨y, hy⟩ : ∃ y, getE c ((k : Nat) : Int) = y := ⟨_, rfl⟩
            obtain ⟨x, hx⟩ : ∃ x, getV c ((k : Nat) : Int) = x := ⟨_, rfl⟩
            rw [hy] at he hGk
            rw [hx] at hGk
            unfold Ino.I.val at hGk
            have HGk := Lib.hid hGk
            have g4 : (y != 0) = true := bne_iff_ne.2 he
            clear hGk hx hy he HG HYES HC HNX
            go_wp2_with (go_at_call 68; (with_reducible refine Calls.mono (HGk.out _) ?_); rintro e w2 ⟨rfl, hB2⟩; have HB2 := Lib.hid (below_th HBk.out (below_al hB2 (.cells #[.int .i64 x.kind, .int .u16 x.mode, .int .u16 x.links, .int .u32 x.size, .int .u64 x.time, .int .i64 x.depth, .int .u32 x.m.a, .int .u32 x.m.b, .int .u32 x.m.c, .int .u32 x.m.d, .int .u32 x.m.e, .int .u32 x.m.f] 41))); clear hB2)
            go_returns
            exact HF.out _ HB2.out
        · obtain rfl : k = 12 := by omega
          have HF := Lib.hid (HYES.out (HC.out.2 HE.out) _ _ HR.out.lies HBk.out)
          go_wp2
          go_returns
          exact HF.out
  · have g1 : ((c.size : Int) != 508) = true := by simp; omega
    have HF := Lib.hid (HNO.out (fun h => h1 h.1))
    clear h1 HNO
    go_enter Try.func53, Try.ntmps53
    go_wp2
    go_returns
    exact HF.out _ (Below.refl _ _)
end
end Go.Proofs.Yteopcjfakhmifaa.Vol
