/- Several texts in one, each under its own heading. -/
import Derived.Test.YteopcjfakhmifaaPk35
import Derived.Test.YteopcjfakhmifaaPk31
import Derived.Test.YteopcjfakhmifaaPk29
import Derived.Test.YteopcjfakhmifaaPk26
import Derived.Test.YteopcjfakhmifaaPk28
import Derived.Test.YteopcjfakhmifaaPk15
/- Inodes of the program. -/
namespace Go.Proofs.Yteopcjfakhmifaa.Vol
open Go.RowKit
open Ino (I M IOk RightP getV getE)
attribute [local go_sem] Oper.semAt_some
set_option linter.unusedVariables false
set_option linter.unusedSimpArgs false
theorem inosC_more (C : List ByteArray) (k : Nat) : inosC C (12 * (k + 1)) = inosC C (12 * k) ++ gets (tx C k) 12 := by
  unfold inosC gets
  rw [show 12 * (k + 1) = 12 * k + 12 by omega, List.range_add, List.map_append, List.map_map]
  congr 1
  apply List.map_congr_left
  intro i hi
  rw [List.mem_range] at hi
  show getV (tx C ((12 * k + i) / 12)) (((12 * k + i) % 12 : Nat) : Int) = _
  rw [show (12 * k + i) / 12 = k by omega, show (12 * k + i) % 12 = i by omega]
set_option maxRecDepth 100000 in
theorem results_ci {fn : Func} {r e : Tmp} (h : fn.results = #[.cell r 50, .cell e 26]) (tmps : Array Value) (w : World) {b1 b2 : Nat} {a : Option Addr} {n c : Nat} {x : Int} (hp : tmps.getD r undef = .pointer (some ⟨b1, 0, none⟩)) (hq : tmps.getD e undef = .pointer (some ⟨b2, 0, none⟩)) (c1 : w.cell? ⟨b1, 0, none⟩ = some (.slice a n c)) (c2 : w.cell? ⟨b2, 0, none⟩ = some (.int .i64 x)) :
    (results fn tmps).run Try.prog w = .ok (.tuple #[.slice a n c, .int .i64 x]) w := by
  rw [Array.getD_eq_getD_getElem?] at hp hq
  simp [results, h, hp, hq, go_sem, c1, c2]
/-- two boxes made, one behind the other -/
theorem two_new (X : World) (t1 t2 : TypeId) (v1 v2 : Value) : CellAt ((X.alloc (.cells #[v1] t1)).alloc (.cells #[v2] t2)) X.heap.size t1 v1 ∧ CellAt ((X.alloc (.cells #[v1] t1)).alloc (.cells #[v2] t2)) (X.heap.size + 1) t2 v2 ∧ Below X.heap.size X ((X.alloc (.cells #[v1] t1)).alloc (.cells #[v2] t2)) := by
  refine ⟨(CellAt.new X t1 v1).th (below_new _ _), ?_, below_al (below_new _ _) _⟩
  have h := CellAt.new (X.alloc (.cells #[v1] t1)) t2 v2
  rw [World.size_alloc] at h
  exact h
theorem Inos.keep {W W' : World} {v : Value} {L : List I} (h : Inos W v L) (hk : ∀ g o k c, v = .slice (some ⟨g, o, none⟩) k c → 0 < k → W'.heap[g]? = W.heap[g]?) : Inos W' v L := by
  obtain ⟨a, cap, rfl, h2, h3, h4, h5⟩ := h
  refine ⟨a, cap, rfl, h2, h3, h4, fun hn => ?_⟩
  obtain ⟨b, off, rfl, hc⟩ := h5 hn
  refine ⟨b, off, rfl, fun j u hj => ?_⟩
  have he : W'.cell? ⟨b, off + j, none⟩ = W.cell? ⟨b, off + j, none⟩ := World.cell?_of_block (w := W) (hk b off _ _ rfl hn)
  exact he.trans (hc j u hj)
structure InsI (W0 : World) (C : List ByteArray) (q : Nat) (k : Nat) (W : World) : Prop where
  row : RowI W0 q 50 41 12 (12 * k) (cellsIs (inosC C (12 * k))) W
  fits : ∀ j, j < k → conP (tx C j)
theorem insI_own {W0 : World} {C : List ByteArray} {q : Nat} : OwnFrom W0.heap.size (InsI W0 C q) := fun k W W' row hI hg hr =>
  ⟨rowI_own (n := fun k => 12 * k) (xs := fun k => cellsIs (inosC C (12 * k))) k W W' row hI.row hg hr, hI.fits⟩
structure InsX (w W0 : World) (C : List ByteArray) (q : Nat) (c : Code) (k : Nat) (W : World) : Prop where
  code : c = .ret
  bad : ¬ inosP C
  b1 : CellAt W q 50 (.slice none 0 0)
  b2 : CellAt W (q + 1) 26 (.int .i64 154)
  below : Below w.heap.size w W
  size : W0.heap.size ≤ W.heap.size
theorem insX_own {w W0 : World} {C : List ByteArray} {q : Nat} (hz : w.heap.size ≤ W0.heap.size) (c : Code) : OwnFrom W0.heap.size (InsX w W0 C q c) := fun k W W' row h hg hr =>
  ⟨h.code, h.bad, kept_cells h.b1 hg hr, kept_cells h.b2 hg hr, h.below.grown hg h.below.size (fun r e => Nat.le_trans hz (hr r e).1), Nat.le_trans h.size hg.size⟩
section
set_option maxRecDepth 100000
set_option maxHeartbeats 4000000
theorem inos_in (a : Option Addr) (N cap : Nat) (C : List ByteArray) (w : World) (hN : C.length = N) (hL : Strs w (.slice a N cap) C) (hl : N ≤ 20) (hz : ∀ i, i < N → (tx C i).size ≤ 9223372036854775807) :
    CallsIn Fence.wide 9 Try.prog 29 #[.slice a N cap] w (InosPost C w) := by
  have hfn : ∀ f, Fence.wide.fn f := fun _ => trivial
  have HNO : Hid (∀ w', ¬ inosP C → Below w.heap.size w w' → InosPost C w (.returned (.tuple #[.slice none 0 0, .int .i64 154])) w') := fun w' h hB => by
    obtain ⟨e1, e2⟩ := inos_no h
    exact ⟨_, by rw [e2], by rw [e1]; exact Inos.nil w', hB⟩
  have HYES : Hid (∀ v w', inosP C → Inos w' v (inosC C (12 * N)) → Below w.heap.size w w' → InosPost C w (.returned (.tuple #[v, .int .i64 0])) w') := fun v w' h hv hB => by
    obtain ⟨e1, e2⟩ := inos_yes h
    exact ⟨_, by rw [e2], by rw [e1, hN]; exact hv, hB⟩
  have HIF : Hid (inosP C ↔ ∀ k, k < N → conP (tx C k)) := by
    unfold Hid inosP
    rw [hN]
    exact ⟨fun h => h.2, fun h => ⟨hl, h⟩⟩
  obtain ⟨i0, hin, hz0, hz1, hz2⟩ := info_parts infoInos
  have g2 : ¬ (20 : Int) < (N : Int) := by omega
  have g1 : decide ((N : Int) > 20) = false := decide_eq_false (by omega)
  have HN1 := Lib.hid hN
  obtain ⟨_, _, e0, hcap1, hcap2⟩ := hL.parts
  rw [hN] at e0 hcap1
  cases e0
  clear hN
  refine callsIn_of_wp_marks Try.func29 rfl trivial ?_ rfl
  simp only [Try.ntmps29, List.size_toArray, List.length_cons, List.length_nil, Nat.reduceAdd, Nat.reduceSub, Array.replicate_succ, Array.replicate_zero, List.push_toArray, List.append_toArray, List.nil_append, List.cons_append]
  gi_wp2_with (gi_at_call 52; refine (valS_in _ _ _ _ _).mono ?_; rintro e w4 ⟨rfl, hw⟩; rw [← hw]; clear hw w4)
  obtain ⟨q, hq⟩ : ∃ q, w.heap.size = q := ⟨_, rfl⟩
  obtain ⟨W0, hW0⟩ : ∃ W0, (((w.alloc (.cells #[.slice none 0 0] 50)).alloc (.cells #[.int .i64 0] 26)).alloc (.cells #[.slice none 0 0] 50)).alloc (.cells #[.slice a N cap] 22) = W0 := ⟨_, rfl⟩
  have hs0 : W0.heap.size = q + 4 := by rw [← hW0, ← hq]; simp
  have hBW : Below w.heap.size w W0 := by rw [← hW0]; exact below_al (below_al (below_al (below_al (Below.refl _ _) _) _) _) _
  have hz' : ∀ (W : World) (o : Obj) (k : Nat) (x : Obj), W.heap[k]? = some x → (W.alloc o).heap[k]? = some x := fun W o k x h => (Below.heap_alloc _ _ _ (Array.getElem?_eq_some_iff.1 h).1).trans h
  have hn' : ∀ (W : World) (o : Obj) (n : Nat), W.heap.size = n → (W.alloc o).heap[n]? = some o := fun W o n h => h ▸ World.alloc_heap_new W o
  have b1 : CellAt W0 q 50 (.slice none 0 0) := by rw [← hW0, ← hq]; exact hz' _ _ _ _ (hz' _ _ _ _ (hz' _ _ _ _ (hn' _ _ _ rfl)))
  have b2 : CellAt W0 (q + 1) 26 (.int .i64 0) := by rw [← hW0, ← hq]; exact hz' _ _ _ _ (hz' _ _ _ _ (hn' _ _ _ (by simp)))
  have b3 : CellAt W0 (q + 1 + 1) 50 (.slice none 0 0) := by rw [← hW0, ← hq]; exact hz' _ _ _ _ (hn' _ _ _ (by simp))
  have b4 : CellAt W0 (q + 1 + 1 + 1) 22 (.slice a N cap) := by rw [← hW0, ← hq]; exact hn' _ _ _ (by simp)
  have hsq : SeqSteps Fence.wide 8 Try.prog 67 #[.pointer (some ⟨q + 1 + 1 + 1, 0, none⟩)] (encV C) (KeptN q) N W0 := by
    intro l J Jx W' hB hJ _ hY h0
    have h := valS1_in 8 (by decide) l (q + 1 + 1 + 1) q (.slice a N cap) C J Jx _ hJ (by rw [HN1.out]; exact hY) W' (b4.th hB).c (fun W2 hk => hL.keptN ((KeptN.below hBW (Nat.le_refl _)).trans ((KeptN.below (hB.mono (Nat.le_refl _)) (by omega)).trans (by rw [hq]; exact hk)))) (by have := hB.size; omega) h0
    rw [HN1.out] at h
    exact h
  rw [hW0]
  rw [hq]
  clear hW0 hz' hn'
  have hI0 : InsI W0 C (q + 1 + 1) 0 W0 := ⟨RowI.nil b3, fun j hj => absurd hj (Nat.not_lt_zero _)⟩
  refine wpIn_rangeFunc_steps rfl (by decide) (gf := 67) (lb := #[.pointer (some ⟨q + 1 + 1 + 1, 0, none⟩)]) rfl trivial (enters_of Try.func67 (by kernel_rfl) rfl)
    hsq keptN_t (keptN_b (by omega)) (Below.refl _ _) (fun k => by unfold encV; rfl)
    (InsI W0 C (q + 1 + 1)) (InsX w W0 C q) insI_own (insX_own (by omega)) hI0
    (ActA (fun k => #[.slice a N cap, undef, .pointer (some ⟨q, 0, none⟩), .pointer (some ⟨q + 1, 0, none⟩), .pointer (some ⟨q + 1 + 1, 0, none⟩), .string (tx C k), undef, undef, .slice a N cap, .int .i64 (N : Int), .bool false, .slice a N cap, .func (.func 67) #[] #[.pointer (some ⟨q + 1 + 1 + 1, 0, none⟩)], .string (tx C k), undef, undef, undef, undef, undef, undef, undef, undef, undef, undef, undef, undef])) (fun k a' => actA_own k a') ?assign ?body ?done ?stop
  case assign =>
    intro l k W K hI hk hK
    have HK := Lib.hid (hK _ _ (KeepsFrom.refl _ _) (KeptN.refl _ _) hI rfl)
    unfold encV
    clear hK hI hsq
    dsimp only at HK
    gi_wp2
    exact HK.out
  case body =>
    rintro l k a' W hl' hrec hI rfl hk
    obtain ⟨⟨hon, v0, hc, hown⟩, hfits⟩ := hI
    obtain ⟨ap, cp, rfl, _, hcp⟩ := lies_own hown
    dsimp only
    have hsz := hon.size
    have hG := fun W2 => gets_any (tx C k) W2 (hz k hk)
    unfold GetsPost at hG
    have hmore := inosC_more C k
    have d1 : CellAt W q 50 (.slice none 0 0) := b1.of_heap (hon.block _ (by omega) (by omega))
    have d2 : CellAt W (q + 1) 26 (.int .i64 0) := b2.of_heap (hon.block _ (by omega) (by omega))
    obtain ⟨x, hx⟩ : ∃ x, tx C k = x := ⟨_, rfl⟩
    have hcx : conP (tx C k) ↔ conP x := by rw [hx]
    rw [hx] at hG hmore ⊢
    by_cases hC : conP x
    · simp only [if_pos hC] at hG
      have hf2 : ∀ j, j < k + 1 → conP (tx C j) := fun j hj => by
        rcases Nat.lt_succ_iff_lt_or_eq.1 hj with h | h
        · exact hfits j h
        · rw [h]; exact hcx.2 hC
      have HGO : Hid (∀ W2 v' W4, Below W.heap.size W W2 → W4.ownsRow W0.heap.size 41 12 v' (12 * k + 12) (cellsIs (inosC C (12 * k)) ++ cellsIs (gets x 12)) → W2.grownBy W4 (Value.slice ap (12 * k) cp).ownBlock → CellAt W4 (q + 1 + 1) 50 (.slice ap (12 * k) cp) ∧ (KeepsFrom W0.heap.size W (W4.setCell ⟨q + 1 + 1, 0, none⟩ v') ∧ KeptN q W (W4.setCell ⟨q + 1 + 1, 0, none⟩ v') ∧ InsI W0 C (q + 1 + 1) (k + 1) (W4.setCell ⟨q + 1 + 1, 0, none⟩ v'))) := fun W2 v' W4 hB ho hg => by
        obtain ⟨r1, r2, r3, r4⟩ := RowI.next (by omega) hon hc hown hB ho hg
        refine ⟨r1, r2, ⟨fun b hb => r3 [b] (by intro y hy; simp at hy; omega) b (by simp), ?_⟩, ⟨?_, hf2⟩⟩
        · have h1 := hB.size
          have h2 := hg.size
          simp [World.setCell]
          omega
        · rw [hmore, show cellsIs (inosC C (12 * k) ++ gets x 12) = cellsIs (inosC C (12 * k)) ++ cellsIs (gets x 12) by unfold cellsIs; rw [List.flatMap_append]]
          exact r4
      have HOW : Hid (∀ W2, Below W.heap.size W W2 → W2.ownsRow W0.heap.size 41 12 (.slice ap (12 * k) cp) (12 * k) (cellsIs (inosC C (12 * k)))) := fun W2 h => own_row hown (grown_of_below h) (fun r e => by cases e)
      have HCC : Hid (∀ W2, Below W.heap.size W W2 → W2.cell? ⟨q + 1 + 1, 0, none⟩ = some (.slice ap (12 * k) cp) ∧ W0.heap.size ≤ W2.heap.size) := fun W2 h => ⟨(hc.th h).c, by have := h.size; omega⟩
      obtain ⟨n, hn⟩ : ∃ n, 12 * k = n := ⟨_, rfl⟩
      obtain ⟨xs, hxs⟩ : ∃ xs, cellsIs (inosC C n) = xs := ⟨_, rfl⟩
      rw [hn] at HGO HOW HCC hcp
      have hgl := gets_len x 12
      have HGL : Hid ((cellsIs (gets x 12)).length = 12 * 12) := by unfold Hid; rw [cellsIs_length, hgl]
      have HG1 := Lib.hid (cellsIs_one (gets x 12))
      have HINW : Hid (∀ W2 v, Inos W2 v (gets x 12) → ∃ ad cp, v = .slice (some ad) 12 cp ∧ 12 ≤ cp ∧ cp ≤ 9223372036854775807 ∧ ∀ j u, (cellsIs (gets x 12))[j]? = some u → W2.cell? (ad.add j) = some u) := fun W2 v h => by
        obtain ⟨a2, c2, e, h1, h2⟩ := h.parts
        rw [hgl] at e h1
        subst e
        obtain ⟨b, off, e2, _⟩ := h.at hgl (k := 0) (by omega)
        subst e2
        exact ⟨_, c2, rfl, h1, h2, h.news⟩
      simp only [hxs] at HGO HOW
      obtain ⟨gs, hgs⟩ : ∃ gs, cellsIs (gets x 12) = gs := ⟨_, rfl⟩
      simp only [hgs] at HGO HGL HG1 HINW
      have hn9 : n ≤ 240 := by omega
      have HG := Lib.hid hG
      clear hon hc hown hsq hx hrec b1 b2 b3 b4 hn hxs hI0 hG hmore hcx hC hf2 hgl hgs hfits d1 d2
      gi_wp2_with (first
        | (gi_at_call 53; refine (CallsIn.inRound l (callsIn_wide.2 (HG.out _))).mono ?_; rintro e w2 ⟨v2, rfl, hv2, hB2⟩; obtain ⟨ad, cp2, rfl, m1, m2, hnews⟩ := HINW.out _ _ hv2; have HNW := Lib.hid hnews; have hc2 := (HCC.out _ hB2).1; have HB2 := Lib.hid hB2; clear hv2 hnews hB2)
        | (gi_at_builtin; (refine wpListIn_append_own _ rfl _ _ 50 rfl W0.heap.size 41 i0 (.agg #[.int .i64 0, .int .u16 0, .int .u16 0, .int .u32 0, .int .u64 0, .int .i64 0, .int .u32 0, .int .u32 0, .int .u32 0, .int .u32 0, .int .u32 0, .int .u32 0]) 12 56 Try.underlying50 hin hz0 hz1 hz2 rfl (by decide) (.slice ap n cp) n xs rfl (HOW.out _ HB2.out) ad 12 cp2 gs rfl HGL.out HNW.out HG1.out (by unfold maxLen; omega) (by omega) (HCC.out _ HB2.out).2 ?_; intro v' w3 hown' hgrow _; obtain ⟨g', cap', rfl, _, _⟩ := lies_own hown'; obtain ⟨r1, r2⟩ := HGO.out _ _ w3 HB2.out hown' hgrow; have hc3 := r1.c; have hf3 := r1.f; have HR := Lib.hid r2; clear r1 r2 hown' hgrow)))
      exact HR.out
    · simp only [if_neg hC] at hG
      have HBAD : Hid (∀ W2, Below W.heap.size W W2 → CellAt W2 q 50 (.slice none 0 0) ∧ CellAt W2 (q + 1) 26 (.int .i64 0) ∧ KeepsFrom W0.heap.size W ((W2.setCell ⟨q, 0, none⟩ (.slice none 0 0)).setCell ⟨q + 1, 0, none⟩ (.int .i64 154)) ∧ InsX w W0 C q .ret k ((W2.setCell ⟨q, 0, none⟩ (.slice none 0 0)).setCell ⟨q + 1, 0, none⟩ (.int .i64 154))) := fun W2 hB => by
        have hon2 : Only (fun i => i = q ∨ i = q + 1) W ((W2.setCell ⟨q, 0, none⟩ (.slice none 0 0)).setCell ⟨q + 1, 0, none⟩ (.int .i64 154)) := Only.setCell (p := ⟨q + 1, 0, none⟩) (Only.setCell (p := ⟨q, 0, none⟩) (Only.of_below hB) (.inr (.inl rfl)) _) (.inr (.inr rfl)) _
        have e1 := d1.th hB
        have e2 := d2.th hB
        refine ⟨e1, e2, keeps_of_only _ hon2 (by rintro j (rfl | rfl); exact ⟨_, _, _, d1⟩; exact ⟨_, _, _, d2⟩), rfl, fun hp => hC (hcx.1 ((HIF.out.1 hp) k hk)), (e1.put _).other (by omega) _, (e2.other (by omega) _).put _, ?_, Nat.le_trans hsz hon2.size⟩
        have h6 : Below w.heap.size w W := hBW.trans (hon.below (n := w.heap.size) (by omega) (by rintro j rfl; omega))
        exact h6.trans (hon2.below (n := w.heap.size) (by omega) (by rintro j (rfl | rfl) <;> omega))
      have HG := Lib.hid hG
      clear hon hc hown hsq hx hrec b1 b2 b3 b4 hI0 hG hmore hcx hC hfits d1 d2 hs0
      gi_wp2_with (gi_at_call 53; refine (CallsIn.inRound l (callsIn_wide.2 (HG.out _))).mono ?_; rintro e w2 ⟨v2, rfl, hv2, hB2⟩; obtain ⟨a2, c2, rfl, _, _⟩ := hv2.parts; obtain ⟨e1, e2, e3⟩ := HBAD.out _ hB2; have p1 := e1.c; have p2 := e1.f; have p3 := (e2.other (r := q) (by omega) (.slice none 0 0)).c; have p4 := (e2.other (r := q) (by omega) (.slice none 0 0)).f; have HE := Lib.hid e3; clear e1 e2 e3 hv2 hB2)
      exact HE.out
  case done =>
    rintro D W hD hI hKD
    obtain ⟨⟨hon, v0, hc, hown⟩, hfits⟩ := hI
    obtain ⟨ap, cp, rfl, _, hcp⟩ := lies_own hown
    have hp : inosP C := HIF.out.2 hfits
    have hsz := hon.size
    have c4 := hc.c
    have d1 : CellAt W q 50 (.slice none 0 0) := b1.of_heap (hon.block _ (by omega) (by omega))
    have d2 : CellAt W (q + 1) 26 (.int .i64 0) := b2.of_heap (hon.block _ (by omega) (by omega))
    have hlies : Inos W (.slice ap (12 * N) cp) (inosC C (12 * N)) := by
      have := Lies.own hown
      unfold Inos
      rw [inosC_len]
      exact this
    obtain ⟨n, hn⟩ : ∃ n, 12 * N = n := ⟨_, rfl⟩
    rw [hn] at hlies c4
    have HFIN : Hid (((W.setCell ⟨q, 0, none⟩ (.slice ap n cp)).setCell ⟨q + 1, 0, none⟩ (.int .i64 0)).heap[D]? = some (.deferred (some [])) ∧
        (((W.setCell ⟨q, 0, none⟩ (.slice ap n cp)).setCell ⟨q + 1, 0, none⟩ (.int .i64 0)).putObj D (.deferred none)).cell? ⟨q, 0, none⟩ = some (.slice ap n cp) ∧
        (((W.setCell ⟨q, 0, none⟩ (.slice ap n cp)).setCell ⟨q + 1, 0, none⟩ (.int .i64 0)).putObj D (.deferred none)).cell? ⟨q + 1, 0, none⟩ = some (.int .i64 0) ∧
        InosPost C w (.returned (.tuple #[.slice ap n cp, .int .i64 0])) (((W.setCell ⟨q, 0, none⟩ (.slice ap n cp)).setCell ⟨q + 1, 0, none⟩ (.int .i64 0)).putObj D (.deferred none))) := by
      have hon2 : Only (fun i => i = q ∨ i = q + 1) W ((W.setCell ⟨q, 0, none⟩ (.slice ap n cp)).setCell ⟨q + 1, 0, none⟩ (.int .i64 0)) := Only.setCell (p := ⟨q + 1, 0, none⟩) (Only.setCell (p := ⟨q, 0, none⟩) (Only.refl _ W) (.inr (.inl rfl)) _) (.inr (.inr rfl)) _
      have hDW : D < W.heap.size := (Array.getElem?_eq_some_iff.1 hKD).1
      have hD3 := (hon2.block D hDW (by omega)).trans hKD
      refine ⟨hD3, ?_, ?_, ?_⟩
      · exact (((d1.put (.slice ap n cp)).other (by omega) _).of_heap (World.putObj_heap_other (by omega))).c
      · exact (((d2.other (by omega) _).put _).of_heap (World.putObj_heap_other (by omega))).c
      · refine HYES.out _ _ hp ?_ ?_
        · rw [hn]
          have hbr : ∀ r, (Value.slice ap n cp).ownBlock = some r → W0.heap.size ≤ r := fun r e => (hown.lt r (by rw [hn]; exact e)).1
          refine hlies.keep (fun g o k2 c2 e hk2 => ?_)
          cases e
          have hg := hbr g rfl
          have hlt : g < W.heap.size := hlies.lt (by rw [inosC_len]) hk2
          rw [World.putObj_heap_other (by
            intro e
            subst e
            have h7 := hown.2
            rcases h7 with ⟨e7, _⟩ | ⟨g7, c7, cur7, e7, _, hg7, _⟩
            · cases e7
            · cases e7
              rw [hKD] at hg7
              cases hg7)]
          exact hon2.block g hlt (by omega)
        · have h6 : Below w.heap.size w W := hBW.trans (hon.below (n := w.heap.size) (by omega) (by rintro j rfl; omega))
          exact below_putObj (h6.trans (hon2.below (n := w.heap.size) (by omega) (by rintro j (rfl | rfl) <;> omega))) D (by omega) _
    have p1 := d1.c
    have p2 := d1.f
    have p3 := (d2.other (r := q) (by omega) (.slice ap n cp)).c
    have p4 := (d2.other (r := q) (by omega) (.slice ap n cp)).f
    clear hon hc hown hsq hp b1 b2 b3 b4 hI0 hKD hn d1 d2 hlies hfits
    gi_wp2
    refine ⟨by simp, .inl ⟨_, _, rfl, run_takeDeferred HFIN.out.1, ?_⟩⟩
    refine ⟨_, results_ci rfl _ _ rfl rfl HFIN.out.2.1 HFIN.out.2.2.1, ?_⟩
    exact HFIN.out.2.2.2
  case stop =>
    rintro D c k W hD hk hX hKD
    obtain rfl := hX.code
    have HKD := Lib.hid hKD
    have hsz := hX.size
    have HB := Lib.hid (HNO.out _ hX.bad (below_putObj hX.below D (by omega) (.deferred none)))
    have HC1 := Lib.hid (hX.b1.of_heap (W' := W.putObj D (.deferred none)) (World.putObj_heap_other (by omega))).c
    have HC2 := Lib.hid (hX.b2.of_heap (W' := W.putObj D (.deferred none)) (World.putObj_heap_other (by omega))).c
    clear hX hsq hKD b1 b2 b3 b4 hI0
    gi_wp2
    refine ⟨by simp, .inl ⟨_, _, rfl, run_takeDeferred HKD.out, ?_⟩⟩
    refine ⟨_, results_ci rfl _ _ rfl rfl HC1.out HC2.out, ?_⟩
    exact HB.out
theorem inodes_any (v : Value) (C : List ByteArray) (w : World) (hL : Strs w v C) (hz : ∀ i, i < C.length → (tx C i).size ≤ 9223372036854775807) :
    Calls Try.prog 29 #[v] w (InosPost C w) := by
  obtain ⟨a, cap, rfl, m1, m2⟩ := hL.parts
  obtain ⟨N, hN⟩ : ∃ N, C.length = N := ⟨_, rfl⟩
  by_cases h1 : N ≤ 20
  · rw [hN] at hL hz ⊢
    exact callsIn_wide.1 (inos_in a N cap C w hN hL h1 hz)
  · have HNO : Hid (∀ w', Below w.heap.size w w' → InosPost C w (.returned (.tuple #[.slice none 0 0, .int .i64 154])) w') := fun w' hB => by
      obtain ⟨e1, e2⟩ := inos_no (C := C) (fun h => h1 (hN ▸ h.1))
      exact ⟨_, by rw [e2], by rw [e1]; exact Inos.nil w', hB⟩
    rw [hN] at hL hz m1 ⊢
    have g1 : decide ((N : Int) > 20) = true := decide_eq_true (by omega)
    have g2 : (20 : Int) < (N : Int) := by omega
    have HB := Lib.hid (two_new w 50 26 (.slice none 0 0) (.int .i64 154))
    clear h1 hN hL hz
    go_enter Try.func29, Try.ntmps29
    go_wp2
    refine bodyPost_ret (results_ci rfl _ _ rfl rfl HB.out.1.c HB.out.2.1.c) rfl ?_
    exact HNO.out _ HB.out.2.2
end
end Go.Proofs.Yteopcjfakhmifaa.Vol
/- slices.Clone of files; a file's bytes in a row of one's own. -/
namespace Go.Proofs.Yteopcjfakhmifaa.Vol
open Go.RowKit
open Pln (Nd nd Nodes cellsL cellsL_length cellsL_one infoNd own_data nd_get)
attribute [local go_sem] Oper.semAt_some
set_option linter.unusedVariables false
set_option linter.unusedSimpArgs false
theorem own_th {w w' : World} {base n sz : Nat} {t : TypeId} {v : Value} {xs : List Value} (h : w.ownsRow base t sz v n xs) (hB : Below w.heap.size w w') : w'.ownsRow base t sz v n xs :=
  own_row h (grown_of_below hB) (fun r e => by cases e)
theorem eqlNl (a : Option Addr) (n c : Nat) (w : World) : (binOp .eql 42 (.slice a n c) (.slice none 0 0)).run Try.prog w = .ok (.bool a.isNone) w :=
  Lib.run_eql_slice_nil w _ _ a n c 0 0 Try.underlying42
section
set_option maxRecDepth 100000
set_option maxHeartbeats 4000000
theorem cloneN_any (v : Value) (L : List Nd) (w : World) (hL : Nodes w v L) (h2 : L.length ≤ 4096) :
    Calls Try.prog 48 #[v] w fun e w' => ∃ v', e = .returned v' ∧ w'.ownsRow w.heap.size 38 5 v' L.length (cellsL L) ∧ Below w.heap.size w w' := by
  obtain ⟨i0, hi, hz0, hz1, hz2⟩ := info_parts infoNd
  obtain ⟨a, cap, rfl, hcap1, hcap2⟩ := hL.parts
  obtain ⟨N, hN⟩ : ∃ N, L.length = N := ⟨_, rfl⟩
  cases a with
  | none =>
    have hc0 : cap = 0 := Lies.none_cap hL
    subst hc0
    have hl0 : L = [] := List.eq_nil_of_length_eq_zero (by omega)
    subst hl0
    have hq := eqlNl none 0 0
    clear hL hN
    go_enter Try.func48, Try.ntmps48
    go_wp2
    go_ret
    exact ⟨_, rfl, World.ownsRow_nil _ _ _ _, Below.refl _ _⟩
  | some ad =>
    have HC := Lib.hid (fun W (hB : Below w.heap.size w W) => (hL.below hB).news)
    have HV := Lib.hid (cellsL_length L)
    have HO := Lib.hid (cellsL_one L)
    rw [hN] at HV h2 hcap1 ⊢
    obtain ⟨xs, hxs⟩ : ∃ xs, cellsL L = xs := ⟨_, rfl⟩
    simp only [hxs] at HC HV HO ⊢
    clear hL hN hxs
    obtain ⟨W0, rfl⟩ : ∃ W0 : World, W0 = w := ⟨_, rfl⟩
    go_enter Try.func48, Try.ntmps48
    have hq := eqlNl (some ad) N cap
    have hmade : (W0.alloc (.cells #[] 38)).ownsRow W0.heap.size 38 5 (.slice (some ⟨W0.heap.size, 0, none⟩) 0 0) 0 [] := World.ownsRow_made W0 #[] 0 (Nat.le_refl _) (Nat.zero_le _) (by simp)
    go_wp2_with (at_builtin; refine wpList_append_own _ rfl _ _ 42 rfl W0.heap.size 38 i0 (.agg #[.int .i64 0, .int .u16 0, .int .u16 0, .int .u64 0, .string ⟨#[]⟩]) 5 40 Try.underlying42 hi hz0 hz1 hz2 rfl (by decide) (.slice (some ⟨W0.heap.size, 0, none⟩) 0 0) 0 [] rfl hmade ad N cap xs rfl HV.out (HC.out _ (below_new _ _)) HO.out (by unfold maxLen; omega) (by omega) (by simp) ?_; intro v1 w1 hown1 hgrow _; simp only [Nat.zero_add, List.nil_append] at hown1; have HW := Lib.hid hown1; have HG := Lib.hid (((Below.refl W0.heap.size W0).alloc (Nat.le_refl _) (.cells #[] 38)).grown hgrow (by simp) (fun k hk => by simp [Value.ownBlock] at hk; omega)); clear hown1 hgrow)
    go_ret
    exact ⟨v1, by simp, HW.out, HG.out⟩
theorem own_one {W : World} {base g cap N : Nat} {L : List Nd} (hN : L.length = N) (h : W.ownsRow base 38 5 (.slice (some ⟨g, 0, none⟩) N cap) N (cellsL L)) {k : Nat} (hk : k < N) :
    W.cell? ⟨g, k * 5 + 4, none⟩ = some (.string (nd L k).data) ∧ base ≤ g ∧ ∀ W', Below W.heap.size W W' → W'.frozen? ⟨g, k * 5 + 4, none⟩ = false ∧ W'.cell? ⟨g, k * 5 + 4, none⟩ = some (.string (nd L k).data) ∧ (W'.setCell ⟨g, k * 5 + 4, none⟩ (.string (nd L k).data)).ownsRow base 38 5 (.slice (some ⟨g, 0, none⟩) N cap) N (cellsL L) := by
  obtain ⟨_, _, hv, hb, _⟩ := Pln.own_open h (by omega)
  have hc := ((Pln.Nodes.own (L := L) (by rw [hN]; exact h)).get hN hk).2.2.2.2
  rw [Nat.zero_add] at hc
  injection hv with e1 _ _
  injection e1 with e1
  injection e1 with e1 _ _
  subst e1
  refine ⟨hc, hb, fun W' hB => ?_⟩
  have h' := own_th h hB
  obtain ⟨_, f2, h3, _⟩ := own_data hN h' hk (nd L k).data
  have hs : L.set k { nd L k with data := (nd L k).data } = L := by
    have : ({ nd L k with data := (nd L k).data } : Nd) = nd L k := rfl
    rw [this]
    refine List.ext_getElem (by rw [List.length_set]) fun i h1 h2 => ?_
    rw [List.getElem_set]
    split
    · rename_i e
      subst e
      simp [nd, hN, hk]
    · rfl
  rw [hs] at h3
  have hc' := ((Pln.Nodes.own (L := L) (by rw [hN]; exact h')).get hN hk).2.2.2.2
  rw [Nat.zero_add] at hc'
  exact ⟨f2, hc', h3⟩
end
end Go.Proofs.Yteopcjfakhmifaa.Vol
