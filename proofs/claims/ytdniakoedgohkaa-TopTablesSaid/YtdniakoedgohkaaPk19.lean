/- Several texts in one, each under its own heading. -/
import Derived.Test.YtdniakoedgohkaaPk18
import Derived.Test.YtdniakoedgohkaaPk09
import Derived.Test.YtdniakoedgohkaaPk17
import Derived.Test.YtdniakoedgohkaaPk14
/- Counts of the program. -/
namespace Go.Proofs.Ytdniakoedgohkaa.Dat
open Go.RowKit Go.Shelf
attribute [local go_sem] Oper.semAt_some
set_option linter.unusedVariables false

/-- one value lies at block q -/
def CellAt (W : World) (q : Nat) (t : TypeId) (v : Value) : Prop := W.heap[q]? = some (.cells #[v] t (0, 0))
theorem CellAt.c {W : World} {q : Nat} {t : TypeId} {v : Value} (h : CellAt W q t v) : W.cell? ⟨q, 0, none⟩ = some v := by unfold CellAt at h; simp only [World.cell?, h]; rfl
theorem CellAt.f {W : World} {q : Nat} {t : TypeId} {v : Value} (h : CellAt W q t v) : W.frozen? ⟨q, 0, none⟩ = false := by unfold CellAt at h; simp [World.frozen?, h]
theorem CellAt.put {W : World} {q : Nat} {t : TypeId} {v : Value} (h : CellAt W q t v) (u : Value) : CellAt (W.setCell ⟨q, 0, none⟩ u) q t u := by unfold CellAt at h ⊢; rw [heap_setCell_same W q 0 _ _ u h]; rfl
theorem CellAt.lt {W : World} {q : Nat} {t : TypeId} {v : Value} (h : CellAt W q t v) : q < W.heap.size := (Array.getElem?_eq_some_iff.1 h).1
theorem CellAt.of_heap {W W' : World} {q : Nat} {t : TypeId} {v : Value} (h : CellAt W q t v) (hb : W'.heap[q]? = W.heap[q]?) : CellAt W' q t v := hb.trans h
theorem CellAt.th {W W' : World} {q : Nat} {t : TypeId} {v : Value} (h : CellAt W q t v) (hB : Below W.heap.size W W') : CellAt W' q t v := h.of_heap (hB.block q h.lt)
theorem CellAt.other {W : World} {q : Nat} {t : TypeId} {v : Value} (h : CellAt W q t v) (p o : Nat) (u : Value) (hp : q ≠ p) : CellAt (W.setCell ⟨p, o, none⟩ u) q t v := h.of_heap (Below.heap_setCell _ _ _ _ hp)
theorem row_put {W : World} {g : Nat} {t : TypeId} {cur : List Value} (h : Row W g t cur) (j : Nat) (u : Value) : Row (W.setCell ⟨g, j, none⟩ u) g t (cur.set j u) := by
  unfold Row at h ⊢
  rw [heap_setCell_same W g j _ _ u h]
  simp
/-- whole numbers -/
def Ints (w : World) (v : Value) (C : List Int) : Prop := Lies w v C.length 1 (C.map (.int .i64))
theorem Ints.below {w w' : World} {v : Value} {C : List Int} (h : Ints w v C) (hB : Below w.heap.size w w') : Ints w' v C := Lies.below h hB
theorem Ints.nil (w : World) : Ints w (.slice none 0 0) [] := Lies.nil w 1
def CntPost (L : List T) (n : Int) (w : World) (e : Ending) (w' : World) : Prop := ∃ v, e = .returned (.tuple #[v, .int .i64 (cntE L n)]) ∧ Ints w' v (cntV L n) ∧ Below w.heap.size w w'
theorem cntV_no {L : List T} {n : Int} (h : ¬ cntOk L n) : cntV L n = [] := if_neg h
theorem cnt_no {L : List T} {n : Int} {w w' : World} (h : ¬ cntOk L n) (hB : Below w.heap.size w w') : CntPost L n w (.returned (.tuple #[.slice none 0 0, .int .i64 80])) w' := ⟨_, by rw [show cntE L n = 80 from if_neg h], by rw [cntV_no h]; exact Ints.nil w', hB⟩
theorem infoInt : (Try.prog.info? 3).map (fun i => (i.zero, i.size, i.bytes)) = some (some (.int .i64 0), 1, 8) := by kernel_rfl
def cntC (L : List T) (l : List Nat) (n : Nat) : List Value := (cntL L l n).map (.int .i64)
theorem cntC_length (L : List T) (l : List Nat) (n : Nat) : (cntC L l n).length = n := by unfold cntC; rw [List.length_map, cntL_length]
theorem cntC_get {L : List T} {l : List Nat} {n s : Nat} (h : s < n) : (cntC L l n)[s]? = some (.int .i64 (cnt L l s : Int)) := by
  unfold cntC
  rw [List.getElem?_map, cntL_get h]
  rfl
theorem cntC_snoc {L : List T} {l : List Nat} {n i : Nat} (h : segOf L i < n) : cntC L (l ++ [i]) n = (cntC L l n).set (segOf L i) (.int .i64 ((cnt L l (segOf L i) + 1 : Nat) : Int)) := by
  unfold cntC
  rw [cntL_snoc h, List.map_set]
  rfl
theorem cntC_nil (L : List T) (n : Nat) : cntC L [] n = List.replicate n (.int .i64 0) := by
  unfold cntC
  rw [cntL_nil, List.map_replicate]
def CntA (tmps : Nat → Nat → Array Value) (W0 : World) (L : List T) (k : Nat) (a' : Act) (W : World) : Prop :=
  ∃ Bx, W0.heap.size ≤ Bx ∧ At W Bx (tr L (ix L k)) ∧ a' = { tmps := tmps k Bx, defers := [] }
theorem cntA_own {tmps : Nat → Nat → Array Value} {W0 : World} {L : List T} {B : Nat} (k : Nat) (a' : Act) : OwnFrom B (fun (_ : Unit) W => CntA tmps W0 L k a' W) := fun _ W W' row hI hg hr => by
  obtain ⟨Bx, h1, h2, h3⟩ := hI
  exact ⟨Bx, h1, kept_cells h2 hg hr, h3⟩
section
set_option maxRecDepth 100000
set_option maxHeartbeats 4000000
end
end Go.Proofs.Ytdniakoedgohkaa.Dat
/- Encode of the program. -/
namespace Go.Proofs.Ytdniakoedgohkaa.Dat
open Go.RowKit Go.Shelf
attribute [local go_sem] Oper.semAt_some
set_option linter.unusedVariables false

/-- texts -/
def Strs (w : World) (v : Value) (C : List ByteArray) : Prop := Lies w v C.length 1 (C.map .string)
theorem Strs.below {w w' : World} {v : Value} {C : List ByteArray} (h : Strs w v C) (hB : Below w.heap.size w w') : Strs w' v C := Lies.below h hB
theorem Strs.nil (w : World) : Strs w (.slice none 0 0) [] := Lies.nil w 1
def EncPost (L : List T) (w : World) (e : Ending) (w' : World) : Prop := ∃ v, e = .returned (.tuple #[v, .int .i64 (encE L)]) ∧ Strs w' v (encV L) ∧ Below w.heap.size w w'
theorem infoStr : (Try.prog.info? 9).map (fun i => (i.zero, i.size, i.bytes)) = some (some (.string ⟨#[]⟩), 1, 16) := by kernel_rfl
theorem results_two {fn : Func} {r t : Tmp} (h : fn.results = #[.tmp r, .tmp t]) (tmps : Array Value) (w : World) : (results fn tmps).run Try.prog w = .ok (.tuple #[tmps.getD r undef, tmps.getD t undef]) w := by
  simp [results, h, go_sem]
/-- a piece of a table -/
theorem Trs.piece {w : World} {b off N cap : Nat} {L : List T} (hN : L.length = N) (h : Trs w (.slice (some ⟨b, off, none⟩) N cap) L) (k : Nat) (hk : 31 * k < N) : Trs w (.slice (some ⟨b, off + 31 * k * 3, none⟩) (chN N k) (chN N k)) (chunk L k) := by
  subst hN
  have hm := chunk_length L k
  have hmN : (chunk L k).length = chN L.length k := hm
  have hcap : L.length ≤ maxLen := by
    obtain ⟨a1, c1, e, g1, ⟨g2, _⟩, _⟩ := h
    cases e
    omega
  refine ⟨_, chN L.length k, by rw [hmN], by rw [hmN]; exact Nat.le_refl _, ⟨by unfold chN; omega, fun e => by cases e⟩, flat_length T.cells 3 _ (fun _ _ => rfl), fun hp => ⟨b, off + 31 * k * 3, rfl, fun j u hj => ?_⟩⟩
  have hjl := (List.getElem?_eq_some_iff.1 hj).1
  rw [flat_length T.cells 3 _ (fun _ _ => rfl), hm] at hjl
  obtain ⟨p, r, hr, rfl⟩ : ∃ p r, r < 3 ∧ j = p * 3 + r := ⟨j / 3, j % 3, Nat.mod_lt _ (by decide), by omega⟩
  have hp31 : p < 31 := by omega
  have hpl : 31 * k + p < L.length := by omega
  have h1 := flat_at T.cells 3 (chunk L k) (fun _ _ => rfl) p r (tr (chunk L k) p) (tr_get (by rw [hm]; omega)) hr
  rw [h1, tr_chunk L k hp31] at hj
  obtain ⟨a1, c1, e, _, _, _, h5⟩ := h
  cases e
  obtain ⟨b2, o2, e2, hc⟩ := h5 (by omega)
  cases e2
  have h2 := hc ((31 * k + p) * 3 + r) u (by rw [flat_at T.cells 3 L (fun _ _ => rfl) (31 * k + p) r (tr L (31 * k + p)) (tr_get hpl) hr]; exact hj)
  rw [show off + 31 * k * 3 + (p * 3 + r) = off + ((31 * k + p) * 3 + r) by omega]
  exact h2
/-- a region's plain walk holds in a round, too -/
theorem wpIn_round_any {P : Program} {ops : Array Oper} {Q : Exit → Act → World → Prop} {id l0 nF : Nat} {a : Act} {w : World} (hm : P.follows .mixedOrders = true) (hd : noDefer ops = true) (hQ : ¬ LetsOut Q)
    (h : wpAny P .any ops Q ops.size (Array.replicate ops.size false) a w.drew) : (Code.region id ops true).wpIn (Fence.wide.inRound l0) nF P Q a w := wpIn_region_any hm (anyIn_of_any hd hQ _ _ _ _ h)
/-- what has been encoded behind k pieces -/
def EncI (W0 : World) (L : List T) (s : Nat) (k : Nat) (W : World) : Prop :=
  Only (fun i => i = s) W0 W ∧ ∃ v, CellAt W s 42 v ∧ W.ownsRow W0.heap.size 9 1 v k ((blksK L k).map .string)
theorem encI_own {W0 : World} {L : List T} {s : Nat} : OwnFrom W0.heap.size (EncI W0 L s) := fun k W W' row hI hg hr => by
  obtain ⟨h1, v, h2, h3⟩ := hI
  refine ⟨h1.grown hg (fun r e => .inl (hr r e).1), v, kept_cells h2 hg hr, h3.kept hg ?_⟩
  cases hv : v.ownBlock with
  | none => exact .inl rfl
  | some g =>
    right
    intro e
    obtain ⟨_, o, ho, hc⟩ := hr g e.symm
    rcases h3.2 with ⟨e1, _⟩ | ⟨g2, cap, cur, e1, _, hgg, _⟩
    · rw [e1] at hv; cases hv
    · rw [e1] at hv
      have e2 : g2 = g := by simpa [Value.ownBlock] using hv
      rw [e2, ho] at hgg
      cases hgg
      cases hc
section
set_option maxRecDepth 100000
set_option maxHeartbeats 4000000
theorem encode_in (b off cap N : Nat) (L : List T) (w : World) (hN : L.length = N) (hL : Trs w (.slice (some ⟨b, off, none⟩) N cap) L) (hr : RightP L) :
    CallsIn Fence.wide 9 Try.prog 19 #[.slice (some ⟨b, off, none⟩) N cap] w (EncPost L w) := by
  have hfn : ∀ f, Fence.wide.fn f := fun _ => trivial
  obtain ⟨i0, hin, hz0, hz1, hz2⟩ := info_parts infoStr
  have hN1 : 1 ≤ N := by have := hr.1; omega
  have hN2 : N ≤ 1860 := by have := hr.1; omega
  have hR := right_any _ L w hL
  rw [rightB_yes hr] at hR
  have HNN := Lib.hid hN
  have HR := Lib.hid hR
  clear hR hN
  refine callsIn_of_wp_marks Try.func19 rfl trivial ?_ rfl
  simp only [Try.ntmps19, List.size_toArray, List.length_cons, List.length_nil, Nat.reduceAdd, Nat.reduceSub, Array.replicate_succ, Array.replicate_zero, List.push_toArray, List.append_toArray, List.nil_append, List.cons_append]
  gi_wp2_with (first
    | (gi_at_call 41; refine (callsIn_wide.2 HR.out).mono ?_; rintro e w1 ⟨rfl, hB1⟩)
    | (gi_at_call 46; refine (chunk_in _ _ _ _ _).mono ?_; rintro e w4 ⟨rfl, rfl⟩))
  obtain ⟨s, hs⟩ : ∃ s, w1.heap.size = s := ⟨_, rfl⟩
  obtain ⟨W0, hW0⟩ : ∃ W0, ((w1.alloc (.cells #[.slice none 0 0] 42)).alloc (.cells #[.slice (some ⟨b, off, none⟩) N cap] 36)).alloc (.cells #[.int .i64 31] 3) = W0 := ⟨_, rfl⟩
  have hs0 : W0.heap.size = s + 3 := by rw [← hW0, ← hs]; simp
  have hB0 : Below w1.heap.size w1 W0 := by rw [← hW0]; exact below_al (below_al (below_al (Below.refl _ _) _) _) _
  have hBW : Below w.heap.size w W0 := below_th hB1 hB0
  have hz : ∀ (W : World) (o : Obj) (k : Nat) (x : Obj), W.heap[k]? = some x → (W.alloc o).heap[k]? = some x := fun W o k x h => (Below.heap_alloc _ _ _ (Array.getElem?_eq_some_iff.1 h).1).trans h
  have hn : ∀ (W : World) (o : Obj) (n : Nat), W.heap.size = n → (W.alloc o).heap[n]? = some o := fun W o n h => h ▸ World.alloc_heap_new W o
  have b0 : CellAt W0 s 42 (.slice none 0 0) := by rw [← hW0, ← hs]; exact hz _ _ _ _ (hz _ _ _ _ (hn _ _ _ rfl))
  have b1 : CellAt W0 (s + 1) 36 (.slice (some ⟨b, off, none⟩) N cap) := by rw [← hW0, ← hs]; exact hz _ _ _ _ (hn _ _ _ (by simp))
  have b2 : CellAt W0 (s + 1 + 1) 3 (.int .i64 31) := by rw [← hW0, ← hs]; exact hn _ _ _ (by simp)
  have hws : w.heap.size ≤ s := by rw [← hs]; exact hB1.size
  rw [hW0]
  rw [hs]
  have hcaps : N ≤ cap ∧ cap ≤ 9223372036854775807 := by
    obtain ⟨a1, cap1, e, g1, g2⟩ := hL.parts
    have hN' : L.length = N := HNN.out
    rw [hN'] at e
    cases e
    omega
  have hsq : SeqSteps Fence.wide 8 Try.prog 70 #[.pointer (some ⟨s + 1, 0, none⟩), .pointer (some ⟨s + 1 + 1, 0, none⟩)] (chEnc b off N) (Same [s + 1, s + 1 + 1]) ((N + 30) / 31) W0 := by
    intro l J Jx W' hB hJ _ hY h0
    exact chunk1_in 8 (by decide) l (s + 1) (s + 1 + 1) b off cap N L HNN.out (by omega) (by omega) J Jx _ hJ (fun k W1 h1 h2 => hY k W1 h1 (by omega)) W' (b1.th hB).c (b2.th hB).c hcaps.1 hcaps.2 h0
  have hpiece := fun W k (h : Below w.heap.size w W) (hk : 31 * k < N) => blockOf_any _ (chunk L k) W ((hL.below h).piece HNN.out k hk) (by rw [chunk_length]; omega) (fun i => by
    rcases Nat.lt_or_ge i 31 with hi | hi
    · rw [tr_chunk L k hi]; exact hr.fit _
    · rw [tr_out (by rw [chunk_length]; omega)]; unfold fitT T.zero; decide)
  clear hW0 hz hn hL
  refine wpIn_rangeFunc_steps rfl (by decide) (gf := 70) (lb := #[.pointer (some ⟨s + 1, 0, none⟩), .pointer (some ⟨s + 1 + 1, 0, none⟩)]) rfl trivial (enters_of Try.func70 (by kernel_rfl) rfl)
    hsq sameK_t (sameK_b (by simp; omega)) (Below.refl _ _) (fun k => by unfold chEnc; rfl)
    (EncI W0 L s) (fun c k W => False) encI_own (fun c k W W' row hI hg hr => hI) ⟨Only.refl _ _, _, b0, World.ownsRow_nil _ _ _ _⟩
    (ActA (fun k => #[.slice (some ⟨b, off, none⟩) N cap, undef, .slice none 0 0, .int .i64 0, .pointer (some ⟨s, 0, none⟩), .slice (some ⟨b, off + 31 * k * 3, none⟩) (chN N k) (chN N k), .slice (some ⟨b, off, none⟩) N cap, .bool true, .bool false, .slice (some ⟨b, off, none⟩) N cap, .func (.func 70) #[] #[.pointer (some ⟨s + 1, 0, none⟩), .pointer (some ⟨s + 1 + 1, 0, none⟩)], .slice (some ⟨b, off + 31 * k * 3, none⟩) (chN N k) (chN N k), undef, undef, undef, undef, undef, undef])) (fun k a' => actA_own k a') ?assign ?body ?done ?stop
  case assign =>
    intro l k W K hI hk hK
    have HK := Lib.hid (hK _ _ (KeepsFrom.refl _ _) (Same.refl _ _) hI rfl)
    unfold chEnc
    clear hK hI hsq
    dsimp only at HK
    gi_wp2
    exact HK.out
  case body =>
    rintro l k a' W hl hrec ⟨hon, v, hc, hown⟩ rfl hk
    have hsz := hon.size
    have hk31 : 31 * k < N := by omega
    have hBwW : Below w.heap.size w W := hBW.trans (hon.below (by omega) (by rintro j rfl; exact hws))
    have HBL := Lib.hid (fun W2 (h : Below W.heap.size W W2) => hpiece W2 k (below_th hBwW h) hk31)
    obtain ⟨x, hx⟩ : ∃ x, blkB (chunk L k) = x := ⟨_, rfl⟩
    rw [hx] at HBL
    have hfin : ∀ W2 v' W4, Below W.heap.size W W2 → W4.ownsRow W0.heap.size 9 1 v' (k + 1) ((blksK L k).map .string ++ [.string x]) → (W2.alloc (.cells #[.string x] 9)).grownBy W4 v.ownBlock → CellAt W4 s 42 v ∧ (KeepsFrom W0.heap.size W (W4.setCell ⟨s, 0, none⟩ v') ∧ Same [s + 1, s + 1 + 1] W (W4.setCell ⟨s, 0, none⟩ v') ∧ EncI W0 L s (k + 1) (W4.setCell ⟨s, 0, none⟩ v')) := fun W2 v' W4 h2 ho hg => by
      have hvb : ∀ r, v.ownBlock = some r → W0.heap.size ≤ r ∧ ∃ c t f, W.heap[r]? = some (.cells c t f) := fun r e => by
        rcases hown.2 with ⟨e1, _⟩ | ⟨g2, cap2, cur, e1, hb2, hgg, _⟩
        · rw [e1] at e; cases e
        · rw [e1] at e
          have e2 : g2 = r := by simpa [Value.ownBlock] using e
          rw [← e2]
          exact ⟨hb2, _, _, _, hgg⟩
      have hon2 : Only (fun i => i = s ∨ v.ownBlock = some i) W W4 := ((Only.of_below h2).alloc (.cells #[.string x] 9)).grown hg (fun r e => .inr (.inr e))
      have hne : ∀ r, v.ownBlock = some r → ¬ s = r := fun r e => by have := (hvb r e).1; omega
      have hc4 : CellAt W4 s 42 v := by
        have h3 : CellAt (W2.alloc (.cells #[.string x] 9)) s 42 v := (hc.th h2).of_heap (Below.heap_alloc _ _ _ (hc.th h2).lt)
        exact h3.of_heap (hg.block s h3.lt (fun e => hne s e.symm rfl))
      have hon5 : Only (fun i => i = s ∨ v.ownBlock = some i) W (W4.setCell ⟨s, 0, none⟩ v') := hon2.setCell (p := ⟨s, 0, none⟩) (.inr (.inl rfl)) _
      refine ⟨hc4, keeps_of_only _ hon5 (fun j hj => ?_), fun y hy => ?_, hon.step hon5 (fun i hi h => ?_), v', hc4.put v', ?_⟩
      · rcases hj with rfl | hj
        · exact ⟨_, _, _, hc⟩
        · exact (hvb j hj).2
      · refine hon5.block y (by simp at hy; omega) (fun hh => ?_)
        rcases hh with rfl | hh
        · simp at hy; omega
        · have := (hvb y hh).1; simp at hy; omega
      · rcases h with h | h
        · exact h
        · have := (hvb i h).1; omega
      · rw [blksK_succ, List.map_append, hx]
        have h6 := ho.kept (w' := W4.setCell ⟨s, 0, none⟩ v') (row := some s) ⟨rfl, rfl, rfl, (KeepsWalks.setCell W4 ⟨s, 0, none⟩ v').size, fun j hj hn => Below.heap_setCell _ _ _ _ (fun e => hn (by rw [e]))⟩ (by
          cases hv : v'.ownBlock with
          | none => exact .inl rfl
          | some g => exact .inr (fun e => by have := (ho.lt g hv).1; cases e; omega))
        exact h6
    have HFIN := Lib.hid hfin
    have c4 := hc.c
    have hk9 : k ≤ 1860 := by omega
    have HOW : Hid (∀ W2, Below W.heap.size W W2 → (W2.alloc (.cells #[.string x] 9)).ownsRow W0.heap.size 9 1 v k ((blksK L k).map .string)) := fun W2 h => (hown.kept (grown_of_below h) (by cases hv : v.ownBlock <;> simp)).alloc _
    have HC4 : Hid (∀ W2, Below W.heap.size W W2 → W2.cell? ⟨s, 0, none⟩ = some v ∧ (W2.alloc (.cells #[.string x] 9)).cell? ⟨s, 0, none⟩ = some v) := fun W2 h => ⟨(hc.th h).c, ((hc.th h).of_heap (Below.heap_alloc _ _ _ (hc.th h).lt)).c⟩
    have hself : Below W.heap.size W W.drew := (Below.refl _ _).drew
    have HSZ : Hid (∀ W2, Below W.heap.size W W2 → W0.heap.size ≤ (W2.alloc (.cells #[.string x] 9)).heap.size) := fun W2 h => by have := h.size; simp; omega
    have d4 : W.drew.cell? ⟨s, 0, none⟩ = some v := c4
    clear hon hc hown hsq hpiece hBwW hx hfin hrec b0 b1 b2 hk31 c4
    dsimp only
    gi_wp2
    refine wpIn_round_any (by kernel_rfl) (by kernel_rfl) (by rintro ⟨_, _, hh⟩; exact hh) ?_
    refine wpAny_take (i := 1) (v := .slice (some ⟨b, off + 31 * k * 3, none⟩) (chN N k) (chN N k)) rfl (by kernel_rfl) (by kernel_rfl) (by kernel_rfl) (fun _ _ _ h => h) (Or.inl ⟨by rfl, by intro w; go_simp⟩) ?_
    refine wpAny_ready (rs := [0, 2]) (by kernel_rfl) (by simp) ?_
    refine AllReady.cons rfl (fun K hK => ?_) (AllReady.cons rfl (fun K hK => ?_) AllReady.nil)
    · go_simp
      refine hK _ _ ?_
      clear hK K
      refine wpAny_ready (rs := [2]) (by kernel_rfl) (by simp) ?_
      refine AllReady.cons rfl (fun K hK => ?_) AllReady.nil
      go_simp
      go_at_call 47
      (with_reducible refine Calls.mono (HBL.out _ hself) ?_)
      rintro e w2 ⟨rfl, hB2⟩
      have hb2 : Below W.heap.size W w2 := below_th hself hB2
      obtain ⟨q1, q2⟩ := HC4.out _ hb2
      try go_simp
      refine hK _ _ ?_
      clear hK K
      refine wpAny_ready (rs := [3]) (by kernel_rfl) (by simp) ?_
      refine AllReady.cons rfl (fun K hK => ?_) AllReady.nil
      go_simp
      refine hK _ _ ?_
      clear hK K
      refine wpAny_ready (rs := [4]) (by kernel_rfl) (by simp) ?_
      refine AllReady.cons rfl (fun K hK => ?_) AllReady.nil
      refine step_append_lies _ rfl (.tmp 12) (.tmp 15) 42 rfl W0.heap.size 9 i0 (.string ⟨#[]⟩) 1 16 Try.underlying42 hin hz0 hz1 hz2 rfl (by decide) v k ((blksK L k).map .string) rfl (HOW.out _ hb2) ⟨w2.heap.size, 0, none⟩ 1 1 [.string x] rfl rfl (World.news_of_block (World.alloc_heap_new w2 _)) (by simp [Value.oneCell']) (by decide) (by unfold maxLen; omega) (by omega) (HSZ.out _ hb2) _ rfl ?_
      intro g2 cap2 w4 hown4 hgrow4 hat4 hlt4
      obtain ⟨hcc, hfi⟩ := HFIN.out w2 _ w4 hb2 hown4 hgrow4
      have e4 := hcc.c
      have f4 := hcc.f
      have HFI := Lib.hid hfi
      clear hown4 hgrow4 hat4 hlt4 hcc hfi
      try go_simp
      refine hK _ _ ?_
      clear hK K
      refine wpAny_ready (rs := [5]) (by kernel_rfl) (by simp) ?_
      refine AllReady.cons rfl (fun K hK => ?_) AllReady.nil
      go_simp
      refine hK _ _ ?_
      clear hK K
      refine wpAny_done (by kernel_rfl) ?_ _
      exact HFI.out
    · go_simp
      go_at_call 47
      (with_reducible refine Calls.mono (HBL.out _ hself) ?_)
      rintro e w2 ⟨rfl, hB2⟩
      have hb2 : Below W.heap.size W w2 := below_th hself hB2
      obtain ⟨q1, q2⟩ := HC4.out _ hb2
      try go_simp
      refine hK _ _ ?_
      clear hK K
      refine wpAny_ready (rs := [0, 3]) (by kernel_rfl) (by simp) ?_
      refine AllReady.cons rfl (fun K hK => ?_) (AllReady.cons rfl (fun K hK => ?_) AllReady.nil)
      · go_simp
        refine hK _ _ ?_
        clear hK K
        refine wpAny_ready (rs := [3]) (by kernel_rfl) (by simp) ?_
        refine AllReady.cons rfl (fun K hK => ?_) AllReady.nil
        go_simp
        refine hK _ _ ?_
        clear hK K
        refine wpAny_ready (rs := [4]) (by kernel_rfl) (by simp) ?_
        refine AllReady.cons rfl (fun K hK => ?_) AllReady.nil
        refine step_append_lies _ rfl (.tmp 12) (.tmp 15) 42 rfl W0.heap.size 9 i0 (.string ⟨#[]⟩) 1 16 Try.underlying42 hin hz0 hz1 hz2 rfl (by decide) v k ((blksK L k).map .string) rfl (HOW.out _ hb2) ⟨w2.heap.size, 0, none⟩ 1 1 [.string x] rfl rfl (World.news_of_block (World.alloc_heap_new w2 _)) (by simp [Value.oneCell']) (by decide) (by unfold maxLen; omega) (by omega) (HSZ.out _ hb2) _ rfl ?_
        intro g2 cap2 w4 hown4 hgrow4 hat4 hlt4
        obtain ⟨hcc, hfi⟩ := HFIN.out w2 _ w4 hb2 hown4 hgrow4
        have e4 := hcc.c
        have f4 := hcc.f
        have HFI := Lib.hid hfi
        clear hown4 hgrow4 hat4 hlt4 hcc hfi
        try go_simp
        refine hK _ _ ?_
        clear hK K
        refine wpAny_ready (rs := [5]) (by kernel_rfl) (by simp) ?_
        refine AllReady.cons rfl (fun K hK => ?_) AllReady.nil
        go_simp
        refine hK _ _ ?_
        clear hK K
        refine wpAny_done (by kernel_rfl) ?_ _
        exact HFI.out
      · go_simp
        refine hK _ _ ?_
        clear hK K
        refine wpAny_ready (rs := [0]) (by kernel_rfl) (by simp) ?_
        refine AllReady.cons rfl (fun K hK => ?_) AllReady.nil
        go_simp
        refine hK _ _ ?_
        clear hK K
        refine wpAny_ready (rs := [4]) (by kernel_rfl) (by simp) ?_
        refine AllReady.cons rfl (fun K hK => ?_) AllReady.nil
        refine step_append_lies _ rfl (.tmp 12) (.tmp 15) 42 rfl W0.heap.size 9 i0 (.string ⟨#[]⟩) 1 16 Try.underlying42 hin hz0 hz1 hz2 rfl (by decide) v k ((blksK L k).map .string) rfl (HOW.out _ hb2) ⟨w2.heap.size, 0, none⟩ 1 1 [.string x] rfl rfl (World.news_of_block (World.alloc_heap_new w2 _)) (by simp [Value.oneCell']) (by decide) (by unfold maxLen; omega) (by omega) (HSZ.out _ hb2) _ rfl ?_
        intro g2 cap2 w4 hown4 hgrow4 hat4 hlt4
        obtain ⟨hcc, hfi⟩ := HFIN.out w2 _ w4 hb2 hown4 hgrow4
        have e4 := hcc.c
        have f4 := hcc.f
        have HFI := Lib.hid hfi
        clear hown4 hgrow4 hat4 hlt4 hcc hfi
        try go_simp
        refine hK _ _ ?_
        clear hK K
        refine wpAny_ready (rs := [5]) (by kernel_rfl) (by simp) ?_
        refine AllReady.cons rfl (fun K hK => ?_) AllReady.nil
        go_simp
        refine hK _ _ ?_
        clear hK K
        refine wpAny_done (by kernel_rfl) ?_ _
        exact HFI.out
  case done =>
    rintro D W hD ⟨hon, v, hc, hown⟩ hKD
    have hsz := hon.size
    have c4 := hc.c
    have hnl : nBl L.length = (N + 30) / 31 := by unfold nBl; rw [HNN.out]
    have hlies := Lies.own hown
    have hgr : W.grownBy (W.putObj D (.deferred none)) (some D) := ⟨rfl, rfl, rfl, by simp [World.putObj], fun j _ hj => World.putObj_heap_other (fun e => hj (by rw [e]))⟩
    have HP : Hid (EncPost L w (.returned (.tuple #[v, .int .i64 0])) (W.putObj D (.deferred none))) := by
      refine ⟨v, by rw [show encE L = 0 from if_pos hr], ?_, below_putObj (hBW.trans (hon.below (by omega) (by rintro j rfl; exact hws))) D (by omega) _⟩
      have e : encV L = blksK L ((N + 30) / 31) := by unfold encV; rw [if_pos hr, hnl]
      rw [e]
      unfold Strs
      rw [blksK_length]
      exact hlies.grown hgr (fun j hj c t f h => by cases hj; rw [hKD] at h; cases h)
    have HKD := Lib.hid hKD
    clear hon hc hown hsq hpiece hlies hgr hKD b0 b1 b2
    gi_wp2
    refine ⟨by simp, .inl ⟨_, _, rfl, run_takeDeferred HKD.out, ?_⟩⟩
    refine ⟨_, results_two rfl _ _, ?_⟩
    exact HP.out
  case stop =>
    rintro D c k W hD hk hf
    exact hf.elim
theorem encode_any (v : Value) (L : List T) (w : World) (hL : Trs w v L) : Calls Try.prog 19 #[v] w (EncPost L w) := by
  by_cases hr : RightP L
  · obtain ⟨b, off, cap, rfl, _⟩ := hL.at (k := 0) (by have := hr.1; omega)
    exact callsIn_wide.1 (encode_in b off cap L.length L w rfl hL hr)
  · have HF : Hid (∀ W, Below w.heap.size w W → EncPost L w (.returned (.tuple #[.slice none 0 0, .int .i64 80])) W) := fun W h => ⟨_, by rw [show encE L = 80 from if_neg hr], by rw [show encV L = [] from if_neg hr]; exact Strs.nil W, h⟩
    have hR := right_any v L w hL
    rw [rightB_no hr] at hR
    obtain ⟨a, cap, rfl, hn, hm⟩ := hL.parts
    obtain ⟨N, hN⟩ : ∃ N, L.length = N := ⟨_, rfl⟩
    rw [hN] at hR hn ⊢
    have HR := Lib.hid hR
    clear hR hL hr hN
    go_enter Try.func19, Try.ntmps19
    go_wp2_with (go_at_call 41; (with_reducible refine Calls.mono HR.out ?_); rintro e w1 ⟨rfl, hB1⟩)
    go_returns
    exact HF.out _ hB1
end
end Go.Proofs.Ytdniakoedgohkaa.Dat
/- The iterator over all places that blocks have room for, of the program's package dat. -/
namespace Go.Proofs.Ytdniakoedgohkaa.Dat
open Go.RowKit Go.Shelf
attribute [local go_sem] Oper.semAt_some
set_option linter.unusedVariables false
set_option linter.unusedSimpArgs false
theorem Strs.get {w : World} {a : Option Addr} {n cap : Nat} {X : List ByteArray} (h : Strs w (.slice a n cap) X) {k : Nat} (hk : k < X.length) : ∃ b off, a = some ⟨b, off, none⟩ ∧ w.cell? ⟨b, off + k, none⟩ = some (.string (X.getD k ⟨#[]⟩)) := Cps.Strs.get h hk
theorem Strs.parts {w : World} {v : Value} {X : List ByteArray} (h : Strs w v X) : ∃ a cap, v = .slice a X.length cap ∧ X.length ≤ cap ∧ cap ≤ 9223372036854775807 := Cps.Strs.parts h
/-- what the k-th round is handed -/
def encA (TS : List ByteArray) (k : Nat) : Array Value := #[(allT TS k).val]
theorem results_place {fn : Func} {r : Tmp} (h : fn.results = #[.cell r 79]) (tmps : Array Value) (w : World) {b : Nat} {s : T} (hp : tmps.getD r undef = .pointer (some ⟨b, 0, none⟩)) (hA : At w b s) :
    (results fn tmps).run Try.prog w = .ok s.val w := by
  obtain ⟨c0, c1, c2⟩ := hA.c
  rw [Array.getD_eq_getD_getElem?] at hp
  simp [results, h, hp, go_sem, c0, c1, c2]
  rfl
section
set_option maxRecDepth 100000
set_option maxHeartbeats 2000000
theorem dtake_any (s : ByteArray) (a k : Nat) (w : World) (hs : s.size ≤ 281474976710656) (h1 : 1 ≤ k) (h2 : k ≤ 8) (hk : a + k ≤ s.size) : Calls Try.prog 99 #[.string s, .int .i64 a, .int .i64 k] w fun e w' => e = .returned (.int .u64 (takeN s a k)) ∧ Below w.heap.size w w' := by
  have hok : takeOk s a k := ⟨by omega, by omega, by omega, by omega⟩
  have hp := take_any s a k w hs (by omega)
  rw [takeV_yes hok, takeE_yes hok, Int.toNat_natCast, Int.toNat_natCast] at hp
  clear hok
  go_enter Try.func99, Try.ntmps99
  go_wp2_with (go_at_call 61; refine hp.mono ?_; rintro e w' ⟨rfl, hB⟩)
  go_ret
  exact ⟨rfl, hB⟩
theorem placeIn_any (b : ByteArray) (p : Nat) (w : World) (hb : b.size = 508) (hp : p + 16 ≤ 508) : Calls Try.prog 81 #[.string b, .int .i64 p] w (Ans w (trAt b p).val) := by
  have T0 := Lib.hid (fun W => dtake_any b p 4 W (by omega) (by omega) (by omega) (by omega))
  have T1 := Lib.hid (fun W => dtake_any b (p + 4) 6 W (by omega) (by omega) (by omega) (by omega))
  have T2 := Lib.hid (fun W => dtake_any b (p + 10) 6 W (by omega) (by omega) (by omega) (by omega))
  have hV : trAt b p = ⟨takeN b p 4, takeN b (p + 4) 6, takeN b (p + 10) 6⟩ := rfl
  have hl := takeN_lt b p 4
  rw [show (256 : Nat) ^ 4 = 4294967296 by decide] at hl
  obtain ⟨p4, hp4⟩ : ∃ q, p + 4 = q := ⟨_, rfl⟩
  obtain ⟨p10, hp10⟩ : ∃ q, p + 10 = q := ⟨_, rfl⟩
  have w4 : IntKind.i64.wrap ((p : Int) + 4) = (p4 : Int) := by rw [IntKind.wrap_i64]; omega
  have w10 : IntKind.i64.wrap ((p : Int) + 10) = (p10 : Int) := by rw [IntKind.wrap_i64]; omega
  rw [hp4] at T1
  rw [hp10] at T2
  rw [hp4, hp10] at hV
  obtain ⟨x0, hx0⟩ : ∃ x, takeN b p 4 = x := ⟨_, rfl⟩
  obtain ⟨x1, hx1⟩ : ∃ x, takeN b p4 6 = x := ⟨_, rfl⟩
  obtain ⟨x2, hx2⟩ : ∃ x, takeN b p10 6 = x := ⟨_, rfl⟩
  simp only [hx0, hx1, hx2] at T0 T1 T2 hV hl
  have wx : IntKind.u32.wrap (x0 : Int) = (x0 : Int) := by rw [IntKind.wrap_u32]; omega
  rw [hV]
  clear hx0 hx1 hx2 hV hl hp4 hp10 hb hp
  obtain ⟨WB, hWB⟩ : ∃ WB, w.alloc (.cells #[.int .u32 0, .int .u64 0, .int .u64 0] 79) = WB := ⟨_, rfl⟩
  have hZ : At WB w.heap.size T.zero := by rw [← hWB]; exact At.new w T.zero
  have hBZ : Below w.heap.size w WB := by rw [← hWB]; exact below_new _ _
  go_enter Try.func81, Try.ntmps81
  go_wp2_with (first
    | (go_at_call 99; (with_reducible refine Calls.mono (T0.out _) ?_); rintro e w1 ⟨rfl, hB1⟩)
    | (go_at_call 99; (with_reducible refine Calls.mono (T1.out _) ?_); rintro e w2 ⟨rfl, hB2⟩)
    | (go_at_call 99; (with_reducible refine Calls.mono (T2.out _) ?_); rintro e w3 ⟨rfl, hB3⟩; have hA := ((hZ.th hB1).th hB2).th hB3; obtain ⟨a0, a1, a2⟩ := hA.c; have f0 := hA.f 0; have f1 := hA.f 1; have f2 := hA.f 2))
  obtain ⟨hAp, hBp⟩ := hA.put3 ⟨x0, x1, x2⟩
  refine bodyPost_ret (results_place rfl _ _ rfl hAp) rfl ?_
  exact ⟨rfl, (below_th (below_th (below_th hBZ hB1) hB2) hB3).trans hBp⟩
end
section
set_option maxRecDepth 100000
set_option maxHeartbeats 4000000
theorem places1_in (n : Nat) (hn : 1 ≤ n) (l Bx : Nat) (v : Value) (TS : List ByteArray) (w : World) (Kp : World → World → Prop) (hT9 : TS.length ≤ 60) (h508 : ∀ b ∈ TS, b.size = 508) (J Jx : Nat → World → Prop) (B0 : Nat) (hJ : AbidesFrom B0 J)
    (hKt : ∀ {A B C : World}, Kp A B → Kp B C → Kp A C) (hKb : ∀ A B, Kp w A → Below A.heap.size A B → Kp w B)
    (hY : ∀ k W, J k W → k < 31 * TS.length → YieldAt Fence.wide (n - 1) Try.prog l (encA TS k) W fun e W' => (e = .returned (.bool true) ∧ J (k + 1) W' ∧ Kp W W') ∨ (e = .returned (.bool false) ∧ Jx k W'))
    (W : World) (hk : Kp w W) (hbx : W.cell? ⟨Bx, 0, none⟩ = some v) (hT : ∀ W', Kp w W' → Strs W' v TS) (h0 : J 0 W) :
    CallsIn Fence.wide n Try.prog 80 #[.func (.yield l) #[] #[], .pointer (some ⟨Bx, 0, none⟩)] W fun e W' => (∃ v, e = .returned v) ∧ (J (31 * TS.length) W' ∨ ∃ k, k < 31 * TS.length ∧ Jx k W') := by
  have hfn : ∀ f, Fence.wide.fn f := fun _ => trivial
  have hJa : ∀ k W1 W2, J k W1 → Below W1.heap.size W1 W2 → J k W2 := fun k W1 W2 h hB => hJ _ _ _ none h (grown_of_below hB) (fun r e => by cases e)
  have HA := Lib.hid hJa
  have HY := Lib.hid hY
  have HT := Lib.hid hT
  have HKB := Lib.hid hKb
  have HKT : Hid (∀ A B C : World, Kp A B → Kp B C → Kp A C) := fun A B C h k => hKt h k
  have HCI := Lib.hid (fun i k W (hi : i < TS.length) (hk : k < 31) => placeIn_any (TS.getD i ⟨#[]⟩) (16 * k) W (h508 _ (by rw [List.getD_eq_getElem?_getD, List.getElem?_eq_getElem hi]; exact List.getElem_mem hi)) (by omega))
  have HEN : Hid (∀ i k, k < 31 → encA TS (31 * i + k) = #[(trAt (TS.getD i ⟨#[]⟩) (16 * k)).val]) := fun i k hk => by
    unfold encA allT
    rw [show (31 * i + k) / 31 = i by omega, show (31 * i + k) % 31 = k by omega]
  obtain ⟨a, cap, rfl, hcap1, hcap2⟩ := (hT W hk).parts
  obtain ⟨N, hN⟩ : ∃ N, TS.length = N := ⟨_, rfl⟩
  simp only [hN] at HY HCI hcap1 hT9 hbx HT ⊢
  have HN := Lib.hid hN
  clear hJa hY hJ hT hKb hKt hN h508
  refine callsIn_of_wp Try.func80 rfl trivial ?_ rfl
  simp only [Try.ntmps80, List.size_toArray, List.length_cons, List.length_nil, Nat.reduceAdd, Nat.reduceSub, Array.replicate_succ, Array.replicate_zero, List.push_toArray, List.append_toArray, List.nil_append, List.cons_append]
  gi_wp2
  gi_loopw [4, 5, 8, 12] (fun _ _ i _ wr => ∃ k : Nat, k ≤ N ∧ i = .int .i64 (k : Int) ∧ J (31 * k) wr ∧ Kp w wr) (fun _ _ i _ _ => N - (intOf i).toNat)
  case atStart => exact ⟨0, by omega, rfl, h0, hk⟩
  case round =>
    obtain ⟨i, hiN, rfl, hJi, hS⟩ := hrel
    by_cases hlti : i < N
    · obtain ⟨b, off, e2, c0⟩ := (HT.out _ hS).get (k := i) (by rw [HN.out]; exact hlti)
      subst e2
      obtain ⟨x, hx⟩ : ∃ x, TS.getD i ⟨#[]⟩ = x := ⟨_, rfl⟩
      have hci := fun k W (hk : k < 31) => HCI.out i k W hlti hk
      have hen := fun k (hk : k < 31) => HEN.out i k hk
      rw [hx] at c0
      simp only [hx] at hci hen
      have HCI2 := Lib.hid hci
      have HEN2 := Lib.hid hen
      obtain ⟨WO, rfl⟩ : ∃ WO : World, WO = wr := ⟨_, rfl⟩
      clear hci hen hx
      gi_wp2
      gi_loopw [5, 12] (fun _ q wq => ∃ k : Nat, k ≤ 31 ∧ q = .int .i64 (k : Int) ∧ J (31 * i + k) wq ∧ Kp w wq) (fun _ q _ => 31 - (intOf q).toNat)
      case atStart => exact ⟨0, by omega, rfl, hJi, hS⟩
      case round =>
        obtain ⟨k, hk9, rfl, hJk, hSk⟩ := hrel
        by_cases hltk : k < 31
        · have hci := fun W => HCI2.out k W hltk
          have hw1 : IntKind.i64.wrap ((k : Int) * 16) = ((16 * k : Nat) : Int) := by rw [IntKind.wrap_i64]; omega
          have hyy := fun W' (h : Below wr.heap.size wr W') => HY.out (31 * i + k) W' (HA.out _ _ _ hJk h) (by omega)
          simp only [HEN2.out k hltk] at hyy
          obtain ⟨p, hp⟩ : ∃ p, 16 * k = p := ⟨_, rfl⟩
          rw [hp] at hw1
          simp only [hp] at hci hyy
          obtain ⟨y, hy⟩ : ∃ y, trAt x p = y := ⟨_, rfl⟩
          simp only [hy] at hci hyy
          have HKw := Lib.hid (fun W' (h : Below wr.heap.size wr W') => HKB.out _ _ hSk h)
          clear hp hy hJk hSk
          obtain ⟨ncp, ti, sn⟩ := y
          unfold T.val at hci hyy
          dsimp only at hci hyy
          have HC := Lib.hid hci
          have HYY := Lib.hid hyy
          clear hci hyy
          gi_wp2_with (gi_at_call 81; refine (callsIn_wide.2 (HC.out _)).mono ?_; rintro e w1 ⟨rfl, hB1⟩; obtain ⟨fn, tmps, assign, body, hy, hR⟩ := HYY.out _ hB1)
          refine hR.mono ?_
          rintro e W3 (⟨rfl, hJ3, hk3⟩ | ⟨rfl, hJx3⟩)
          · gi_wp2
            go_roundw
            case rel => exact ⟨k + 1, by omega, by go_num, hJ3, HKT.out _ _ _ (HKw.out _ hB1) hk3⟩
            case measure => simp [intOf]; omega
          · gi_wp2
            refine bodyPost_ret (results_none rfl _ _ _) rfl ?_
            exact ⟨⟨_, rfl⟩, .inr ⟨31 * i + k, by omega, hJx3⟩⟩
        · obtain rfl : k = 31 := by omega
          gi_wp2
          go_roundw
          case rel => exact ⟨i + 1, by omega, by go_num, hJk, hSk⟩
          case measure => simp [intOf]; omega
    · obtain rfl : N = i := by omega
      gi_wp2
      go_end0
      exact ⟨⟨_, rfl⟩, .inl hJi⟩
theorem placesIn_in (n : Nat) (a : Option Addr) (N cap : Nat) (w : World) :
    CallsIn Fence.wide n Try.prog 53 #[.slice a N cap] w fun e w' => e = .returned (.func (.func 80) #[] #[.pointer (some ⟨w.heap.size, 0, none⟩)]) ∧ w.alloc (.cells #[.slice a N cap] 42) = w' := by
  refine callsIn_of_wp Try.func53 rfl trivial ?_ rfl
  simp only [Try.ntmps53, List.size_toArray, List.length_cons, List.length_nil, Nat.reduceAdd, Nat.reduceSub, Array.replicate_succ, Array.replicate_zero, List.push_toArray, List.append_toArray, List.nil_append, List.cons_append]
  gi_wp2
  go_ret
  exact ⟨rfl, rfl⟩
end
end Go.Proofs.Ytdniakoedgohkaa.Dat
