/- The program's Lay: words for its loop. -/
import Derived.Test.YtdakfdecfpebcaaRoundTail
import Derived.Test.YtdakfdecfpebcaaBmpChk
namespace Go.Proofs.Ytdakfdecfpebcaa.Bmp
open Go.RowKit Ino
attribute [local go_sem] Oper.semAt_some
set_option linter.unusedVariables false
set_option linter.unusedSimpArgs false
/-- a region's plain walk holds in a round, too -/
theorem wpIn_round_any {P : Program} {ops : Array Oper} {Q : Exit → Act → World → Prop} {id l0 nF : Nat} {a : Act} {w : World} (hm : P.follows .mixedOrders = true) (hd : noDefer ops = true) (hQ : ¬ LetsOut Q)
    (h : wpAny P .any ops Q ops.size (Array.replicate ops.size false) a w.drew) : (Code.region id ops true).wpIn (Fence.wide.inRound l0) nF P Q a w := wpIn_region_any hm (anyIn_of_any hd hQ _ _ _ _ h)
theorem below_putObj {n : Nat} {w W : World} (h : Below n w W) (D : Nat) (hD : n ≤ D) (o : Obj) : Below n w (W.putObj D o) := ⟨h.1, h.2, h.3, by simpa [World.putObj] using h.4, fun k hk => (World.putObj_heap_other (by omega)).trans (h.5 k hk)⟩
/-- a value in a block of its own -/
def CellAt (W : World) (q : Nat) (t : TypeId) (v : Value) : Prop := W.heap[q]? = some (.cells #[v] t (0, 0))
theorem CellAt.c {W : World} {q : Nat} {t : TypeId} {v : Value} (h : CellAt W q t v) : W.cell? ⟨q, 0, none⟩ = some v := by unfold CellAt at h; simp only [World.cell?, h]; rfl
theorem CellAt.f {W : World} {q : Nat} {t : TypeId} {v : Value} (h : CellAt W q t v) : W.frozen? ⟨q, 0, none⟩ = false := by unfold CellAt at h; simp [World.frozen?, h]
theorem CellAt.put {W : World} {q : Nat} {t : TypeId} {v : Value} (h : CellAt W q t v) (u : Value) : CellAt (W.setCell ⟨q, 0, none⟩ u) q t u := by unfold CellAt at h ⊢; rw [heap_setCell_same W q 0 _ _ u h]; rfl
theorem CellAt.lt {W : World} {q : Nat} {t : TypeId} {v : Value} (h : CellAt W q t v) : q < W.heap.size := (Array.getElem?_eq_some_iff.1 h).1
theorem CellAt.of_heap {W W' : World} {q : Nat} {t : TypeId} {v : Value} (h : CellAt W q t v) (hb : W'.heap[q]? = W.heap[q]?) : CellAt W' q t v := hb.trans h
theorem CellAt.th {W W' : World} {q : Nat} {t : TypeId} {v : Value} (h : CellAt W q t v) (hB : Below W.heap.size W W') : CellAt W' q t v := h.of_heap (hB.block q h.lt)
theorem CellAt.other {W : World} {q : Nat} {t : TypeId} {v : Value} (h : CellAt W q t v) (p o : Nat) (u : Value) (hp : q ≠ p) : CellAt (W.setCell ⟨p, o, none⟩ u) q t v := h.of_heap (Below.heap_setCell _ _ _ _ hp)
theorem CellAt.new (w : World) (t : TypeId) (v : Value) : CellAt (w.alloc (.cells #[v] t)) w.heap.size t v := World.alloc_heap_new w _
/-- the blocks that the loop may write: its slice's box, and the row that it begins with -/
def Mine (sb : Nat) (v0 : Value) (i : Nat) : Prop := i = sb ∨ v0.ownBlock = some i
/-- what has been laid behind k rounds -/
def LyI (W0 : World) (v0 : Value) (sb : Nat) (f : Nat → List ByteArray) (k : Nat) (W : World) : Prop :=
  Only (Mine sb v0) W0 W ∧ ∃ v, CellAt W sb 33 v ∧ W.ownsRow (sb + 1) 9 1 v (f k).length ((f k).map .string) ∧ (∀ g, v.ownBlock = some g → W0.heap.size ≤ g ∨ v0.ownBlock = some g)
theorem lyI_own {W0 : World} {v0 : Value} {sb : Nat} {f : Nat → List ByteArray} : OwnFrom W0.heap.size (LyI W0 v0 sb f) := fun k W W' row hI hg hr => by
  obtain ⟨h1, v, h2, h3, h4⟩ := hI
  refine ⟨h1.grown hg (fun r e => .inl (hr r e).1), v, kept_cells h2 hg hr, h3.kept hg ?_, h4⟩
  cases hv : v.ownBlock with
  | none => exact .inl rfl
  | some g =>
    right
    intro e
    obtain ⟨_, o, ho, hc⟩ := hr g e.symm
    rcases h3.2 with ⟨e1, _⟩ | ⟨g2, cap, cur, e1, _, hgg, _⟩
    · rw [e1] at hv; cases hv
    · rw [e1] at hv
      have e2 : g2 = g := by simpa [Value.ownBlock] using hv
      rw [e2, ho] at hgg
      cases hgg
      cases hc
theorem LyI.below {w W0 W : World} {v0 : Value} {s0 cb k : Nat} {f : Nat → List ByteArray} (hI : LyI W0 v0 (s0 + 1 + 1) f k W) (hBW : Below w.heap.size w W0) (hws : w.heap.size ≤ s0 ∧ s0 + 1 + 1 < cb) (hv0 : ∀ g, v0.ownBlock = some g → s0 + 1 + 1 < g ∧ g < cb) : Below w.heap.size w W :=
  hBW.trans (hI.1.below (n := w.heap.size) hBW.size (by
    rintro i (h | h)
    · omega
    · have := hv0 i h; omega))
theorem LyI.more0 {W0 W : World} {v0 : Value} {sb k : Nat} {f : Nat → List ByteArray} {L : List ByteArray} {y : ByteArray} (hI : LyI W0 v0 sb f k W) (hL : f k = L) (hsu : f (k + 1) = L ++ [y]) :
    ∃ v, W.cell? ⟨sb, 0, none⟩ = some v ∧
      (∀ W2, Below W.heap.size W W2 → (W2.alloc (.cells #[.string y] 9)).ownsRow (sb + 1) 9 1 v L.length (L.map .string)) ∧
      (∀ W2, Below W.heap.size W W2 → W2.cell? ⟨sb, 0, none⟩ = some v ∧ (W2.alloc (.cells #[.string y] 9)).cell? ⟨sb, 0, none⟩ = some v) ∧
      (∀ W2 g2 cap2 W4, Below W.heap.size W W2 → W4.ownsRow (sb + 1) 9 1 (.slice (some ⟨g2, 0, none⟩) (L.length + 1) cap2) (L.length + 1) (L.map .string ++ [.string y]) → (W2.alloc (.cells #[.string y] 9)).grownBy W4 v.ownBlock → (v.ownBlock = some g2 ∨ g2 = (W2.alloc (.cells #[.string y] 9)).heap.size) →
        CellAt W4 sb 33 v ∧ (KeepsFrom W0.heap.size W (W4.setCell ⟨sb, 0, none⟩ (.slice (some ⟨g2, 0, none⟩) (L.length + 1) cap2)) ∧ Only (fun i => i = sb ∨ W0.heap.size ≤ i ∨ v0.ownBlock = some i) W (W4.setCell ⟨sb, 0, none⟩ (.slice (some ⟨g2, 0, none⟩) (L.length + 1) cap2)) ∧ LyI W0 v0 sb f (k + 1) (W4.setCell ⟨sb, 0, none⟩ (.slice (some ⟨g2, 0, none⟩) (L.length + 1) cap2)))) := by
  obtain ⟨hon, v, hc, hown, h4⟩ := hI
  rw [hL] at hown
  have hsz := hon.size
  refine ⟨v, hc.c, fun W2 h => (own_below2 hown h).alloc _, fun W2 h => ⟨(hc.th h).c, ((hc.th h).of_heap (Below.heap_alloc _ _ _ (hc.th h).lt)).c⟩, fun W2 g2 cap2 W4 h2 ho hg hat => ?_⟩
  have hvb : ∀ r, v.ownBlock = some r → sb + 1 ≤ r ∧ ∃ c t f, W.heap[r]? = some (.cells c t f) := fun r e => by
    rcases hown.2 with ⟨e1, _⟩ | ⟨g2, cap2, cur, e1, hb2, hgg, _⟩
    · rw [e1] at e; cases e
    · rw [e1] at e
      have e2 : g2 = r := by simpa [Value.ownBlock] using e
      rw [← e2]
      exact ⟨hb2, _, _, _, hgg⟩
  have hon2 : Only (fun i => i = sb ∨ v.ownBlock = some i) W W4 := ((Only.of_below h2).alloc (.cells #[.string y] 9)).grown hg (fun r e => .inr (.inr e))
  have hne : ∀ r, v.ownBlock = some r → ¬ sb = r := fun r e => by have := (hvb r e).1; omega
  have hc4 : CellAt W4 sb 33 v := by
    have h3 : CellAt (W2.alloc (.cells #[.string y] 9)) sb 33 v := (hc.th h2).of_heap (Below.heap_alloc _ _ _ (hc.th h2).lt)
    exact h3.of_heap (hg.block sb h3.lt (fun e => hne sb e.symm rfl))
  obtain ⟨v', hv'⟩ : ∃ v', Value.slice (some ⟨g2, 0, none⟩) (L.length + 1) cap2 = v' := ⟨_, rfl⟩
  have hvo : v'.ownBlock = some g2 := by rw [← hv']; rfl
  rw [hv'] at ho ⊢
  have hon5 : Only (fun i => i = sb ∨ v.ownBlock = some i) W (W4.setCell ⟨sb, 0, none⟩ v') := hon2.setCell (p := ⟨sb, 0, none⟩) (.inr (.inl rfl)) _
  refine ⟨hc4, keeps_of_only _ hon5 (fun j hj => ?_), hon5.mono (fun j _ hj => hj.elim .inl (fun h => .inr (h4 j h))), hon.step hon5 (fun i hi h => ?_), v', hc4.put v', ?_, fun g hg2 => ?_⟩
  · rcases hj with rfl | hj
    · exact ⟨_, _, _, hc⟩
    · exact (hvb j hj).2
  · rcases h with h | h
    · exact .inl h
    · rcases h4 i h with h5 | h5
      · omega
      · exact .inr h5
  · rw [hsu, List.map_append, List.length_append]
    exact ho.kept (w' := W4.setCell ⟨sb, 0, none⟩ v') (row := some sb) ⟨rfl, rfl, rfl, (KeepsWalks.setCell W4 ⟨sb, 0, none⟩ v').size, fun j hj hn => Below.heap_setCell _ _ _ _ (fun e => hn (by rw [e]))⟩ (by
      rw [hvo]
      exact .inr (fun e => by have := (ho.lt g2 hvo).1; cases e; omega))
  · rw [hvo] at hg2
    cases hg2
    rcases hat with h5 | h5
    · exact h4 _ h5
    · left
      rw [h5, World.size_alloc]
      have := h2.size
      omega
theorem LyI.more {W0 W : World} {v0 : Value} {sb cb k : Nat} {f : Nat → List ByteArray} {L : List ByteArray} {y : ByteArray} (hI : LyI W0 v0 sb f k W) (hs0 : W0.heap.size = cb + 2) (hsc : sb < cb) (hv0 : ∀ g, v0.ownBlock = some g → sb < g ∧ g < cb) (hL : f k = L) (hsu : f (k + 1) = L ++ [y]) :
    ∃ v, W.cell? ⟨sb, 0, none⟩ = some v ∧
      (∀ W2, Below W.heap.size W W2 → (W2.alloc (.cells #[.string y] 9)).ownsRow (sb + 1) 9 1 v L.length (L.map .string)) ∧
      (∀ W2, Below W.heap.size W W2 → W2.cell? ⟨sb, 0, none⟩ = some v ∧ (W2.alloc (.cells #[.string y] 9)).cell? ⟨sb, 0, none⟩ = some v) ∧
      (∀ W2 g2 cap2 W4, Below W.heap.size W W2 → W4.ownsRow (sb + 1) 9 1 (.slice (some ⟨g2, 0, none⟩) (L.length + 1) cap2) (L.length + 1) (L.map .string ++ [.string y]) → (W2.alloc (.cells #[.string y] 9)).grownBy W4 v.ownBlock → (v.ownBlock = some g2 ∨ g2 = (W2.alloc (.cells #[.string y] 9)).heap.size) →
        CellAt W4 sb 33 v ∧ (KeepsFrom W0.heap.size W (W4.setCell ⟨sb, 0, none⟩ (.slice (some ⟨g2, 0, none⟩) (L.length + 1) cap2)) ∧ Same [cb, cb + 1] W (W4.setCell ⟨sb, 0, none⟩ (.slice (some ⟨g2, 0, none⟩) (L.length + 1) cap2)) ∧ LyI W0 v0 sb f (k + 1) (W4.setCell ⟨sb, 0, none⟩ (.slice (some ⟨g2, 0, none⟩) (L.length + 1) cap2)))) := by
  have hsz := hI.1.size
  obtain ⟨v, h1, h2, h3, h4⟩ := hI.more0 hL hsu
  refine ⟨v, h1, h2, h3, fun W2 g2 cap2 W4 k1 k2 k3 k4 => ?_⟩
  obtain ⟨m1, m2, m3, m4⟩ := h4 W2 g2 cap2 W4 k1 k2 k3 k4
  refine ⟨m1, m2, fun z hz => ?_, m4⟩
  have hz2 : z = cb ∨ z = cb + 1 := by simpa using hz
  refine m3.block z (by omega) (fun hh => ?_)
  rcases hh with h | h | h
  · omega
  · omega
  · have := hv0 z h; omega
/-- how the loop begins -/
def Start (w W0 : World) (x b off N c1 s0 cb : Nat) (v0 : Value) (pre : List ByteArray) (V : List Nat) : Prop :=
  W0.heap.size = cb + 2 ∧ AtM W0 s0 M.zero ∧ AtM W0 (s0 + 1) ⟨x, 0, 0, 0, 0, 0⟩ ∧ CellAt W0 (s0 + 1 + 1) 33 v0 ∧ CellAt W0 cb 31 (.slice (some ⟨b, off, none⟩) N c1) ∧ CellAt W0 (cb + 1) 3 (.int .i64 127) ∧
  W0.ownsRow (s0 + 1 + 1 + 1) 9 1 v0 (pre ++ lowers V 0).length ((pre ++ lowers V 0).map .string) ∧ (∀ g, v0.ownBlock = some g → s0 + 1 + 1 < g ∧ g < cb) ∧ Below w.heap.size w W0 ∧ (w.heap.size ≤ s0 ∧ s0 + 1 + 1 < cb)
def ActA (sl : Nat → List Value) (k : Nat) (a' : Act) (_ : World) : Prop := a' = { tmps := (sl k).toArray, defers := [] }
theorem actA_own {sl : Nat → List Value} {B : Nat} (k : Nat) (a' : Act) : OwnFrom B (fun (_ : Unit) W => ActA sl k a' W) := fun _ _ _ _ h _ _ => h
theorem chN_pos {N k : Nat} (h : 127 * k < N) : 1 ≤ chN N k ∧ chN N k ≤ 127 := by unfold chN; omega
theorem chk_piece {w : World} {b off N cap : Nat} {V : List Nat} (hN : V.length = N) (h : U32s w (.slice (some ⟨b, off, none⟩) N cap) V) (k : Nat) (hk : 127 * k < N) : U32s w (.slice (some ⟨b, off + 127 * k, none⟩) (chN N k) (chN N k)) (chk V k) := by
  subst hN
  have hm := chk_length V k
  have hmN : (chk V k).length = chN V.length k := hm
  refine ⟨_, chN V.length k, by rw [hmN], by rw [hmN]; exact Nat.le_refl _, ⟨by unfold chN maxLen; omega, fun e => by cases e⟩, by rw [List.length_map]; omega, fun hp => ⟨b, off + 127 * k, rfl, fun j u hj => ?_⟩⟩
  have hjl := (List.getElem?_eq_some_iff.1 hj).1
  rw [List.length_map, hmN] at hjl
  unfold chN at hjl
  obtain ⟨a1, c1, e, _, _, _, h5⟩ := h
  cases e
  obtain ⟨b2, o2, e2, hc⟩ := h5 (by omega)
  cases e2
  unfold chk at hj
  rw [List.getElem?_map, List.getElem?_take_of_lt (by omega), List.getElem?_drop] at hj
  have h2 := hc (127 * k + j) u (by rw [List.getElem?_map]; exact hj)
  rw [show off + 127 * k + j = off + (127 * k + j) by omega]
  exact h2
/-! ### is there a nought among numbers? -/
section
open Go.Lib
theorem has_any (v : Value) (I : List Nat) (w : World) (hI : U32s w v I) : Calls Try.prog 27 #[v, .int .u32 0] w fun e w' => e = .returned (.bool (decide (0 ∈ I))) ∧ w' = w := by
  obtain ⟨a, cap, rfl, h1, h2⟩ := hI.parts
  cases I with
  | nil => exact Shf.Try.slices_Contains_empty (α := Int) a cap _ w
  | cons x r =>
    obtain ⟨b, off, rfl, _⟩ := hI.get (k := 0) (by simp)
    have h := Shf.Try.slices_Contains (Value.int .u32) (fun x y => x == y) (EqlAt.int _ _ _) b off (x :: r).length cap ((x :: r).map (fun (n : Nat) => (n : Int))) 0 w (by rw [List.length_map]; exact Nat.le_refl _) (by omega) (fun j hj => by
      rw [List.length_map] at hj
      obtain ⟨b2, o2, e, hc⟩ := hI.get (k := j) hj
      cases e
      rw [hc, getElem!_pos _ j (by rw [List.length_map]; exact hj), List.getElem_map, List.getD_eq_getElem?_getD, List.getElem?_eq_getElem hj]
      rfl)
    rw [List.take_of_length_le (by rw [List.length_map]; exact Nat.le_refl _)] at h
    have e : (((x :: r).map (fun (n : Nat) => (n : Int))).any fun y => 0 == y) = decide (0 ∈ x :: r) := by
      rw [Bool.eq_iff_iff, List.any_map, List.any_eq_true, decide_eq_true_eq]
      constructor
      · rintro ⟨y, hy, he⟩
        have : (0 : Int) = (y : Int) := by simpa using he
        have : y = 0 := by omega
        rw [← this]; exact hy
      · intro hy
        exact ⟨0, hy, by simp⟩
    rw [e] at h
    exact h
end
end Go.Proofs.Ytdakfdecfpebcaa.Bmp
