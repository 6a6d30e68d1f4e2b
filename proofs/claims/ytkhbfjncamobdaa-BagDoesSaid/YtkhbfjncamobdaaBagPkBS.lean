/- The nodes of a bag (of values of one type) as they lie in memory, and the three functions that go down one step or ask for the top. The way down a bag's tree to a number: which nodes and places it has, and whether it ends where the number stands. The library's iterator over a slice from its end on, at the steps of a way: it hands out each step, the last one first, to any loop body that leaves the slice alone. -/
import Derived.Deep.QuietTactic
import Derived.BigQuiet
import Derived.WalkSpells
import Derived.WalkLawsBesides
import Derived.Outline
import Derived.Deep.DeepFit
import Derived.Test.YtkhbfjncamobdaaRows
import Derived.Test.YtkhbfjncamobdaaBagPkA
import Derived.Deep.LoopGhost
import Derived.RangeFuncBound
import Derived.RangeFuncCalls
import Derived.RangeFuncLeaves
import Derived.Shelf.Abstract
import Derived.Shelf.RegionOpen
import Derived.OwnWalkIn
import Derived.TacticsInMore
import Derived.LoopNIn
import Derived.LoopIn
import Derived.Test.YtkhbfjncamobdaaBagSeq
namespace Go.Proofs.Ytkhbfjncamobdaa.S
open Go.RowKit
set_option linter.unusedVariables false

abbrev It := Int × ByteArray
def itemV (x : It) : Value := .agg #[.int .i64 x.1, .string x.2]
def cellsI (l : List It) : List Value := l.flatMap fun x => [.int .i64 x.1, .string x.2]

theorem cellsI_length (l : List It) : (cellsI l).length = l.length * 2 := by
  induction l with
  | nil => rfl
  | cons x l ih => simp only [cellsI, List.flatMap_cons, List.length_append, List.length_cons, List.length_nil] at ih ⊢; omega
theorem cellsI_append (a b : List It) : cellsI (a ++ b) = cellsI a ++ cellsI b := by simp [cellsI]
theorem cellsI_at (l : List It) (k : Nat) (x : It) (h : l[k]? = some x) : (cellsI l)[k * 2]? = some (.int .i64 x.1) ∧ (cellsI l)[k * 2 + 1]? = some (.string x.2) := by
  induction l generalizing k with
  | nil => simp at h
  | cons y l ih =>
    cases k with
    | zero => obtain rfl : y = x := by simpa using h
              exact ⟨rfl, rfl⟩
    | succ k =>
      have := ih k (by simpa using h)
      rw [show (k + 1) * 2 = k * 2 + 2 from by omega]
      exact this
theorem cellsI_take (l : List It) (k : Nat) : cellsI (l.take k) = (cellsI l).take (k * 2) := by
  induction l generalizing k with
  | nil => simp [cellsI]
  | cons y l ih =>
    cases k with
    | zero => simp [cellsI]
    | succ k =>
      rw [show (k + 1) * 2 = k * 2 + 1 + 1 from by omega, List.take_succ_cons]
      show _ :: _ :: cellsI (l.take k) = _ :: _ :: (cellsI l).take (k * 2)
      rw [ih k]
theorem cellsI_drop (l : List It) (k : Nat) : cellsI (l.drop k) = (cellsI l).drop (k * 2) := by
  induction l generalizing k with
  | nil => simp [cellsI]
  | cons y l ih =>
    cases k with
    | zero => simp [cellsI]
    | succ k =>
      rw [show (k + 1) * 2 = k * 2 + 1 + 1 from by omega, List.drop_succ_cons]
      show cellsI (l.drop k) = (cellsI l).drop (k * 2)
      exact ih k

/-- the node lies in W -/
structure Ok (w : World) (r : Rec ByteArray) : Prop where
  node : w.heap[r.b]? = some (.cells #[r.iv, r.kvv] 55 (0, 0))
  irow : w.ownsRow 0 62 2 r.iv r.items.length (cellsI r.items)
  krow : w.ownsRow 0 40 1 r.kvv r.kids.length (cellsP r.kids)

theorem Ok.blk {w : World} {r : Rec ByteArray} (h : Ok w r) : ∀ k, k ∈ r.blocks → k < w.heap.size := by
  intro k hk
  simp only [Rec.blocks, List.mem_cons] at hk
  rcases hk with rfl | rfl | hk
  · exact (Array.getElem?_eq_some_iff.1 h.node).1
  · exact (h.irow.lt _ rfl).2
  · cases hv : r.kv with
    | none => rw [hv] at hk; simp at hk
    | some p =>
      rw [hv] at hk
      obtain rfl : k = p.1 := by simpa using hk
      exact (h.krow.lt _ (by simp [Rec.kvv, hv, Value.ownBlock])).2
theorem Ok.kept {w w' : World} {r : Rec ByteArray} (h : Ok w r) (hk : ∀ k, k ∈ r.blocks → w'.heap[k]? = w.heap[k]?) : Ok w' r := by
  refine ⟨(hk _ (by simp [Rec.blocks])).trans h.node, ?_, ?_⟩
  · refine ⟨h.irow.1, ?_⟩
    rcases h.irow.2 with hn | ⟨g, cap, cur, hv, hb, hg, rest⟩
    · exact .inl hn
    · refine .inr ⟨g, cap, cur, hv, hb, ?_, rest⟩
      obtain rfl : r.g = g := by simp [Rec.iv] at hv; exact hv.1
      exact (hk _ (by simp [Rec.blocks])).trans hg
  · refine ⟨h.krow.1, ?_⟩
    rcases h.krow.2 with hn | ⟨g, cap, cur, hv, hb, hg, rest⟩
    · exact .inl hn
    · refine .inr ⟨g, cap, cur, hv, hb, ?_, rest⟩
      cases hkv : r.kv with
      | none => simp [Rec.kvv, hkv] at hv
      | some p =>
        obtain ⟨p1, p2⟩ := p
        simp [Rec.kvv, hkv] at hv
        obtain rfl : p1 = g := hv.1
        exact (hk _ (by simp [Rec.blocks, hkv])).trans hg
theorem Ok.only {S : Nat → Prop} {w w' : World} {r : Rec ByteArray} (h : Ok w r) (ho : Only S w w') (hs : ∀ k, k ∈ r.blocks → ¬ S k) : Ok w' r :=
  h.kept fun k hk => ho.block k (h.blk k hk) (hs k hk)
theorem Ok.below {w w' : World} {r : Rec ByteArray} (h : Ok w r) (hb : Below w.heap.size w w') : Ok w' r := h.kept fun k hk => hb.block k (h.blk k hk)
theorem Ok.drew {w : World} {r : Rec ByteArray} (h : Ok w r) : Ok w.drew r := h.kept fun _ _ => rfl
theorem Ok.c0 {w : World} {r : Rec ByteArray} (h : Ok w r) : w.cell? ⟨r.b, 0, none⟩ = some r.iv := by rw [cell_of_row w _ 0 _ _ _ h.node]; rfl
theorem Ok.c1 {w : World} {r : Rec ByteArray} (h : Ok w r) : w.cell? ⟨r.b, 1, none⟩ = some r.kvv := by rw [cell_of_row w _ 1 _ _ _ h.node]; rfl
theorem Ok.f {w : World} {r : Rec ByteArray} (h : Ok w r) (i : Nat) : w.frozen? ⟨r.b, i, none⟩ = false := by simp [World.frozen?, h.node]
theorem Ok.item {w : World} {r : Rec ByteArray} (h : Ok w r) {k : Nat} {x : It} (hx : r.items[k]? = some x) : w.cell? ⟨r.g, k * 2, none⟩ = some (.int .i64 x.1) ∧ w.cell? ⟨r.g, k * 2 + 1, none⟩ = some (.string x.2) := by
  have hlt : k < r.items.length := (List.getElem?_eq_some_iff.1 hx).1
  have h2 := cellsI_at _ _ _ hx
  exact ⟨(h.irow.cellAt (k * 2) (by omega)).trans h2.1, (h.irow.cellAt (k * 2 + 1) (by omega)).trans h2.2⟩
theorem Ok.itemF {w : World} {r : Rec ByteArray} (h : Ok w r) (i : Nat) : w.frozen? ⟨r.g, i, none⟩ = false := h.irow.frozenAt i
theorem Ok.kid {w : World} {r : Rec ByteArray} (h : Ok w r) {p : Nat × Nat} (hp : r.kv = some p) {k : Nat} {x : Nat} (hx : r.kids[k]? = some x) : w.cell? ⟨p.1, k, none⟩ = some (ptrV x) := by
  have hlt : k < r.kids.length := (List.getElem?_eq_some_iff.1 hx).1
  have h0 := h.krow
  simp only [Rec.kvv, hp] at h0
  rw [h0.cellAt k (by omega)]
  simp [cellsP, hx]
theorem Ok.ilen {w : World} {r : Rec ByteArray} (h : Ok w r) : r.items.length ≤ r.cap ∧ r.cap ≤ 9223372036854775807 := by
  rcases h.irow.2 with ⟨hn, _⟩ | ⟨g, cap, cur, hv, _, _, h1, h2, _⟩
  · simp [Rec.iv] at hn
  · simp [Rec.iv] at hv
    unfold maxLen at h2
    rw [hv.2]
    exact ⟨h1, h2⟩
theorem Ok.klen {w : World} {r : Rec ByteArray} (h : Ok w r) {p : Nat × Nat} (hp : r.kv = some p) : r.kids.length ≤ p.2 ∧ p.2 ≤ 9223372036854775807 := by
  rcases h.krow.2 with ⟨hn, _⟩ | ⟨g, cap, cur, hv, _, _, h1, h2, _⟩
  · simp [Rec.kvv, hp] at hn
  · simp [Rec.kvv, hp] at hv
    unfold maxLen at h2
    rw [hv.2]
    exact ⟨h1, h2⟩

theorem eqlN (a : Option Addr) (n c : Nat) (w : World) : (binOp .eql 52 (.slice a n c) (.slice none 0 0)).run Try.prog w = .ok (.bool a.isNone) w :=
  Lib.run_eql_slice_nil w _ _ a n c 0 0 Try.underlying52

/-- the node below at a place -/
theorem under_none (r : Rec ByteArray) (p : Int) (w : World) (h : Ok w r) (hn : r.kv = none) :
    Calls Try.prog 31 #[ptrV r.b, .int .i64 p] w fun e w' => e = .returned (.pointer none) ∧ w = w' := by
  have c1 := h.c1
  simp only [Rec.kvv, hn] at c1
  have hq := eqlN none 0 0
  clear hn h
  unfold ptrV
  go_enter Try.func31, Try.ntmps31
  go_wp2
  go_ret
  exact ⟨rfl, rfl⟩

theorem under_some (r : Rec ByteArray) (p : Nat) (q : Nat × Nat) (x : Nat) (w : World) (h : Ok w r) (hn : r.kv = some q) (hx : r.kids[p]? = some x) :
    Calls Try.prog 31 #[ptrV r.b, .int .i64 p] w fun e w' => e = .returned (ptrV x) ∧ w = w' := by
  obtain ⟨g, c⟩ := q
  have c1 := h.c1
  have c2 := h.kid hn hx
  have hlt : p < r.kids.length := (List.getElem?_eq_some_iff.1 hx).1
  have hkl := h.klen hn
  simp only [Rec.kvv, hn] at c1
  simp only [ptrV] at c2
  have hq := eqlN (some ⟨g, 0, none⟩) r.kids.length c
  clear hn h hx
  unfold ptrV
  go_enter Try.func31, Try.ntmps31
  go_wp2
  go_ret
  exact ⟨rfl, rfl⟩

/-- a bag as it lies in memory: its top and its count -/
def BagAt (w : World) (a : Nat) (top : Option Nat) (n : Int) : Prop := w.heap[a]? = some (.cells #[.pointer (top.map fun b => ⟨b, 0, none⟩), .int .i64 n] 42 (0, 0))

theorem highest_nil (w : World) : Calls Try.prog 17 #[.pointer none] w fun e w' => e = .returned (.pointer none) ∧ w = w' := by
  go_enter Try.func17, Try.ntmps17
  go_wp2
  go_ret
  exact ⟨rfl, rfl⟩
theorem highest_some (a : Nat) (top : Option Nat) (n : Int) (w : World) (h : BagAt w a top n) :
    Calls Try.prog 17 #[ptrV a] w fun e w' => e = .returned (.pointer (top.map fun b => ⟨b, 0, none⟩)) ∧ w = w' := by
  have c0 : w.cell? ⟨a, 0, none⟩ = some (.pointer (top.map fun b => ⟨b, 0, none⟩)) := by rw [cell_of_row w _ 0 _ _ _ h]; rfl
  obtain ⟨q, hq⟩ : ∃ q, (top.map fun b => (⟨b, 0, none⟩ : Addr)) = q := ⟨_, rfl⟩
  rw [hq] at c0 ⊢
  clear hq h
  unfold ptrV
  go_enter Try.func17, Try.ntmps17
  go_wp2
  go_ret
  exact ⟨rfl, rfl⟩

end Go.Proofs.Ytkhbfjncamobdaa.S

namespace Go.Proofs.Ytkhbfjncamobdaa.S
open Go.RowKit
set_option linter.unusedVariables false

def cellsS (l : List (Nat × Nat)) : List Value := l.flatMap fun s => [ptrV s.1, .int .i64 (s.2 : Int)]
theorem cellsS_snoc (l : List (Nat × Nat)) (s : Nat × Nat) : cellsS (l ++ [s]) = cellsS l ++ [ptrV s.1, .int .i64 (s.2 : Int)] := by simp [cellsS]
theorem cellsS_length (l : List (Nat × Nat)) : (cellsS l).length = l.length * 2 := by
  induction l with
  | nil => rfl
  | cons x l ih => simp only [cellsS, List.flatMap_cons, List.length_append, List.length_cons, List.length_nil] at ih ⊢; omega

theorem infoStep : (Try.prog.info? 60).map (fun i => (i.zero, i.size, i.bytes)) = some (some (.agg #[.pointer none, .int .i64 0]), 2, 16) := by kernel_rfl

/-- what the way says of the nodes that are still to come -/
def Down (at0 : Int) (d : Nat) (t : T ByteArray) (w : World) (pre : List (Nat × Nat)) (d' : Nat) (t' : T ByteArray) : Prop :=
  (∀ r, r ∈ t'.recs → Ok w r) ∧ T.wf d' t' ∧ T.wsteps at0 d t = pre ++ T.wsteps at0 d' t' ∧ T.wfound at0 d t = T.wfound at0 d' t'

def WayRel (at0 : Int) (d : Nat) (t : T ByteArray) (w : World) (gk : Nat) (s0 s6 : Value) (wr : World) : Prop :=
  ∃ pre : List (Nat × Nat), wr.ownsRow w.heap.size 60 2 s6 pre.length (cellsS pre) ∧ Below w.heap.size w wr ∧ pre.length + gk ≤ d + 1 ∧
    ((∃ d' t', gk = d' + 1 ∧ s0 = ptrV t'.r.b ∧ Down at0 d t w pre d' t') ∨ (gk = 0 ∧ s0 = .pointer none ∧ T.wsteps at0 d t = pre ∧ T.wfound at0 d t = false))

def WayEnd (at0 : Int) (d : Nat) (t : T ByteArray) (w : World) (e : Ending) (w' : World) : Prop :=
  ∃ v, e = .returned (.tuple #[v, .bool (T.wfound at0 d t)]) ∧ w'.ownsRow w.heap.size 60 2 v (T.wsteps at0 d t).length (cellsS (T.wsteps at0 d t)) ∧ Below w.heap.size w w'

theorem way_push {w wr w1 : World} {v v' : Value} {pre : List (Nat × Nat)} {b p : Nat} {o : Obj} (hown : wr.ownsRow w.heap.size 60 2 v pre.length (cellsS pre)) (hB : Below w.heap.size w wr)
    (h1 : w1.ownsRow w.heap.size 60 2 v' (pre.length + 1) (cellsS pre ++ [ptrV b, .int .i64 (p : Int)])) (hg : (wr.alloc o).grownBy w1 v.ownBlock) :
    w1.ownsRow w.heap.size 60 2 v' (pre ++ [(b, p)]).length (cellsS (pre ++ [(b, p)])) ∧ Below w.heap.size w w1 :=
  ⟨by rw [cellsS_snoc, List.length_append]; exact h1, (hB.alloc hB.size o).grown hg (by rw [World.size_alloc]; have := hB.size; omega) (fun k hk => (hown.lt k hk).1)⟩

set_option maxRecDepth 100000 in
set_option maxHeartbeats 1000000 in
theorem way_some (at0 : Int) (d : Nat) (t : T ByteArray) (w : World) (hT : ∀ r, r ∈ t.recs → Ok w r) (hwf : T.wf d t) (hd : d ≤ 1000) :
    Calls Try.prog 19 #[ptrV t.r.b, .int .i64 at0] w (WayEnd at0 d t w) := by
  obtain ⟨i0, hi, hz0, hz1, hz2⟩ := info_parts infoStep
  have HS : WayRel at0 d t w (d + 1) (ptrV t.r.b) (.slice none 0 0) w := ⟨[], World.ownsRow_nil _ _ _ _, Below.refl _ _, by simp, .inl ⟨d, t, rfl, rfl, hT, hwf, by simp, rfl⟩⟩
  clear hT hwf
  obtain ⟨nv, hnv⟩ : ∃ nv, ptrV t.r.b = nv := ⟨_, rfl⟩
  rw [hnv] at HS ⊢
  clear hnv
  go_enter Try.func19, Try.ntmps19
  go_wp2
  go_step3
  go_wp2
  go_step3
  go_wp2
  go_loopg [0, 6] (d + 1) (fun gk s0 s6 wr => WayRel at0 d t w gk s0 s6 wr)
  case atStart => exact HS
  case round =>
    obtain ⟨pre, hown, hB, hlen, hcase⟩ := hrel
    rcases hcase with ⟨d', t', rfl, rfl, hdn⟩ | ⟨rfl, rfl, hst, hfo⟩
    · have hT := (hdn.1 _ t'.r_mem).below hB
      obtain ⟨R, hR⟩ : ∃ R, t'.r = R := ⟨_, rfl⟩
      have HDN := Lib.hid hdn
      have hlow := T.lower_le at0 t'.r.items
      have c0 := hT.c0
      have hil := hT.ilen
      unfold Rec.iv at c0
      unfold ptrV
      clear hdn hR
      go_wp2
      go_loopg [0, 6, 16] t'.r.items.length (fun g2 v0 v6 v16 wx => ∃ k : Nat, k + g2 = t'.r.items.length ∧ k ≤ T.lower at0 t'.r.items ∧ v16 = .int .i64 k ∧ v0 = .pointer (some ⟨t'.r.b, 0, none⟩) ∧ v6 = u6 ∧ wr = wx)
      case atStart => exact ⟨0, by simp, Nat.zero_le _, rfl, rfl, rfl, rfl⟩
      case round =>
        obtain ⟨k, hk, hkl, rfl, rfl, rfl, rfl⟩ := hrel
        by_cases hkn : k < t'.r.items.length
        · obtain ⟨x, hx⟩ : ∃ x, t'.r.items[k]? = some x := ⟨_, List.getElem?_eq_getElem hkn⟩
          have cx := (hT.item hx).1
          by_cases hk2 : k < T.lower at0 t'.r.items
          · have hlt := T.lower_lt at0 _ k x hk2 hx
            clear hx
            go_wp2
            go_roundg (gk - 1)
            case measure => omega
            case rel => exact ⟨k + 1, by omega, by omega, by go_num, rfl, rfl, rfl⟩
          · obtain rfl : T.lower at0 t'.r.items = k := by omega
            have hge := T.lower_ge at0 _ x hx
            have hnl : ¬ x.1 < at0 := by omega
            have hlw := hB.size
            have hmx : pre.length + 1 ≤ maxLen := by unfold maxLen; omega
            have HH : Hid (T.hit at0 t' = (x.1 == at0)) := by unfold Hid T.hit; rw [hx]
            by_cases hh : x.1 = at0
            · have hb : (x.1 == at0) = true := by simpa using hh
              replace HH := Lib.hid (HH.out.trans hb)
              clear hh
              go_wp2_with (at_builtin; refine wpList_append_own _ rfl _ _ 56 rfl w.heap.size 60 i0 (.agg #[.pointer none, .int .i64 0]) 2 16 Try.underlying56 hi hz0 hz1 hz2 rfl (by decide) _ _ _ rfl (hown.alloc _) ⟨wr.heap.size, 0, none⟩ 1 1 [.pointer (some ⟨t'.r.b, 0, none⟩), .int .i64 (T.lower at0 t'.r.items : Int)] rfl rfl (World.news_of_block (heap_alloc_new wr _)) (by simp [Value.oneCell']) (by omega) (by omega) (by simp; omega) ?_; intro v' w1 hown' hgrow _; obtain ⟨hown1, hB1⟩ := way_push hown hB hown' hgrow; have hT1 := (HDN.out.1 _ t'.r_mem).below hB1; have c0' := hT1.c0; unfold Rec.iv at c0'; have cx' := (hT1.item hx).1; clear hown' hgrow)
              go_ret2
              obtain ⟨e1, e2⟩ := T.wsteps_hit at0 d' t' HH.out
              exact ⟨_, by rw [HDN.out.2.2.2, e2]; rfl, by rw [HDN.out.2.2.1, e1]; exact hown1, hB1⟩
            · have hb : (x.1 == at0) = false := by simpa using hh
              replace HH := Lib.hid (HH.out.trans hb)
              clear hh
              cases d' with
              | zero =>
                go_wp2_with (first | (at_builtin; refine wpList_append_own _ rfl _ _ 56 rfl w.heap.size 60 i0 (.agg #[.pointer none, .int .i64 0]) 2 16 Try.underlying56 hi hz0 hz1 hz2 rfl (by decide) _ _ _ rfl (hown.alloc _) ⟨wr.heap.size, 0, none⟩ 1 1 [.pointer (some ⟨t'.r.b, 0, none⟩), .int .i64 (T.lower at0 t'.r.items : Int)] rfl rfl (World.news_of_block (heap_alloc_new wr _)) (by simp [Value.oneCell']) (by omega) (by omega) (by simp; omega) ?_; intro v' w1 hown' hgrow _; obtain ⟨hown1, hB1⟩ := way_push hown hB hown' hgrow; have hT1 := (HDN.out.1 _ t'.r_mem).below hB1; have c0' := hT1.c0; unfold Rec.iv at c0'; have cx' := (hT1.item hx).1; have cU := under_none t'.r (T.lower at0 t'.r.items : Nat) w1 hT1 HDN.out.2.1.2.1; clear hown' hgrow) | (go_at_call 31; refine cU.mono ?_; rintro e w' ⟨rfl, rfl⟩))
                go_roundg 0
                case measure => omega
                case rel => exact ⟨_, hown1, hB1, by simp; omega, .inr ⟨rfl, rfl, by rw [HDN.out.2.2.1]; rfl, HDN.out.2.2.2.trans HH.out⟩⟩
              | succ d' =>
                obtain ⟨kd, hk1, hk2, hk3, hk4⟩ := T.kid_at d' t' (T.lower at0 t'.r.items) HDN.out.2.1 (by omega)
                obtain ⟨q, hq⟩ := Option.isSome_iff_exists.1 HDN.out.2.1.1
                have HQ := Lib.hid hq
                have HK1 := Lib.hid hk1
                have HK := Lib.hid hk2
                have HK3 := Lib.hid hk3
                have HK4 := Lib.hid hk4
                clear hq hk1 hk2 hk3 hk4
                go_wp2_with (first | (at_builtin; refine wpList_append_own _ rfl _ _ 56 rfl w.heap.size 60 i0 (.agg #[.pointer none, .int .i64 0]) 2 16 Try.underlying56 hi hz0 hz1 hz2 rfl (by decide) _ _ _ rfl (hown.alloc _) ⟨wr.heap.size, 0, none⟩ 1 1 [.pointer (some ⟨t'.r.b, 0, none⟩), .int .i64 (T.lower at0 t'.r.items : Int)] rfl rfl (World.news_of_block (heap_alloc_new wr _)) (by simp [Value.oneCell']) (by omega) (by omega) (by simp; omega) ?_; intro v' w1 hown' hgrow _; obtain ⟨hown1, hB1⟩ := way_push hown hB hown' hgrow; have hT1 := (HDN.out.1 _ t'.r_mem).below hB1; have c0' := hT1.c0; unfold Rec.iv at c0'; have cx' := (hT1.item hx).1; have cU := under_some t'.r (T.lower at0 t'.r.items) q kd.r.b w1 hT1 HQ.out HK.out; unfold ptrV at cU; clear hown' hgrow) | (go_at_call 31; refine cU.mono ?_; rintro e w' ⟨rfl, rfl⟩))
                go_roundg (d' + 1)
                case measure => omega
                case rel => exact ⟨_, hown1, hB1, by simp; omega, .inl ⟨d', kd, rfl, rfl, fun r hr => HDN.out.1 r (T.ks_sub HK4.out r hr), HK3.out, by rw [HDN.out.2.2.1, (T.wsteps_down at0 d' t' kd HH.out HK1.out).1]; simp, HDN.out.2.2.2.trans (T.wsteps_down at0 d' t' kd HH.out HK1.out).2⟩⟩
        · obtain rfl : k = t'.r.items.length := by omega
          have hlw := hB.size
          have hmx : pre.length + 1 ≤ maxLen := by unfold maxLen; omega
          have HH : Hid (T.hit at0 t' = false) := by unfold Hid T.hit; rw [show T.lower at0 t'.r.items = t'.r.items.length from by omega]; simp
          cases d' with
          | zero =>
            go_wp2_with (first | (at_builtin; refine wpList_append_own _ rfl _ _ 56 rfl w.heap.size 60 i0 (.agg #[.pointer none, .int .i64 0]) 2 16 Try.underlying56 hi hz0 hz1 hz2 rfl (by decide) _ _ _ rfl (hown.alloc _) ⟨wr.heap.size, 0, none⟩ 1 1 [.pointer (some ⟨t'.r.b, 0, none⟩), .int .i64 (t'.r.items.length : Int)] rfl rfl (World.news_of_block (heap_alloc_new wr _)) (by simp [Value.oneCell']) (by omega) (by omega) (by simp; omega) ?_; intro v' w1 hown' hgrow _; obtain ⟨hown1, hB1⟩ := way_push hown hB hown' hgrow; have hT1 := (HDN.out.1 _ t'.r_mem).below hB1; have c0' := hT1.c0; unfold Rec.iv at c0'; have cU := under_none t'.r (t'.r.items.length : Nat) w1 hT1 HDN.out.2.1.2.1; clear hown' hgrow) | (go_at_call 31; refine cU.mono ?_; rintro e w' ⟨rfl, rfl⟩))
            go_roundg 0
            case measure => omega
            case rel => exact ⟨_, hown1, hB1, by simp; omega, .inr ⟨rfl, rfl, by rw [HDN.out.2.2.1]; rw [T.wsteps, show T.lower at0 t'.r.items = t'.r.items.length from by omega]; try rfl, HDN.out.2.2.2.trans HH.out⟩⟩
          | succ d' =>
            obtain ⟨kd, hk1, hk2, hk3, hk4⟩ := T.kid_at d' t' (t'.r.items.length) HDN.out.2.1 (by omega)
            obtain ⟨q, hq⟩ := Option.isSome_iff_exists.1 HDN.out.2.1.1
            have HQ := Lib.hid hq
            have HK1 := Lib.hid hk1
            have HK := Lib.hid hk2
            have HK3 := Lib.hid hk3
            have HK4 := Lib.hid hk4
            clear hq hk1 hk2 hk3 hk4
            go_wp2_with (first | (at_builtin; refine wpList_append_own _ rfl _ _ 56 rfl w.heap.size 60 i0 (.agg #[.pointer none, .int .i64 0]) 2 16 Try.underlying56 hi hz0 hz1 hz2 rfl (by decide) _ _ _ rfl (hown.alloc _) ⟨wr.heap.size, 0, none⟩ 1 1 [.pointer (some ⟨t'.r.b, 0, none⟩), .int .i64 (t'.r.items.length : Int)] rfl rfl (World.news_of_block (heap_alloc_new wr _)) (by simp [Value.oneCell']) (by omega) (by omega) (by simp; omega) ?_; intro v' w1 hown' hgrow _; obtain ⟨hown1, hB1⟩ := way_push hown hB hown' hgrow; have hT1 := (HDN.out.1 _ t'.r_mem).below hB1; have c0' := hT1.c0; unfold Rec.iv at c0'; have cU := under_some t'.r (t'.r.items.length) q kd.r.b w1 hT1 HQ.out HK.out; unfold ptrV at cU; clear hown' hgrow) | (go_at_call 31; refine cU.mono ?_; rintro e w' ⟨rfl, rfl⟩))
            go_roundg (d' + 1)
            case measure => omega
            case rel => exact ⟨_, hown1, hB1, by simp; omega, .inl ⟨d', kd, rfl, rfl, fun r hr => HDN.out.1 r (T.ks_sub HK4.out r hr), HK3.out, by rw [HDN.out.2.2.1, (T.wsteps_down at0 d' t' kd HH.out (by rw [show T.lower at0 t'.r.items = t'.r.items.length from by omega]; exact HK1.out)).1, show T.lower at0 t'.r.items = t'.r.items.length from by omega]; simp, HDN.out.2.2.2.trans (T.wsteps_down at0 d' t' kd HH.out (by rw [show T.lower at0 t'.r.items = t'.r.items.length from by omega]; exact HK1.out)).2⟩⟩
    · have HST := Lib.hid hst
      have HFO := Lib.hid hfo
      clear hst hfo
      go_wp2
      rw [Exit.noGoto_ret]
      go_ret2
      exact ⟨_, by rw [HFO.out]; rfl, by rw [HST.out]; exact hown, hB⟩

end Go.Proofs.Ytkhbfjncamobdaa.S

namespace Go.Proofs.Ytkhbfjncamobdaa.S
open Go.RowKit Go.Shelf
attribute [local go_sem] Oper.semAt_some
set_option linter.unusedVariables false

/-- the box and the row of a slice lie as they lay -/
def SameV (Bs : Nat) (v : Value) (W W' : World) : Prop := ∀ b, b = Bs ∨ v.ownBlock = some b → W'.heap[b]? = W.heap[b]?
theorem SameV.refl (Bs : Nat) (v : Value) (W : World) : SameV Bs v W W := fun _ _ => rfl
theorem SameV.trans {Bs : Nat} {v : Value} {A B C : World} (h : SameV Bs v A B) (k : SameV Bs v B C) : SameV Bs v A C := fun b hb => (k b hb).trans (h b hb)
theorem SameV.row {Bs : Nat} {v : Value} {A B : World} {base e size n : Nat} {xs : List Value} (h : SameV Bs v A B) (hr : A.ownsRow base e size v n xs) : B.ownsRow base e size v n xs := by
  refine ⟨hr.1, ?_⟩
  rcases hr.2 with hn | ⟨g, cap, cur, rfl, hb, hg, rest⟩
  · exact .inl hn
  · exact .inr ⟨g, cap, cur, rfl, hb, (h g (.inr rfl)).trans hg, rest⟩
theorem SameV.cell {Bs : Nat} {v u : Value} {A B : World} (h : SameV Bs v A B) (hc : A.cell? ⟨Bs, 0, none⟩ = some u) : B.cell? ⟨Bs, 0, none⟩ = some u := (World.cell?_of_block (w := A) (h Bs (.inl rfl))).trans hc

def stepV (s : Nat × Nat) : Value := .agg #[ptrV s.1, .int .i64 (s.2 : Int)]
/-- what the k-th round is handed -/
def backEnc (L : List (Nat × Nat)) (k : Nat) : Array Value := #[.int .i64 ((L.length : Int) - 1 - k), stepV (L.reverse.getD k (0, 0))]
theorem cellsS_at (l : List (Nat × Nat)) (k : Nat) (x : Nat × Nat) (h : l[k]? = some x) : (cellsS l)[k * 2]? = some (ptrV x.1) ∧ (cellsS l)[k * 2 + 1]? = some (.int .i64 (x.2 : Int)) := by
  induction l generalizing k with
  | nil => simp at h
  | cons y l ih =>
    cases k with
    | zero => obtain rfl : y = x := by simpa using h
              exact ⟨rfl, rfl⟩
    | succ k =>
      have := ih k (by simpa using h)
      rw [show (k + 1) * 2 = k * 2 + 2 from by omega]
      exact this

def BackAt (L : List (Nat × Nat)) (k : Nat) (i : Value) : Prop := (∃ m : Nat, i = .int .i64 (m : Int) ∧ m + 1 + k = L.length) ∨ (i = .int .i64 (-1) ∧ k = L.length)
theorem backAt_start (L : List (Nat × Nat)) : BackAt L 0 (.int .i64 ((L.length : Int) - 1)) := by
  cases L with
  | nil => exact .inr ⟨rfl, rfl⟩
  | cons x l => exact .inl ⟨l.length, by simp, by simp⟩

set_option maxRecDepth 100000 in
set_option maxHeartbeats 2000000 in
theorem back1_in (F : Fence) (n : Nat) (h7 : F.fn 38) (hro : F.round = none) (hn : 1 ≤ n) (l Bs : Nat) (L : List (Nat × Nat)) (v : Value) (base : Nat) (hL : L.length ≤ 2000) (J Jx : Nat → World → Prop)
    (hY : ∀ k W, J k W → k < L.length → YieldAt F (n - 1) Try.prog l (backEnc L k) W fun e W' => (e = .returned (.bool true) ∧ J (k + 1) W' ∧ SameV Bs v W W') ∨ (e = .returned (.bool false) ∧ Jx k W'))
    (W : World) (hBs : W.cell? ⟨Bs, 0, none⟩ = some v) (hrow : W.ownsRow base 60 2 v L.length (cellsS L)) (h0 : J 0 W) :
    CallsIn F n Try.prog 38 #[.func (.yield l) #[] #[], .pointer (some ⟨Bs, 0, none⟩)] W fun e W' => (∃ v, e = .returned v) ∧ (J L.length W' ∨ ∃ k, k < L.length ∧ Jx k W') := by
  obtain ⟨A, c, rfl⟩ : ∃ A c, v = .slice A L.length c := by
    rcases hrow.2 with ⟨rfl, h⟩ | ⟨g, cap, _, rfl, _⟩
    · exact ⟨_, _, by rw [h]⟩
    · exact ⟨_, _, rfl⟩
  have HB := Lib.hid (backAt_start L)
  refine callsIn_of_wp Try.func38 rfl h7 ?_ hro
  simp only [Try.ntmps38, List.size_toArray, List.length_cons, List.length_nil, Nat.reduceAdd, Nat.reduceSub, Array.replicate_succ, Array.replicate_zero, List.push_toArray, List.append_toArray, List.nil_append, List.cons_append]
  gi_wp2
  gi_loopw [3] (fun i wr => ∃ k : Nat, BackAt L k i ∧ J k wr ∧ SameV Bs (.slice A L.length c) W wr) (fun i _ => (intOf i + 1).toNat)
  case atStart => exact ⟨0, HB.out, h0, SameV.refl _ _ _⟩
  case round =>
    obtain ⟨k, hba, hJ, hS⟩ := hrel
    have hcx := hS.cell hBs
    have hrx := hS.row hrow
    rcases hba with ⟨m, rfl, hm⟩ | ⟨rfl, hk⟩
    · obtain ⟨s, hs⟩ : ∃ s, L[m]? = some s := ⟨_, List.getElem?_eq_getElem (by omega)⟩
      have hrev : L.reverse.getD k (0, 0) = s := by
        rw [List.getD_eq_getElem?_getD, List.getElem?_reverse (by omega), show L.length - 1 - k = m from by omega, hs]; rfl
      have hc := cellsS_at L m s hs
      obtain ⟨g, cap, hv, _, _⟩ := hrx.form (by omega)
      obtain ⟨rfl, rfl⟩ : A = some ⟨g, 0, none⟩ ∧ c = cap := by simpa using hv
      have d0 := (hrx.cellAt (m * 2) (by omega)).trans hc.1
      have d1 := (hrx.cellAt (m * 2 + 1) (by omega)).trans hc.2
      obtain ⟨fn, tmps, assign, body, hy, hR⟩ := hY k wr hJ (by omega)
      have hi : ((L.length : Int) - 1 - k) = (m : Int) := by omega
      unfold backEnc at hy
      rw [hrev, hi] at hy
      unfold stepV ptrV at hy
      unfold ptrV at d0
      have hml : m < L.length := by omega
      have HM := Lib.hid hm
      clear hm hc hs hrev hi hv
      gi_wp2
      refine hR.mono ?_
      rintro e W3 (⟨rfl, hJ3, hk3⟩ | ⟨rfl, hJx3⟩)
      · cases m with
        | zero =>
          gi_wp2
          go_roundw
          case rel => exact ⟨k + 1, .inr ⟨rfl, by have := HM.out; omega⟩, hJ3, hS.trans hk3⟩
          case measure => simp [intOf]
        | succ m =>
          gi_wp2
          go_roundw
          case rel => exact ⟨k + 1, .inl ⟨m, by simp, by have := HM.out; omega⟩, hJ3, hS.trans hk3⟩
          case measure => simp [intOf]; omega
      · gi_wp2
        refine bodyPost_ret (results_none rfl _ _ _) rfl ?_
        exact ⟨⟨_, rfl⟩, .inr ⟨k, by have := HM.out; omega, hJx3⟩⟩
    · have HK := Lib.hid hk
      clear hk
      gi_wp2
      go_end0
      exact ⟨⟨_, rfl⟩, .inl (by rw [← HK.out]; exact hJ)⟩

theorem back_steps (F : Fence) (n : Nat) (h7 : F.fn 38) (hro : F.round = none) (hn : 1 ≤ n) (Bs : Nat) (L : List (Nat × Nat)) (v : Value) (base : Nat) (hL : L.length ≤ 2000) (w : World)
    (hBs : w.cell? ⟨Bs, 0, none⟩ = some v) (hrow : w.ownsRow base 60 2 v L.length (cellsS L)) :
    SeqSteps F n Try.prog 38 #[.pointer (some ⟨Bs, 0, none⟩)] (backEnc L) (SameV Bs v) L.length w := fun l J Jx W hW _ _ hY h0 => by
  have hlt := World.block_lt_of_cell? _ _ hBs
  have hs : SameV Bs v w W := fun b hb => hW.block b (by
    rcases hb with rfl | hb
    · exact hlt
    · exact (hrow.lt b hb).2)
  exact back1_in F n h7 hro hn l Bs L v base hL J Jx hY W (hs.cell hBs) (hs.row hrow) h0

theorem back_in (F : Fence) (n : Nat) (h7 : F.fn 32) (hro : F.round = none) (v : Value) (hv : ∃ a l c, v = .slice a l c) (w : World) :
    CallsIn F n Try.prog 32 #[v] w fun e w' => e = .returned (.func (.func 38) #[] #[.pointer (some ⟨w.heap.size, 0, none⟩)]) ∧ w.alloc (.cells #[v] 56) = w' := by
  obtain ⟨a, l, c, rfl⟩ := hv
  refine callsIn_of_wp Try.func32 rfl h7 ?_ hro
  simp only [Try.ntmps32, List.size_toArray, List.length_cons, List.length_nil, Nat.reduceAdd, Nat.reduceSub, Array.replicate_succ, Array.replicate_zero, List.push_toArray, List.append_toArray, List.nil_append, List.cons_append]
  gi_wp2
  go_ret
  exact ⟨rfl, rfl⟩

end Go.Proofs.Ytkhbfjncamobdaa.S
