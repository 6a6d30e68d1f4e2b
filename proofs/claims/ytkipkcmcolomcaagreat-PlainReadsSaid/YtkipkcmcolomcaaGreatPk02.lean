/- Several texts in one, each under its own heading. -/
import Derived.RangeFuncBox
import Derived.RangeFuncLeaves
import Derived.Shelf.Abstract
import Derived.Shelf.RegionOpen
import Derived.WalkKit
import Derived.OwnWalkIn
import Derived.TacticsInMore
import Derived.LoopNIn
import Derived.LoopIn
import Derived.Outline
import Derived.Lib.RabinKarpLaws
import Derived.Lib.Hide
import Derived.Test.YtkipkcmcolomcaaGreatPk01
import Derived.Test.YtkipkcmcolomcaaGreatRows
import Derived.RangeFuncNested
import Derived.RangeFuncWrites
import Derived.Deep.OwnRows
import Derived.Deep.DeepFit
import Derived.Maps.AppendAt
import Derived.WalkSpells
/- The two iterators of the program's package num, bytesOf and bytesFrom, hand out the bytes that they are said to hand out, in order, to any loop body that leaves the memory below alone. -/
namespace Go.Proofs.YtkipkcmcolomcaaGreat
open Go.RowKit Go.Shelf
attribute [local go_sem] Oper.semAt_some
set_option linter.unusedVariables false

/-- the blocks bs lie as they lay: what an iterator asks of a loop body -/
def Same (bs : List Nat) (W W' : World) : Prop := ∀ b, b ∈ bs → W'.heap[b]? = W.heap[b]?
theorem Same.refl (bs : List Nat) (W : World) : Same bs W W := fun _ _ => rfl
theorem Same.trans {bs : List Nat} {A B C : World} (h : Same bs A B) (k : Same bs B C) : Same bs A C := fun b hb => (k b hb).trans (h b hb)
theorem Same.drew (bs : List Nat) (W : World) : Same bs W W.drew := fun _ _ => rfl
theorem Same.setCell {bs : List Nat} (W : World) {p : Addr} (hp : p.block ∉ bs) (u : Value) : Same bs W (W.setCell p u) := fun b hb => Below.heap_setCell _ _ _ _ (fun e => hp (e ▸ hb))
theorem Same.alloc {bs : List Nat} (W : World) (o : Obj) (h : ∀ b, b ∈ bs → b < W.heap.size) : Same bs W (W.alloc o) := fun b hb => Below.heap_alloc _ _ _ (h b hb)
theorem Same.below {bs : List Nat} {W W' : World} {n : Nat} (hb : Below n W W') (h : ∀ b, b ∈ bs → b < n) : Same bs W W' := fun b hh => hb.block b (h b hh)
theorem Same.cell {bs : List Nat} {W W' : World} (h : Same bs W W') {p : Addr} (hp : p.block ∈ bs) : W'.cell? p = W.cell? p := World.cell?_of_block (w := W) (h p.block hp)
theorem sameK_t {bs : List Nat} {A B C : World} (h : Same bs A B) (k : Same bs B C) : Same bs A C := h.trans k
theorem sameK_b {bs : List Nat} {w : World} (hn : ∀ b, b ∈ bs → b < w.heap.size) (W : World) (l : Nat) (o o' : Obj) (hl : w.heap.size ≤ l) (_ : W.heap[l]? = some o) (_ : o.isCells = false) (_ : o.isWalk = false) : Same bs W (W.putObj l o') :=
  fun b hb => World.putObj_heap_other (by have := hn b hb; omega)

set_option maxRecDepth 100000 in
set_option maxHeartbeats 2000000 in
theorem bytesOf1_in (F : Fence) (m : Nat) (h7 : F.fn 200) (hro : F.round = none) (hn : 1 ≤ m) (l Bs : Nat) (n : Nat) (J Jx : List Nat → World → Prop)
    (hY : ∀ (pre : List Nat) (x : Nat) W, J pre W → pre.length < 8 → YieldAt F (m - 1) Tryz.prog l #[.int .i64 (x : Int), .int .u8 ((n : Int) / 2 ^ (8 * x) % 256)] W fun e W' =>
      (e = .returned (.bool true) ∧ J (pre ++ [x]) W' ∧ Same [Bs] W W') ∨ (e = .returned (.bool false) ∧ Jx (pre ++ [x]) W'))
    (W : World) (hBs : W.cell? ⟨Bs, 0, none⟩ = some (.int .u64 n)) (h0 : J [] W) :
    CallsIn F m Tryz.prog 200 #[.func (.yield l) #[] #[], .pointer (some ⟨Bs, 0, none⟩)] W fun e W' => (∃ v, e = .returned v) ∧
      ((∃ ys, ys = List.range 8 ∧ J ys W') ∨ (∃ pre, (∃ k, k ≤ 8 ∧ pre = List.range k) ∧ Jx pre W')) := by
  refine callsIn_of_wp Tryz.func200 rfl h7 ?_ hro
  simp only [Tryz.ntmps200, List.size_toArray, List.length_cons, List.length_nil, Nat.reduceAdd, Nat.reduceSub, Array.replicate_succ, Array.replicate_zero, List.push_toArray, List.append_toArray, List.nil_append, List.cons_append]
  gi_wp2
  gi_loopw [3, 4] (fun _ i wr => ∃ k : Nat, k ≤ 8 ∧ i = .int .i64 k ∧ J (List.range k) wr ∧ Same [Bs] W wr)
    (fun _ i _ => 8 - (intOf i).toNat)
  case atStart => exact ⟨0, Nat.zero_le _, rfl, h0, Same.refl _ _⟩
  case round =>
    obtain ⟨k, hk, rfl, hJs, hnx⟩ := hrel
    have hcx : wr.cell? ⟨Bs, 0, none⟩ = some (.int .u64 n) := (hnx.cell (p := ⟨Bs, 0, none⟩) (by simp)).trans hBs
    by_cases hlt : k < 8
    · obtain ⟨fn, tmps, assign, body, hy, hR⟩ := hY _ k wr hJs (by simpa using hlt)
      gi_wp2
      refine hR.mono ?_
      rintro e W3 (⟨rfl, hJ3, hk3⟩ | ⟨rfl, hJx3⟩)
      · gi_wp2
        go_roundw
        case rel => exact ⟨k + 1, by omega, by simp, by rw [List.range_succ]; exact hJ3, hnx.trans hk3⟩
        case measure => simp [intOf]; omega
      · gi_wp2
        refine bodyPost_ret (results_none rfl _ _ _) rfl ?_
        exact ⟨⟨_, rfl⟩, .inr ⟨_, ⟨k + 1, by omega, (List.range_succ).symm⟩, hJx3⟩⟩
    · obtain rfl : k = 8 := by omega
      gi_wp2
      go_end0
      exact ⟨⟨_, rfl⟩, .inl ⟨_, rfl, hJs⟩⟩

theorem bytesOf_stops (F : Fence) (m : Nat) (h7 : F.fn 200) (hro : F.round = none) (hn : 1 ≤ m) (Bs : Nat) (n : Nat) (w : World) (hBs : Bs < w.heap.size)
    (hc : w.cell? ⟨Bs, 0, none⟩ = some (.int .u64 n)) :
    SeqStopsK F m Tryz.prog 200 #[.pointer (some ⟨Bs, 0, none⟩)] (fun x : Nat => #[.int .i64 (x : Int), .int .u8 ((n : Int) / 2 ^ (8 * x) % 256)]) (Same [Bs]) (fun ys => ys = List.range 8) (fun pre => ∃ k, k ≤ 8 ∧ pre = List.range k) 8 w := fun l J Jx W hW _ _ hY h0 => by
  have hc' := (hW.cell (p := ⟨Bs, 0, none⟩) hBs).trans hc
  exact bytesOf1_in F m h7 hro hn l Bs n J Jx hY W hc' h0

theorem bytesOf_in (F : Fence) (m : Nat) (h5 : F.fn 193) (hro : F.round = none) (n : Int) (w : World) :
    CallsIn F m Tryz.prog 193 #[.int .u64 n] w fun e w' => e = .returned (.func (.func 200) #[] #[.pointer (some ⟨w.heap.size, 0, none⟩)]) ∧ w' = w.alloc (.cells #[.int .u64 n] 32) := by
  refine callsIn_of_wp Tryz.func193 rfl h5 ?_ hro
  simp only [Tryz.ntmps193, List.size_toArray, List.length_cons, List.length_nil, Nat.reduceAdd, Nat.reduceSub, Array.replicate_succ, Array.replicate_zero, List.push_toArray, List.append_toArray, List.nil_append, List.cons_append]
  gi_wp2
  go_ret
  exact ⟨rfl, rfl⟩

/-- a place in a text -/
abbrev Place := { x : Nat // x < 281474976710656 }


theorem yielded_bool {e : Ending} {A B : Prop} (h : (e = .returned (.bool true) ∧ A) ∨ (e = .returned (.bool false) ∧ B)) : ∃ b : Bool, e = .returned (.bool b) ∧ Hid ((b = true ∧ A) ∨ (b = false ∧ B)) := by
  rcases h with ⟨rfl, h⟩ | ⟨rfl, h⟩
  · exact ⟨true, rfl, .inl ⟨rfl, h⟩⟩
  · exact ⟨false, rfl, .inr ⟨rfl, h⟩⟩

theorem grown_drew (W : World) : W.grownBy W.drew none := ⟨rfl, rfl, rfl, Nat.le_refl _, fun _ _ _ => rfl⟩

set_option maxRecDepth 100000 in
set_option maxHeartbeats 2000000 in
theorem bytesFrom1_in (m : Nat) (hn : 1 ≤ m) (l Ba Bs : Nat) (s : ByteArray) (at0 : Nat) (hsz : s.size ≤ 281474976710656) (J Jx : List Place → World → Prop) (B0 : Nat) (hJ : AbidesFrom B0 J)
    (hY : ∀ (pre : List Place) (x : Place) W, J pre W → pre.length < s.size - at0 → YieldAt Fence.wide (m - 1) Tryz.prog l #[.int .i64 (x.1 : Int), .int .u8 (sbyte s (at0 + x.1))] W fun e W' =>
      (e = .returned (.bool true) ∧ J (pre ++ [x]) W' ∧ Same [Ba, Bs] W W') ∨ (e = .returned (.bool false) ∧ Jx (pre ++ [x]) W'))
    (W : World) (hBa : W.cell? ⟨Ba, 0, none⟩ = some (.int .i64 at0)) (hBs : W.cell? ⟨Bs, 0, none⟩ = some (.string s)) (h0 : J [] W) (hat : at0 ≤ s.size) :
    CallsIn Fence.wide m Tryz.prog 191 #[.func (.yield l) #[] #[], .pointer (some ⟨Ba, 0, none⟩), .pointer (some ⟨Bs, 0, none⟩)] W fun e W' => (∃ v, e = .returned v) ∧
      ((∃ ys, ys.map (·.1) = List.range (s.size - at0) ∧ J ys W') ∨ (∃ pre, (∃ k, k ≤ s.size - at0 ∧ pre.map (·.1) = List.range k) ∧ Jx pre W')) := by
  refine callsIn_of_wp Tryz.func191 rfl trivial ?_ rfl
  simp only [Tryz.ntmps191, List.size_toArray, List.length_cons, List.length_nil, Nat.reduceAdd, Nat.reduceSub, Array.replicate_succ, Array.replicate_zero, List.push_toArray, List.append_toArray, List.nil_append, List.cons_append]
  gi_wp2
  gi_loopw [4] (fun i wr => ∃ (k : Nat) (pre : List Place), k ≤ s.size - at0 ∧ i = .int .i64 (at0 + k : Nat) ∧ Hid (pre.map (·.1) = List.range k) ∧ J pre wr ∧ Same [Ba, Bs] W wr)
    (fun i _ => s.size - (intOf i).toNat)
  case atStart => exact ⟨0, [], Nat.zero_le _, rfl, rfl, h0, Same.refl _ _⟩
  case round =>
    obtain ⟨k, pre, hk, rfl, HP, hJs, hnx⟩ := hrel
    have hca : wr.cell? ⟨Ba, 0, none⟩ = some (.int .i64 at0) := (hnx.cell (p := ⟨Ba, 0, none⟩) (by simp)).trans hBa
    have hcx : wr.cell? ⟨Bs, 0, none⟩ = some (.string s) := (hnx.cell (p := ⟨Bs, 0, none⟩) (by simp)).trans hBs
    by_cases hlt : k < s.size - at0
    · have hlt2 : at0 + k < s.size := by omega
      have hJd : J pre wr.drew := hJ _ _ _ none hJs (grown_drew wr) (fun r e => by cases e)
      obtain ⟨fn, tmps, assign, body, hy, hR⟩ := hY _ ⟨k, by omega⟩ wr.drew hJd (by have := congrArg List.length HP.out; simp at this; omega)
      dsimp only at hy hR
      have e1 : IntKind.i64.wrap ((at0 : Int) + (k : Int) - (at0 : Int)) = (k : Int) := by rw [show (at0 : Int) + (k : Int) - (at0 : Int) = (k : Int) from by omega]; exact IntWalk.i64_in _ (by omega)
      have e2 : ((at0 : Int) + (k : Int)).toNat = at0 + k := by omega
      have e3 : ∀ h : at0 + k < s.size, (((s[at0 + k]'h).toNat : Nat) : Int) = sbyte s (at0 + k) := fun h => by
        have : s.data.toList[at0 + k]? = some (s[at0 + k]'h) := Go.Proofs.byte_at s (at0 + k) h
        simp [sbyte, this]
      have hmix : Tryz.prog.follows .mixedOrders = true := by kernel_rfl
      gi_wp2
      gi_region_with (refine hR.mono ?_; clear e1 e2 e3 hY hR hy; intro e W3 hh; obtain ⟨b, rfl, hb3⟩ := yielded_bool hh; clear hh)
      all_goals
        rcases hb3 with ⟨rfl, hJ3, hk3⟩ | ⟨rfl, hJx3⟩
        · gi_wp2
          go_roundw
          case rel => exact ⟨k + 1, pre ++ [⟨k, by omega⟩], by omega, by rw [← Nat.add_assoc]; go_num, by unfold Hid; rw [List.map_append, HP.out, List.range_succ]; rfl, hJ3, hnx.trans ((Same.drew _ _).trans hk3)⟩
          case measure => simp [intOf]; omega
        · gi_wp2
          refine bodyPost_ret (results_none rfl _ _ _) rfl ?_
          exact ⟨⟨_, rfl⟩, .inr ⟨_, ⟨k + 1, by omega, by rw [List.map_append, HP.out, List.range_succ]; rfl⟩, hJx3⟩⟩
    · obtain rfl : k = s.size - at0 := by omega
      have h2 : ¬ (at0 + (s.size - at0) < s.size) := by omega
      gi_wp2
      go_end0
      exact ⟨⟨_, rfl⟩, .inl ⟨_, HP.out, hJs⟩⟩

theorem bytesFrom_stops (m : Nat) (hn : 1 ≤ m) (Ba Bs : Nat) (s : ByteArray) (at0 : Nat) (hsz : s.size ≤ 281474976710656) (hat : at0 ≤ s.size) (w : World) (hBa : Ba < w.heap.size) (hBs : Bs < w.heap.size)
    (ha : w.cell? ⟨Ba, 0, none⟩ = some (.int .i64 at0)) (hc : w.cell? ⟨Bs, 0, none⟩ = some (.string s)) :
    SeqStopsK Fence.wide m Tryz.prog 191 #[.pointer (some ⟨Ba, 0, none⟩), .pointer (some ⟨Bs, 0, none⟩)] (fun x : Place => #[.int .i64 (x.1 : Int), .int .u8 (sbyte s (at0 + x.1))]) (Same [Ba, Bs]) (fun ys => ys.map (·.1) = List.range (s.size - at0)) (fun pre => ∃ k, k ≤ s.size - at0 ∧ pre.map (·.1) = List.range k) (s.size - at0) w := fun l J Jx W hW hJ _ hY h0 => by
  have ha' := (hW.cell (p := ⟨Ba, 0, none⟩) hBa).trans ha
  have hc' := (hW.cell (p := ⟨Bs, 0, none⟩) hBs).trans hc
  exact bytesFrom1_in m hn l Ba Bs s at0 hsz J Jx _ hJ hY W ha' hc' h0 hat

theorem bytesFrom_in (m : Nat) (s : ByteArray) (at0 : Int) (w : World) :
    CallsIn Fence.wide m Tryz.prog 174 #[.string s, .int .i64 at0] w fun e w' => e = .returned (.func (.func 191) #[] #[.pointer (some ⟨w.heap.size + 1, 0, none⟩), .pointer (some ⟨w.heap.size, 0, none⟩)]) ∧
      w' = (w.alloc (.cells #[.string s] 9)).alloc (.cells #[.int .i64 at0] 3) := by
  refine callsIn_of_wp Tryz.func174 rfl trivial ?_ rfl
  simp only [Tryz.ntmps174, List.size_toArray, List.length_cons, List.length_nil, Nat.reduceAdd, Nat.reduceSub, Array.replicate_succ, Array.replicate_zero, List.push_toArray, List.append_toArray, List.nil_append, List.cons_append]
  gi_wp2
  go_ret
  exact ⟨rfl, rfl⟩

end Go.Proofs.YtkipkcmcolomcaaGreat
/- Put answers the lowest bytes of its number, and an error where the width is none or the number has more bytes. -/
namespace Go.Proofs.YtkipkcmcolomcaaGreat
open Go.RowKit Go.Shelf
attribute [local go_sem] Oper.semAt_some
set_option linter.unusedVariables false

theorem wide_scope {n : Nat} {P : Program} {c : Code} {Q : Exit → Act → World → Prop} {a : Act} {w : World} (h : c.wpIn Fence.wide n P (Exit.noGoto Q) a w) : (Code.scope c).wpIn Fence.wide n P Q a w := wpIn_wide.2 (wp_scope_straight (wpIn_wide.1 h))
theorem wide_label {n l : Nat} {P : Program} {Q : Exit → Act → World → Prop} {a : Act} {w : World} (h : Q .normal a w) : (Code.label l).wpIn Fence.wide n P Q a w := wpIn_wide.2 (wp_label h)

/-- a block of cells lies as it lay, where a block that is no cells has turned -/
theorem kept_block {A B : World} {row : Option Nat} {b : Nat} {c : Array Value} {t : TypeId} {fr : Nat × Nat} (h : A.heap[b]? = some (.cells c t fr)) (hg : A.grownBy B row) (hr : ∀ r, row = some r → ∃ o : Obj, A.heap[r]? = some o ∧ o.isCells = false) : B.heap[b]? = A.heap[b]? :=
  hg.block b (Array.getElem?_eq_some_iff.1 h).1 (fun e => by obtain ⟨o, ho, hc⟩ := hr b e.symm; rw [h] at ho; cases ho; cases hc)
theorem rowIs_kept {A B : World} {row : Option Nat} {b n : Nat} {t : TypeId} {f : Nat → Value} (h : A.rowIs b t n f) (hg : A.grownBy B row) (hr : ∀ r, row = some r → ∃ o : Obj, A.heap[r]? = some o ∧ o.isCells = false) : B.rowIs b t n f := by
  have h' := h
  obtain ⟨c, hb, _⟩ := h
  exact h'.of_block (kept_block hb hg hr)
theorem boxed_kept {A B : World} {row : Option Nat} {b : Nat} {t : TypeId} {v : Value} (h : Boxed A b t v) (hg : A.grownBy B row) (hr : ∀ r, row = some r → ∃ o : Obj, A.heap[r]? = some o ∧ o.isCells = false) : Boxed B b t v :=
  (kept_block h hg hr).trans h
theorem boxed_setOther {A : World} {b : Nat} {t : TypeId} {v u : Value} {p : Addr} (h : Boxed A b t v) (hp : b ≠ p.block) : Boxed (A.setCell p u) b t v := (Below.heap_setCell _ _ _ _ hp).trans h

/-- a Go int's bytes in out's row -/
def outF (n : Nat) (pre : List Nat) (i : Nat) : Value := .int .u8 (if i ∈ pre then nbyte n i else 0)

theorem ret_se {s t : ByteArray} {k : IntKind} {a b : Int} (h : s = t) (h2 : a = b) : Ending.returned (.tuple #[.string t, .int k b]) = .returned (.tuple #[.string s, .int k a]) := by rw [h, h2]

theorem infoByte : (Tryz.prog.info? 5).map (fun i => (i.zero, i.size, i.bytes)) = some (some (.int .u8 0), 1, 1) := by kernel_rfl

set_option maxRecDepth 100000 in
theorem isWidth_yes (wd : Int) (w : World) (h1 : 1 ≤ wd) (h2 : wd ≤ 8) : Calls Tryz.prog 172 #[.int .i64 wd] w fun e w' => e = .returned (.bool true) ∧ w = w' := by
  go_enter Tryz.func172, Tryz.ntmps172
  go_wp2
  go_ret
  exact ⟨rfl, rfl⟩

set_option maxRecDepth 100000 in
theorem isWidth_no (wd : Int) (w : World) (h : wd < 1 ∨ 8 < wd) : Calls Tryz.prog 172 #[.int .i64 wd] w fun e w' => e = .returned (.bool false) ∧ w = w' := by
  rcases h with h | h
  · have h1 : ¬ 1 ≤ wd := by omega
    go_enter Tryz.func172, Tryz.ntmps172
    go_wp2
    go_ret
    exact ⟨rfl, rfl⟩
  · have h1 : 1 ≤ wd := by omega
    have h2 : ¬ wd ≤ 8 := by omega
    go_enter Tryz.func172, Tryz.ntmps172
    go_wp2
    go_ret
    exact ⟨rfl, rfl⟩

set_option maxRecDepth 100000 in
set_option maxHeartbeats 400000 in
theorem put_nowidth (n wd : Int) (w : World) (h : wd < 1 ∨ 8 < wd) : Calls Tryz.prog 180 #[.int .u64 n, .int .i64 wd] w fun e w' => e = .returned (.tuple #[.string ⟨#[]⟩, .int .i64 2]) ∧ Below w.heap.size w w' := by
  have H := Lib.hid h
  clear h
  go_enter Tryz.func180, Tryz.ntmps180
  go_wp2
  go_step3
  go_wp2_with (go_at_call 172; refine (isWidth_no _ _ H.out).mono ?_; rintro e w' ⟨rfl, rfl⟩)
  rw [Exit.noGoto_ret]
  go_ret2
  exact ⟨rfl, (Below.refl _ _).alloc (Nat.le_refl _) _⟩

set_option maxRecDepth 100000 in
set_option maxHeartbeats 400000 in
theorem put_in (n k : Nat) (w : World) (hn : n < 256 ^ 8) (h1 : 1 ≤ k) (h2 : k ≤ 8) :
    CallsIn Fence.wide 9 Tryz.prog 180 #[.int .u64 n, .int .i64 k] w fun e w' => e = .returned (.tuple #[.string (putS n k), .int .i64 (putE n k)]) ∧ Below w.heap.size w w' := by
  have hmk := fun W : World => run_make_row' (P := Tryz.prog) 44 5 (.int .u8 0) 1 Tryz.underlying44 infoByte rfl .i64 .i64 k (by omega) (by omega) W
  have hfn : ∀ f, Fence.wide.fn f := fun _ => trivial
  refine callsIn_of_wp_marks Tryz.func180 rfl trivial ?_ rfl
  simp only [Tryz.ntmps180, List.size_toArray, List.length_cons, List.length_nil, Nat.reduceAdd, Nat.reduceSub, Array.replicate_succ, Array.replicate_zero, List.push_toArray, List.append_toArray, List.nil_append, List.cons_append]
  gi_wp2
  apply wide_scope
  gi_wp2_with (first | (gi_at_call 172; refine (callsIn_wide.2 (isWidth_yes _ _ (by omega) (by omega))).mono ?_; rintro e w' ⟨rfl, rfl⟩) | (gi_at_call 193; refine (bytesOf_in Fence.wide _ trivial rfl _ _).mono ?_; rintro e w' ⟨rfl, rfl⟩))
  apply wide_label
  gi_wp2_with (gi_at_call 193; refine (bytesOf_in Fence.wide _ trivial rfl _ _).mono ?_; rintro e w' ⟨rfl, rfl⟩)
  obtain ⟨W0, hW0⟩ : ∃ W0, ((((w.alloc (.cells #[.int .i64 k] 3)).alloc (.cells (madeCells #[.int .u8 0] k) 5)).alloc (.cells #[.slice (some ⟨w.heap.size + 1, 0, none⟩) k k] 44)).alloc (.cells #[.bool true] 4)).alloc (.cells #[.int .u64 n] 32) = W0 := ⟨_, rfl⟩
  have hs0 : W0.heap.size = w.heap.size + 5 := by rw [← hW0]; simp
  have hB0 : Boxed W0 w.heap.size 3 (.int .i64 k) := by rw [← hW0]; exact ((((Boxed.new _ _ _).alloc _).alloc _).alloc _).alloc _
  have hrow0 : W0.rowIs (w.heap.size + 1) 5 k (fun _ => .int .u8 0) := by
    rw [← hW0]
    have := World.rowIs_made (w.alloc (.cells #[.int .i64 k] 3)) (.int .u8 0) k 5
    rw [World.size_alloc] at this
    exact ((this.alloc _).alloc _).alloc _
  have hB2 : Boxed W0 (w.heap.size + 1 + 1) 44 (.slice (some ⟨w.heap.size + 1, 0, none⟩) k k) := by
    rw [← hW0]
    have := Boxed.new ((w.alloc (.cells #[.int .i64 k] 3)).alloc (.cells (madeCells #[.int .u8 0] k) 5)) 44 (.slice (some ⟨w.heap.size + 1, 0, none⟩) k k)
    simp only [World.size_alloc] at this
    exact (this.alloc _).alloc _
  have hB3 : Boxed W0 (w.heap.size + 1 + 1 + 1) 4 (.bool true) := by
    rw [← hW0]
    have := Boxed.new (((w.alloc (.cells #[.int .i64 k] 3)).alloc (.cells (madeCells #[.int .u8 0] k) 5)).alloc (.cells #[.slice (some ⟨w.heap.size + 1, 0, none⟩) k k] 44)) 4 (.bool true)
    simp only [World.size_alloc] at this
    exact this.alloc _
  have hB4 : Boxed W0 (w.heap.size + 1 + 1 + 1 + 1) 32 (.int .u64 n) := by
    rw [← hW0]
    have := Boxed.new ((((w.alloc (.cells #[.int .i64 k] 3)).alloc (.cells (madeCells #[.int .u8 0] k) 5)).alloc (.cells #[.slice (some ⟨w.heap.size + 1, 0, none⟩) k k] 44)).alloc (.cells #[.bool true] 4)) 32 (.int .u64 n)
    simp only [World.size_alloc] at this
    exact this
  have hBW : Below w.heap.size w W0 := by
    rw [← hW0]
    exact (((((Below.refl _ w).alloc (Nat.le_refl _) _).alloc (by simp) _).alloc (by simp; omega) _).alloc (by simp; omega) _).alloc (by simp; omega) _
  rw [hW0]
  refine wpIn_rangeFunc_ownF rfl (by decide) (gf := 200) (lb := #[.pointer (some ⟨w.heap.size + 1 + 1 + 1 + 1, 0, none⟩)]) rfl trivial (enters_of Tryz.func200 (by kernel_rfl) rfl)
    (bytesOf_stops Fence.wide _ trivial rfl (by decide) (w.heap.size + 1 + 1 + 1 + 1) n W0 (by omega) hB4.cell) sameK_t (sameK_b (by simp; omega)) (Below.refl _ _) (fun _ => rfl)
    (fun pre W => (W.rowIs (w.heap.size + 1) 5 k (outF n pre) ∧ Boxed W w.heap.size 3 (.int .i64 k) ∧ Boxed W (w.heap.size + 1 + 1) 44 (.slice (some ⟨w.heap.size + 1, 0, none⟩) k k) ∧ Boxed W (w.heap.size + 1 + 1 + 1) 4 (.bool true) ∧ (∀ j, j ∈ pre → k ≤ j → nbyte n j = 0)) ∧ Below w.heap.size w W)
    (fun c pre W => (c = .exit 0 ∧ Boxed W (w.heap.size + 1 + 1 + 1) 4 (.bool false) ∧ (∃ j, j ∈ pre ∧ k ≤ j ∧ nbyte n j ≠ 0)) ∧ Below w.heap.size w W)
    (OwnFrom.and (Own.from (fun s A B row hs hg hr => ⟨rowIs_kept hs.1 hg hr, boxed_kept hs.2.1 hg hr, boxed_kept hs.2.2.1 hg hr, boxed_kept hs.2.2.2.1 hg hr, hs.2.2.2.2⟩) _) (ownFrom_below (Nat.le_refl _) (by omega)))
    (fun c => OwnFrom.and (Own.from (fun s A B row hs hg hr => ⟨hs.1, boxed_kept hs.2.1 hg hr, hs.2.2⟩) _) (ownFrom_below (Nat.le_refl _) (by omega)))
    ⟨⟨hrow0.congr (fun i hi => by simp [outF]), hB0, hB2, hB3, by simp⟩, hBW⟩
    (fun x => { tmps := #[.int .u64 n, .int .i64 k, undef, .pointer (some ⟨w.heap.size, 0, none⟩), .string ⟨#[]⟩, .int .i64 0, .pointer (some ⟨w.heap.size + 1 + 1, 0, none⟩), .pointer (some ⟨w.heap.size + 1 + 1 + 1, 0, none⟩), .int .i64 (x : Int), .int .u8 ((n : Int) / 2 ^ (8 * x) % 256), .int .i64 k, .bool true, .bool false, .int .i64 k, .slice (some ⟨w.heap.size + 1, 0, none⟩) k k, .int .u64 n, .func (.func 200) #[] #[.pointer (some ⟨w.heap.size + 1 + 1 + 1 + 1, 0, none⟩)], .int .i64 (x : Int), .int .u8 ((n : Int) / 2 ^ (8 * x) % 256), undef, undef, undef, undef, undef, undef, undef, undef, undef, undef, undef, undef, undef, undef, undef], defers := [] }) ?assign ?body ?done ?stop
  case assign =>
    intro l x W K hK
    gi_wp2
    exact hK
  case body =>
    rintro l pre x W ⟨⟨hrow, hb0, hb2, hb3, hz⟩, hB⟩ _
    have c0 := hb0.cell
    have c2 := hb2.cell
    have c3 := hb3.cell
    have f3 := hb3.frozen
    by_cases hx : x < k
    · have cr := hrow.cell hx
      have fr := hrow.frozen x
      gi_wp2
      refine ⟨KeepsOthers.setCell _ _ _, Same.setCell _ (by simp) _, ⟨?_, boxed_setOther hb0 (by simp), boxed_setOther hb2 (by simp), boxed_setOther hb3 (by simp; omega), ?_⟩, hB.setCell (p := ⟨w.heap.size + 1, x, none⟩) (by simp) _⟩
      · refine (hrow.set x _).congr (fun i hi => ?_)
        by_cases hix : i = x
        · subst hix
          simp [outF, nbyte]
        · simp [outF, hix]
      · intro j hj hkj
        rcases List.mem_append.1 hj with h | h
        · exact hz j h hkj
        · simp at h; omega
    · have hx' : ¬ ((x : Int) < (k : Int)) := by omega
      have hrow' : W.rowIs (w.heap.size + 1) 5 k (outF n (pre ++ [x])) := hrow.congr (fun i hi => by
        have : i ≠ x := by omega
        simp [outF, this])
      by_cases hz0 : nbyte n x = 0
      · have HZ := Lib.hid hz0
        have hb1 : ((n : Int) / 2 ^ (8 * x) % 256 != 0) = false := by have := hz0; unfold nbyte at this; simp [this]
        clear hz0
        gi_wp2
        refine ⟨KeepsOthers.refl _, Same.refl _ _, ⟨hrow', hb0, hb2, hb3, ?_⟩, hB⟩
        intro j hj hkj
        rcases List.mem_append.1 hj with h | h
        · exact hz j h hkj
        · simp at h; subst h; exact HZ.out
      · have HZ := Lib.hid hz0
        have hb1 : ((n : Int) / 2 ^ (8 * x) % 256 != 0) = true := by have := hz0; unfold nbyte at this; simp [this]
        clear hz0
        gi_wp2
        exact ⟨KeepsOthers.setCell _ _ _, ⟨rfl, hb3.set _, x, by simp, by omega, HZ.out⟩, hB.setCell (p := ⟨w.heap.size + 1 + 1 + 1, 0, none⟩) (by simp; omega) _⟩
  case done =>
    rintro D xs W hD rfl ⟨⟨hrow, hb0, hb2, hb3, hz⟩, hB⟩ hK
    have c2 := hb2.cell
    have c3 := hb3.cell
    have hcv := run_convert_bytes_arg (P := Tryz.prog) W 44 5 Tryz.underlying44 Tryz.underlying5 (w.heap.size + 1) 0 k k (numL n k) (numL_length n k) (fun i hi => by
      rw [Nat.zero_add, hrow.cell hi]
      have : i ∈ List.range 8 := by simp; omega
      simp [outF, numL, this, hi]) 9 Tryz.underlying9
    have hok : putOk n (k : Int) := ⟨by omega, by omega, by
      rw [Int.toNat_natCast]
      refine small_of_high n k (8 - k) ?_ fun j h1 h2 => hz j (by simp; omega) h1
      rw [show k + (8 - k) = 8 from by omega]
      exact hn⟩
    have HS : Hid (putS n (k : Int) = strOfNums (numL n k)) := by rw [putS_yes hok, Int.toNat_natCast]; rfl
    have HE := Lib.hid (putE_yes hok)
    clear hok hz
    gi_wp2
    refine ⟨by simp, .inl ⟨_, _, rfl, run_takeDeferred hK, ?_⟩⟩
    exact ⟨_, results_tmp2 rfl _ _ _, by rw [HS.out, HE.out]; rfl, hB.trans (belowK_b (w := w) (Nat.le_refl _) W D _ _ (by omega) hK rfl rfl)⟩
  case stop =>
    rintro D c pre W hD ⟨kk, hkk, rfl⟩ ⟨⟨rfl, hb3, j, hj, hkj, hnz⟩, hB⟩ hK
    have c3 := hb3.cell
    have hno : ¬ putOk n (k : Int) := fun h => hnz (high_zero n k (by have := h.2.2; rwa [Int.toNat_natCast] at this) j hkj)
    have HS := Lib.hid (putS_no hno)
    have HE := Lib.hid (putE_no hno)
    clear hno hnz
    gi_wp2
    refine ⟨by simp, .inl ⟨_, _, rfl, run_takeDeferred hK, ?_⟩⟩
    exact ⟨_, results_tmp2 rfl _ _ _, by rw [HS.out, HE.out]; rfl, hB.trans (belowK_b (w := w) (Nat.le_refl _) W D _ _ (by omega) hK rfl rfl)⟩

/-- Put, whatever its number and width -/
theorem put_any (n : Nat) (wd : Int) (w : World) (hn : n < 256 ^ 8) :
    Calls Tryz.prog 180 #[.int .u64 n, .int .i64 wd] w fun e w' => e = .returned (.tuple #[.string (putS n wd), .int .i64 (putE n wd)]) ∧ Below w.heap.size w w' := by
  by_cases h : 1 ≤ wd ∧ wd ≤ 8
  · obtain ⟨k, rfl⟩ := Int.eq_ofNat_of_zero_le (show 0 ≤ wd by omega)
    exact callsIn_wide.1 (put_in n k w hn (by omega) (by omega))
  · refine (put_nowidth n wd w (by omega)).mono fun e w' ⟨he, hb⟩ => ⟨?_, hb⟩
    have hno : ¬ putOk n wd := fun hh => h ⟨hh.1, hh.2.1⟩
    rw [he]
    exact ret_se (putS_no hno) (putE_no hno)

end Go.Proofs.YtkipkcmcolomcaaGreat
/- The document's own answers on numbers as bytes: Bytes and Put of the reference package. -/
namespace Go.Proofs.YtkipkcmcolomcaaGreat
open Go.RowKit Go.Shelf
set_option linter.unusedVariables false

theorem numL_succ (n j : Nat) : numL n (j + 1) = numL n j ++ [nbyte n j] := by simp [numL, List.range_succ]
theorem shift_eight (n j : Nat) : (n : Int) / 2 ^ (8 * j) / 2 ^ 8 = (n : Int) / 2 ^ (8 * (j + 1)) := by
  rw [Int.ediv_ediv_of_nonneg (Int.pow_nonneg (by decide)), ← Int.pow_add, Nat.mul_succ]
theorem shift_range (n j : Nat) (hn : n < 256 ^ 8) : 0 ≤ (n : Int) / 2 ^ (8 * j) ∧ (n : Int) / 2 ^ (8 * j) ≤ 18446744073709551615 := by
  have e : (2 : Int) ^ (8 * j) = ((256 ^ j : Nat) : Int) := by
    rw [show (256 : Nat) = 2 ^ 8 from rfl, ← Nat.pow_mul]
    simp
  rw [e, ← Int.natCast_ediv]
  have h := Nat.div_le_self n (256 ^ j)
  generalize n / 256 ^ j = q at *
  have e8 : 256 ^ 8 = 18446744073709551616 := by decide
  omega

set_option maxRecDepth 100000 in
set_option maxHeartbeats 400000 in
theorem bytes_ref (n k : Nat) (w : World) (hn : n < 256 ^ 8) (h1 : 1 ≤ k) (h2 : k ≤ 8) :
    Calls Tryz.prog 135 #[.int .u64 n, .int .i64 k] w fun e w' => e = .returned (.string (numB n k)) ∧ Below w.heap.size w w' := by
  obtain ⟨i0, hi, hz0, hz1, hz2⟩ := info_parts infoByte
  go_enter Tryz.func135, Tryz.ntmps135
  go_wp2
  go_loopw [0, 5, 6] (fun nv v i wr => ∃ (j : Nat) (m : Int), j ≤ k ∧ i = .int .i64 j ∧ nv = .int .u64 m ∧ Hid (m = (n : Int) / 2 ^ (8 * j)) ∧ wr.ownsRow w.heap.size 5 1 v j ((numL n j).map (Value.int .u8)) ∧ Below w.heap.size w wr)
    (fun _ _ i _ => k - (intOf i).toNat)
  case atStart => exact ⟨0, (n : Int), Nat.zero_le _, rfl, rfl, by simp [Hid], World.ownsRow_nil _ _ _ _, Below.refl _ _⟩
  case round =>
    obtain ⟨j, m, hj, rfl, rfl, HM, hown, hB⟩ := hrel
    have hsz := hB.size
    have hm : 0 ≤ m ∧ m ≤ 18446744073709551615 := by rw [HM.out]; exact shift_range n j hn
    by_cases hlt : j < k
    · go_wp2_with (at_builtin; go_must (refine wpList_append_own _ rfl _ _ 44 rfl w.heap.size 5 i0 (.int .u8 0) 1 1 Tryz.underlying44 hi hz0 hz1 hz2 rfl (by decide) _ _ _ rfl (hown.alloc _) ⟨wr.heap.size, 0, none⟩ 1 1 [.int .u8 (m % 256)] rfl rfl (cell_one_new _ _ _) (by simp [Value.oneCell']) (by unfold maxLen; omega) (by omega) (by simp; omega) ?_; intro v' w1 hown' hgrow _))
      have HO : Hid (w1.ownsRow w.heap.size 5 1 v' (j + 1) ((numL n (j + 1)).map (Value.int .u8))) := by
        rw [numL_succ, List.map_append]
        have e : m % 256 = nbyte n j := by rw [HM.out]; rfl
        rw [e] at hown'
        exact hown'
      obtain ⟨g', cap', rfl⟩ := ownsRow_succ hown'
      have HB : Below w.heap.size w w1 := (hB.alloc hB.size _).grown hgrow (by simp; omega) (fun r e => (hown.lt r e).1)
      have HM2 : Hid (m / 256 = (n : Int) / 2 ^ (8 * (j + 1))) := by rw [HM.out]; exact shift_eight n j
      clear hown hown' hgrow
      go_wp2
      go_roundw
      case rel => exact ⟨j + 1, m / 256, by omega, by go_num, rfl, HM2, HO, HB⟩
      case measure => simp [intOf]; omega
    · obtain rfl : j = k := by omega
      obtain ⟨k', rfl⟩ : ∃ k', j = k' + 1 := ⟨j - 1, by omega⟩
      obtain ⟨g, cap, rfl⟩ := ownsRow_succ hown
      have hcv := run_convert_bytes_arg (P := Tryz.prog) wr 44 5 Tryz.underlying44 Tryz.underlying5 g 0 (k' + 1) cap (numL n (k' + 1)) (numL_length n (k' + 1)) (fun i hi => by
        rw [Nat.zero_add, hown.cellAt i (by omega)]
        simp [numL, hi]) 9 Tryz.underlying9
      go_wp2
      go_ret
      exact ⟨rfl, hB⟩

theorem eight : (256 : Nat) ^ 8 = 18446744073709551616 := by decide
theorem pow_int (k : Nat) : (2 : Int) ^ (8 * k) = ((256 ^ k : Nat) : Int) := by
  rw [show (256 : Nat) = 2 ^ 8 from rfl, ← Nat.pow_mul]
  simp
theorem fits_iff (n k : Nat) : ((n : Int) / 2 ^ (8 * k) = 0) ↔ n < 256 ^ k := by
  rw [pow_int, ← Int.natCast_ediv]
  have h := Nat.div_eq_zero_iff (a := n) (b := 256 ^ k)
  have hp : 256 ^ k ≠ 0 := Nat.pos_iff_ne_zero.1 (Nat.pow_pos (by decide))
  generalize 256 ^ k = q at *
  omega

end Go.Proofs.YtkipkcmcolomcaaGreat
/- Take answers the number that the bytes from its place on are, and an error where the width is none or they are too few. -/
namespace Go.Proofs.YtkipkcmcolomcaaGreat
open Go.RowKit Go.Shelf
attribute [local go_sem] Oper.semAt_some
set_option linter.unusedVariables false

/-- are there so many bytes from at on? -/
def hasP (s : ByteArray) (at0 cnt : Int) : Prop := 0 ≤ at0 ∧ cnt ≤ (s.size : Int) - at0
instance (s : ByteArray) (at0 cnt : Int) : Decidable (hasP s at0 cnt) := by unfold hasP; infer_instance

set_option maxRecDepth 100000 in
theorem has_yes (s : ByteArray) (at0 cnt : Int) (w : World) (hs : s.size ≤ maxLen) (h : hasP s at0 cnt) (hat : at0 ≤ 9223372036854775807) : Calls Tryz.prog 173 #[.string s, .int .i64 at0, .int .i64 cnt] w fun e w' => e = .returned (.bool true) ∧ w = w' := by
  obtain ⟨h0, h1⟩ := h
  unfold maxLen at hs
  go_enter Tryz.func173, Tryz.ntmps173
  go_wp2
  go_ret
  exact ⟨rfl, rfl⟩

set_option maxRecDepth 100000 in
theorem has_no (s : ByteArray) (at0 cnt : Int) (w : World) (hs : s.size ≤ maxLen) (h : ¬ hasP s at0 cnt) (hat : at0 ≤ 9223372036854775807) : Calls Tryz.prog 173 #[.string s, .int .i64 at0, .int .i64 cnt] w fun e w' => e = .returned (.bool false) ∧ w = w' := by
  unfold maxLen at hs
  by_cases h0 : 0 ≤ at0
  · have h1 : ¬ cnt ≤ (s.size : Int) - at0 := fun hh => h ⟨h0, hh⟩
    clear h
    go_enter Tryz.func173, Tryz.ntmps173
    go_wp2
    go_ret
    exact ⟨rfl, rfl⟩
  · clear h
    go_enter Tryz.func173, Tryz.ntmps173
    go_wp2
    go_ret
    exact ⟨rfl, rfl⟩

/-- what the loop has put together -/
def accT (s : ByteArray) (at0 : Nat) (pre : List Place) : Int := pre.foldl (fun a x => bits BinOp.or IntKind.u64 a (IntKind.u64.wrap (sbyte s (at0 + x.1) * 2 ^ min (8 * x.1) 64))) 0
theorem accT_snoc (s : ByteArray) (at0 : Nat) (pre : List Place) (x : Place) : accT s at0 (pre ++ [x]) = bits BinOp.or IntKind.u64 (accT s at0 pre) (IntKind.u64.wrap (sbyte s (at0 + x.1) * 2 ^ min (8 * x.1) 64)) := by simp [accT]

theorem accT_eq (s : ByteArray) (at0 : Nat) : ∀ (j : Nat) (pre : List Place), j ≤ 8 → pre.map (·.1) = List.range j → accT s at0 pre = (takeN s at0 j : Int)
  | 0, pre, _, h => by
    obtain rfl : pre = [] := List.map_eq_nil_iff.1 h
    rfl
  | j + 1, pre, hj, h => by
    rw [List.range_succ] at h
    obtain ⟨p1, p2, rfl, h1, h2⟩ := List.map_eq_append_iff.1 h
    obtain ⟨x, rfl, hx⟩ : ∃ x, p2 = [x] ∧ x.1 = j := by
      cases p2 with
      | nil => cases h2
      | cons x r => cases r with
        | nil => simp at h2; exact ⟨x, rfl, h2⟩
        | cons y r => simp at h2
    rw [accT_snoc, accT_eq s at0 j p1 (by omega) h1, hx, sbyte_eq, or_high _ _ _ (takeN_lt _ _ _) (sb_lt _ _) (by omega)]
    rfl

/-- are there a number's bytes? -/
def takeOk (s : ByteArray) (at0 wd : Int) : Prop := 1 ≤ wd ∧ wd ≤ 8 ∧ hasP s at0 wd
instance (s : ByteArray) (at0 wd : Int) : Decidable (takeOk s at0 wd) := by unfold takeOk; infer_instance
/-- what Take answers -/
def takeV (s : ByteArray) (at0 wd : Int) : Int := if takeOk s at0 wd then (takeN s at0.toNat wd.toNat : Int) else 0
def takeE (s : ByteArray) (at0 wd : Int) : Int := if takeOk s at0 wd then 0 else 2
theorem takeV_yes {s : ByteArray} {at0 wd : Int} (h : takeOk s at0 wd) : takeV s at0 wd = (takeN s at0.toNat wd.toNat : Int) := if_pos h
theorem takeV_no {s : ByteArray} {at0 wd : Int} (h : ¬ takeOk s at0 wd) : takeV s at0 wd = 0 := if_neg h
theorem takeE_yes {s : ByteArray} {at0 wd : Int} (h : takeOk s at0 wd) : takeE s at0 wd = 0 := if_pos h
theorem takeE_no {s : ByteArray} {at0 wd : Int} (h : ¬ takeOk s at0 wd) : takeE s at0 wd = 2 := if_neg h
theorem ret_ve {j k : IntKind} {x y a b : Int} (h : x = y) (h2 : a = b) : Ending.returned (.tuple #[.int j y, .int k b]) = .returned (.tuple #[.int j x, .int k a]) := by rw [h, h2]

set_option maxRecDepth 100000 in
set_option maxHeartbeats 1000000 in
theorem take_in (s : ByteArray) (at0 k : Nat) (w : World) (hs : s.size ≤ 281474976710656) (h1 : 1 ≤ k) (h2 : k ≤ 8) (hk : at0 + k ≤ s.size) :
    CallsIn Fence.wide 9 Tryz.prog 144 #[.string s, .int .i64 at0, .int .i64 k] w fun e w' => e = .returned (.tuple #[.int .u64 (takeN s at0 k), .int .i64 0]) ∧ Below w.heap.size w w' := by
  have hfn : ∀ f, Fence.wide.fn f := fun _ => trivial
  have hsm : s.size ≤ maxLen := by unfold maxLen; omega
  have hhas : Hid (hasP s (at0 : Int) (k : Int)) := ⟨by omega, by omega⟩
  refine callsIn_of_wp_marks Tryz.func144 rfl trivial ?_ rfl
  simp only [Tryz.ntmps144, List.size_toArray, List.length_cons, List.length_nil, Nat.reduceAdd, Nat.reduceSub, Array.replicate_succ, Array.replicate_zero, List.push_toArray, List.append_toArray, List.nil_append, List.cons_append]
  gi_wp2
  apply wide_scope
  gi_wp2_with (first | (gi_at_call 172; refine (callsIn_wide.2 (isWidth_yes _ _ (by omega) (by omega))).mono ?_; rintro e w' ⟨rfl, rfl⟩) | (gi_at_call 173; refine (callsIn_wide.2 (has_yes _ _ _ _ hsm hhas.out (by omega))).mono ?_; rintro e w' ⟨rfl, rfl⟩))
  apply wide_label
  gi_wp2_with (gi_at_call 174; refine (bytesFrom_in _ _ _ _).mono ?_; rintro e w' ⟨rfl, rfl⟩)
  obtain ⟨W0, hW0⟩ : ∃ W0, (((w.alloc (.cells #[.int .i64 k] 3)).alloc (.cells #[.int .u64 0] 32)).alloc (.cells #[.string s] 9)).alloc (.cells #[.int .i64 at0] 3) = W0 := ⟨_, rfl⟩
  have hs0 : W0.heap.size = w.heap.size + 4 := by rw [← hW0]; simp
  have hB0 : Boxed W0 w.heap.size 3 (.int .i64 k) := by rw [← hW0]; exact (((Boxed.new _ _ _).alloc _).alloc _).alloc _
  have hB1 : Boxed W0 (w.heap.size + 1) 32 (.int .u64 0) := by
    rw [← hW0]
    have := Boxed.new (w.alloc (.cells #[.int .i64 k] 3)) 32 (.int .u64 0)
    simp only [World.size_alloc] at this
    exact (this.alloc _).alloc _
  have hB2 : Boxed W0 (w.heap.size + 1 + 1) 9 (.string s) := by
    rw [← hW0]
    have := Boxed.new ((w.alloc (.cells #[.int .i64 k] 3)).alloc (.cells #[.int .u64 0] 32)) 9 (.string s)
    simp only [World.size_alloc] at this
    exact this.alloc _
  have hB3 : Boxed W0 (w.heap.size + 1 + 1 + 1) 3 (.int .i64 at0) := by
    rw [← hW0]
    have := Boxed.new (((w.alloc (.cells #[.int .i64 k] 3)).alloc (.cells #[.int .u64 0] 32)).alloc (.cells #[.string s] 9)) 3 (.int .i64 at0)
    simp only [World.size_alloc] at this
    exact this
  have hBW : Below w.heap.size w W0 := by
    rw [← hW0]
    exact ((((Below.refl _ w).alloc (Nat.le_refl _) _).alloc (by simp) _).alloc (by simp; omega) _).alloc (by simp; omega) _
  rw [hW0]
  refine wpIn_rangeFunc_ownF rfl (by decide) (gf := 191) (lb := #[.pointer (some ⟨w.heap.size + 1 + 1 + 1, 0, none⟩), .pointer (some ⟨w.heap.size + 1 + 1, 0, none⟩)]) rfl trivial (enters_of Tryz.func191 (by kernel_rfl) rfl)
    (bytesFrom_stops _ (by decide) (w.heap.size + 1 + 1 + 1) (w.heap.size + 1 + 1) s at0 hs (by omega) W0 (by omega) (by omega) hB3.cell hB2.cell) sameK_t (sameK_b (by simp; omega)) (Below.refl _ _) (fun _ => rfl)
    (fun pre W => (Boxed W w.heap.size 3 (.int .i64 k) ∧ Boxed W (w.heap.size + 1) 32 (.int .u64 (accT s at0 pre)) ∧ (∀ y, y ∈ pre → y.1 ≠ k)) ∧ Below w.heap.size w W)
    (fun c pre W => (c = .exit 0 ∧ ∃ pre0 x, pre = pre0 ++ [x] ∧ x.1 = k ∧ Boxed W (w.heap.size + 1) 32 (.int .u64 (accT s at0 pre0))) ∧ Below w.heap.size w W)
    (OwnFrom.and (Own.from (fun s A B row hs hg hr => ⟨boxed_kept hs.1 hg hr, boxed_kept hs.2.1 hg hr, hs.2.2⟩) _) (ownFrom_below (Nat.le_refl _) (by omega)))
    (fun c => OwnFrom.and (Own.from (fun s A B row hs hg hr => by obtain ⟨hc, pre0, x, hp, hx, hb⟩ := hs; exact ⟨hc, pre0, x, hp, hx, boxed_kept hb hg hr⟩) _) (ownFrom_below (Nat.le_refl _) (by omega)))
    ⟨⟨hB0, hB1, by simp⟩, hBW⟩
    (fun x => { tmps := #[.string s, .int .i64 at0, .int .i64 k, undef, undef, .pointer (some ⟨w.heap.size, 0, none⟩), .int .u64 0, .int .i64 0, .pointer (some ⟨w.heap.size + 1, 0, none⟩), .int .i64 (x.1 : Int), .int .u8 (sbyte s (at0 + x.1)), .int .i64 k, .bool true, .bool false, .bool false, .string s, .int .i64 at0, .int .i64 k, .bool true, .bool false, .bool false, .string s, .int .i64 at0, .func (.func 191) #[] #[.pointer (some ⟨w.heap.size + 1 + 1 + 1, 0, none⟩), .pointer (some ⟨w.heap.size + 1 + 1, 0, none⟩)], .int .i64 (x.1 : Int), .int .u8 (sbyte s (at0 + x.1)), undef, undef, undef, undef, undef, undef, undef, undef, undef, undef, undef], defers := [] }) ?assign ?body ?done ?stop
  case assign =>
    intro l x W K hK
    gi_wp2
    exact hK
  case body =>
    rintro l pre x W ⟨⟨hb0, hb1, hne⟩, hB⟩ _
    obtain ⟨x, hx⟩ := x
    have c0 := hb0.cell
    have c1 := hb1.cell
    have f1 := hb1.frozen
    have hmix : Tryz.prog.follows .mixedOrders = true := by kernel_rfl
    have hby := sbyte_range s (at0 + x)
    by_cases hxk : x = k
    · have hq : ((x : Int) == (k : Int)) = true := by subst hxk; simp
      have HX := Lib.hid hxk
      clear hxk
      gi_wp2
      exact ⟨KeepsOthers.refl _, ⟨rfl, pre, _, rfl, HX.out, hb1⟩, hB⟩
    · have hq : ((x : Int) == (k : Int)) = false := by simp; omega
      have e0 : (0 : Int) ≤ 8 * (x : Int) := by omega
      have e1 : IntKind.i64.wrap (8 * (x : Int)) = 8 * (x : Int) := IntWalk.i64_in _ (by omega)
      have e2 : IntKind.u64.wrap (sbyte s (at0 + x)) = sbyte s (at0 + x) := by rw [IntKind.wrap_u64]; omega
      have e3 : (8 * (x : Int)).toNat = 8 * x := by omega
      gi_wp2
      have HA : Hid (accT s at0 (pre ++ [⟨x, hx⟩]) = bits BinOp.or IntKind.u64 (accT s at0 pre) (IntKind.u64.wrap (sbyte s (at0 + x) * 2 ^ min (8 * x) 64))) := accT_snoc s at0 pre ⟨x, hx⟩
      have HN : Hid (∀ y, y ∈ pre ++ [⟨x, hx⟩] → y.1 ≠ k) := by
        intro y hy
        rcases List.mem_append.1 hy with h | h
        · exact hne y h
        · simp at h; subst h; exact hxk
      gi_region_with_o (fail)
      all_goals
        clear e0 e1 e2 e3
        gi_wp2
        exact ⟨(KeepsOthers.setCell _ _ _).trans (KeepsOthers.drew _), (Same.setCell _ (by simp) _).trans (Same.drew _ _), ⟨boxed_setOther hb0 (by simp), by rw [HA.out]; exact hb1.set _, HN.out⟩, (hB.setCell (p := ⟨w.heap.size + 1, 0, none⟩) (by simp) _).drew⟩
  case done =>
    rintro D ys W hD hys ⟨⟨hb0, hb1, hne⟩, hB⟩ hK
    have hlen : s.size - at0 = k := by
      rcases Nat.lt_or_ge k (s.size - at0) with h | h
      · have : k ∈ ys.map (·.1) := by rw [hys]; simpa using h
        obtain ⟨y, hy, hyk⟩ := List.mem_map.1 this
        exact absurd hyk (hne y hy)
      · omega
    rw [hlen] at hys
    have HV := Lib.hid (accT_eq s at0 k ys h2 hys)
    have c1 := hb1.cell
    clear hlen hys hne
    gi_wp2
    refine ⟨by simp, .inl ⟨_, _, rfl, run_takeDeferred hK, ?_⟩⟩
    exact ⟨_, results_tmp2 rfl _ _ _, by rw [← HV.out]; rfl, hB.trans (belowK_b (w := w) (Nat.le_refl _) W D _ _ (by omega) hK rfl rfl)⟩
  case stop =>
    rintro D c pre W hD ⟨kk, hkk, hpre⟩ ⟨⟨rfl, pre0, x, rfl, hxk, hb1⟩, hB⟩ hK
    have h0 : pre0.map (·.1) = List.range k := by
      cases kk with
      | zero => simp at hpre
      | succ q =>
        rw [List.map_append, List.range_succ] at hpre
        obtain ⟨e1, e2⟩ := List.append_inj' hpre rfl
        simp at e2
        rw [e1]
        have : q = k := by omega
        rw [this]
    have HV := Lib.hid (accT_eq s at0 k pre0 h2 h0)
    have c1 := hb1.cell
    clear h0 hpre
    gi_wp2
    refine ⟨by simp, .inl ⟨_, _, rfl, run_takeDeferred hK, ?_⟩⟩
    exact ⟨_, results_tmp2 rfl _ _ _, by rw [← HV.out]; rfl, hB.trans (belowK_b (w := w) (Nat.le_refl _) W D _ _ (by omega) hK rfl rfl)⟩

set_option maxRecDepth 100000 in
set_option maxHeartbeats 400000 in
theorem take_nowidth (s : ByteArray) (at0 wd : Int) (w : World) (h : wd < 1 ∨ 8 < wd) : Calls Tryz.prog 144 #[.string s, .int .i64 at0, .int .i64 wd] w fun e w' => e = .returned (.tuple #[.int .u64 0, .int .i64 2]) ∧ Below w.heap.size w w' := by
  have H := Lib.hid h
  clear h
  go_enter Tryz.func144, Tryz.ntmps144
  go_wp2
  go_step3
  go_wp2_with (go_at_call 172; refine (isWidth_no _ _ H.out).mono ?_; rintro e w' ⟨rfl, rfl⟩)
  rw [Exit.noGoto_ret]
  go_ret2
  exact ⟨rfl, (Below.refl _ _).alloc (Nat.le_refl _) _⟩

set_option maxRecDepth 100000 in
set_option maxHeartbeats 400000 in
theorem take_nohas (s : ByteArray) (at0 wd : Int) (w : World) (hs : s.size ≤ maxLen) (hat : at0 ≤ 9223372036854775807) (h1 : 1 ≤ wd) (h2 : wd ≤ 8) (h : ¬ hasP s at0 wd) : Calls Tryz.prog 144 #[.string s, .int .i64 at0, .int .i64 wd] w fun e w' => e = .returned (.tuple #[.int .u64 0, .int .i64 2]) ∧ Below w.heap.size w w' := by
  have H := Lib.hid h
  clear h
  go_enter Tryz.func144, Tryz.ntmps144
  go_wp2
  go_step3
  go_wp2_with (first | (go_at_call 172; refine (isWidth_yes _ _ (by omega) (by omega)).mono ?_; rintro e w' ⟨rfl, rfl⟩) | (go_at_call 173; refine (has_no _ _ _ _ hs H.out hat).mono ?_; rintro e w' ⟨rfl, rfl⟩))
  rw [Exit.noGoto_ret]
  go_ret2
  exact ⟨rfl, (Below.refl _ _).alloc (Nat.le_refl _) _⟩

/-- Take, whatever its text, place and width -/
theorem take_any (s : ByteArray) (at0 wd : Int) (w : World) (hs : s.size ≤ 281474976710656) (hat : at0 ≤ 9223372036854775807) :
    Calls Tryz.prog 144 #[.string s, .int .i64 at0, .int .i64 wd] w fun e w' => e = .returned (.tuple #[.int .u64 (takeV s at0 wd), .int .i64 (takeE s at0 wd)]) ∧ Below w.heap.size w w' := by
  have hsm : s.size ≤ maxLen := by unfold maxLen; omega
  by_cases h : takeOk s at0 wd
  · have h' := h
    obtain ⟨h1, h2, h3, h4⟩ := h'
    obtain ⟨k, rfl⟩ := Int.eq_ofNat_of_zero_le (show 0 ≤ wd by omega)
    obtain ⟨a, rfl⟩ := Int.eq_ofNat_of_zero_le h3
    refine (callsIn_wide.1 (take_in s a k w hs (by omega) (by omega) (by omega))).mono fun e w' ⟨he, hb⟩ => ⟨?_, hb⟩
    rw [he]
    exact ret_ve (by rw [takeV_yes h, Int.toNat_natCast, Int.toNat_natCast]) (takeE_yes h)
  · have fin : ∀ (e : Ending) (w' : World), (e = .returned (.tuple #[.int .u64 0, .int .i64 2]) ∧ Below w.heap.size w w') → e = .returned (.tuple #[.int .u64 (takeV s at0 wd), .int .i64 (takeE s at0 wd)]) ∧ Below w.heap.size w w' := fun e w' ⟨he, hb⟩ => ⟨by rw [he]; exact ret_ve (takeV_no h) (takeE_no h), hb⟩
    by_cases hw : 1 ≤ wd ∧ wd ≤ 8
    · exact (take_nohas s at0 wd w hsm hat hw.1 hw.2 (fun hh => h ⟨hw.1, hw.2, hh⟩)).mono fin
    · exact (take_nowidth s at0 wd w (by omega)).mono fin

end Go.Proofs.YtkipkcmcolomcaaGreat
