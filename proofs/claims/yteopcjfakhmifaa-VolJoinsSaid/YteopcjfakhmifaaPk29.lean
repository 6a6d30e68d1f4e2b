/- Several texts in one, each under its own heading. -/
import Derived.Test.YteopcjfakhmifaaPk28
import Derived.Lib.AppendStr
import Derived.Test.YteopcjfakhmifaaPk09
/- strings.Builder of this program: what is written stands behind what was written before. -/
namespace Go.Proofs.Yteopcjfakhmifaa.Vol
open Go.RowKit
attribute [local go_sem] Oper.semAt_some
set_option linter.unusedVariables false
set_option linter.unusedSimpArgs false
/-- a builder at block b holds the bytes l; what it needs lies from block b on -/
def Bld (w : World) (b : Nat) (l : List UInt8) : Prop := Lib.IsBuilder 65 5 b b (Lib.byteCells l) w
theorem strCells_is (s : ByteArray) : Lib.strCells s = Lib.byteCells s.data.toList := rfl
theorem byteCells_app (a b : List UInt8) : Lib.byteCells (a ++ b) = Lib.byteCells a ++ Lib.byteCells b := by simp [Lib.byteCells]
theorem bld_lt {w : World} {b : Nat} {l : List UInt8} (h : Bld w b l) : b < w.heap.size := by
  rcases h with h | h
  · exact h.lt
  · exact h.lt
theorem bld_new (w : World) : Bld (w.alloc (.cells #[.pointer none, .slice none 0 0] 65)) w.heap.size [] :=
  .inl ⟨Nat.le_refl _, .slice none 0 0, World.alloc_heap_new w _, ⟨by simp, .inl ⟨rfl, rfl⟩⟩, by simp [Value.ownBlock]⟩
theorem bld_th {w w' : World} {b : Nat} {l : List UInt8} (h : Bld w b l) (hB : Below w.heap.size w w') : Bld w' b l := by
  have hl := bld_lt h
  have k : ∀ {p : Value}, Lib.BuilderAt 65 5 b b p (Lib.byteCells l) w → Lib.BuilderAt 65 5 b b p (Lib.byteCells l) w' := fun h => by
    obtain ⟨h1, v, h2, h3, h4⟩ := h
    exact ⟨h1, v, (hB.block b hl).trans h2, own_below2 h3 hB, h4⟩
  exact h.imp k k
theorem lapp (a b : ByteArray) : (a ++ b).data.toList = a.data.toList ++ b.data.toList := by rw [ByteArray.data_append, Array.toList_append]
/-- what holds no cells lies as it lay -/
def NoC (W W' : World) : Prop := Only (fun i => ∃ c t f, W.heap[i]? = some (.cells c t f)) W W'
theorem NoC.trans {A B C : World} (h : NoC A B) (k : NoC B C) : NoC A C := Only.step h k fun i hi ⟨c, t, f, e⟩ => Classical.byContradiction fun hn => hn ⟨c, t, f, (h.block i hi hn).symm.trans e⟩
theorem NoC.of_below {A B : World} (h : Below A.heap.size A B) : NoC A B := Only.of_below h
theorem NoC.refl (A : World) : NoC A A := Only.refl _ A
theorem NoC.keeps {A B : World} (h : NoC A B) (n : Nat) : KeepsFrom n A B := keeps_of_only n h fun k hk => hk
theorem bld_kept {w w' : World} {b : Nat} {l : List UInt8} {row : Option Nat} (h : Bld w b l) (hg : w.grownBy w' row) (hr : ∀ r, row = some r → ∃ o : Obj, w.heap[r]? = some o ∧ o.isCells = false) : Bld w' b l := by
  have k : ∀ {p : Value}, Lib.BuilderAt 65 5 b b p (Lib.byteCells l) w → Lib.BuilderAt 65 5 b b p (Lib.byteCells l) w' := fun h => by
    obtain ⟨h1, v, h2, h3, h4⟩ := h
    refine ⟨h1, v, (hg.block b (Array.getElem?_eq_some_iff.1 h2).1 (fun e => ?_)).trans h2, h3.kept hg ?_, h4⟩
    · obtain ⟨o, ho, hc⟩ := hr b e.symm
      rw [h2] at ho
      cases ho
      cases hc
    · cases hv : v.ownBlock with
      | none => exact .inl rfl
      | some g =>
        right
        intro e
        obtain ⟨o, ho, hc⟩ := hr g e.symm
        rcases h3.2 with ⟨e1, _⟩ | ⟨g2, cap, cur, e1, _, hgg, _⟩
        · rw [e1] at hv; cases hv
        · rw [e1] at hv
          have e2 : g2 = g := by simpa [Value.ownBlock] using hv
          rw [e2, ho] at hgg
          cases hgg
          cases hc
  exact h.imp k k
section
set_option maxRecDepth 100000
set_option maxHeartbeats 4000000
theorem bldSize : (Try.prog.info? 65).map (·.size) = some 2 := by kernel_rfl
theorem bldLies : liesAt Try.prog Try.prog.depth 65 (2 / Try.prog.cellsOf 65) 0 65 1 = true := by kernel_rfl
theorem check_any (b : Nat) (l : List UInt8) (w : World) (h : Bld w b l) : Calls Try.prog 56 #[.pointer (some ⟨b, 0, none⟩)] w fun e w' => e = .returned (.tuple #[]) ∧ Lib.BuilderAt 65 5 b b (.pointer (some ⟨b, 0, none⟩)) (Lib.byteCells l) w' ∧ Below b w w' ∧ NoC w w' := by
  obtain ⟨j, hj, hjs⟩ := Option.map_eq_some_iff.1 bldSize
  rcases h with h | h
  · have c0 := h.cell0
    have hsh := h.shape
    have f0 := h.frozen0
    have HU := Lib.hid (h.used (.pointer (some ⟨b, 0, none⟩)))
    have HB := Lib.hid ((Below.refl b w).setCell (p := ⟨b, 0, none⟩) h.1 (.pointer (some ⟨b, 0, none⟩)))
    have HN : Hid (NoC w (w.setCell ⟨b, 0, none⟩ (.pointer (some ⟨b, 0, none⟩)))) := by
      obtain ⟨h1, v, h2, h3, h4⟩ := h
      exact Only.setCell (S := fun i => ∃ c t f, w.heap[i]? = some (.cells c t f)) (Only.refl _ w) (p := ⟨b, 0, none⟩) (.inr ⟨_, _, _, h2⟩) _
    clear h
    go_enter Try.func56, Try.ntmps56
    go_wp2
    rw [Lib.run_to_unsafe w ⟨b, 0, none⟩ Try.underlying63 Try.underlying101 hj (by rw [hjs]; decide) hsh (Nat.zero_lt_succ 1)]
    simp only [Result.andThen]
    rw [Oper.upon_value]
    go_wp2
    rw [run_callFunc_extern Try.func70 (by kernel_rfl) (by kernel_rfl) (by kernel_rfl) (e := Extern.AbiNoEscape.same) (by kernel_rfl)]
    rw [Lib.run_noEscape]
    simp only [Result.andThen]
    rw [Oper.upon_value]
    go_wp2
    rw [Lib.run_from_unsafe w ⟨b, 0, none⟩ Try.underlying101 Try.underlying63 hj hsh bldLies]
    simp only [Result.andThen]
    rw [Oper.upon_value]
    go_wp2
    go_end0
    exact ⟨rfl, HU.out, HB.out, HN.out⟩
  · have c0 := h.cell0
    have HU := Lib.hid h
    have HB := Lib.hid (Below.refl b w)
    clear h
    go_enter Try.func56, Try.ntmps56
    go_wp2
    rw [Lib.run_neq_ptr_same w _ Try.underlying63 hj]
    go_wp2
    go_end0
    exact ⟨rfl, HU.out, HB.out, NoC.refl _⟩
theorem write_any (b : Nat) (l : List UInt8) (s : ByteArray) (w : World) (h : Bld w b l) (hlen : l.length + s.size ≤ 100000) : Calls Try.prog 35 #[.pointer (some ⟨b, 0, none⟩), .string s] w fun e w' => e = .returned (.tuple #[.int .i64 s.size, .nilIface]) ∧ Bld w' b (l ++ s.data.toList) ∧ Below b w w' ∧ NoC w w' := by
  obtain ⟨i0, hi, hz0, hz1, hz2⟩ := info_parts infoByte
  have HC := Lib.hid (check_any b l w h)
  have hbl := bld_lt h
  clear h
  go_enter Try.func35, Try.ntmps35
  go_wp2_with (go_at_call 56; refine Calls.mono HC.out ?_)
  rintro e w1 ⟨rfl, h1, hb1, hno1⟩
  obtain ⟨hB, v, hbk, hown, hne⟩ := h1
  have c0 : w1.cell? ⟨b, 0, none⟩ = some (.pointer (some ⟨b, 0, none⟩)) := by rw [Lib.cell_of_heap hbk]; rfl
  have c1 : w1.cell? ⟨b, 1, none⟩ = some v := by rw [Lib.cell_of_heap hbk]; rfl
  have hlt : b < w1.heap.size := (Array.getElem?_eq_some_iff.1 hbk).1
  go_wp2_with (at_builtin; refine Lib.wpList_append_own_string _ rfl _ _ 57 9 rfl b 5 i0 Try.underlying57 Try.underlying9 hi hz0 hz1 hz2 _ _ _ rfl hown s rfl ?c3 ?c4 ?c5 ?_)
  case c3 => rw [Lib.byteCells_length]; unfold maxLen; omega
  case c4 => rw [Lib.byteCells_length]; omega
  case c5 => omega
  intro v' w2 hown' hgrow _
  have hb2 : w2.heap[b]? = some (.cells #[.pointer (some ⟨b, 0, none⟩), v] 65 (0, 0)) := by
    rw [hgrow.block b hlt (fun e => hne e.symm)]
    exact hbk
  have d0 : w2.cell? ⟨b, 0, none⟩ = some (.pointer (some ⟨b, 0, none⟩)) := by rw [Lib.cell_of_heap hb2]; rfl
  have d1 : w2.cell? ⟨b, 1, none⟩ = some v := by rw [Lib.cell_of_heap hb2]; rfl
  have f1 : w2.frozen? ⟨b, 1, none⟩ = false := Lib.frozen_of_heap hb2 1
  have hno2 : NoC w1 (w2.setCell ⟨b, 1, none⟩ v') := by
    refine Only.setCell (S := fun i => ∃ c t f, w1.heap[i]? = some (.cells c t f)) ((Only.refl _ w1).grown hgrow (fun r e => .inr ?_)) (p := ⟨b, 1, none⟩) (.inr ⟨_, _, _, hbk⟩) _
    rcases hown.2 with ⟨e1, _⟩ | ⟨g2, cap2, cur, e1, _, hgg, _⟩
    · rw [e1] at e; cases e
    · rw [e1] at e
      have e2 : g2 = r := by simpa [Value.ownBlock] using e
      rw [← e2]
      exact ⟨_, _, _, hgg⟩
  have HF : Hid (Bld (w2.setCell ⟨b, 1, none⟩ v') b (l ++ s.data.toList) ∧ Below b w (w2.setCell ⟨b, 1, none⟩ v') ∧ NoC w (w2.setCell ⟨b, 1, none⟩ v')) := by
    refine ⟨.inr ?_, (hb1.grown hgrow (by omega) (fun k hk => (hown.lt k hk).1)).setCell (p := ⟨b, 1, none⟩) (Nat.le_refl _) _, hno1.trans hno2⟩
    rw [byteCells_app, ← strCells_is]
    exact Lib.BuilderAt.put hB hb2 (by rw [List.length_append, Lib.strCells_length]; exact hown') (by decide)
  obtain ⟨a2, n2, cap2, rfl⟩ : ∃ a n cap, v' = .slice a n cap := by
    rcases hown'.2 with ⟨hv, _⟩ | ⟨g, cap, cur, hv, _⟩
    · exact ⟨_, _, _, hv⟩
    · exact ⟨_, _, _, hv⟩
  clear hown hown' hgrow hbk hb2 hne HC hno1 hno2
  go_wp2
  go_ret2
  exact ⟨rfl, HF.out⟩
theorem cellsByte : Try.prog.cellsOf 5 = 1 := by kernel_rfl
theorem noc_freeze {a w : World} (h : NoC a w) {p : Addr} (hp : ∃ c t f, w.heap[p.block]? = some (.cells c t f)) (n : Nat) : NoC a (w.freeze p n) := by
  refine h.trans ?_
  unfold World.freeze
  split
  · exact NoC.refl _
  · exact ⟨rfl, rfl, rfl, by simp, fun k hk hn => by
      have e : ¬ p.block = k := fun e => hn (e ▸ hp)
      simp only [Array.getElem?_modify]
      rw [if_neg e]⟩
/-- (*strings.Builder).String of a builder that holds a byte: what holds no cells lies as it lay -/
theorem string_any (b : Nat) (l : List UInt8) (w : World) (h : Bld w b l) (h0 : l ≠ []) :
    Calls Try.prog 36 #[.pointer (some ⟨b, 0, none⟩)] w fun e w' => e = .returned (.string ⟨l.toArray⟩) ∧ Below b w w' ∧ NoC w w' := by
  obtain ⟨p, hB, v, hbk, hown, hne⟩ : ∃ p, Lib.BuilderAt 65 5 b b p (Lib.byteCells l) w := by
    rcases h with h | h
    · exact ⟨_, h⟩
    · exact ⟨_, h⟩
  have hl0 : l.length ≠ 0 := by simpa using h0
  rw [Lib.byteCells_length] at hown
  obtain ⟨g, cap, cur, rfl, hbg, hg, hnc, hcm, hcs, htake⟩ : ∃ g cap cur, v = .slice (some ⟨g, 0, none⟩) l.length cap ∧ b ≤ g ∧ w.heap[g]? = some (.cells cur 5 (0, 0)) ∧ l.length ≤ cap ∧ cap ≤ maxLen ∧ cur.size = cap * 1 ∧ cur.toList.take (l.length * 1) = Lib.byteCells l := by
    rcases hown.2 with ⟨_, hz⟩ | ⟨g, cap, cur, hv, r⟩
    · exact absurd hz hl0
    · exact ⟨g, cap, cur, hv, r⟩
  have c1 : w.drew.cell? ⟨b, 1, none⟩ = some (.slice (some ⟨g, 0, none⟩) l.length cap) := by
    have : w.drew.heap[b]? = some (.cells #[p, .slice (some ⟨g, 0, none⟩) l.length cap] 65 (0, 0)) := hbk
    rw [Lib.cell_of_heap this]; rfl
  have hSD : (Builtin.unsafeSliceData_ #[57] 90 #[.slice (some ⟨g, 0, none⟩) l.length cap]).run Try.prog w.drew = .ok (.pointer (some ⟨g, 0, none⟩)) w.drew :=
    Lib.run_unsafeSliceData_row _ _ _ _ _ _ (by omega)
  have hUS : (Builtin.unsafeString_ #[90, 3] 9 #[.pointer (some ⟨g, 0, none⟩), .int .i64 l.length]).run Try.prog w.drew = .ok (.string ⟨l.toArray⟩) (w.drew.freeze ⟨g, 0, none⟩ l.length) := by
    refine Lib.run_unsafeString_row w.drew 90 3 9 5 Try.underlying90 cellsByte g cur.size (by have hg' : w.drew.heap[g]? = some (.cells cur 5 (0, 0)) := hg; simp [World.shape?, hg']) l h0 (by omega) (by unfold maxLen at hcm; omega) ?_
    intro j x hx
    have := hown.cells (g := g) rfl j (.int .u8 x.toNat) (by simp [Lib.byteCells, hx])
    exact this
  have HF : Hid (Below b w (w.drew.freeze ⟨g, 0, none⟩ l.length) ∧ NoC w (w.drew.freeze ⟨g, 0, none⟩ l.length)) := ⟨Lib.below_freeze (Below.drew (Below.refl b w)) (p := ⟨g, 0, none⟩) hbg _, noc_freeze (NoC.of_below ((Below.refl _ w).drew)) ⟨_, _, _, hg⟩ _⟩
  clear h hown hbk hne hg hcs htake
  go_enter Try.func36, Try.ntmps36
  go_wp2
  go_region
  all_goals (go_wp2; go_ret; exact ⟨rfl, HF.out⟩)
end
end Go.Proofs.Yteopcjfakhmifaa.Vol
/- The library's All and Values hand out texts, and inodes. -/
namespace Go.Proofs.Yteopcjfakhmifaa.Vol
open Go.RowKit
open Ino (I M)
attribute [local go_sem] Oper.semAt_some
set_option linter.unusedVariables false
set_option linter.unusedSimpArgs false
/-- the blocks below n lie as they lay -/
def KeptN (n : Nat) (W W' : World) : Prop := (∀ b, b < n → W'.heap[b]? = W.heap[b]?) ∧ W.heap.size ≤ W'.heap.size
theorem KeptN.refl (n : Nat) (W : World) : KeptN n W W := ⟨fun _ _ => rfl, Nat.le_refl _⟩
theorem KeptN.trans {n : Nat} {A B C : World} (h : KeptN n A B) (k : KeptN n B C) : KeptN n A C := ⟨fun b hb => (k.1 b hb).trans (h.1 b hb), Nat.le_trans h.2 k.2⟩
theorem KeptN.below {n : Nat} {W W' : World} (h : Below W.heap.size W W') (hn : n ≤ W.heap.size) : KeptN n W W' := ⟨fun b hb => h.block b (by omega), h.size⟩
theorem KeptN.only {n : Nat} {W W' : World} {S : Nat → Prop} (h : Only S W W') (hn : n ≤ W.heap.size) (hS : ∀ i, S i → n ≤ i) : KeptN n W W' := ⟨fun b hb => h.block b (by omega) (fun hs => by have := hS b hs; omega), h.size⟩
theorem keptN_t {n : Nat} {A B C : World} (h : KeptN n A B) (k : KeptN n B C) : KeptN n A C := h.trans k
theorem keptN_b {n : Nat} {w : World} (hn : n ≤ w.heap.size) (W : World) (l : Nat) (o o' : Obj) (hl : w.heap.size ≤ l) (_ : W.heap[l]? = some o) (_ : o.isCells = false) (_ : o.isWalk = false) : KeptN n W (W.putObj l o') :=
  ⟨fun b hb => World.putObj_heap_other (by omega), by simp [World.putObj]⟩
theorem Strs.keptN {w W : World} {v : Value} {L : List ByteArray} (h : Strs w v L) (hk : KeptN w.heap.size w W) : Strs W v L := by
  obtain ⟨a, cap, rfl, h2, h3, h4, h5⟩ := h
  refine ⟨a, cap, rfl, h2, h3, h4, fun hn => ?_⟩
  obtain ⟨b, off, rfl, hc⟩ := h5 hn
  refine ⟨b, off, rfl, fun j u hj => ?_⟩
  have h0 := hc j u hj
  have he : W.cell? ⟨b, off + j, none⟩ = w.cell? ⟨b, off + j, none⟩ := World.cell?_of_block (w := w) (hk.1 b (World.block_lt_of_cell? _ _ h0))
  exact he.trans h0
theorem Inos.keptN {w W : World} {v : Value} {L : List I} (h : Inos w v L) (hk : KeptN w.heap.size w W) : Inos W v L := by
  obtain ⟨a, cap, rfl, h2, h3, h4, h5⟩ := h
  refine ⟨a, cap, rfl, h2, h3, h4, fun hn => ?_⟩
  obtain ⟨b, off, rfl, hc⟩ := h5 hn
  refine ⟨b, off, rfl, fun j u hj => ?_⟩
  have h0 := hc j u hj
  have he : W.cell? ⟨b, off + j, none⟩ = w.cell? ⟨b, off + j, none⟩ := World.cell?_of_block (w := w) (hk.1 b (World.block_lt_of_cell? _ _ h0))
  exact he.trans h0
/-- what the k-th round is handed -/
def encS (L : List ByteArray) (k : Nat) : Array Value := #[.int .i64 (k : Int), .string (tx L k)]
def encV (L : List ByteArray) (k : Nat) : Array Value := #[.string (tx L k)]
def encI (L : List I) (k : Nat) : Array Value := #[.int .i64 (k : Int), (ino L k).val]
section
set_option maxRecDepth 100000
set_option maxHeartbeats 4000000
theorem allS1_in (n : Nat) (hn : 1 ≤ n) (l Bx m : Nat) (v : Value) (L : List ByteArray) (J Jx : Nat → World → Prop) (B0 : Nat) (hJ : AbidesFrom B0 J)
    (hY : ∀ k W, J k W → k < L.length → YieldAt Fence.wide (n - 1) Try.prog l (encS L k) W fun e W' => (e = .returned (.bool true) ∧ J (k + 1) W' ∧ KeptN m W W') ∨ (e = .returned (.bool false) ∧ Jx k W'))
    (W : World) (hbx : W.cell? ⟨Bx, 0, none⟩ = some v) (hL : ∀ W', KeptN m W W' → Strs W' v L) (hmW : m ≤ W.heap.size) (h0 : J 0 W) :
    CallsIn Fence.wide n Try.prog 55 #[.func (.yield l) #[] #[], .pointer (some ⟨Bx, 0, none⟩)] W fun e W' => (∃ v, e = .returned v) ∧ (J L.length W' ∨ ∃ k, k < L.length ∧ Jx k W') := by
  have hfn : ∀ f, Fence.wide.fn f := fun _ => trivial
  have hJa : ∀ k W1 W2, J k W1 → Below W1.heap.size W1 W2 → J k W2 := fun k W1 W2 h hB => hJ _ _ _ none h (grown_of_below hB) (fun r e => by cases e)
  have HA := Lib.hid hJa
  have HY := Lib.hid hY
  have HL := Lib.hid hL
  obtain ⟨a, cap, rfl, hcap1, hcap2⟩ := (hL W (KeptN.refl _ _)).parts
  obtain ⟨N, hN⟩ : ∃ N, L.length = N := ⟨_, rfl⟩
  simp only [hN] at HY HL hcap1 hbx ⊢
  have HN := Lib.hid hN
  have HMW := Lib.hid hmW
  clear hJa hY hJ hL hN hmW
  refine callsIn_of_wp Try.func55 rfl trivial ?_ rfl
  simp only [Try.ntmps55, List.size_toArray, List.length_cons, List.length_nil, Nat.reduceAdd, Nat.reduceSub, Array.replicate_succ, Array.replicate_zero, List.push_toArray, List.append_toArray, List.nil_append, List.cons_append]
  gi_wp2
  gi_loopw [3, 4, 7] (fun _ _ i wr => ∃ k : Nat, k ≤ N ∧ i = .int .i64 (k : Int) ∧ J k wr ∧ KeptN m W wr) (fun _ _ i _ => N - (intOf i).toNat)
  case atStart => exact ⟨0, by omega, rfl, h0, KeptN.refl _ _⟩
  case round =>
    obtain ⟨k, hkN, rfl, hJk, hS⟩ := hrel
    by_cases hltk : k < N
    · have hkI : (k : Int) < (N : Int) := by omega
      obtain ⟨b, off, e2, hc0⟩ := (HL.out _ hS).at HN.out hltk
      cases e2
      obtain ⟨fn, tmps, assign, body, hy, hR⟩ := HY.out k wr hJk hltk
      unfold encS at hy
      obtain ⟨x, hx⟩ : ∃ x, tx L k = x := ⟨_, rfl⟩
      have c0 := hc0 x hx.symm
      rw [hx] at hy
      have HS1 := Lib.hid hS
      clear hx hc0 hJk hS
      gi_wp2
      refine hR.mono ?_
      rintro e W3 (⟨rfl, hJ3, hk3⟩ | ⟨rfl, hJx3⟩)
      · gi_wp2
        go_roundw
        case rel => exact ⟨k + 1, by omega, by go_num, hJ3, HS1.out.trans hk3⟩
        case measure => simp [intOf]; omega
      · gi_wp2
        refine bodyPost_ret (results_none rfl _ _ _) rfl ?_
        exact ⟨⟨_, rfl⟩, .inr ⟨k, hltk, hJx3⟩⟩
    · obtain rfl : N = k := by omega
      gi_wp2
      go_end0
      exact ⟨⟨_, rfl⟩, .inl hJk⟩
theorem allS_in (n : Nat) (a : Option Addr) (N cap : Nat) (w : World) :
    CallsIn Fence.wide n Try.prog 33 #[.slice a N cap] w fun e w' => e = .returned (.func (.func 55) #[] #[.pointer (some ⟨w.heap.size, 0, none⟩)]) ∧ w.alloc (.cells #[.slice a N cap] 22) = w' := by
  refine callsIn_of_wp Try.func33 rfl trivial ?_ rfl
  simp only [Try.ntmps33, List.size_toArray, List.length_cons, List.length_nil, Nat.reduceAdd, Nat.reduceSub, Array.replicate_succ, Array.replicate_zero, List.push_toArray, List.append_toArray, List.nil_append, List.cons_append]
  gi_wp2
  go_ret
  exact ⟨rfl, rfl⟩
theorem valS1_in (n : Nat) (hn : 1 ≤ n) (l Bx m : Nat) (v : Value) (L : List ByteArray) (J Jx : Nat → World → Prop) (B0 : Nat) (hJ : AbidesFrom B0 J)
    (hY : ∀ k W, J k W → k < L.length → YieldAt Fence.wide (n - 1) Try.prog l (encV L k) W fun e W' => (e = .returned (.bool true) ∧ J (k + 1) W' ∧ KeptN m W W') ∨ (e = .returned (.bool false) ∧ Jx k W'))
    (W : World) (hbx : W.cell? ⟨Bx, 0, none⟩ = some v) (hL : ∀ W', KeptN m W W' → Strs W' v L) (hmW : m ≤ W.heap.size) (h0 : J 0 W) :
    CallsIn Fence.wide n Try.prog 67 #[.func (.yield l) #[] #[], .pointer (some ⟨Bx, 0, none⟩)] W fun e W' => (∃ v, e = .returned v) ∧ (J L.length W' ∨ ∃ k, k < L.length ∧ Jx k W') := by
  have hfn : ∀ f, Fence.wide.fn f := fun _ => trivial
  have hJa : ∀ k W1 W2, J k W1 → Below W1.heap.size W1 W2 → J k W2 := fun k W1 W2 h hB => hJ _ _ _ none h (grown_of_below hB) (fun r e => by cases e)
  have HA := Lib.hid hJa
  have HY := Lib.hid hY
  have HL := Lib.hid hL
  obtain ⟨a, cap, rfl, hcap1, hcap2⟩ := (hL W (KeptN.refl _ _)).parts
  obtain ⟨N, hN⟩ : ∃ N, L.length = N := ⟨_, rfl⟩
  simp only [hN] at HY HL hcap1 hbx ⊢
  have HN := Lib.hid hN
  have HMW := Lib.hid hmW
  clear hJa hY hJ hL hN hmW
  refine callsIn_of_wp Try.func67 rfl trivial ?_ rfl
  simp only [Try.ntmps67, List.size_toArray, List.length_cons, List.length_nil, Nat.reduceAdd, Nat.reduceSub, Array.replicate_succ, Array.replicate_zero, List.push_toArray, List.append_toArray, List.nil_append, List.cons_append]
  gi_wp2
  gi_loopw [4, 7] (fun _ i wr => ∃ k : Nat, k ≤ N ∧ i = .int .i64 (k : Int) ∧ J k wr ∧ KeptN m W wr) (fun _ i _ => N - (intOf i).toNat)
  case atStart => exact ⟨0, by omega, rfl, h0, KeptN.refl _ _⟩
  case round =>
    obtain ⟨k, hkN, rfl, hJk, hS⟩ := hrel
    by_cases hltk : k < N
    · have hkI : (k : Int) < (N : Int) := by omega
      obtain ⟨b, off, e2, hc0⟩ := (HL.out _ hS).at HN.out hltk
      cases e2
      obtain ⟨fn, tmps, assign, body, hy, hR⟩ := HY.out k wr hJk hltk
      unfold encV at hy
      obtain ⟨x, hx⟩ : ∃ x, tx L k = x := ⟨_, rfl⟩
      have c0 := hc0 x hx.symm
      rw [hx] at hy
      have HS1 := Lib.hid hS
      clear hx hc0 hJk hS
      gi_wp2
      refine hR.mono ?_
      rintro e W3 (⟨rfl, hJ3, hk3⟩ | ⟨rfl, hJx3⟩)
      · gi_wp2
        go_roundw
        case rel => exact ⟨k + 1, by omega, by go_num, hJ3, HS1.out.trans hk3⟩
        case measure => simp [intOf]; omega
      · gi_wp2
        refine bodyPost_ret (results_none rfl _ _ _) rfl ?_
        exact ⟨⟨_, rfl⟩, .inr ⟨k, hltk, hJx3⟩⟩
    · obtain rfl : N = k := by omega
      gi_wp2
      go_end0
      exact ⟨⟨_, rfl⟩, .inl hJk⟩
theorem valS_in (n : Nat) (a : Option Addr) (N cap : Nat) (w : World) :
    CallsIn Fence.wide n Try.prog 52 #[.slice a N cap] w fun e w' => e = .returned (.func (.func 67) #[] #[.pointer (some ⟨w.heap.size, 0, none⟩)]) ∧ w.alloc (.cells #[.slice a N cap] 22) = w' := by
  refine callsIn_of_wp Try.func52 rfl trivial ?_ rfl
  simp only [Try.ntmps52, List.size_toArray, List.length_cons, List.length_nil, Nat.reduceAdd, Nat.reduceSub, Array.replicate_succ, Array.replicate_zero, List.push_toArray, List.append_toArray, List.nil_append, List.cons_append]
  gi_wp2
  go_ret
  exact ⟨rfl, rfl⟩
end
end Go.Proofs.Yteopcjfakhmifaa.Vol
