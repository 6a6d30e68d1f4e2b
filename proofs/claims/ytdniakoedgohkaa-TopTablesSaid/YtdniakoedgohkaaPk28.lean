/- Several texts in one, each under its own heading. -/
import Derived.Test.YtdniakoedgohkaaPk26
import Derived.Test.YtdniakoedgohkaaShelf
import Derived.Lib.AppendStr
import Derived.Test.YtdniakoedgohkaaPk04
/- strings.Builder of this program: what is written stands behind what was written before. -/
namespace Go.Proofs.Ytdniakoedgohkaa.Root
open Go.RowKit
attribute [local go_sem] Oper.semAt_some
set_option linter.unusedVariables false
set_option linter.unusedSimpArgs false
/-- a builder at block b holds the bytes l; what it needs lies from block b on -/
def Bld (w : World) (b : Nat) (l : List UInt8) : Prop := Lib.IsBuilder 59 5 b b (Lib.byteCells l) w
theorem strCells_is (s : ByteArray) : Lib.strCells s = Lib.byteCells s.data.toList := rfl
theorem byteCells_app (a b : List UInt8) : Lib.byteCells (a ++ b) = Lib.byteCells a ++ Lib.byteCells b := by simp [Lib.byteCells]
theorem bld_lt {w : World} {b : Nat} {l : List UInt8} (h : Bld w b l) : b < w.heap.size := by
  rcases h with h | h
  · exact h.lt
  · exact h.lt
theorem bld_new (w : World) : Bld (w.alloc (.cells #[.pointer none, .slice none 0 0] 59)) w.heap.size [] :=
  .inl ⟨Nat.le_refl _, .slice none 0 0, World.alloc_heap_new w _, ⟨by simp, .inl ⟨rfl, rfl⟩⟩, by simp [Value.ownBlock]⟩
theorem bld_th {w w' : World} {b : Nat} {l : List UInt8} (h : Bld w b l) (hB : Below w.heap.size w w') : Bld w' b l := by
  have hl := bld_lt h
  have k : ∀ {p : Value}, Lib.BuilderAt 59 5 b b p (Lib.byteCells l) w → Lib.BuilderAt 59 5 b b p (Lib.byteCells l) w' := fun h => by
    obtain ⟨h1, v, h2, h3, h4⟩ := h
    exact ⟨h1, v, (hB.block b hl).trans h2, own_below2 h3 hB, h4⟩
  exact h.imp k k
theorem lapp (a b : ByteArray) : (a ++ b).data.toList = a.data.toList ++ b.data.toList := by rw [ByteArray.data_append, Array.toList_append]
/-- what holds no cells lies as it lay -/
def NoC (W W' : World) : Prop := Only (fun i => ∃ c t f, W.heap[i]? = some (.cells c t f)) W W'
theorem NoC.trans {A B C : World} (h : NoC A B) (k : NoC B C) : NoC A C := Only.step h k fun i hi ⟨c, t, f, e⟩ => Classical.byContradiction fun hn => hn ⟨c, t, f, (h.block i hi hn).symm.trans e⟩
theorem NoC.of_below {A B : World} (h : Below A.heap.size A B) : NoC A B := Only.of_below h
theorem NoC.refl (A : World) : NoC A A := Only.refl _ A
theorem NoC.keeps {A B : World} (h : NoC A B) (n : Nat) : KeepsFrom n A B := keeps_of_only n h fun k hk => hk
theorem bld_kept {w w' : World} {b : Nat} {l : List UInt8} {row : Option Nat} (h : Bld w b l) (hg : w.grownBy w' row) (hr : ∀ r, row = some r → ∃ o : Obj, w.heap[r]? = some o ∧ o.isCells = false) : Bld w' b l := by
  have k : ∀ {p : Value}, Lib.BuilderAt 59 5 b b p (Lib.byteCells l) w → Lib.BuilderAt 59 5 b b p (Lib.byteCells l) w' := fun h => by
    obtain ⟨h1, v, h2, h3, h4⟩ := h
    refine ⟨h1, v, (hg.block b (Array.getElem?_eq_some_iff.1 h2).1 (fun e => ?_)).trans h2, h3.kept hg ?_, h4⟩
    · obtain ⟨o, ho, hc⟩ := hr b e.symm
      rw [h2] at ho
      cases ho
      cases hc
    · cases hv : v.ownBlock with
      | none => exact .inl rfl
      | some g =>
        right
        intro e
        obtain ⟨o, ho, hc⟩ := hr g e.symm
        rcases h3.2 with ⟨e1, _⟩ | ⟨g2, cap, cur, e1, _, hgg, _⟩
        · rw [e1] at hv; cases hv
        · rw [e1] at hv
          have e2 : g2 = g := by simpa [Value.ownBlock] using hv
          rw [e2, ho] at hgg
          cases hgg
          cases hc
  exact h.imp k k
section
set_option maxRecDepth 100000
set_option maxHeartbeats 4000000
theorem bldSize : (Try.prog.info? 59).map (·.size) = some 2 := by kernel_rfl
theorem bldLies : liesAt Try.prog Try.prog.depth 59 (2 / Try.prog.cellsOf 59) 0 59 1 = true := by kernel_rfl
theorem check_any (b : Nat) (l : List UInt8) (w : World) (h : Bld w b l) : Calls Try.prog 58 #[.pointer (some ⟨b, 0, none⟩)] w fun e w' => e = .returned (.tuple #[]) ∧ Lib.BuilderAt 59 5 b b (.pointer (some ⟨b, 0, none⟩)) (Lib.byteCells l) w' ∧ Below b w w' ∧ NoC w w' := by
  obtain ⟨j, hj, hjs⟩ := Option.map_eq_some_iff.1 bldSize
  rcases h with h | h
  · have c0 := h.cell0
    have hsh := h.shape
    have f0 := h.frozen0
    have HU := Lib.hid (h.used (.pointer (some ⟨b, 0, none⟩)))
    have HB := Lib.hid ((Below.refl b w).setCell (p := ⟨b, 0, none⟩) h.1 (.pointer (some ⟨b, 0, none⟩)))
    have HN : Hid (NoC w (w.setCell ⟨b, 0, none⟩ (.pointer (some ⟨b, 0, none⟩)))) := by
      obtain ⟨h1, v, h2, h3, h4⟩ := h
      exact Only.setCell (S := fun i => ∃ c t f, w.heap[i]? = some (.cells c t f)) (Only.refl _ w) (p := ⟨b, 0, none⟩) (.inr ⟨_, _, _, h2⟩) _
    clear h
    go_enter Try.func58, Try.ntmps58
    go_wp2
    rw [Lib.run_to_unsafe w ⟨b, 0, none⟩ Try.underlying56 Try.underlying134 hj (by rw [hjs]; decide) hsh (Nat.zero_lt_succ 1)]
    simp only [Result.andThen]
    rw [Oper.upon_value]
    go_wp2
    rw [run_callFunc_extern Try.func85 (by kernel_rfl) (by kernel_rfl) (by kernel_rfl) (e := Extern.AbiNoEscape.same) (by kernel_rfl)]
    rw [Lib.run_noEscape]
    simp only [Result.andThen]
    rw [Oper.upon_value]
    go_wp2
    rw [Lib.run_from_unsafe w ⟨b, 0, none⟩ Try.underlying134 Try.underlying56 hj hsh bldLies]
    simp only [Result.andThen]
    rw [Oper.upon_value]
    go_wp2
    go_end0
    exact ⟨rfl, HU.out, HB.out, HN.out⟩
  · have c0 := h.cell0
    have HU := Lib.hid h
    have HB := Lib.hid (Below.refl b w)
    clear h
    go_enter Try.func58, Try.ntmps58
    go_wp2
    rw [Lib.run_neq_ptr_same w _ Try.underlying56 hj]
    go_wp2
    go_end0
    exact ⟨rfl, HU.out, HB.out, NoC.refl _⟩
theorem write_any (b : Nat) (l : List UInt8) (s : ByteArray) (w : World) (h : Bld w b l) (hlen : l.length + s.size ≤ 100000) : Calls Try.prog 27 #[.pointer (some ⟨b, 0, none⟩), .string s] w fun e w' => e = .returned (.tuple #[.int .i64 s.size, .nilIface]) ∧ Bld w' b (l ++ s.data.toList) ∧ Below b w w' ∧ NoC w w' := by
  obtain ⟨i0, hi, hz0, hz1, hz2⟩ := info_parts infoByte
  have HC := Lib.hid (check_any b l w h)
  have hbl := bld_lt h
  clear h
  go_enter Try.func27, Try.ntmps27
  go_wp2_with (go_at_call 58; refine Calls.mono HC.out ?_)
  rintro e w1 ⟨rfl, h1, hb1, hno1⟩
  obtain ⟨hB, v, hbk, hown, hne⟩ := h1
  have c0 : w1.cell? ⟨b, 0, none⟩ = some (.pointer (some ⟨b, 0, none⟩)) := by rw [Lib.cell_of_heap hbk]; rfl
  have c1 : w1.cell? ⟨b, 1, none⟩ = some v := by rw [Lib.cell_of_heap hbk]; rfl
  have hlt : b < w1.heap.size := (Array.getElem?_eq_some_iff.1 hbk).1
  go_wp2_with (at_builtin; refine Lib.wpList_append_own_string _ rfl _ _ 57 9 rfl b 5 i0 Try.underlying57 Try.underlying9 hi hz0 hz1 hz2 _ _ _ rfl hown s rfl ?c3 ?c4 ?c5 ?_)
  case c3 => rw [Lib.byteCells_length]; unfold maxLen; omega
  case c4 => rw [Lib.byteCells_length]; omega
  case c5 => omega
  intro v' w2 hown' hgrow _
  have hb2 : w2.heap[b]? = some (.cells #[.pointer (some ⟨b, 0, none⟩), v] 59 (0, 0)) := by
    rw [hgrow.block b hlt (fun e => hne e.symm)]
    exact hbk
  have d0 : w2.cell? ⟨b, 0, none⟩ = some (.pointer (some ⟨b, 0, none⟩)) := by rw [Lib.cell_of_heap hb2]; rfl
  have d1 : w2.cell? ⟨b, 1, none⟩ = some v := by rw [Lib.cell_of_heap hb2]; rfl
  have f1 : w2.frozen? ⟨b, 1, none⟩ = false := Lib.frozen_of_heap hb2 1
  have hno2 : NoC w1 (w2.setCell ⟨b, 1, none⟩ v') := by
    refine Only.setCell (S := fun i => ∃ c t f, w1.heap[i]? = some (.cells c t f)) ((Only.refl _ w1).grown hgrow (fun r e => .inr ?_)) (p := ⟨b, 1, none⟩) (.inr ⟨_, _, _, hbk⟩) _
    rcases hown.2 with ⟨e1, _⟩ | ⟨g2, cap2, cur, e1, _, hgg, _⟩
    · rw [e1] at e; cases e
    · rw [e1] at e
      have e2 : g2 = r := by simpa [Value.ownBlock] using e
      rw [← e2]
      exact ⟨_, _, _, hgg⟩
  have HF : Hid (Bld (w2.setCell ⟨b, 1, none⟩ v') b (l ++ s.data.toList) ∧ Below b w (w2.setCell ⟨b, 1, none⟩ v') ∧ NoC w (w2.setCell ⟨b, 1, none⟩ v')) := by
    refine ⟨.inr ?_, (hb1.grown hgrow (by omega) (fun k hk => (hown.lt k hk).1)).setCell (p := ⟨b, 1, none⟩) (Nat.le_refl _) _, hno1.trans hno2⟩
    rw [byteCells_app, ← strCells_is]
    exact Lib.BuilderAt.put hB hb2 (by rw [List.length_append, Lib.strCells_length]; exact hown') (by decide)
  obtain ⟨a2, n2, cap2, rfl⟩ : ∃ a n cap, v' = .slice a n cap := by
    rcases hown'.2 with ⟨hv, _⟩ | ⟨g, cap, cur, hv, _⟩
    · exact ⟨_, _, _, hv⟩
    · exact ⟨_, _, _, hv⟩
  clear hown hown' hgrow hbk hb2 hne HC hno1 hno2
  go_wp2
  go_ret2
  exact ⟨rfl, HF.out⟩
theorem cellsByte : Try.prog.cellsOf 5 = 1 := by kernel_rfl
theorem noc_freeze {a w : World} (h : NoC a w) {p : Addr} (hp : ∃ c t f, w.heap[p.block]? = some (.cells c t f)) (n : Nat) : NoC a (w.freeze p n) := by
  refine h.trans ?_
  unfold World.freeze
  split
  · exact NoC.refl _
  · exact ⟨rfl, rfl, rfl, by simp, fun k hk hn => by
      have e : ¬ p.block = k := fun e => hn (e ▸ hp)
      simp only [Array.getElem?_modify]
      rw [if_neg e]⟩
/-- (*strings.Builder).String of a builder that holds a byte: what holds no cells lies as it lay -/
theorem string_any (b : Nat) (l : List UInt8) (w : World) (h : Bld w b l) (h0 : l ≠ []) :
    Calls Try.prog 31 #[.pointer (some ⟨b, 0, none⟩)] w fun e w' => e = .returned (.string ⟨l.toArray⟩) ∧ Below b w w' ∧ NoC w w' := by
  obtain ⟨p, hB, v, hbk, hown, hne⟩ : ∃ p, Lib.BuilderAt 59 5 b b p (Lib.byteCells l) w := by
    rcases h with h | h
    · exact ⟨_, h⟩
    · exact ⟨_, h⟩
  have hl0 : l.length ≠ 0 := by simpa using h0
  rw [Lib.byteCells_length] at hown
  obtain ⟨g, cap, cur, rfl, hbg, hg, hnc, hcm, hcs, htake⟩ : ∃ g cap cur, v = .slice (some ⟨g, 0, none⟩) l.length cap ∧ b ≤ g ∧ w.heap[g]? = some (.cells cur 5 (0, 0)) ∧ l.length ≤ cap ∧ cap ≤ maxLen ∧ cur.size = cap * 1 ∧ cur.toList.take (l.length * 1) = Lib.byteCells l := by
    rcases hown.2 with ⟨_, hz⟩ | ⟨g, cap, cur, hv, r⟩
    · exact absurd hz hl0
    · exact ⟨g, cap, cur, hv, r⟩
  have c1 : w.drew.cell? ⟨b, 1, none⟩ = some (.slice (some ⟨g, 0, none⟩) l.length cap) := by
    have : w.drew.heap[b]? = some (.cells #[p, .slice (some ⟨g, 0, none⟩) l.length cap] 59 (0, 0)) := hbk
    rw [Lib.cell_of_heap this]; rfl
  have hSD : (Builtin.unsafeSliceData_ #[57] 113 #[.slice (some ⟨g, 0, none⟩) l.length cap]).run Try.prog w.drew = .ok (.pointer (some ⟨g, 0, none⟩)) w.drew :=
    Lib.run_unsafeSliceData_row _ _ _ _ _ _ (by omega)
  have hUS : (Builtin.unsafeString_ #[113, 3] 9 #[.pointer (some ⟨g, 0, none⟩), .int .i64 l.length]).run Try.prog w.drew = .ok (.string ⟨l.toArray⟩) (w.drew.freeze ⟨g, 0, none⟩ l.length) := by
    refine Lib.run_unsafeString_row w.drew 113 3 9 5 Try.underlying113 cellsByte g cur.size (by have hg' : w.drew.heap[g]? = some (.cells cur 5 (0, 0)) := hg; simp [World.shape?, hg']) l h0 (by omega) (by unfold maxLen at hcm; omega) ?_
    intro j x hx
    have := hown.cells (g := g) rfl j (.int .u8 x.toNat) (by simp [Lib.byteCells, hx])
    exact this
  have HF : Hid (Below b w (w.drew.freeze ⟨g, 0, none⟩ l.length) ∧ NoC w (w.drew.freeze ⟨g, 0, none⟩ l.length)) := ⟨Lib.below_freeze (Below.drew (Below.refl b w)) (p := ⟨g, 0, none⟩) hbg _, noc_freeze (NoC.of_below ((Below.refl _ w).drew)) ⟨_, _, _, hg⟩ _⟩
  clear h hown hbk hne hg hcs htake
  go_enter Try.func31, Try.ntmps31
  go_wp2
  go_region
  all_goals (go_wp2; go_ret; exact ⟨rfl, HF.out⟩)
end
end Go.Proofs.Ytdniakoedgohkaa.Root
/- put, take, takePlaces of the program's package root. -/
namespace Go.Proofs.Ytdniakoedgohkaa.Root
open Go.RowKit
attribute [local go_sem] Oper.semAt_some
set_option linter.unusedVariables false
set_option linter.unusedSimpArgs false
/-- what takePlaces answers -/
def PlPost (s : ByteArray) (a n : Nat) (w : World) (e : Ending) (w' : World) : Prop := ∃ B, e = .returned (.slice (some ⟨B, 0, none⟩) n n) ∧ Nums w' (.slice (some ⟨B, 0, none⟩) n n) (nAt s a n) ∧ w.heap.size ≤ B ∧ Below w.heap.size w w'
/-- k of the n places at block B are written -/
def RowK (W : World) (B : Nat) (s : ByteArray) (a n k : Nat) : Prop := ∃ X : Array Value, W.heap[B]? = some (.cells X 35 (0, 0)) ∧ X.size = n ∧ ∀ j, j < k → X[j]? = some (.int .u32 (takeN s (a + 4 * j) 4 : Int))
section
set_option maxRecDepth 100000
set_option maxHeartbeats 4000000
theorem rput (n : Nat) (k : Nat) (w : World) (hn : n < 256 ^ k) (h1 : 1 ≤ k) (h2 : k ≤ 8) : Calls Try.prog 28 #[.int .u64 n, .int .i64 k] w fun e w' => e = .returned (.string (numB n k)) ∧ Below w.heap.size w w' := by
  have hok : putOk n k := ⟨by omega, by omega, by simpa using hn⟩
  have hp := put_any n k w (Nat.lt_of_lt_of_le hn (Nat.pow_le_pow_right (by decide) h2))
  rw [putS_yes hok, putE_yes hok, Int.toNat_natCast] at hp
  clear hok hn
  go_enter Try.func28, Try.ntmps28
  go_wp2_with (go_at_call 59; refine hp.mono ?_; rintro e w' ⟨rfl, hB⟩)
  go_ret
  exact ⟨rfl, hB⟩
theorem rtake (s : ByteArray) (a k : Nat) (w : World) (hs : s.size ≤ 281474976710656) (h1 : 1 ≤ k) (h2 : k ≤ 8) (hk : a + k ≤ s.size) : Calls Try.prog 33 #[.string s, .int .i64 a, .int .i64 k] w fun e w' => e = .returned (.int .u64 (takeN s a k)) ∧ Below w.heap.size w w' := by
  have hok : takeOk s a k := ⟨by omega, by omega, by omega, by omega⟩
  have hp := take_any s a k w hs (by omega)
  rw [takeV_yes hok, takeE_yes hok, Int.toNat_natCast, Int.toNat_natCast] at hp
  clear hok
  go_enter Try.func33, Try.ntmps33
  go_wp2_with (go_at_call 61; refine hp.mono ?_; rintro e w' ⟨rfl, hB⟩)
  go_ret
  exact ⟨rfl, hB⟩
theorem nums_rowK {W : World} {B n : Nat} {s : ByteArray} {a : Nat} (h : RowK W B s a n n) (h9 : n ≤ 1000) : Nums W (.slice (some ⟨B, 0, none⟩) n n) (nAt s a n) := by
  obtain ⟨X, hb, hz, hx⟩ := h
  have hl := nAt_length s n a
  refine ⟨_, n, by rw [hl], by rw [hl]; exact Nat.le_refl _, ⟨by unfold maxLen; omega, fun e => by cases e⟩, by simp, fun hp => ⟨B, 0, rfl, fun j u hj => ?_⟩⟩
  have hjn : j < n := by
    have := (List.getElem?_eq_some_iff.1 hj).1
    rw [List.length_map, hl] at this
    exact this
  rw [List.getElem?_map] at hj
  rw [nAt_get s n a j hjn] at hj
  cases hj
  rw [Nat.zero_add]
  simp only [World.cell?, hb]
  exact hx j hjn
theorem places_any (s : ByteArray) (a n : Nat) (w : World) (hs : s.size = 508) (h1 : 1 ≤ n) (hn : a + 4 * n ≤ 508) : Calls Try.prog 35 #[.string s, .int .i64 (a : Int), .int .i64 (n : Int)] w (PlPost s a n w) := by
  have HT := Lib.hid (fun k (hk : k < n) W => rtake s (a + 4 * k) 4 W (by omega) (by decide) (by decide) (by omega))
  have hmk : ∀ W : World, (Instr.makeSlice 23 (.int .i64 (n : Int)) (.int .i64 (n : Int))).run Try.prog W = .ok (.slice (some ⟨W.heap.size, 0, none⟩) n n) (W.alloc (.cells (madeCells #[.int .u32 0] n) 35)) := fun W =>
    run_make_row' (P := Try.prog) 23 35 (.int .u32 0) 4 Try.underlying23 infoU32 rfl .i64 .i64 n (by omega) (by omega) W
  have hz : (madeCells #[.int .u32 0] n).size = n := by simp [madeCells]
  obtain ⟨X0, hX0⟩ : ∃ X0, madeCells #[Value.int .u32 0] n = X0 := ⟨_, rfl⟩
  rw [hX0] at hmk hz
  obtain ⟨W0, rfl⟩ : ∃ W0 : World, W0 = w := ⟨_, rfl⟩
  have HB0 := Lib.hid (below_new W0 (.cells X0 35))
  have HR0 : Hid (RowK (W0.alloc (.cells X0 35)) W0.heap.size s a n 0) := ⟨X0, World.alloc_heap_new _ _, hz, fun j hj => by omega⟩
  clear hX0 hz
  go_enter Try.func35, Try.ntmps35
  go_wp2
  go_loopw [8, 13] (fun _ i wr => ∃ k : Nat, k ≤ n ∧ i = .int .i64 (k : Int) ∧ Hid (RowK wr W0.heap.size s a n k) ∧ Hid (Below W0.heap.size W0 wr)) (fun _ i _ => n - (intOf i).toNat)
  case atStart => exact ⟨0, by omega, rfl, HR0, HB0⟩
  case round =>
    obtain ⟨k, hkn, rfl, HR, HB⟩ := hrel
    clear hmk HR0 HB0
    by_cases hlt : k < n
    · have hlt2 : (k : Int) < (n : Int) := by omega
      have P1 := Lib.hid (fun W => HT.out k hlt W)
      obtain ⟨p, hp⟩ : ∃ p, a + 4 * k = p := ⟨_, rfl⟩
      rw [hp] at P1
      have w1 : IntKind.i64.wrap ((k : Int) * 4) = 4 * (k : Int) := by rw [IntKind.wrap_i64]; omega
      have w2 : IntKind.i64.wrap ((a : Int) + 4 * (k : Int)) = (p : Int) := by rw [IntKind.wrap_i64]; omega
      have hy : takeN s p 4 < 4294967296 := by
        have := takeN_lt s p 4
        rwa [show (256 : Nat) ^ 4 = 4294967296 by decide] at this
      obtain ⟨y, hyy⟩ : ∃ y, takeN s p 4 = y := ⟨_, rfl⟩
      rw [hyy] at P1 hy
      have w3 : IntKind.u32.wrap (y : Int) = (y : Int) := by rw [IntKind.wrap_u32]; omega
      have HST : Hid (∀ W, Below wr.heap.size wr W → W.frozen? ⟨W0.heap.size, k, none⟩ = false ∧ (∃ u, W.cell? ⟨W0.heap.size, k, none⟩ = some u) ∧ RowK (W.setCell ⟨W0.heap.size, k, none⟩ (.int .u32 (y : Int))) W0.heap.size s a n (k + 1) ∧ Below W0.heap.size W0 (W.setCell ⟨W0.heap.size, k, none⟩ (.int .u32 (y : Int)))) := fun W hW => by
        obtain ⟨X, hb, hz, hx⟩ := HR.out
        have hb2 : W.heap[W0.heap.size]? = some (.cells X 35 (0, 0)) := (hW.block _ (Array.getElem?_eq_some_iff.1 hb).1).trans hb
        refine ⟨by simp [World.frozen?, hb2], ⟨X[k], ?_⟩, ⟨X.setIfInBounds k (.int .u32 (y : Int)), heap_setCell_same W _ k _ _ _ hb2, by simpa using hz, fun j hj => ?_⟩, (below_th HB.out hW).setCell (p := ⟨W0.heap.size, k, none⟩) (Nat.le_refl _) _⟩
        · simp only [World.cell?, hb2]
          exact Array.getElem?_eq_getElem (by omega)
        · by_cases e : j = k
          · subst e
            rw [hp, hyy]
            simp [Array.getElem?_setIfInBounds, hz, hlt]
          · rw [Array.getElem?_setIfInBounds, if_neg (fun h => e h.symm)]
            exact hx j (by omega)
      clear hp hyy hy HR HB
      go_wp2_with (go_at_call 33; (with_reducible refine Calls.mono (P1.out _) ?_); rintro e w1 ⟨rfl, hB1⟩; obtain ⟨f1, ⟨u1, c1⟩, hr1, hb1⟩ := HST.out _ hB1; have HR1 := Lib.hid hr1; have HB1 := Lib.hid hb1; clear hr1 hb1)
      go_roundw
      case rel => exact ⟨k + 1, by omega, by go_num, HR1, HB1⟩
      case measure => simp [intOf]; omega
    · obtain rfl : n = k := by omega
      have HF : Hid (PlPost s a n W0 (.returned (.slice (some ⟨W0.heap.size, 0, none⟩) n n)) wr) := ⟨_, rfl, nums_rowK HR.out (by omega), Nat.le_refl _, HB.out⟩
      clear HR HB
      go_wp2
      go_ret
      exact HF.out
end
end Go.Proofs.Ytdniakoedgohkaa.Root
/- Encode of the program's package root. -/
namespace Go.Proofs.Ytdniakoedgohkaa.Root
open Go.RowKit
attribute [local go_sem] Oper.semAt_some
set_option linter.unusedVariables false
set_option linter.unusedSimpArgs false
theorem chain {n p : Nat} {w A B C : World} (h : Below n w A) (hw : n ≤ w.heap.size) (hn : n ≤ p) (hb : Below A.heap.size A B) (hm : Below p B C) : Below n w C := by
  have h2 : Below n w B := ⟨hb.os.trans h.os, hb.tape.trans h.tape, hb.output.trans h.output, Nat.le_trans h.size hb.size, fun k hk => (hb.block k (Nat.lt_of_lt_of_le (Nat.lt_of_lt_of_le hk hw) h.size)).trans (h.block k hk)⟩
  exact h2.trans (hm.mono hn)
/-- what has been written behind k rounds -/
def encL (r : Q) (k : Nat) : List UInt8 := (headB r ++ numsB (r.all.take k)).data.toList
def EncI (r : Q) (p : Nat) (W0 : World) (k : Nat) (W : World) : Prop := Bld W p (encL r k) ∧ Below p W0 W
theorem encI_own {r : Q} {p : Nat} {W0 : World} (hp : p ≤ W0.heap.size) : OwnFrom W0.heap.size (EncI r p W0) := fun k W W' row h hg hr =>
  ⟨bld_kept h.1 hg (fun r e => (hr r e).2), h.2.grown hg (Nat.le_trans hp h.2.size) (fun r e => Nat.le_trans hp (hr r e).1)⟩
theorem encL_len (r : Q) (k : Nat) : (encL r k).length = 14 + 4 * (r.all.take k).length := by
  unfold encL
  rw [Array.length_toList]
  show (headB r ++ numsB (r.all.take k)).size = _
  rw [ByteArray.size_append, headB_size, numsB_size]
theorem encL_next (r : Q) {k : Nat} (h : k < r.all.length) : encL r k ++ (numB (nu r.all k) 4).data.toList = encL r (k + 1) := by
  unfold encL
  rw [take_nu h, numsB_snoc, lapp, lapp, lapp, List.append_assoc]
theorem encL_all {r : Q} (h : NumP r) : fitS (⟨(encL r r.all.length).toArray⟩ : ByteArray) 508 = rotB r := by
  have e : (⟨(encL r r.all.length).toArray⟩ : ByteArray) = rawB r := by
    unfold encL rawB
    rw [List.take_length]
    unfold Q.all
    rw [numsB_app, ← ByteArray.append_assoc]
  rw [e]
  have hs := rawB_size r
  have h1 := h.2.2.2.1.2
  have h2 := h.2.2.2.2.2
  rw [fitS_yes ⟨by omega, by omega⟩]
  rfl
section
set_option maxRecDepth 100000
set_option maxHeartbeats 1000000
theorem encode_no (r : Q) (d c : Value) (w : World) (h1 : Nums w d r.dats) (h2 : Nums w c r.cps) (ho : QOk r) (h : ¬ RightP r) : Calls Try.prog 9 #[r.val d c] w (Ans w (.tuple #[.string ⟨#[]⟩, .int .i64 153])) := by
  have hB := below_new w (boxQ r d c)
  have hA := QAt.new w r d c
  have HR := Lib.hid (fun W (hW : Below w.heap.size w W) => right_any r d c W (h1.below hW) (h2.below hW) ho)
  obtain ⟨a1, cap1, rfl, hc1, hc2⟩ := h1.parts
  obtain ⟨a2, cap2, rfl, hc3, hc4⟩ := h2.parts
  obtain ⟨g0, g1, g2, g3⟩ := hA.c
  have hr : rightB r = false := decide_eq_false h
  simp only [hr] at HR
  unfold Q.val at HR ⊢
  unfold boxQ at hB hA
  have HB := Lib.hid hB
  clear hB hA h1 h2 h hr
  go_enter Try.func9, Try.ntmps9
  go_wp2_with (go_at_call 13; (with_reducible refine Calls.mono (HR.out _ HB.out) ?_); rintro e w1 ⟨rfl, hB1⟩)
  go_ret2
  exact ⟨rfl, below_th HB.out hB1⟩
theorem encode_in (r : Q) (a1 : Option Addr) (n1 cap1 : Nat) (a2 : Option Addr) (n2 cap2 : Nat) (w : World) (hn1 : r.dats.length = n1) (hn2 : r.cps.length = n2) (h1 : Nums w (.slice a1 n1 cap1) r.dats) (h2 : Nums w (.slice a2 n2 cap2) r.cps) (ho : QOk r) (h : RightP r) :
    CallsIn Fence.wide 9 Try.prog 9 #[r.val (.slice a1 n1 cap1) (.slice a2 n2 cap2)] w (Ans w (.tuple #[.string (rotB r), .int .i64 0])) := by
  have hfn : ∀ f, Fence.wide.fn f := fun _ => trivial
  have hl1 : 1 ≤ n1 ∧ n1 ≤ 60 := hn1 ▸ h.1.2.2.2.1
  have hl2 : 1 ≤ n2 ∧ n2 ≤ 12 := hn2 ▸ h.1.2.2.2.2
  have hR := fun W (hW : Below w.heap.size w W) => right_any r (.slice a1 n1 cap1) (.slice a2 n2 cap2) W (h1.below hW) (h2.below hW) ho
  have hr : rightB r = true := decide_eq_true h
  simp only [hr] at hR
  have hp := fun m W => places_in m r (.slice a1 n1 cap1) (.slice a2 n2 cap2) W ⟨_, _, _, rfl⟩ ⟨_, _, _, rfl⟩
  have hA := QAt.new w r (.slice a1 n1 cap1) (.slice a2 n2 cap2)
  have hB := below_new w (boxQ r (.slice a1 n1 cap1) (.slice a2 n2 cap2))
  have hzB : (w.alloc (boxQ r (.slice a1 n1 cap1) (.slice a2 n2 cap2))).heap.size = w.heap.size + 1 := World.size_alloc ..
  unfold boxQ at hp hA hB hzB
  unfold Q.val at hp hR ⊢
  obtain ⟨WB, hWB⟩ : ∃ WB, w.alloc (.cells #[.int .u64 (r.cp : Int), .int .u64 (r.tick : Int), .slice a1 n1 cap1, .slice a2 n2 cap2] 25) = WB := ⟨_, rfl⟩
  rw [hWB] at hA hB hzB
  have HG : Hid (∀ W, Below (w.heap.size + 1) WB W → W.cell? ⟨w.heap.size, 0, none⟩ = some (.int .u64 (r.cp : Int)) ∧ W.cell? ⟨w.heap.size, 1, none⟩ = some (.int .u64 (r.tick : Int)) ∧ W.cell? ⟨w.heap.size, 2, none⟩ = some (.slice a1 n1 cap1) ∧ W.cell? ⟨w.heap.size, 3, none⟩ = some (.slice a2 n2 cap2)) := fun W hW => (hA.th (by rw [hzB]; exact hW)).c
  obtain ⟨g0, g1, g2, g3⟩ := hA.c
  have P1 := Lib.hid (fun W => rput r.cp 6 W (by have := h.1.2.1; omega) (by decide) (by decide))
  have P2 := Lib.hid (fun W => rput r.tick 6 W (by have := h.1.2.2.1; omega) (by decide) (by decide))
  have P3 := Lib.hid (fun W => rput n1 1 W (by omega) (by decide) (by decide))
  have P4 := Lib.hid (fun W => rput n2 1 W (by omega) (by decide) (by decide))
  have z1 := numB_size r.cp 6
  have z2 := numB_size r.tick 6
  have z3 := numB_size n1 1
  have z4 := numB_size n2 1
  have hHD : (numB r.cp 6).data.toList ++ (numB r.tick 6).data.toList ++ (numB n1 1).data.toList ++ (numB n2 1).data.toList = (headB r).data.toList := by
    unfold headB
    rw [lapp, lapp, lapp, hn1, hn2]
  have hbn := bld_new
  obtain ⟨B1, hB1⟩ : ∃ B, numB r.cp 6 = B := ⟨_, rfl⟩
  obtain ⟨B2, hB2⟩ : ∃ B, numB r.tick 6 = B := ⟨_, rfl⟩
  obtain ⟨B3, hB3⟩ : ∃ B, numB n1 1 = B := ⟨_, rfl⟩
  obtain ⟨B4, hB4⟩ : ∃ B, numB n2 1 = B := ⟨_, rfl⟩
  simp only [hB1, hB2, hB3, hB4] at P1 P2 P3 P4 z1 z2 z3 z4 hHD
  have lz : ∀ {B : ByteArray} {k : Nat}, B.size = k → B.data.toList.length = k := fun h => by rw [Array.length_toList]; exact h
  obtain ⟨l1, hl1'⟩ : ∃ l, [] ++ B1.data.toList = l := ⟨_, rfl⟩
  obtain ⟨l2, hl2'⟩ : ∃ l, l1 ++ B2.data.toList = l := ⟨_, rfl⟩
  obtain ⟨l3, hl3'⟩ : ∃ l, l2 ++ B3.data.toList = l := ⟨_, rfl⟩
  obtain ⟨l4, hl4'⟩ : ∃ l, l3 ++ B4.data.toList = l := ⟨_, rfl⟩
  have HHD : Hid (l4 = (headB r).data.toList) := by unfold Hid; rw [← hHD, ← hl4', ← hl3', ← hl2', ← hl1', List.nil_append]
  have y1 : l1.length = 6 := by rw [← hl1', List.nil_append, lz z1]
  have y2 : l2.length = 12 := by rw [← hl2', List.length_append, y1, lz z2]
  have y3 : l3.length = 13 := by rw [← hl3', List.length_append, y2, lz z3]
  have y4 : l4.length = 14 := by rw [← hl4', List.length_append, y3, lz z4]
  have hW1 := fun p W (hb : Bld W p []) => write_any p [] B1 W hb (by rw [z1]; simp)
  have hW2 := fun p W (hb : Bld W p l1) => write_any p l1 B2 W hb (by omega)
  have hW3 := fun p W (hb : Bld W p l2) => write_any p l2 B3 W hb (by omega)
  have hW4 := fun p W (hb : Bld W p l3) => write_any p l3 B4 W hb (by omega)
  simp only [hl1'] at hW1
  simp only [hl2'] at hW2
  simp only [hl3'] at hW3
  simp only [hl4'] at hW4
  have HW1 := Lib.hid hW1
  have HW2 := Lib.hid hW2
  have HW3 := Lib.hid hW3
  have HW4 := Lib.hid hW4
  have Y4 := Lib.hid y4
  have hzw : w.heap.size + 1 ≤ WB.heap.size := by omega
  have hch0 : Below (w.heap.size + 1) WB WB := Below.refl _ _
  have hR1 := hR WB hB
  have HPL := Lib.hid hp
  have w1' : IntKind.u64.wrap (n1 : Int) = (n1 : Int) := by rw [IntKind.wrap_u64]; omega
  have w2' : IntKind.u64.wrap (n2 : Int) = (n2 : Int) := by rw [IntKind.wrap_u64]; omega
  have HBN := Lib.hid hbn
  have HR1 := Lib.hid hR1
  clear hB1 hB2 hB3 hB4 hHD hp hR hA lz z1 z2 z3 z4 hbn hR1 hr y1 y2 y3 y4 hl1' hl2' hl3' hl4' hW1 hW2 hW3 hW4
  refine callsIn_of_wp_marks Try.func9 rfl trivial ?_ rfl
  simp only [Try.ntmps9, List.size_toArray, List.length_cons, List.length_nil, Nat.reduceAdd, Nat.reduceSub, Array.replicate_succ, Array.replicate_zero, List.push_toArray, List.append_toArray, List.nil_append, List.cons_append]
  gi_wp2_with (first
    | (gi_at_call 13; refine (callsIn_wide.2 HR1.out).mono ?_; rintro e x1 ⟨rfl, hx1⟩; have hb0 := HBN.out x1; have hp1 : w.heap.size + 1 ≤ x1.heap.size := Nat.le_trans hzw hx1.size; have hc1 := chain (C := x1.alloc (.cells #[.pointer none, .slice none 0 0] 59)) hch0 hzw hp1 hx1 (below_new _ _); obtain ⟨q0, q1, q2, q3⟩ := HG.out _ hc1)
    | (gi_at_call 28; (with_reducible refine CallsIn.mono (callsIn_wide.2 (P1.out _)) ?_); rintro e x2 ⟨rfl, hx2⟩)
    | (gi_at_call 27; (with_reducible refine CallsIn.mono (callsIn_wide.2 (HW1.out _ _ (bld_th hb0 hx2))) ?_); rintro e x3 ⟨rfl, hb3, hx3, hno3⟩; have hc3 := chain hc1 hzw hp1 hx2 hx3; obtain ⟨r0, r1, r2, r3⟩ := HG.out _ hc3)
    | (gi_at_call 28; (with_reducible refine CallsIn.mono (callsIn_wide.2 (P2.out _)) ?_); rintro e x4 ⟨rfl, hx4⟩)
    | (gi_at_call 27; (with_reducible refine CallsIn.mono (callsIn_wide.2 (HW2.out _ _ (bld_th hb3 hx4))) ?_); rintro e x5 ⟨rfl, hb5, hx5, hno5⟩; have hc5 := chain hc3 hzw hp1 hx4 hx5; obtain ⟨s0, s1, s2, s3⟩ := HG.out _ hc5)
    | (gi_at_call 28; (with_reducible refine CallsIn.mono (callsIn_wide.2 (P3.out _)) ?_); rintro e x6 ⟨rfl, hx6⟩)
    | (gi_at_call 27; (with_reducible refine CallsIn.mono (callsIn_wide.2 (HW3.out _ _ (bld_th hb5 hx6))) ?_); rintro e x7 ⟨rfl, hb7, hx7, hno7⟩; have hc7 := chain hc5 hzw hp1 hx6 hx7; obtain ⟨t0, t1, t2, t3⟩ := HG.out _ hc7)
    | (gi_at_call 28; (with_reducible refine CallsIn.mono (callsIn_wide.2 (P4.out _)) ?_); rintro e x8 ⟨rfl, hx8⟩)
    | (gi_at_call 27; (with_reducible refine CallsIn.mono (callsIn_wide.2 (HW4.out _ _ (bld_th hb7 hx8))) ?_); rintro e x9 ⟨rfl, hb9, hx9, hno9⟩; have hc9 := chain hc7 hzw hp1 hx8 hx9; obtain ⟨u0, u1, u2, u3⟩ := HG.out _ hc9)
    | (gi_at_call 29; refine (HPL.out _ _).mono ?_; rintro e w' ⟨rfl, rfl⟩))
  obtain ⟨p, hpz⟩ : ∃ p, x1.heap.size = p := ⟨_, rfl⟩
  obtain ⟨s, hsz⟩ : ∃ s, w.heap.size = s := ⟨_, rfl⟩
  obtain ⟨q, hqz⟩ : ∃ q, x9.heap.size = q := ⟨_, rfl⟩
  rw [hpz] at hb9 hp1
  rw [hpz, hqz]
  have hpq : p < q := by rw [← hqz]; exact bld_lt hb9
  obtain ⟨W0, hW0⟩ : ∃ W0, x9.alloc (.cells #[.int .u64 (r.cp : Int), .int .u64 (r.tick : Int), .slice a1 n1 cap1, .slice a2 n2 cap2] 25) = W0 := ⟨_, rfl⟩
  have b0 : QAt W0 q r (.slice a1 n1 cap1) (.slice a2 n2 cap2) := by rw [← hW0, ← hqz]; exact World.alloc_heap_new _ _
  have hs0 : W0.heap.size = q + 1 := by rw [← hW0, ← hqz]; exact World.size_alloc ..
  have hBW : Below s w W0 := by
    have h1 : Below s w x9 := (hsz ▸ hB : Below s w WB).trans (hc9.mono (by omega))
    rw [← hW0]
    exact below_al h1 _ (by omega)
  have hI0 : Bld W0 p (encL r 0) := by
    have h1 : encL r 0 = l4 := by
      rw [HHD.out]
      unfold encL
      show (headB r ++ numsB []).data.toList = _
      rw [lapp]
      exact List.append_nil _
    rw [h1, ← hW0]
    exact bld_th hb9 (below_new _ _)
  rw [hW0]
  rw [hsz] at hp1 ⊢
  have hsq : SeqSteps Fence.wide 8 Try.prog 60 #[.pointer (some ⟨q, 0, none⟩)] (encP r) (KeptN s) r.all.length W0 := by
    intro l J Jx W' hB hJ _ hY h0
    exact places1_in 8 (by decide) l _ _ _ r W0 (KeptN s) J Jx _ hJ keptN_t (fun A B hA hB => hA.trans (KeptN.below hB (by have := hA.2; omega))) hY W' (KeptN.below hB (by omega)) (b0.th hB) (fun W2 hk => ⟨h1.keptN ((KeptN.below (hsz.symm ▸ hBW) (Nat.le_refl _)).trans (by rw [hsz]; exact hk)), h2.keptN ((KeptN.below (hsz.symm ▸ hBW) (Nat.le_refl _)).trans (by rw [hsz]; exact hk))⟩) h0
  have hsm := nu_lt (L := r.all) (fun x hx => by
    unfold Q.all at hx
    rcases List.mem_append.1 hx with h | h
    · exact ho.3 x h
    · exact ho.4 x h)
  have hall : r.all.length ≤ 72 := by
    show (r.dats ++ r.cps).length ≤ 72
    rw [List.length_append]; omega
  clear HW1 HW2 HW3 HW4 P1 P2 P3 P4 HR1 HPL HBN HG hx1 hb0 hx2 hb3 hx3 hno3 hx4 hb5 hx5 hno5 hx6 hb7 hx7 hno7 hx8 hb9 hx9 hno9 hc1 hc3 hc5 hc7 hc9 q0 q1 q2 q3 r0 r1 r2 r3 s0 s1 s2 s3 t0 t1 t2 t3 u0 u1 u2 u3 g0 g1 g2 g3 w1' w2' hch0 hB hWB hW0 hpz hqz h1 h2 b0 HHD Y4 hzB hzw
  refine wpIn_rangeFunc_steps rfl (by decide) (gf := 60) (lb := #[.pointer (some ⟨q, 0, none⟩)]) rfl trivial (enters_of Try.func60 (by kernel_rfl) rfl)
    hsq keptN_t (keptN_b (by omega)) (Below.refl _ _) (fun _ => rfl)
    (EncI r p W0) (fun c k W => False) (encI_own (by omega)) (fun c k W W' row hI hg hr => hI) ⟨hI0, Below.refl _ _⟩
    (ActA (fun k => #[.agg #[.int .u64 r.cp, .int .u64 r.tick, .slice a1 n1 cap1, .slice a2 n2 cap2], .pointer (some ⟨s, 0, none⟩), .string ⟨#[]⟩, .int .i64 0, .pointer (some ⟨p, 0, none⟩), .int .u32 (nu r.all k), .agg #[.int .u64 r.cp, .int .u64 r.tick, .slice a1 n1 cap1, .slice a2 n2 cap2], .bool true, .bool false, .pointer (some ⟨s, 0, none⟩), .int .u64 r.cp, .string B1, .tuple #[.int .i64 B1.size, .nilIface], .pointer (some ⟨s, 1, none⟩), .int .u64 r.tick, .string B2, .tuple #[.int .i64 B2.size, .nilIface], .pointer (some ⟨s, 2, none⟩), .slice a1 n1 cap1, .int .i64 n1, .int .u64 n1, .string B3, .tuple #[.int .i64 B3.size, .nilIface], .pointer (some ⟨s, 3, none⟩), .slice a2 n2 cap2, .int .i64 n2, .int .u64 n2, .string B4, .tuple #[.int .i64 B4.size, .nilIface], .agg #[.int .u64 r.cp, .int .u64 r.tick, .slice a1 n1 cap1, .slice a2 n2 cap2], .func (.func 60) #[] #[.pointer (some ⟨q, 0, none⟩)], .int .u32 (nu r.all k), undef, undef, undef, undef, undef, undef, undef, undef])) (fun k a' => actA_own k a') ?assign ?body ?done ?stop
  case assign =>
    intro l k W K hI hk hK
    have HK := Lib.hid (hK _ _ (KeepsFrom.refl _ _) (KeptN.refl _ _) hI rfl)
    unfold encP
    clear hK hI hsq
    dsimp only at HK
    gi_wp2
    exact HK.out
  case body =>
    rintro l k a' W hl hrec ⟨hbl, hbw⟩ rfl hk
    have hy := hsm k
    have hn := encL_next r hk
    have hln := encL_len r k
    rw [List.length_take] at hln
    obtain ⟨y, hyy⟩ : ∃ y, nu r.all k = y := ⟨_, rfl⟩
    rw [hyy] at hy hn
    have wy : IntKind.u64.wrap (y : Int) = (y : Int) := by rw [IntKind.wrap_u64]; omega
    have P1 := Lib.hid (fun W => rput y 4 W (by rw [show (256 : Nat) ^ 4 = 4294967296 by decide]; exact hy) (by decide) (by decide))
    have z1 := numB_size y 4
    have hW1 : ∀ W2, Below W.heap.size W W2 → Calls Try.prog 27 #[.pointer (some ⟨p, 0, none⟩), .string (numB y 4)] W2 fun e w' => e = .returned (.tuple #[.int .i64 (numB y 4).size, .nilIface]) ∧ KeepsFrom W0.heap.size W w' ∧ KeptN s W w' ∧ EncI r p W0 (k + 1) w' := fun W2 h2 =>
      (write_any p (encL r k) (numB y 4) W2 (bld_th hbl h2) (by rw [z1]; omega)).mono fun e w' hh => by
        obtain ⟨e1, e2, e3, e4⟩ := hh
        have hpW : p < W.heap.size := bld_lt hbl
        have h5 : Below p W w' := (h2.mono (Nat.le_of_lt hpW)).trans e3
        refine ⟨e1, ((NoC.of_below h2).trans e4).keeps _, ⟨fun b hb => h5.block b (by omega), ?_⟩, by rw [← hn]; exact e2, hbw.trans h5⟩
        have := h2.size
        have := e3.size
        have := e4.size
        omega
    obtain ⟨B, hB⟩ : ∃ B, numB y 4 = B := ⟨_, rfl⟩
    simp only [hB] at P1 hW1
    have HW1 := Lib.hid hW1
    dsimp only
    simp only [hyy]
    clear hbl hbw hy hn hln hyy z1 hB hW1 hsq hrec
    gi_wp2_with (first
      | (gi_at_call 28; (with_reducible refine CallsIn.mono (CallsIn.inRound l (callsIn_wide.2 (P1.out _))) ?_); rintro e x2 ⟨rfl, hx2⟩)
      | (gi_at_call 27; (with_reducible refine CallsIn.mono (CallsIn.inRound l (callsIn_wide.2 (HW1.out _ hx2))) ?_); rintro e x3 ⟨rfl, hx3⟩))
    exact hx3
  case done =>
    rintro D W hD ⟨hbl, hbw⟩ hKD
    have hfit := encL_all h.1
    have hln := encL_len r r.all.length
    rw [List.take_length] at hln
    obtain ⟨l, hl9⟩ : ∃ l, encL r r.all.length = l := ⟨_, rfl⟩
    rw [hl9] at hbl hfit hln
    have hsz2 : (⟨l.toArray⟩ : ByteArray).size = l.length := by show l.toArray.size = _; simp
    have hpW : p < W.heap.size := bld_lt hbl
    have HS := Lib.hid (string_any p l W hbl (fun e => by rw [e] at hln; simp only [List.length_nil] at hln; omega))
    have hE : fitE (⟨l.toArray⟩ : ByteArray) 508 = 0 := fitE_yes ⟨by omega, by omega⟩
    have hF := fun W => fit_any (⟨l.toArray⟩ : ByteArray) 508 W (by omega)
    rw [hfit, hE] at hF
    have HF := Lib.hid hF
    obtain ⟨R, hR⟩ : ∃ R, rotB r = R := ⟨_, rfl⟩
    have HFin : Hid (∀ W2, Below p W W2 → NoC W W2 → W2.heap[D]? = some (.deferred (some [])) ∧ Ans w (.tuple #[.string (rotB r), .int .i64 0]) (.returned (.tuple #[.string R, .int .i64 0])) (W2.putObj D (.deferred none))) := fun W2 h2 h4 => by
      have hD2 : D < W.heap.size := (Array.getElem?_eq_some_iff.1 hKD).1
      refine ⟨(h4.block D hD2 (fun ⟨c, t, f, e⟩ => by rw [hKD] at e; cases e)).trans hKD, by rw [hR], below_putObj ?_ D (by omega) _⟩
      rw [hsz]
      have h3 : Below s w W := hBW.trans (hbw.mono (by omega))
      exact h3.trans (h2.mono (by omega))
    simp only [hR] at HF
    clear hfit hln hl9 hbl hbw hKD hsz2 hE hF hR hsq
    gi_wp2_with (first
      | (gi_at_call 31; (with_reducible refine CallsIn.mono (callsIn_wide.2 HS.out) ?_); rintro e x2 ⟨rfl, hx2, hno2⟩)
      | (gi_at_call 30; (with_reducible refine CallsIn.mono (callsIn_wide.2 (HF.out _)) ?_); rintro e x3 ⟨rfl, hx3⟩))
    have hx4 : Below p W x3 := hx2.trans (hx3.mono (by have := hx2.size; omega))
    have hno4 := hno2.trans (NoC.of_below hx3)
    refine ⟨by simp, .inl ⟨_, _, rfl, run_takeDeferred (HFin.out _ hx4 hno4).1, ?_⟩⟩
    refine ⟨_, results_two rfl _ _, ?_⟩
    exact (HFin.out _ hx4 hno4).2
  case stop =>
    rintro D c k W hD hk hf
    exact hf.elim
theorem encode_any (r : Q) (d c : Value) (w : World) (h1 : Nums w d r.dats) (h2 : Nums w c r.cps) (ho : QOk r) : Calls Try.prog 9 #[r.val d c] w (Ans w (.tuple #[.string (encS r), .int .i64 (encE r)])) := by
  by_cases h : RightP r
  · rw [encS_yes h, encE_yes h]
    obtain ⟨a1, cap1, rfl, _, _⟩ := h1.parts
    obtain ⟨a2, cap2, rfl, _, _⟩ := h2.parts
    exact callsIn_wide.1 (encode_in r a1 _ cap1 a2 _ cap2 w rfl rfl h1 h2 ho h)
  · rw [encS_no h, encE_no h]
    exact encode_no r d c w h1 h2 ho h
end
end Go.Proofs.Ytdniakoedgohkaa.Root
