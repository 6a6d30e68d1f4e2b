/- Several texts in one, each under its own heading. -/
import Derived.Test.YteopcjfakhmifaaPk08
import Derived.RangeFuncBound
import Derived.RangeFuncCalls
import Derived.RangeFuncLeaves
import Derived.OwnWalkIn
import Derived.TacticsInMore
import Derived.LoopNIn
import Derived.LoopIn
import Derived.Deep.RegionHeld3
import Derived.Deep.QuietTactic
import Derived.BigQuiet
import Derived.Scope
import Derived.Test.YteopcjfakhmifaaPk16
import Derived.Test.YteopcjfakhmifaaPk19
import Derived.Test.YteopcjfakhmifaaPk11
/- When two contents are alike, bytes 0 behind the shorter one not counted: as the program compares them. It speaks of no program. -/
namespace Go.Proofs.Yteopcjfakhmifaa.Vol
open Ino
set_option linter.unusedVariables false
set_option linter.unusedSimpArgs false
theorem all_zero {l : List UInt8} : l.all (· == 0) = true ↔ l = List.replicate l.length 0 := by
  rw [List.all_eq_true]
  constructor
  · intro h
    exact List.eq_replicate_of_mem fun x hx => by simpa using h x hx
  · intro h x hx
    rw [h] at hx
    simpa using List.eq_of_mem_replicate hx
theorem pad_iff {A B : List UInt8} {n : Nat} (h : A.length ≤ B.length) (hn : B.length ≤ n) :
    A ++ List.replicate (n - A.length) 0 = B ++ List.replicate (n - B.length) 0 ↔ A = B.take A.length ∧ (B.drop A.length).all (· == 0) = true := by
  have e : B = B.take A.length ++ B.drop A.length := (List.take_append_drop _ _).symm
  have e2 : List.replicate (n - A.length) (0 : UInt8) = List.replicate (B.length - A.length) 0 ++ List.replicate (n - B.length) 0 := by
    rw [List.replicate_append_replicate]
    congr 1
    omega
  have hd : (B.drop A.length).length = B.length - A.length := List.length_drop
  rw [all_zero, hd, e2]
  constructor
  · intro hh
    have h1 : (A ++ List.replicate (B.length - A.length) 0) ++ List.replicate (n - B.length) 0 = B ++ List.replicate (n - B.length) 0 := by rw [List.append_assoc]; exact hh
    have h2 := List.append_cancel_right h1
    rw [e] at h2
    have h3 := List.append_inj h2 (by rw [List.length_take]; omega)
    rw [← e] at h3
    exact ⟨h3.1, h3.2.symm⟩
  · rintro ⟨h1, h2⟩
    have h3 : A ++ List.replicate (B.length - A.length) 0 = B := by
      rw [← h2]
      conv => lhs; lhs; rw [h1]
      exact List.take_append_drop _ _
    rw [← List.append_assoc, h3]
theorem full_list (x : ByteArray) : (full x).data.toList = x.data.toList ++ List.replicate (508 - x.data.toList.length) 0 := by
  unfold full
  rw [app_list, len_list]
  rfl
/-- so the program compares contents -/
def sameP (a b : ByteArray) : Prop := a.extract 0 (min a.size b.size) = b.extract 0 (min a.size b.size) ∧ bareB a (min a.size b.size) = true ∧ bareB b (min a.size b.size) = true
instance (a b : ByteArray) : Decidable (sameP a b) := by unfold sameP; infer_instance
theorem sameP_comm {a b : ByteArray} : sameP a b ↔ sameP b a := by
  unfold sameP
  rw [Nat.min_comm b.size a.size]
  exact ⟨fun h => ⟨h.1.symm, h.2.2, h.2.1⟩, fun h => ⟨h.1.symm, h.2.2, h.2.1⟩⟩
theorem same_iff {a b : ByteArray} (h : a.size ≤ b.size) (hb : b.size ≤ 508) : full a = full b ↔ sameP a b := by
  have h1 := len_list a
  have h2 := len_list b
  have hp := pad_iff (A := a.data.toList) (B := b.data.toList) (n := 508) (by omega) (by omega)
  have hf : full a = full b ↔ (full a).data.toList = (full b).data.toList := ⟨fun e => by rw [e], ba_ext⟩
  rw [hf, full_list, full_list, hp]
  unfold sameP
  rw [Nat.min_eq_left h, extract_all]
  constructor
  · rintro ⟨e1, e2⟩
    refine ⟨ba_ext ?_, bareB_end _ _ (Nat.le_refl _), ?_⟩
    · rw [Lib.extract_data, List.drop_zero, Nat.sub_zero, ← h1]; exact e1
    · unfold bareB; rw [← h1]; exact e2
  · rintro ⟨e1, _, e2⟩
    refine ⟨?_, ?_⟩
    · have := congrArg (fun x : ByteArray => x.data.toList) e1
      simp only [Lib.extract_data, List.drop_zero, Nat.sub_zero] at this
      rw [← h1] at this
      exact this
    · unfold bareB at e2; rw [← h1] at e2; exact e2
theorem full_same {a b : ByteArray} (ha : a.size ≤ 508) (hb : b.size ≤ 508) : full a = full b ↔ sameP a b := by
  rcases Nat.le_total a.size b.size with h | h
  · exact same_iff h hb
  · rw [sameP_comm, ← same_iff h ha]; exact eq_comm
theorem ch_out {s : ByteArray} {i : Nat} (h : nb s.size ≤ i) : ch s i = ⟨#[]⟩ := by
  have hz : (ch s i).size = 0 := by rw [ch_size]; unfold nb at h; omega
  exact ba_ext (List.eq_nil_of_length_eq_zero (by rw [len_list]; exact hz))
/-- what stays, as the program asks it -/
theorem stays_ask (was is : ByteArray) (i : Nat) : stays was is i ↔ ¬ ch was i = ⟨#[]⟩ ∧ sameP (ch was i) (ch is i) := by
  unfold stays
  rw [full_same (ch_le _ _) (ch_le _ _)]
  have : i < nb was.size ↔ ¬ ch was i = ⟨#[]⟩ := by
    constructor
    · intro h e
      have := ch_pos h
      rw [e] at this
      exact absurd this (by decide)
    · intro h
      exact Nat.lt_of_not_le fun h2 => h (ch_out h2)
  rw [this]
/-- a content, written at once -/
theorem ch_at (s : ByteArray) (i f t : Nat) (hf : f = min (i * 508) s.size) (ht : t = min (f + 508) s.size) : s.extract f t = ch s i := by
  apply ba_ext
  rw [ch_list, Lib.extract_data]
  have hl := len_list s
  apply List.ext_getElem?
  intro j
  simp only [List.getElem?_take, List.getElem?_drop]
  by_cases h : 508 * i ≤ s.size
  · have hf2 : f = 508 * i := by omega
    subst hf2
    by_cases hj : j < t - 508 * i
    · rw [if_pos hj, if_pos (by omega)]
    · rw [if_neg hj]
      split
      · rw [List.getElem?_eq_none (by omega)]
      · rfl
  · rw [if_neg (by omega)]
    split
    · rw [List.getElem?_eq_none (by omega)]
    · rfl
end Go.Proofs.Yteopcjfakhmifaa.Vol
/- The program's contents of a file: one by its number (contentAt), all one behind the other (contentsOf), two of them compared (isSame). -/
namespace Go.Proofs.Yteopcjfakhmifaa.Vol
open Go.RowKit
attribute [local go_sem] Oper.semAt_some
set_option linter.unusedVariables false
set_option linter.unusedSimpArgs false
theorem wide_scope {n : Nat} {P : Program} {c : Code} {Q : Exit → Act → World → Prop} {a : Act} {w : World} (h : c.wpIn Fence.wide n P (Exit.noGoto Q) a w) : (Code.scope c).wpIn Fence.wide n P Q a w := wpIn_wide.2 (wp_scope_straight (wpIn_wide.1 h))
theorem wide_label {n l : Nat} {P : Program} {Q : Exit → Act → World → Prop} {a : Act} {w : World} (h : Q .normal a w) : (Code.label l).wpIn Fence.wide n P Q a w := wpIn_wide.2 (wp_label h)
theorem below_putObj {n : Nat} {w W : World} (h : Below n w W) (D : Nat) (hD : n ≤ D) (o : Obj) : Below n w (W.putObj D o) := ⟨h.1, h.2, h.3, by simpa [World.putObj] using h.4, fun k hk => (World.putObj_heap_other (by omega)).trans (h.5 k hk)⟩
/-- a value in a box -/
def CellAt (W : World) (q : Nat) (t : TypeId) (v : Value) : Prop := W.heap[q]? = some (.cells #[v] t (0, 0))
theorem CellAt.lt {W : World} {q : Nat} {t : TypeId} {v : Value} (h : CellAt W q t v) : q < W.heap.size := (Array.getElem?_eq_some_iff.1 h).1
theorem CellAt.c {W : World} {q : Nat} {t : TypeId} {v : Value} (h : CellAt W q t v) : W.cell? ⟨q, 0, none⟩ = some v := by
  unfold CellAt at h
  simp only [World.cell?, h]
  rfl
theorem CellAt.f {W : World} {q : Nat} {t : TypeId} {v : Value} (h : CellAt W q t v) : W.frozen? ⟨q, 0, none⟩ = false := by
  unfold CellAt at h
  simp [World.frozen?, h]
theorem CellAt.of_heap {W W' : World} {q : Nat} {t : TypeId} {v : Value} (h : CellAt W q t v) (e : W'.heap[q]? = W.heap[q]?) : CellAt W' q t v := e.trans h
theorem CellAt.th {W W' : World} {q : Nat} {t : TypeId} {v : Value} (h : CellAt W q t v) (hB : Below W.heap.size W W') : CellAt W' q t v := h.of_heap (hB.block q h.lt)
theorem CellAt.put {W : World} {q : Nat} {t : TypeId} {v : Value} (h : CellAt W q t v) (v' : Value) : CellAt (W.setCell ⟨q, 0, none⟩ v') q t v' := by
  unfold CellAt at h ⊢
  rw [heap_setCell_same _ _ _ _ _ _ h]
  rfl
theorem CellAt.other {W : World} {q r : Nat} {t : TypeId} {v : Value} (h : CellAt W q t v) (hr : r ≠ q) (v' : Value) : CellAt (W.setCell ⟨r, 0, none⟩ v') q t v := h.of_heap (Below.heap_setCell _ _ _ _ (fun e => hr e.symm))
theorem CellAt.new (w : World) (t : TypeId) (v : Value) : CellAt (w.alloc (.cells #[v] t)) w.heap.size t v := World.alloc_heap_new w _
/-- a region's plain walk holds in a round, too -/
theorem wpIn_round_any {P : Program} {ops : Array Oper} {Q : Exit → Act → World → Prop} {id l0 nF : Nat} {a : Act} {w : World} (hm : P.follows .mixedOrders = true) (hd : noDefer ops = true) (hQ : ¬ LetsOut Q)
    (h : wpAny P .any ops Q ops.size (Array.replicate ops.size false) a w.drew) : (Code.region id ops true).wpIn (Fence.wide.inRound l0) nF P Q a w := wpIn_region_any hm (anyIn_of_any hd hQ _ _ _ _ h)
theorem own_row {W W' : World} {B : Nat} {t : TypeId} {sz : Nat} {v : Value} {n : Nat} {xs : List Value} {row : Option Nat} (h : W.ownsRow B t sz v n xs) (hg : W.grownBy W' row) (hr : ∀ r, row = some r → B ≤ r ∧ ∃ o : Obj, W.heap[r]? = some o ∧ o.isCells = false) : W'.ownsRow B t sz v n xs := by
  refine h.kept hg ?_
  rcases h.2 with ⟨rfl, _⟩ | ⟨g, cap, cur, rfl, _, hgb, _⟩
  · exact .inl rfl
  · refine .inr fun e' => ?_
    obtain ⟨_, o, ho, hc⟩ := hr g (by simpa [Value.ownBlock] using e'.symm)
    rw [hgb] at ho; cases ho; cases hc
def ActA (tmps : Nat → Array Value) (k : Nat) (a' : Act) (W : World) : Prop := a' = { tmps := tmps k, defers := [] }
theorem actA_own {B : Nat} {tmps : Nat → Array Value} (k : Nat) (a' : Act) : OwnFrom B (fun (_ : Unit) W => ActA tmps k a' W) := fun _ W W' row h _ _ => h
theorem results_tmp {fn : Func} {r : Tmp} (h : fn.results = #[.tmp r]) (tmps : Array Value) (w : World) : (results fn tmps).run Try.prog w = .ok (tmps.getD r undef) w := by
  simp [results, h, go_sem]
theorem results_two {fn : Func} {r t : Tmp} (h : fn.results = #[.tmp r, .tmp t]) (tmps : Array Value) (w : World) : (results fn tmps).run Try.prog w = .ok (.tuple #[tmps.getD r undef, tmps.getD t undef]) w := by
  simp [results, h, go_sem]
/-- what the k-th round over a file's contents is handed -/
def encC (s : ByteArray) (k : Nat) : Array Value := #[.int .i64 (k : Int), .string (ch s k)]
section
set_option maxRecDepth 100000
set_option maxHeartbeats 4000000
theorem clone_any (s : ByteArray) (w : World) (hs : s.size ≤ 281474976710656) : Calls Try.prog 40 #[.string s] w (Ans w (.string s)) := by
  have h := Lib.hid (clone_in s w hs)
  clear hs
  go_enter Try.func40, Try.ntmps40
  go_wp2_with (go_at_call 58; (with_reducible refine Calls.mono h.out ?_); rintro e w1 ⟨rfl, hB⟩)
  go_ret
  exact ⟨rfl, hB⟩
theorem at_any (s : ByteArray) (k : Nat) (w : World) (hs : s.size ≤ 281474976710656) (hk : k ≤ 100000) : Calls Try.prog 41 #[.string s, .int .i64 (k : Int)] w fun e w' => e = .returned (.string (ch s k)) ∧ w = w' := by
  obtain ⟨f, hf⟩ : ∃ f, f = min (k * 508) s.size := ⟨_, rfl⟩
  obtain ⟨t, ht⟩ : ∃ t, t = min (f + 508) s.size := ⟨_, rfl⟩
  have HX := Lib.hid (ch_at s k f t hf ht)
  have w1 : IntKind.i64.wrap ((k : Int) * 508) = (k : Int) * 508 := by rw [IntKind.wrap_i64]; omega
  have w2 : IntKind.i64.wrap ((f : Int) + 508) = (f : Int) + 508 := by rw [IntKind.wrap_i64]; omega
  have e1 : min ((k : Int) * 508) (s.size : Int) = (f : Int) := by omega
  have e2 : min ((f : Int) + 508) (s.size : Int) = (t : Int) := by omega
  have g1 : (f : Int) ≤ (t : Int) := by omega
  have g2 : (t : Int) ≤ (s.size : Int) := by omega
  have g3 : f ≤ t := by omega
  have g4 : t ≤ s.size := by omega
  clear hf ht
  go_enter Try.func41, Try.ntmps41
  go_wp2
  go_ret
  exact ⟨by rw [← HX.out]; rfl, rfl⟩
end
end Go.Proofs.Yteopcjfakhmifaa.Vol
