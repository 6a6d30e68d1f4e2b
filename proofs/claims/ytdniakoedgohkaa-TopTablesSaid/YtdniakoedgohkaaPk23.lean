/- Several texts in one, each under its own heading. -/
import Derived.Test.YtdniakoedgohkaaPk22
import Derived.Test.YtdniakoedgohkaaPk21
/- What stands at a number; Begin, Move, End of the program. -/
namespace Go.Proofs.Ytdniakoedgohkaa.Dat
open Go.RowKit
attribute [local go_sem] Oper.semAt_some
set_option linter.unusedVariables false

theorem putAt_lt {L : List T} {i : Nat} (h : i < L.length) (t : T) : putAt L i t = L.set i t := if_pos h
theorem At.put3k {W : World} {b : Nat} {s : T} (h : At W b s) (t : T) :
    (W.setCell ⟨b, 0, none⟩ (.int .u32 t.phys)).cell? ⟨b, 0, none⟩ = some (.int .u32 t.phys) ∧
    ((W.setCell ⟨b, 0, none⟩ (.int .u32 t.phys)).setCell ⟨b, 1, none⟩ (.int .u64 t.start)).cell? ⟨b, 1, none⟩ = some (.int .u64 t.start) ∧
    (((W.setCell ⟨b, 0, none⟩ (.int .u32 t.phys)).setCell ⟨b, 1, none⟩ (.int .u64 t.start)).setCell ⟨b, 2, none⟩ (.int .u64 t.fin)).cell? ⟨b, 2, none⟩ = some (.int .u64 t.fin) := by
  unfold At at h
  have h0 := heap_setCell_same W b 0 _ _ (.int .u32 t.phys) h
  have h1 := heap_setCell_same _ b 1 _ _ (.int .u64 t.start) h0
  have h2 := heap_setCell_same _ b 2 _ _ (.int .u64 t.fin) h1
  exact ⟨by simp only [World.cell?, h0]; rfl, by simp only [World.cell?, h1]; rfl, by simp only [World.cell?, h2]; rfl⟩
/-- a free place is laid -/
def boxZ : Obj := .cells #[.int .u32 0, .int .u64 0, .int .u64 0] 79
theorem At.newZ (w : World) : At (w.alloc boxZ) w.heap.size T.zero := At.new w T.zero
theorem At.putZ {W : World} {b : Nat} {s : T} (h : At W b s) :
    (W.setCell ⟨b, 0, none⟩ (.int .u32 0)).cell? ⟨b, 0, none⟩ = some (.int .u32 0) ∧
    ((W.setCell ⟨b, 0, none⟩ (.int .u32 0)).setCell ⟨b, 1, none⟩ (.int .u64 0)).cell? ⟨b, 1, none⟩ = some (.int .u64 0) ∧
    (((W.setCell ⟨b, 0, none⟩ (.int .u32 0)).setCell ⟨b, 1, none⟩ (.int .u64 0)).setCell ⟨b, 2, none⟩ (.int .u64 0)).cell? ⟨b, 2, none⟩ = some (.int .u64 0) ∧
    At (((W.setCell ⟨b, 0, none⟩ (.int .u32 0)).setCell ⟨b, 1, none⟩ (.int .u64 0)).setCell ⟨b, 2, none⟩ (.int .u64 0)) b T.zero ∧
    Below b W (((W.setCell ⟨b, 0, none⟩ (.int .u32 0)).setCell ⟨b, 1, none⟩ (.int .u64 0)).setCell ⟨b, 2, none⟩ (.int .u64 0)) :=
  ⟨(h.put3k T.zero).1, (h.put3k T.zero).2.1, (h.put3k T.zero).2.2, (h.put3 T.zero).1, (h.put3 T.zero).2⟩
theorem At.cZ {W : World} {b : Nat} (h : At W b T.zero) : W.cell? ⟨b, 0, none⟩ = some (.int .u32 0) ∧ W.cell? ⟨b, 1, none⟩ = some (.int .u64 0) ∧ W.cell? ⟨b, 2, none⟩ = some (.int .u64 0) := h.c
theorem results_tr {fn : Func} {r e : Tmp} (h : fn.results = #[.cell r 79, .tmp e]) (tmps : Array Value) (w : World) {b : Nat} {s : T} (hp : tmps.getD r undef = .pointer (some ⟨b, 0, none⟩)) (hA : At w b s) :
    (results fn tmps).run Try.prog w = .ok (.tuple #[s.val, tmps.getD e undef]) w := by
  obtain ⟨c0, c1, c2⟩ := hA.c
  rw [Array.getD_eq_getD_getElem?] at hp
  simp [results, h, hp, go_sem, c0, c1, c2]
  rfl
/-- what Begin, Move, End leave -/
def BegPost (L : List T) (ph cp : Nat) (w : World) (e : Ending) (w' : World) : Prop := ∃ v, e = .returned (.tuple #[v, .int .u32 (begI L ph cp), .int .i64 (begE L ph cp)]) ∧ Trs w' v (begV L ph cp) ∧ Below w.heap.size w w'
def TabPost (M : List T) (n : Int) (w : World) (e : Ending) (w' : World) : Prop := ∃ v, e = .returned (.tuple #[v, .int .i64 n]) ∧ Trs w' v M ∧ Below w.heap.size w w'
theorem beg_no {L : List T} {ph cp : Nat} {w w' : World} {n : Int} (h : ¬ begOk L ph cp) (hn : n = begE L ph cp) (hB : Below w.heap.size w w') : BegPost L ph cp w (.returned (.tuple #[.slice none 0 0, .int .u32 0, .int .i64 n])) w' := by
  refine ⟨_, by rw [hn]; unfold begI; rw [if_neg h]; rfl, ?_, hB⟩
  unfold begV
  rw [if_neg h]
  exact Trs.nil w'
theorem beg_yes {L : List T} {ph cp : Nat} {w w' : World} {v : Value} {i : Nat} (h : begOk L ph cp) (hi : i = low L) (hL : Trs w' v (putAt L i ⟨ph, cp, 0⟩)) (hB : Below w.heap.size w w') : BegPost L ph cp w (.returned (.tuple #[v, .int .u32 i, .int .i64 0])) w' := by
  refine ⟨v, by rw [hi, begE_ok.2 h]; unfold begI; rw [if_pos h], ?_, hB⟩
  unfold begV
  rw [if_pos h, ← hi]
  exact hL
theorem tab_no {w w' : World} {n : Int} (M : List T) (hM : M = []) (hB : Below w.heap.size w w') : TabPost M n w (.returned (.tuple #[.slice none 0 0, .int .i64 n])) w' := ⟨_, rfl, by rw [hM]; exact Trs.nil w', hB⟩
theorem movV_no {L : List T} {i ph : Nat} (h : ¬ movOk L i ph) : movV L i ph = [] := if_neg h
theorem movE_ok {L : List T} {i ph : Nat} : movE L i ph = 0 ↔ movOk L i ph := by
  unfold movE movOk
  by_cases h1 : RightP L
  · by_cases h2 : hasP L i
    · by_cases h3 : standsP (movT L i ph) <;> simp [h1, h2, h3]
    · simp [h1, h2]
  · simp [h1]
theorem endV_no {L : List T} {i cp : Nat} (h : ¬ endOk L i cp) : endV L i cp = [] := if_neg h
theorem endE_ok {L : List T} {i cp : Nat} : endE L i cp = 0 ↔ endOk L i cp := by
  unfold endE endOk
  by_cases h1 : RightP L
  · by_cases h2 : hasP L i ∧ (tr L i).fin = 0
    · by_cases h3 : ¬ cp = 0 ∧ oneP (endT L i cp)
      · rw [if_pos h1, if_pos h2, if_pos h3]; exact ⟨fun _ => ⟨h1, h2.1, h2.2, h3.1, h3.2⟩, fun _ => rfl⟩
      · rw [if_pos h1, if_pos h2, if_neg h3]; exact ⟨fun h => (by cases h), fun h => absurd ⟨h.2.2.2.1, h.2.2.2.2⟩ h3⟩
    · rw [if_pos h1, if_neg h2]; exact ⟨fun h => (by cases h), fun h => absurd ⟨h.2.1, h.2.2.1⟩ h2⟩
  · rw [if_neg h1]; exact ⟨fun h => (by cases h), fun h => absurd h.1 h1⟩
section
set_option maxRecDepth 100000
set_option maxHeartbeats 2000000
end
end Go.Proofs.Ytdniakoedgohkaa.Dat
/- Move, End of the program. -/
namespace Go.Proofs.Ytdniakoedgohkaa.Dat
open Go.RowKit
attribute [local go_sem] Oper.semAt_some
set_option linter.unusedVariables false

section
set_option maxRecDepth 100000
set_option maxHeartbeats 2000000
theorem find_yes {L : List T} {i : Nat} (hr : RightP L) (hh : hasP L i) : findT L i = tr L i ∧ findE L i = 0 := ⟨if_pos ⟨hr, hh⟩, by unfold findE; rw [if_pos hr, if_pos hh]⟩
theorem find_no {L : List T} {i : Nat} (hh : ¬ (RightP L ∧ hasP L i)) : findT L i = T.zero ∧ (findE L i = 80 ∧ ¬ RightP L ∨ findE L i = 82 ∧ RightP L) := by
  refine ⟨if_neg hh, ?_⟩
  unfold findE
  by_cases hr : RightP L
  · rw [if_pos hr, if_neg (fun h => hh ⟨hr, h⟩)]; exact .inr ⟨rfl, hr⟩
  · rw [if_neg hr]; exact .inl ⟨rfl, hr⟩
theorem mov_yes {L : List T} {i ph : Nat} {w w' : World} {v : Value} (h : movOk L i ph) (hT : Trs w' v (putAt L i (movT L i ph))) (hB : Below w.heap.size w w') : TabPost (movV L i ph) (movE L i ph) w (.returned (.tuple #[v, .int .i64 0])) w' := by
  refine ⟨v, by rw [movE_ok.2 h], ?_, hB⟩
  unfold movV
  rw [if_pos h, ← putAt_lt h.2.1.1]
  exact hT
theorem end_yes {L : List T} {i cp : Nat} {w w' : World} {v : Value} (h : endOk L i cp) (hT : Trs w' v (putAt L i (endT L i cp))) (hB : Below w.heap.size w w') : TabPost (endV L i cp) (endE L i cp) w (.returned (.tuple #[v, .int .i64 0])) w' := by
  refine ⟨v, by rw [endE_ok.2 h], ?_, hB⟩
  unfold endV
  rw [if_pos h, ← putAt_lt h.2.1.1]
  exact hT
theorem end_no {L : List T} {i cp : Nat} {w w' : World} {n : Int} (h : ¬ endOk L i cp) (hn : n = endE L i cp) (hB : Below w.heap.size w w') : TabPost (endV L i cp) (endE L i cp) w (.returned (.tuple #[.slice none 0 0, .int .i64 n])) w' := by
  rw [← hn]
  exact tab_no _ (endV_no h) hB
end
end Go.Proofs.Ytdniakoedgohkaa.Dat
/- What stands ahead of every law on tables. -/
namespace Go.Proofs.Ytdniakoedgohkaa.Dat
open Go.RowKit
attribute [local go_sem] Oper.semAt_some
set_option linter.unusedVariables false

theorem trs_new (w : World) (L : List T) (arr : Array Value) (h : arr.toList = L.flatMap T.cells) (hl : L.length ≤ maxLen) : Trs (w.alloc (.cells arr 79)) (.slice (some ⟨w.heap.size, 0, none⟩) L.length L.length) L := by
  refine ⟨_, L.length, rfl, Nat.le_refl _, ⟨hl, fun e => by cases e⟩, flat_length T.cells 3 L (fun _ _ => rfl), fun _ => ⟨w.heap.size, 0, rfl, fun j u hj => ?_⟩⟩
  rw [← h] at hj
  have hn : (w.alloc (.cells arr 79)).heap[w.heap.size]? = some (.cells arr 79) := World.alloc_heap_new w _
  simp only [World.cell?, hn, Nat.zero_add]
  rw [← hj, Array.getElem?_toList]
  rfl
theorem cps_new (w : World) (C : List Int) (arr : Array Value) (h : arr.toList = C.map (.int .u64)) (hl : C.length ≤ maxLen) : Cps (w.alloc (.cells arr 22)) (.slice (some ⟨w.heap.size, 0, none⟩) C.length C.length) C := by
  refine ⟨_, C.length, rfl, Nat.le_refl _, ⟨hl, fun e => by cases e⟩, by simp, fun _ => ⟨w.heap.size, 0, rfl, fun j u hj => ?_⟩⟩
  rw [← h] at hj
  have hn : (w.alloc (.cells arr 22)).heap[w.heap.size]? = some (.cells arr 22) := World.alloc_heap_new w _
  simp only [World.cell?, hn, Nat.zero_add]
  rw [← hj, Array.getElem?_toList]
  rfl
def TL : List T := [T.zero, ⟨16, 1, 0⟩]
def TM : List T := [T.zero, ⟨16, 1, 3⟩]
def TN : List T := [T.zero, T.zero]
section
set_option maxRecDepth 100000
set_option maxHeartbeats 2000000
theorem lv0 (W : World) : Calls Try.prog 44 #[.agg #[.int .u32 16, .int .u64 1, .int .u64 0], .slice none 0 0] W (Ans W (.bool true)) := by
  have := lives_any ⟨16, 1, 0⟩ (.slice none 0 0) [] W (Cps.nil W)
  rw [show livesB ⟨16, 1, 0⟩ [] = true from by decide] at this
  exact this
theorem lv2 (v : Value) (W : World) (h : Cps W v [2]) : Calls Try.prog 44 #[.agg #[.int .u32 16, .int .u64 1, .int .u64 3], v] W (Ans W (.bool true)) := by
  have := lives_any ⟨16, 1, 3⟩ v [2] W h
  rw [show livesB ⟨16, 1, 3⟩ [2] = true from by decide] at this
  exact this
theorem lv3 (v : Value) (W : World) (h : Cps W v [3]) : Calls Try.prog 44 #[.agg #[.int .u32 16, .int .u64 1, .int .u64 3], v] W (Ans W (.bool false)) := by
  have := lives_any ⟨16, 1, 3⟩ v [3] W h
  rw [show livesB ⟨16, 1, 3⟩ [3] = false from by decide] at this
  exact this
end
end Go.Proofs.Ytdniakoedgohkaa.Dat
