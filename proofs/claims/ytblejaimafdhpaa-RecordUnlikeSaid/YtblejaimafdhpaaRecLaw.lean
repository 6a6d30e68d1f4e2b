/- What stands ahead of every law on records: one is read as it was, a content too. -/
import Derived.Test.YtblejaimafdhpaaRecDecR
import Derived.Test.YtblejaimafdhpaaRecWrap
import Derived.Test.YtblejaimafdhpaaRecSame
namespace Go.Proofs.Ytblejaimafdhpaa.Record
open Go.RowKit Go.Shelf
attribute [local go_sem] Oper.semAt_some
set_option linter.unusedVariables false

def F1 : R := ⟨1, 1, false, false, 2, [⟨1, 3, 0, 5⟩]⟩
theorem right_F1 : RightP F1 := by decide
theorem ok_F1 : AllOk F1.l := fun e he => by
  have : e = ⟨1, 3, 0, 5⟩ := by simpa [F1] using he
  subst this
  exact ⟨by decide, by decide, by decide, by decide⟩
theorem ents_new (w : World) (L : List E) (arr : Array Value) (h : arr.toList = L.flatMap E.cells) (hl : L.length ≤ maxLen) : Ents (w.alloc (.cells arr 46)) (.slice (some ⟨w.heap.size, 0, none⟩) L.length L.length) L := by
  refine ⟨_, L.length, rfl, Nat.le_refl _, ⟨hl, fun e => by cases e⟩, flat_length E.cells 4 L (fun _ _ => rfl), fun _ => ⟨w.heap.size, 0, rfl, fun j u hj => ?_⟩⟩
  rw [← h] at hj
  have hn : (w.alloc (.cells arr 46)).heap[w.heap.size]? = some (.cells arr 46) := World.alloc_heap_new w _
  simp only [World.cell?, hn, Nat.zero_add]
  rw [← hj, Array.getElem?_toList]
  rfl
section
set_option maxRecDepth 100000
theorem results_r1 {fn : Func} {r : Tmp} (h : fn.results = #[.cell r 25]) (tmps : Array Value) (w : World) {b : Nat} {s : R} {v : Value} (hp : tmps.getD r undef = .pointer (some ⟨b, 0, none⟩)) (hA : RAt w b s v) :
    (results fn tmps).run Try.prog w = .ok (s.val v) w := by
  obtain ⟨c0, c1, c2, c3, c4, c5⟩ := hA.c
  rw [Array.getD_eq_getD_getElem?] at hp
  simp [results, h, hp, go_sem, c0, c1, c2, c3, c4, c5]
  rfl
set_option maxHeartbeats 1000000 in
theorem first_any (w : World) : Calls Try.prog 23 #[] w fun e w' => ∃ b, e = .returned (F1.val (.slice (some ⟨b, 0, none⟩) 1 1)) ∧ Ents w' (.slice (some ⟨b, 0, none⟩) 1 1) F1.l ∧ Below w.heap.size w w' := by
  obtain ⟨W1, hW1⟩ : ∃ W1, w.alloc (.cells #[.int .u64 0, .int .u64 0, .bool false, .bool false, .int .i64 0, .slice none 0 0] 25) = W1 := ⟨_, rfl⟩
  have hA1 : RAt W1 w.heap.size R.none (.slice none 0 0) := by rw [← hW1]; exact RAt.new w R.none _
  have hs1 : W1.heap.size = w.heap.size + 1 := by rw [← hW1]; simp
  have hB1 : Below w.heap.size w W1 := by rw [← hW1]; exact below_new w _
  obtain ⟨W2, hW2⟩ : ∃ W2, W1.alloc (.cells #[.int .i64 1, .int .u32 3, .int .u32 0, .int .u32 5] 46) = W2 := ⟨_, rfl⟩
  have hL2 : Ents W2 (.slice (some ⟨W1.heap.size, 0, none⟩) 1 1) F1.l := by rw [← hW2]; exact ents_new W1 F1.l _ rfl (by decide)
  rw [hs1] at hL2
  have hA2 : RAt W2 w.heap.size R.none (.slice none 0 0) := by rw [← hW2]; exact hA1.th (below_new _ _)
  have hB2 : Below w.heap.size w W2 := by rw [← hW2]; exact below_al hB1 _
  obtain ⟨k0, k1, k2, k3, k4, k5, hAp, hBp⟩ := hA2.put6 F1 (.slice (some ⟨w.heap.size + 1, 0, none⟩) 1 1)
  have hLp : Ents _ (.slice (some ⟨w.heap.size + 1, 0, none⟩) 1 1) F1.l := hL2.keep fun g o k c he _ => put6_other W2 w.heap.size (.int .u64 F1.seq) (.int .u64 F1.cp) (.bool F1.ends) (.bool F1.sync) (.int .i64 F1.next) (.slice (some ⟨w.heap.size + 1, 0, none⟩) 1 1) g (by cases he; omega)
  obtain ⟨a0, a1, a2, a3, a4, a5⟩ := hA2.c
  have f0 := hA2.f 0
  have f1 := hA2.f 1
  have f2 := hA2.f 2
  have f3 := hA2.f 3
  have f4 := hA2.f 4
  have f5 := hA2.f 5
  dsimp only [R.none, F1] at a0 a1 a2 a3 a4 a5 k0 k1 k2 k3 k4 k5
  go_enter Try.func23, Try.ntmps23
  go_wp2
  refine bodyPost_ret (results_r1 rfl _ _ rfl hAp) rfl ?_
  exact ⟨_, rfl, hLp, hB2.trans hBp⟩
end
end Go.Proofs.Ytblejaimafdhpaa.Record
