/- The bag's law: a call that only asks. -/
import Derived.Test.YtkhbfjncamobdaaBagAskK
namespace Go.Proofs.Ytkhbfjncamobdaa.S
open Go.RowKit Go.Shelf
set_option linter.unusedVariables false

section
set_option maxRecDepth 100000
set_option maxHeartbeats 2000000
theorem asks_any (o : Op) (xs : List It) (p : Nat) (F : Nat → Prop) (v : Value) (w : World) (hb : BagIs w p F xs) (hl : Lies w v xs.length 2 (cellsI xs)) (hle : xs.length ≤ 1000) :
    Calls Try.prog 16 #[.pointer (some ⟨p, 0, none⟩), v, opArg o] w fun e w' => e = .returned (.bool true) ∧ Below w.heap.size w w' := by
  obtain ⟨W0, hW0⟩ : ∃ W0, w.alloc (opObj o) = W0 := ⟨_, rfl⟩
  have hBa : Below w.heap.size w W0 := by rw [← hW0]; exact (Below.refl _ w).alloc (Nat.le_refl _) _
  have hob : W0.heap[w.heap.size]? = some (opObj o) := by rw [← hW0]; exact heap_alloc_new w _
  have hs0 : w.heap.size < W0.heap.size := (Array.getElem?_eq_some_iff.1 hob).1
  obtain ⟨c0, c1, c2, c3⟩ := op_cells hob
  have hob2 : ∀ W, Below W0.heap.size W0 W → W.cell? ⟨w.heap.size, 1, none⟩ = some (.int .i64 o.a) ∧ W.cell? ⟨w.heap.size, 2, none⟩ = some (.int .i64 o.t) := fun W hB => by
    obtain ⟨_, e1, e2, _⟩ := op_cells ((hB.block _ hs0).trans hob)
    exact ⟨e1, e2⟩
  have HOB := Lib.hid hob2
  have hb0 := hb.below hBa
  have hl0 := hl.below hBa
  obtain ⟨ks, hks⟩ : ∃ ks, keysL2 o.a o.t xs = ks := ⟨_, rfl⟩
  have hkl : ks.length ≤ 1000 := by
    rw [← hks]
    unfold keysL2 T.vis
    refine Nat.le_trans (List.length_filter_le _ _) ?_
    rw [List.length_map]
    exact Nat.le_trans (List.length_filter_le _ _) hle
  have hK : ∀ W, Below W0.heap.size W0 W → Calls Try.prog 24 #[.pointer (some ⟨p, 0, none⟩), .int .i64 o.a, .int .i64 o.t] W (KeysPost ks W) := fun W hB => by
    rw [← hks]
    exact keys_any o.a o.t xs p F W (hb0.below hB) hle
  have hKr : ∀ W, Below W0.heap.size W0 W → Calls Try.prog 25 #[v, .int .i64 o.a, .int .i64 o.t] W (KeysPost ks W) := fun W hB => by
    rw [← hks]
    exact keys_ref o.a o.t xs v W (hl0.below hB) hle
  obtain ⟨n1, hn1⟩ : ∃ n1, (T.vis o.a xs).headD 0 = n1 := ⟨_, rfl⟩
  obtain ⟨b1, hb1⟩ : ∃ b1, (!(T.vis o.a xs).isEmpty) = b1 := ⟨_, rfl⟩
  have hN : ∀ W, Below W0.heap.size W0 W → Calls Try.prog 26 #[.pointer (some ⟨p, 0, none⟩), .int .i64 o.a] W fun e w' => e = .returned (.tuple #[.int .i64 n1, .bool b1]) ∧ Below W.heap.size W w' := fun W hB => by
    rw [← hn1, ← hb1]
    exact next_any o.a xs p F W (hb0.below hB)
  have hNr : ∀ W, Below W0.heap.size W0 W → Calls Try.prog 27 #[v, .int .i64 o.a] W fun e w' => e = .returned (.tuple #[.int .i64 n1, .bool b1]) ∧ W = w' := fun W hB => by
    rw [← hn1, ← hb1]
    exact next_ref o.a xs v W (hl0.below hB)
  obtain ⟨g1, hg1⟩ : ∃ g1, (T.get o.a xs).getD ⟨#[]⟩ = g1 := ⟨_, rfl⟩
  obtain ⟨b2, hb2⟩ : ∃ b2, (T.get o.a xs).isSome = b2 := ⟨_, rfl⟩
  have hG : ∀ W, Below W0.heap.size W0 W → Calls Try.prog 11 #[.pointer (some ⟨p, 0, none⟩), .int .i64 o.a] W fun e w' => e = .returned (.tuple #[.string g1, .bool b2]) ∧ Below W.heap.size W w' := fun W hB => by
    rw [← hg1, ← hb2, ← valOf_str]
    exact get_any o.a xs p F W (hb0.below hB) hle
  have hGr : ∀ W, Below W0.heap.size W0 W → Calls Try.prog 28 #[v, .int .i64 o.a] W fun e w' => e = .returned (.tuple #[.string g1, .bool b2]) ∧ W = w' := fun W hB => by
    rw [← hg1, ← hb2]
    exact get_ref o.a xs v W (hl0.below hB)
  have hSm : ∀ u1 u2 W, Lies W u1 ks.length 1 (intsOf ks) → Lies W u2 ks.length 1 (intsOf ks) → Calls Try.prog 23 #[u1, u2] W fun e w' => e = .returned (.bool true) ∧ Below W.heap.size W w' := fun u1 u2 W h1 h2 => by
    obtain ⟨a1, x1, rfl, H1, _, _⟩ := h1.parts
    obtain ⟨a2, x2, rfl, H2, _, _⟩ := h2.parts
    exact same_t ks a1 a2 _ x1 x2 W rfl (by omega) H1.out H2.out
  have HSm := Lib.hid hSm
  have HK := Lib.hid hK
  have HKr := Lib.hid hKr
  have HN := Lib.hid hN
  have HNr := Lib.hid hNr
  have HG := Lib.hid hG
  have HGr := Lib.hid hGr
  obtain ⟨va, vc, rfl, HLv, _, _⟩ := hl0.parts
  clear hSm hkl hob hob2 hb hl hb0 hl0 hK hKr hN hNr hG hGr hks hn1 hb1 hg1 hb2 HLv
  unfold opArg
  rw [show w.alloc (opObj o) = w.alloc (.cells #[.int .i64 o.k, .int .i64 o.a, .int .i64 o.t, .string o.v] 30) from rfl] at hW0
  have hR0 : Below W0.heap.size W0 W0 := Below.refl _ _
  have hBd : Below W0.heap.size W0 W0.drew := (Below.refl _ _).drew
  by_cases h5 : o.k = 5
  · have e5 : (o.k == 5) = true := by simp [h5]
    exact asks_keys ks o.k o.a o.t o.v va _ vc p w W0 hW0 e5 c0 c1 c2 hBa HOB HK HKr HSm
  · have e5 : (o.k == 5) = false := by simpa using h5
    clear h5
    by_cases h6 : o.k = 6
    · have e6 : (o.k == 6) = true := by simp [h6]
      clear h6
      go_enter Try.func16, Try.ntmps16
      go_wp2_with (first
        | (go_at_call 26; ((with_reducible refine Calls.mono (HN.out _ hR0) ?_); rintro e wd ⟨rfl, hBx⟩; obtain ⟨y1, y2⟩ := HOB.out _ hBx))
        | (go_at_call 27; ((with_reducible refine Calls.mono (HNr.out _ hBx) ?_); rintro e wr ⟨rfl, rfl⟩)))
      go_ret
      exact ⟨rfl, below_th hBa hBx⟩
    · have e6 : (o.k == 6) = false := by simpa using h6
      clear h6
      go_enter Try.func16, Try.ntmps16
      go_wp2_with (first
        | (go_at_call 11; ((with_reducible refine Calls.mono (HG.out _ hR0) ?_); rintro e wd ⟨rfl, hBx⟩; obtain ⟨y1, y2⟩ := HOB.out _ hBx))
        | (go_at_call 28; ((with_reducible refine Calls.mono (HGr.out _ hBx) ?_); rintro e wr ⟨rfl, rfl⟩)))
      go_ret
      exact ⟨rfl, below_th hBa hBx⟩
end
end Go.Proofs.Ytkhbfjncamobdaa.S
