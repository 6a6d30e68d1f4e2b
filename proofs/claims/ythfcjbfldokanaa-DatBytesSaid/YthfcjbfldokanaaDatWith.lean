/- A table with a place another one, of the program. -/
import Derived.Test.YthfcjbfldokanaaBagRow
import Derived.Test.YthfcjbfldokanaaDatLow
namespace Go.Proofs.Ythfcjbfldokanaa.Dat
open Go.RowKit
attribute [local go_sem] Oper.semAt_some
set_option linter.unusedVariables false

theorem set3 (a b c : Value) : ∀ (xs rest : List Value), rest.length = 3 → (((xs ++ rest).set xs.length a).set (xs.length + 1) b).set (xs.length + 2) c = xs ++ [a, b, c]
  | [], rest, h => by
    match rest, h with
    | [x, y, z], _ => rfl
  | x :: xs, rest, h => by
    have ih := set3 a b c xs rest h
    rw [List.cons_append, List.length_cons, show xs.length + 1 + 2 = xs.length + 2 + 1 by omega]
    simp only [List.set_cons_succ]
    rw [ih]
    rfl
theorem cells_put (L : List T) (i K : Nat) (t : T) (xs : List Value) (hi : i ≤ L.length) (hK : K = max L.length (i + 1)) (hx : xs.length = K * 3) (ht : xs.take (L.length * 3) = cellsL L) :
    ((xs.set (i * 3) (.int .u32 t.phys)).set (i * 3 + 1) (.int .u64 t.start)).set (i * 3 + 2) (.int .u64 t.fin) = cellsL (putAt L i t) := by
  unfold putAt
  split
  · rename_i hlt
    have e : K = L.length := by omega
    subst e
    rw [← hx, List.take_length] at ht
    rw [ht]
    exact cellsL_set t L i hlt
  · have e : i = L.length := by omega
    have hl := cellsL_length L
    have e2 : xs = cellsL L ++ xs.drop (L.length * 3) := by rw [← ht, List.take_append_drop]
    rw [e2, e, ← hl, set3 _ _ _ _ _ (by rw [List.length_drop]; omega)]
    unfold cellsL
    rw [List.flatMap_append]
    rfl
/-- a place is laid into a row of one's own that begins as a table -/
theorem own_put {w : World} {base K g i : Nat} {L : List T} {xs : List Value} (hi : i ≤ L.length) (hK : K = max L.length (i + 1)) (h : w.ownsRow base 40 3 (.slice (some ⟨g, 0, none⟩) K K) K xs) (ht : xs.take (L.length * 3) = cellsL L) (s : T) :
    (∃ u, w.cell? ⟨g, i * 3, none⟩ = some u) ∧ w.frozen? ⟨g, i * 3, none⟩ = false ∧
    (∃ u, (w.setCell ⟨g, i * 3, none⟩ (.int .u32 s.phys)).cell? ⟨g, i * 3 + 1, none⟩ = some u) ∧ (w.setCell ⟨g, i * 3, none⟩ (.int .u32 s.phys)).frozen? ⟨g, i * 3 + 1, none⟩ = false ∧
    (∃ u, ((w.setCell ⟨g, i * 3, none⟩ (.int .u32 s.phys)).setCell ⟨g, i * 3 + 1, none⟩ (.int .u64 s.start)).cell? ⟨g, i * 3 + 2, none⟩ = some u) ∧ ((w.setCell ⟨g, i * 3, none⟩ (.int .u32 s.phys)).setCell ⟨g, i * 3 + 1, none⟩ (.int .u64 s.start)).frozen? ⟨g, i * 3 + 2, none⟩ = false ∧
    Trs (((w.setCell ⟨g, i * 3, none⟩ (.int .u32 s.phys)).setCell ⟨g, i * 3 + 1, none⟩ (.int .u64 s.start)).setCell ⟨g, i * 3 + 2, none⟩ (.int .u64 s.fin)) (.slice (some ⟨g, 0, none⟩) K K) (putAt L i s) ∧
    Below g w (((w.setCell ⟨g, i * 3, none⟩ (.int .u32 s.phys)).setCell ⟨g, i * 3 + 1, none⟩ (.int .u64 s.start)).setCell ⟨g, i * 3 + 2, none⟩ (.int .u64 s.fin)) := by
  have hl := h.1
  have h1 := (h.stored (i * 3) (.int .u32 s.phys)).1
  have h2 := (h1.stored (i * 3 + 1) (.int .u64 s.start)).1
  have h3 := (h2.stored (i * 3 + 2) (.int .u64 s.fin)).1
  rw [cells_put L i K s xs hi hK hl ht] at h3
  refine ⟨⟨_, (h.cellAt (i * 3) (by omega)).trans (List.getElem?_eq_getElem (by omega))⟩, h.frozenAt _, ⟨_, (h1.cellAt (i * 3 + 1) (by omega)).trans (List.getElem?_eq_getElem (by simp; omega))⟩, h1.frozenAt _, ⟨_, (h2.cellAt (i * 3 + 2) (by omega)).trans (List.getElem?_eq_getElem (by simp; omega))⟩, h2.frozenAt _, Trs.own (base := base) (by rw [putAt_length L hi, ← hK]; exact h3), ?_⟩
  exact (((Below.refl g w).setCell (p := ⟨g, i * 3, none⟩) (Nat.le_refl _) _).setCell (p := ⟨g, i * 3 + 1, none⟩) (Nat.le_refl _) _).setCell (p := ⟨g, i * 3 + 2, none⟩) (Nat.le_refl _) _
/-- what with leaves -/
def WithPost (M : List T) (w : World) (e : Ending) (w' : World) : Prop := ∃ v, e = .returned v ∧ Trs w' v M ∧ Below w.heap.size w w'
section
set_option maxRecDepth 100000
set_option maxHeartbeats 2000000
theorem with_any (v : Value) (L : List T) (i : Nat) (t : T) (w : World) (hL : Trs w v L) (h1 : 1 ≤ L.length) (h2 : L.length ≤ 4096) (hi : i ≤ L.length) :
    Calls Try.prog 32 #[v, .int .i64 i, t.val] w (WithPost (putAt L i t) w) := by
  obtain ⟨i0, hin, hz0, hz1, hz2⟩ := info_parts infoTr
  obtain ⟨b, off, cap, rfl, _⟩ := hL.at (k := 0) (by omega)
  have hnew := below_new w (boxO t)
  have hA := At.new w t
  obtain ⟨K, hK⟩ : ∃ K, K = max L.length (i + 1) := ⟨_, rfl⟩
  obtain ⟨w2, hm2, hown2, hgrow2⟩ := run_make_full (P := Try.prog) (w.alloc (boxO t)) w.heap.size 22 40 i0 (.agg #[.int .u32 0, .int .u64 0, .int .u64 0]) 3 Try.underlying22 hin hz0 hz1 .i64 .i64 K (by rw [hz2]; omega) (by unfold maxLen; omega) hnew.size
  have hB2 : Below (w.alloc (boxO t)).heap.size (w.alloc (boxO t)) w2 := (Below.refl _ _).grown hgrow2 (Nat.le_refl _) (fun r e => by cases e)
  obtain ⟨rest, hrow, hrl, _, _, hxl, hbg⟩ := row_of_own hown2
  have hb2 := below_th hnew hB2
  have hL2 := hL.below hb2
  obtain ⟨g, hg⟩ : ∃ g, (w.alloc (boxO t)).heap.size = g := ⟨_, rfl⟩
  have hcell := cellsL_length L
  have hmin : Nat.min L.length K = L.length := by rw [hK]; exact Nat.min_eq_left (by omega)
  rw [hg] at hm2 hrow hbg
  obtain ⟨cur, hcur⟩ : ∃ cur, (madeCells (Value.agg #[.int .u32 0, .int .u64 0, .int .u64 0]).cells (K * 3)).toList ++ rest = cur := ⟨_, rfl⟩
  rw [hcur] at hrow hrl
  have hcp : ∀ ty, (Builtin.copy_ #[22, 22] ty #[.slice (some ⟨g, 0, none⟩) K K, .slice (some ⟨b, off, none⟩) L.length cap]).run Try.prog w2 = .ok (goInt (Nat.min L.length K)) (w2.setRow g (splice cur 0 (cellsL L)).toArray) := fun ty =>
    run_copyR w2 22 22 ty 40 i0 3 Try.underlying22 hin hz1 g 0 K K ⟨b, off, none⟩ L.length cap cur 40 (cellsL L) hrow (by rw [hcell, hmin]) hL2.news (by rw [hcell, hrl]; omega) (cellsL_one L)
  rw [hmin] at hcp
  have hsl : (splice cur 0 (cellsL L)).length = K * 3 := by rw [length_splice _ _ _ (by rw [hcell, hrl]; omega), hrl]
  have hst : (splice cur 0 (cellsL L)).take (L.length * 3) = cellsL L := by
    unfold splice
    rw [List.take_zero, List.nil_append, ← hcell, List.take_left]
  obtain ⟨xs, hxs⟩ : ∃ xs, splice cur 0 (cellsL L) = xs := ⟨_, rfl⟩
  rw [hxs] at hcp hsl hst
  obtain ⟨w3, hw3⟩ : ∃ w3, w2.setRow g xs.toArray = w3 := ⟨_, rfl⟩
  have hrow3 : Row w3 g 40 (xs ++ []) := by rw [List.append_nil, ← hw3]; exact hrow.set xs
  have hown3 := own_of_row (n := K) (size := 3) (base := w.heap.size) hrow3 (by rw [List.append_nil]; exact hsl) (Nat.le_refl _) (by unfold maxLen; omega) hsl hbg
  have hB3 : Below g w2 w3 := by rw [← hw3]; exact below_setRow (Below.refl g w2) (Nat.le_refl _) _
  rw [hw3] at hcp
  obtain ⟨⟨u0, k0⟩, f0, ⟨u1, k1⟩, f1, ⟨u2, k2⟩, f2, hT4, hB4⟩ := own_put hi hK hown3 hst t
  have hA3 : At w3 w.heap.size t := (hA.th hB2).of_heap (hB3.block w.heap.size (by rw [← hg]; simp))
  obtain ⟨x0, x1, x2⟩ := hA3.c
  have hgw : w.heap.size ≤ g := by rw [← hg]; simp
  have HT := Lib.hid hT4
  have HB := Lib.hid (hb2.trans ((hB3.trans hB4).mono hgw))
  have HCP := Lib.hid hcp
  obtain ⟨N, hN⟩ : ∃ N, L.length = N := ⟨_, rfl⟩
  have hmax : (if (N : Int) < (i : Int) + 1 then (i : Int) + 1 else (N : Int)) = (K : Int) := by rw [hK, hN]; split <;> omega
  have hw1 : IntKind.i64.wrap ((i : Int) + 1) = (i : Int) + 1 := by rw [IntKind.wrap_i64]; omega
  have hik : i < K := by omega
  have hcaps : N ≤ cap ∧ cap ≤ 9223372036854775807 := by
    obtain ⟨a1, cap1, e, g1, g2⟩ := hL.parts
    cases e
    omega
  obtain ⟨hc1, hc2⟩ := hcaps
  rw [hN] at HCP h1 h2 hi ⊢
  clear hL hnew hA hown2 hgrow2 hB2 hrow hrl hxl hbg hb2 hL2 hcell hmin hcur hcp hsl hst hxs hw3 hrow3 hown3 hB3 hT4 hB4 hA3 hK hz0 hz1 hz2 hin hN
  obtain ⟨ph, st, fi⟩ := t
  unfold T.val
  unfold boxO at hm2 hg
  dsimp only at *
  go_enter Try.func32, Try.ntmps32
  go_wp2_with (refine wpList_copyR _ rfl _ _ 22 22 rfl _ _ rfl rfl (HCP.out _) ?_)
  go_ret
  exact ⟨_, rfl, HT.out, HB.out⟩
end
end Go.Proofs.Ythfcjbfldokanaa.Dat
