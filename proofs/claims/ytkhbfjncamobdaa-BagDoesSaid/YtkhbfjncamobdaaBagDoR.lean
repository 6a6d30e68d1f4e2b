/- The reference's Get, Next, Keys, Drop, Put over a list of numbers and values. -/
import Derived.Test.YtkhbfjncamobdaaBagPkBS
import Derived.Test.YtkhbfjncamobdaaRow
namespace Go.Proofs.Ytkhbfjncamobdaa.S
open Go.RowKit Go.Shelf
set_option linter.unusedVariables false

section
set_option maxRecDepth 100000
set_option maxHeartbeats 1000000
theorem infoE : (Try.prog.info? 67).map (fun i => (i.zero, i.size, i.bytes)) = some (some (.agg #[.int .i64 0, .string ByteArray.empty]), 2, 24) := by kernel_rfl
theorem cellsI_two (L : List It) (k : Nat) (x : It) (h : L[k]? = some x) : (cellsI L)[k * 2]? = some (.int .i64 x.1) ∧ (cellsI L)[k * 2 + 1]? = some (.string x.2) := by
  induction L generalizing k with
  | nil => simp at h
  | cons y L ih =>
    cases k with
    | zero =>
      obtain rfl : y = x := by simpa using h
      exact ⟨rfl, rfl⟩
    | succ k =>
      have := ih k (by simpa using h)
      have e : cellsI (y :: L) = .int .i64 y.1 :: .string y.2 :: cellsI L := rfl
      rw [e, show (k + 1) * 2 = k * 2 + 2 by omega]
      exact this
theorem cellsI_snoc (L : List It) (x : It) : cellsI (L ++ [x]) = cellsI L ++ [.int .i64 x.1, .string x.2] := by simp [cellsI]
theorem ent_at {w : World} {a : Option Addr} {cap N : Nat} {L : List It} (hN : L.length = N) (hS : Lies w (.slice a N cap) N 2 (cellsI L)) {k : Nat} {x : It} (hx : L[k]? = some x) :
    ∃ b off, a = some ⟨b, off, none⟩ ∧ w.cell? ⟨b, off + k * 2, none⟩ = some (.int .i64 x.1) ∧ w.cell? ⟨b, off + k * 2 + 1, none⟩ = some (.string x.2) := by
  have hkl := (List.getElem?_eq_some_iff.1 hx).1
  obtain ⟨h1, h2⟩ := cellsI_two L k x hx
  obtain ⟨_, _, e, _, _, _, h5⟩ := hS
  cases e
  obtain ⟨b, off, rfl, hc⟩ := h5 (by omega)
  exact ⟨b, off, rfl, hc _ _ h1, by rw [Nat.add_assoc]; exact hc _ _ h2⟩
theorem drop_at {L : List It} {k : Nat} {x : It} (h : L[k]? = some x) : L.drop k = x :: L.drop (k + 1) := by
  obtain ⟨h1, rfl⟩ := List.getElem?_eq_some_iff.1 h
  exact List.drop_eq_getElem_cons h1

theorem get_ref (at0 : Int) (L : List It) (v : Value) (w : World) (hl : Lies w v L.length 2 (cellsI L)) :
    Calls Try.prog 28 #[v, .int .i64 at0] w fun e w' => e = .returned (.tuple #[.string ((T.get at0 L).getD ⟨#[]⟩), .bool (T.get at0 L).isSome]) ∧ w = w' := by
  obtain ⟨a, cap, rfl, HL, hn, hm⟩ := hl.parts
  obtain ⟨N, hN⟩ : ∃ N, L.length = N := ⟨_, rfl⟩
  rw [hN] at HL hn ⊢
  have HN := Lib.hid hN
  obtain ⟨r, hr⟩ : ∃ r, T.get at0 L = r := ⟨_, rfl⟩
  rw [hr]
  have HR := Lib.hid hr
  clear hl hN hr
  go_enter Try.func28, Try.ntmps28
  go_wp2
  go_loop [6] (fun i => ∃ k : Nat, k ≤ N ∧ i = .int .i64 k ∧ Hid (T.get at0 (L.drop k) = r)) (fun i => N - (intOf i).toNat)
  case atStart => exact ⟨0, Nat.zero_le _, rfl, HR⟩
  case round =>
    obtain ⟨k, hk, rfl, HK⟩ := hrel
    by_cases hlt : k < N
    · obtain ⟨x, hx⟩ : ∃ x, L[k]? = some x := ⟨_, List.getElem?_eq_getElem (by rw [HN.out]; exact hlt)⟩
      obtain ⟨b, off, rfl, c0, c1⟩ := ent_at HN.out HL.out hx
      have hg := HK.out
      rw [drop_at hx] at hg
      by_cases he : x.1 = at0
      · have hq : (x.1 == at0) = true := by simp [he]
        have hr2 : r = some x.2 := by rw [← hg, T.get, if_pos he]
        subst hr2
        clear hg he hx
        go_wp2
        go_ret2
        exact ⟨rfl, rfl⟩
      · have hq : (x.1 == at0) = false := by simpa using he
        have HG2 : Hid (T.get at0 (L.drop (k + 1)) = r) := by rw [← hg, T.get, if_neg he]; exact rfl
        clear hg he hx
        go_wp2
        go_round
        case rel => exact ⟨k + 1, by omega, by go_num, HG2⟩
        case measure => simp [intOf]; omega
    · obtain rfl : N = k := by omega
      have hr2 : r = none := by rw [← HK.out, List.drop_of_length_le (by rw [HN.out]; omega)]; rfl
      subst hr2
      go_wp2
      go_ret2
      exact ⟨rfl, rfl⟩

def rowI (l : List Int) : List Value := l.map (.int .i64)
theorem next_ref (at0 : Int) (L : List It) (v : Value) (w : World) (hl : Lies w v L.length 2 (cellsI L)) :
    Calls Try.prog 27 #[v, .int .i64 at0] w fun e w' => e = .returned (.tuple #[.int .i64 ((T.vis at0 L).headD 0), .bool (!(T.vis at0 L).isEmpty)]) ∧ w = w' := by
  obtain ⟨a, cap, rfl, HL, hn, hm⟩ := hl.parts
  obtain ⟨N, hN⟩ : ∃ N, L.length = N := ⟨_, rfl⟩
  rw [hN] at HL hn ⊢
  have HN := Lib.hid hN
  obtain ⟨r, hr⟩ : ∃ r, T.vis at0 L = r := ⟨_, rfl⟩
  rw [hr]
  have HR := Lib.hid hr
  clear hl hN hr
  go_enter Try.func27, Try.ntmps27
  go_wp2
  go_loop [6] (fun i => ∃ k : Nat, k ≤ N ∧ i = .int .i64 k ∧ Hid (T.vis at0 (L.drop k) = r)) (fun i => N - (intOf i).toNat)
  case atStart => exact ⟨0, Nat.zero_le _, rfl, HR⟩
  case round =>
    obtain ⟨k, hk, rfl, HK⟩ := hrel
    by_cases hlt : k < N
    · obtain ⟨x, hx⟩ : ∃ x, L[k]? = some x := ⟨_, List.getElem?_eq_getElem (by rw [HN.out]; exact hlt)⟩
      obtain ⟨b, off, rfl, c0, c1⟩ := ent_at HN.out HL.out hx
      have hg := HK.out
      rw [drop_at hx] at hg
      by_cases he : at0 ≤ x.1
      · have hr2 : r = x.1 :: T.vis at0 (L.drop (k + 1)) := by rw [← hg]; simp [T.vis, he]
        subst hr2
        clear hg hx
        go_wp2
        go_ret2
        exact ⟨rfl, rfl⟩
      · have HG2 : Hid (T.vis at0 (L.drop (k + 1)) = r) := by
          rw [← hg]
          show T.vis at0 (L.drop (k + 1)) = T.vis at0 (x :: L.drop (k + 1))
          simp [T.vis, he]
        clear hg hx
        go_wp2
        go_round
        case rel => exact ⟨k + 1, by omega, by go_num, HG2⟩
        case measure => simp [intOf]; omega
    · obtain rfl : N = k := by omega
      have hr2 : r = [] := by rw [← HK.out, List.drop_of_length_le (by rw [HN.out]; omega)]; rfl
      subst hr2
      go_wp2
      go_ret2
      exact ⟨rfl, rfl⟩
def keysL2 (a b : Int) (L : List It) : List Int := (T.vis a L).filter fun x => decide (x < b)
theorem keysL2_snoc (a b : Int) (L : List It) (x : It) : keysL2 a b (L ++ [x]) = keysL2 a b L ++ (if a ≤ x.1 ∧ x.1 < b then [x.1] else []) := by
  unfold keysL2
  rw [T.vis_append, List.filter_append]
  congr 1
  by_cases h1 : a ≤ x.1
  · by_cases h2 : x.1 < b
    · simp [T.vis, h1, h2]
    · simp [T.vis, h1, h2]
  · simp [T.vis, h1]
theorem info_int64 : (Try.prog.info? 2).map (fun i => (i.zero, i.size, i.bytes)) = some (some (.int .i64 0), 1, 8) := by kernel_rfl
theorem take_snoc {L : List It} {k : Nat} {x : It} (h : L[k]? = some x) : L.take (k + 1) = L.take k ++ [x] := by rw [List.take_add_one, h]; rfl
theorem keys_ref (at0 to0 : Int) (L : List It) (v : Value) (w : World) (hl : Lies w v L.length 2 (cellsI L)) (hle : L.length ≤ 1000) :
    Calls Try.prog 25 #[v, .int .i64 at0, .int .i64 to0] w fun e w' => ∃ u, e = .returned u ∧ w'.ownsRow w.heap.size 2 1 u (keysL2 at0 to0 L).length (rowI (keysL2 at0 to0 L)) ∧ Below w.heap.size w w' := by
  obtain ⟨i0, hi, hz0, hz1, hz2⟩ := info_parts info_int64
  obtain ⟨a, cap, rfl, HL, hn, hm⟩ := hl.parts
  obtain ⟨N, hN⟩ : ∃ N, L.length = N := ⟨_, rfl⟩
  rw [hN] at HL hn hle ⊢
  have HN := Lib.hid hN
  clear hl hN
  go_enter Try.func25, Try.ntmps25
  go_wp2
  go_loopw [7, 8] (fun u i wr => ∃ k : Nat, k ≤ N ∧ i = .int .i64 k ∧ Hid (wr.ownsRow w.heap.size 2 1 u (keysL2 at0 to0 (L.take k)).length (rowI (keysL2 at0 to0 (L.take k)))) ∧ Below w.heap.size w wr) (fun _ i _ => N - (intOf i).toNat)
  case atStart => exact ⟨0, Nat.zero_le _, rfl, World.ownsRow_nil _ _ _ _, Below.refl _ _⟩
  case round =>
    obtain ⟨k, hk, rfl, HO, hB⟩ := hrel
    by_cases hlt : k < N
    · obtain ⟨x, hx⟩ : ∃ x, L[k]? = some x := ⟨_, List.getElem?_eq_getElem (by rw [HN.out]; exact hlt)⟩
      obtain ⟨b, off, rfl, c0, c1⟩ := ent_at HN.out (HL.out.below hB) hx
      have hs := keysL2_snoc at0 to0 (L.take k) x
      rw [← take_snoc hx] at hs
      have hkl : (keysL2 at0 to0 (L.take k)).length ≤ 1000 := by
        unfold keysL2 T.vis
        refine Nat.le_trans (List.length_filter_le _ _) ?_
        rw [List.length_map]
        refine Nat.le_trans (List.length_filter_le _ _) ?_
        rw [List.length_take]
        omega
      by_cases h1 : at0 ≤ x.1
      · by_cases h2 : x.1 < to0
        · rw [if_pos ⟨h1, h2⟩] at hs
          have HS := Lib.hid hs
          clear hs hx c1
          go_wp2_with (at_builtin; go_must (refine wpList_append_own _ rfl _ _ 69 rfl w.heap.size 2 i0 (.int .i64 0) 1 8 Try.underlying69 hi hz0 hz1 hz2 rfl (by decide) _ _ _ rfl (HO.out.alloc _) ⟨wr.heap.size, 0, none⟩ 1 1 [.int .i64 x.1] rfl rfl (cell_one_new _ _ _) (by simp [Value.oneCell']) (by unfold maxLen; omega) (by omega) (by have := hB.size; simp; omega) ?_; intro v' w1 hown' hgrow _))
          have hs1 := hB.size
          have HB : Below w.heap.size w w1 := (hB.alloc hs1 _).grown hgrow (by simp; omega) (fun r e => (HO.out.lt r e).1)
          have HO2 : Hid (w1.ownsRow w.heap.size 2 1 v' (keysL2 at0 to0 (L.take (k + 1))).length (rowI (keysL2 at0 to0 (L.take (k + 1))))) := by
            rw [HS.out, List.length_append, show rowI (keysL2 at0 to0 (L.take k) ++ [x.1]) = rowI (keysL2 at0 to0 (L.take k)) ++ [.int .i64 x.1] by simp [rowI]]
            exact hown'
          clear hown' hgrow HO
          go_roundw
          case rel => exact ⟨k + 1, by omega, by go_num, HO2, HB⟩
          case measure => simp [intOf]; omega
        · rw [if_neg (fun hh => h2 hh.2), List.append_nil] at hs
          have HO2 : Hid (wr.ownsRow w.heap.size 2 1 u7 (keysL2 at0 to0 (L.take (k + 1))).length (rowI (keysL2 at0 to0 (L.take (k + 1))))) := by rw [hs]; exact HO
          clear hs hx HO c1
          go_wp2
          go_roundw
          case rel => exact ⟨k + 1, by omega, by go_num, HO2, hB⟩
          case measure => simp [intOf]; omega
      · rw [if_neg (fun hh => h1 hh.1), List.append_nil] at hs
        have HO2 : Hid (wr.ownsRow w.heap.size 2 1 u7 (keysL2 at0 to0 (L.take (k + 1))).length (rowI (keysL2 at0 to0 (L.take (k + 1))))) := by rw [hs]; exact HO
        clear hs hx HO c1
        go_wp2
        go_roundw
        case rel => exact ⟨k + 1, by omega, by go_num, HO2, hB⟩
        case measure => simp [intOf]; omega
    · obtain rfl : N = k := by omega
      have ho := HO.out
      rw [List.take_of_length_le (by rw [HN.out]; omega)] at ho
      have HO2 := Lib.hid ho
      clear HO ho
      go_wp2
      go_ret
      exact ⟨_, rfl, HO2.out, hB⟩
end
end Go.Proofs.Ytkhbfjncamobdaa.S
