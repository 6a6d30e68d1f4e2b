/- The library's Delete on a slice that lies in a block of its own: what stands between two places is gone, in place. The library's Delete on a slice that lies in a block of its own: what stands between two places is gone, in place. -/
import Derived.Test.YtkhbfjncamobdaaBagRow
import Derived.Test.YtkhbfjncamobdaaBagPkBS
namespace Go.Proofs.Ytkhbfjncamobdaa.S
open Go.RowKit
set_option linter.unusedVariables false

theorem infoI : (Try.prog.info? 62).map (fun i => (i.zero, i.size, i.bytes)) = some (some (.agg #[.int .i64 0, .string ⟨#[]⟩]), 2, 24) := by kernel_rfl
theorem zeroI (w : World) : (zeroValue 62).run Try.prog w = .ok (.agg #[.int .i64 0, .string ⟨#[]⟩]) w := by kernel_rfl

set_option maxRecDepth 100000 in
set_option maxHeartbeats 1000000 in
theorem delI_same (g n c i : Nat) (w : World) (hn : n ≤ c) (hc : c ≤ 9223372036854775807) (hi : i ≤ n) :
    Calls Try.prog 35 #[.slice (some ⟨g, 0, none⟩) n c, .int .i64 i, .int .i64 i] w fun e w' => e = .returned (.slice (some ⟨g, 0, none⟩) n c) ∧ w = w' := by
  go_enter Try.func35, Try.ntmps35
  go_wp2
  all_goals
    go_ret
    exact ⟨rfl, rfl⟩

set_option maxRecDepth 100000 in
set_option maxHeartbeats 1000000 in
theorem delI_some (base g n c i j : Nat) (xs : List Value) (w : World) (hn : n < 1000000) (hij : i < j) (hj : j ≤ n) (hown : w.ownsRow base 62 2 (.slice (some ⟨g, 0, none⟩) n c) n xs) (h1 : ∀ v ∈ xs, v.oneCell' = true) :
    Calls Try.prog 35 #[.slice (some ⟨g, 0, none⟩) n c, .int .i64 i, .int .i64 j] w fun e w' => e = .returned (.slice (some ⟨g, 0, none⟩) (i + (n - j)) c) ∧
      w'.ownsRow base 62 2 (.slice (some ⟨g, 0, none⟩) (i + (n - j)) c) (i + (n - j)) (xs.take (i * 2) ++ xs.drop (j * 2)) ∧ Only (fun k => k = g) w w' := by
  obtain ⟨i0, hi0, hz0, hz1, hz2⟩ := info_parts infoI
  obtain ⟨rest, hrow, hlen, hnc, hcm, hxl, hbg⟩ := row_of_own hown
  unfold maxLen at hcm
  have hne : ((i : Int) == (j : Int)) = false := by simp; omega
  have hne2 : ¬ ((i : Int) = (j : Int)) := by omega
  have hdl : (xs.drop (j * 2)).length = (n - j) * 2 := by rw [List.length_drop, hxl]; omega
  have hfit : i * 2 + (xs.drop (j * 2)).length ≤ (xs ++ rest).length := by rw [hdl, hlen]; omega
  have ha1 : ∀ ad : Addr, (j < n → ad = ⟨g, j * 2, none⟩) → ∀ ty sc, (Builtin.append_ #[53, 53] ty #[.slice (some ⟨g, 0, none⟩) i c, .slice (some ad) (n - j) sc]).run Try.prog w.drew = .ok (.slice (some ⟨g, 0, none⟩) (i + (n - j)) c) (w.drew.setRow g ((xs ++ rest).take (i * 2) ++ xs.drop (j * 2) ++ (xs ++ rest).drop (i * 2 + (xs.drop (j * 2)).length)).toArray) := fun ad hne ty sc => by
    have := run_append_room (P := Try.prog) w.drew 53 ty 62 i0 Try.underlying53 hi0 g i c (xs ++ rest).toArray hrow ad (n - j) sc (xs.drop (j * 2)) (by rw [hdl, hz1]) (fun k u hk => by
      have hkl := (List.getElem?_eq_some_iff.1 hk).1
      rw [hdl] at hkl
      rw [hne (by omega), Addr.add_lit]
      show w.cell? _ = _
      rw [hrow.at_, List.getElem?_append_left (by omega)]
      rwa [List.getElem?_drop] at hk) (fun u hu => h1 u (List.mem_of_mem_drop hu)) (by omega) (by rw [hz1]; simpa using hfit)
    simpa [hz1] using this
  obtain ⟨cur1, hcur1⟩ : ∃ cur1, (xs ++ rest).take (i * 2) ++ xs.drop (j * 2) ++ (xs ++ rest).drop (i * 2 + (xs.drop (j * 2)).length) = cur1 := ⟨_, rfl⟩
  rw [hcur1] at ha1
  have hc1l : cur1.length = c * 2 := by rw [← hcur1]; simp only [List.length_append, List.length_take, List.length_drop] at hlen hdl hfit ⊢; omega
  have hc1t : cur1.take ((i + (n - j)) * 2) = xs.take (i * 2) ++ xs.drop (j * 2) := by
    rw [← hcur1, List.take_append_of_le_length (by simp only [List.length_append, List.length_take] at hlen hdl hfit ⊢; omega), List.take_of_length_le (by simp only [List.length_append, List.length_take] at hlen hdl hfit ⊢; omega), List.take_append_of_le_length (by omega)]
  obtain ⟨W1, hW1⟩ : ∃ W1, w.drew.setRow g cur1.toArray = W1 := ⟨_, rfl⟩
  have hrow1 : Row W1 g 62 cur1 := by rw [← hW1]; exact Row.set (w := w.drew) hrow cur1
  have hon1 : Only (fun k => k = g) w W1 := by rw [← hW1]; exact ((Only.refl _ w).drew).grown (grown_setRow w.drew g _) (fun r e => .inr (by cases e; rfl))
  rw [hW1] at ha1
  have hcl : ∀ ty sc, (Builtin.clear_ #[53] ty #[.slice (some ⟨g, (i + (n - j)) * 2, none⟩) (n - (i + (n - j))) sc]).run Try.prog W1 = .ok (.tuple #[]) (W1.setRow g (splice cur1 ((i + (n - j)) * 2) (Builtin.zeroCells (Value.cells (.agg #[.int .i64 0, .string ⟨#[]⟩])) (n - (i + (n - j)))).toList).toArray) := fun ty sc =>
    run_clearR (P := Try.prog) W1 53 62 ty (.agg #[.int .i64 0, .string ⟨#[]⟩]) Try.underlying53 zeroI (by simp [Value.cells, Value.oneCell']) (by simp [Value.cells]) g _ _ _ (by omega) cur1 62 hrow1 (by rw [hc1l]; simp [Value.cells]; omega)
  obtain ⟨cur2, hcur2⟩ : ∃ cur2, splice cur1 ((i + (n - j)) * 2) (Builtin.zeroCells (Value.cells (.agg #[.int .i64 0, .string ⟨#[]⟩])) (n - (i + (n - j)))).toList = cur2 := ⟨_, rfl⟩
  rw [hcur2] at hcl
  have hzl : (Builtin.zeroCells (Value.cells (.agg #[.int .i64 0, .string ⟨#[]⟩])) (n - (i + (n - j)))).toList.length = (n - (i + (n - j))) * 2 := by rw [Array.length_toList, size_zeroCells]; simp [Value.cells]
  have hc2l : cur2.length = c * 2 := by rw [← hcur2, length_splice _ _ _ (by rw [hc1l, hzl]; omega), hc1l]
  have hc2t : cur2.take ((i + (n - j)) * 2) = xs.take (i * 2) ++ xs.drop (j * 2) := by
    rw [← hcur2, splice, List.take_append_of_le_length (by rw [List.length_take]; omega), List.take_take, Nat.min_self, hc1t]
  obtain ⟨W2, hW2⟩ : ∃ W2, W1.setRow g cur2.toArray = W2 := ⟨_, rfl⟩
  have hrow2 : Row W2 g 62 cur2 := by rw [← hW2]; exact hrow1.set cur2
  have hon2 : Only (fun k => k = g) w W2 := by rw [← hW2]; exact hon1.grown (grown_setRow W1 g _) (fun r e => .inr (by cases e; rfl))
  rw [hW2] at hcl
  have hown2 : W2.ownsRow base 62 2 (.slice (some ⟨g, 0, none⟩) (i + (n - j)) c) (i + (n - j)) (xs.take (i * 2) ++ xs.drop (j * 2)) := by
    have h := List.take_append_drop ((i + (n - j)) * 2) cur2
    rw [hc2t] at h
    rw [← h] at hrow2 hc2l
    exact own_of_row hrow2 hc2l (by omega) (by unfold maxLen; omega) (by simp only [List.length_append, List.length_take, List.length_drop]; omega) hbg
  have H1 := Lib.hid ha1
  have H2 := Lib.hid hcl
  clear hcur1 hc1t hW1 hrow1 hon1 hcur2 hc2t hW2 hrow2 hc2l hc1l hzl ha1 hcl hi0 hz0 hz1 hz2 hown hfit hdl hxl hlen hrow
  have hic : i ≤ c := by omega
  have hjc : j ≤ c := by omega
  have hci : ¬ c = i := by omega
  have hij2 : i ≤ j := by omega
  have hin : i ≤ n := by omega
  have hic2 : (i : Int) ≤ (c : Int) := by omega
  have hjn2 : (j : Int) ≤ (n : Int) := by omega
  have hlo : i + (n - j) ≤ n := by omega
  have hlc : i + (n - j) ≤ c := by omega
  have hcl2 : ¬ (c = i + (n - j)) := by omega
  by_cases hcj : c = j
  · obtain rfl : n = j := by omega
    obtain rfl : c = n := hcj
    have hnj : ¬ (c < c) := by omega
    simp only [Nat.sub_self, Nat.add_zero] at hown2 H1 H2 hci hin ⊢
    clear hlo hlc hcl2 hjc hj hij2 hjn2
    go_enter Try.func35, Try.ntmps35
    go_wp2
    go_region_law (refine step_appendR rfl _ _ 53 53 rfl (.slice (some ⟨g, 0, none⟩) i c) (.slice (some ⟨g, 0, none⟩) 0 0) (by simp [Act.eval, Act.put]) (by simp [Act.eval, Act.put]) (H1.out _ (fun h => absurd h hnj) _ _) ?_)
    go_wp2_with (refine wpList_clearR _ rfl _ 53 rfl _ rfl (H2.out _ _) ?_)
    go_ret
    exact ⟨rfl, hown2, hon2⟩
  · have hcj2 : j < c := by omega
    go_enter Try.func35, Try.ntmps35
    go_wp2
    go_region_law (refine step_appendR rfl _ _ 53 53 rfl (.slice (some ⟨g, 0, none⟩) i c) (.slice (some ⟨g, j * 2, none⟩) (n - j) (c - j)) (by simp [Act.eval, Act.put]) (by simp [Act.eval, Act.put]) (H1.out _ (fun _ => rfl) _ _) ?_)
    go_wp2_with (refine wpList_clearR _ rfl _ 53 rfl _ rfl (H2.out _ _) ?_)
    go_ret
    exact ⟨rfl, hown2, hon2⟩

end Go.Proofs.Ytkhbfjncamobdaa.S

namespace Go.Proofs.Ytkhbfjncamobdaa.S
open Go.RowKit
set_option linter.unusedVariables false

theorem infoP : (Try.prog.info? 40).map (fun i => (i.zero, i.size, i.bytes)) = some (some (.pointer none), 1, 8) := by kernel_rfl
theorem zeroP (w : World) : (zeroValue 40).run Try.prog w = .ok (.pointer none) w := by kernel_rfl

set_option maxRecDepth 100000 in
set_option maxHeartbeats 1000000 in
theorem delP_same (g n c i : Nat) (w : World) (hn : n ≤ c) (hc : c ≤ 9223372036854775807) (hi : i ≤ n) :
    Calls Try.prog 43 #[.slice (some ⟨g, 0, none⟩) n c, .int .i64 i, .int .i64 i] w fun e w' => e = .returned (.slice (some ⟨g, 0, none⟩) n c) ∧ w = w' := by
  go_enter Try.func43, Try.ntmps43
  go_wp2
  all_goals
    go_ret
    exact ⟨rfl, rfl⟩

set_option maxRecDepth 100000 in
set_option maxHeartbeats 1000000 in
theorem delP_some (base g n c i j : Nat) (xs : List Value) (w : World) (hn : n < 1000000) (hij : i < j) (hj : j ≤ n) (hown : w.ownsRow base 40 1 (.slice (some ⟨g, 0, none⟩) n c) n xs) (h1 : ∀ v ∈ xs, v.oneCell' = true) :
    Calls Try.prog 43 #[.slice (some ⟨g, 0, none⟩) n c, .int .i64 i, .int .i64 j] w fun e w' => e = .returned (.slice (some ⟨g, 0, none⟩) (i + (n - j)) c) ∧
      w'.ownsRow base 40 1 (.slice (some ⟨g, 0, none⟩) (i + (n - j)) c) (i + (n - j)) (xs.take (i * 1) ++ xs.drop (j * 1)) ∧ Only (fun k => k = g) w w' := by
  obtain ⟨i0, hi0, hz0, hz1, hz2⟩ := info_parts infoP
  obtain ⟨rest, hrow, hlen, hnc, hcm, hxl, hbg⟩ := row_of_own hown
  unfold maxLen at hcm
  have hne : ((i : Int) == (j : Int)) = false := by simp; omega
  have hne2 : ¬ ((i : Int) = (j : Int)) := by omega
  have hdl : (xs.drop (j * 1)).length = (n - j) * 1 := by rw [List.length_drop, hxl]; omega
  have hfit : i * 1 + (xs.drop (j * 1)).length ≤ (xs ++ rest).length := by rw [hdl, hlen]; omega
  have ha1 : ∀ ad : Addr, (j < n → ad = ⟨g, j * 1, none⟩) → ∀ ty sc, (Builtin.append_ #[52, 52] ty #[.slice (some ⟨g, 0, none⟩) i c, .slice (some ad) (n - j) sc]).run Try.prog w.drew = .ok (.slice (some ⟨g, 0, none⟩) (i + (n - j)) c) (w.drew.setRow g ((xs ++ rest).take (i * 1) ++ xs.drop (j * 1) ++ (xs ++ rest).drop (i * 1 + (xs.drop (j * 1)).length)).toArray) := fun ad hne ty sc => by
    have := run_append_room (P := Try.prog) w.drew 52 ty 40 i0 Try.underlying52 hi0 g i c (xs ++ rest).toArray hrow ad (n - j) sc (xs.drop (j * 1)) (by rw [hdl, hz1]) (fun k u hk => by
      have hkl := (List.getElem?_eq_some_iff.1 hk).1
      rw [hdl] at hkl
      rw [hne (by omega), Addr.add_lit]
      show w.cell? _ = _
      rw [hrow.at_, List.getElem?_append_left (by omega)]
      rwa [List.getElem?_drop] at hk) (fun u hu => h1 u (List.mem_of_mem_drop hu)) (by omega) (by rw [hz1]; simpa using hfit)
    simpa [hz1] using this
  obtain ⟨cur1, hcur1⟩ : ∃ cur1, (xs ++ rest).take (i * 1) ++ xs.drop (j * 1) ++ (xs ++ rest).drop (i * 1 + (xs.drop (j * 1)).length) = cur1 := ⟨_, rfl⟩
  rw [hcur1] at ha1
  have hc1l : cur1.length = c * 1 := by rw [← hcur1]; simp only [List.length_append, List.length_take, List.length_drop] at hlen hdl hfit ⊢; omega
  have hc1t : cur1.take ((i + (n - j)) * 1) = xs.take (i * 1) ++ xs.drop (j * 1) := by
    rw [← hcur1, List.take_append_of_le_length (by simp only [List.length_append, List.length_take] at hlen hdl hfit ⊢; omega), List.take_of_length_le (by simp only [List.length_append, List.length_take] at hlen hdl hfit ⊢; omega), List.take_append_of_le_length (by omega)]
  obtain ⟨W1, hW1⟩ : ∃ W1, w.drew.setRow g cur1.toArray = W1 := ⟨_, rfl⟩
  have hrow1 : Row W1 g 40 cur1 := by rw [← hW1]; exact Row.set (w := w.drew) hrow cur1
  have hon1 : Only (fun k => k = g) w W1 := by rw [← hW1]; exact ((Only.refl _ w).drew).grown (grown_setRow w.drew g _) (fun r e => .inr (by cases e; rfl))
  rw [hW1] at ha1
  have hcl : ∀ ty sc, (Builtin.clear_ #[52] ty #[.slice (some ⟨g, (i + (n - j)) * 1, none⟩) (n - (i + (n - j))) sc]).run Try.prog W1 = .ok (.tuple #[]) (W1.setRow g (splice cur1 ((i + (n - j)) * 1) (Builtin.zeroCells (Value.cells (.pointer none)) (n - (i + (n - j)))).toList).toArray) := fun ty sc =>
    run_clearR (P := Try.prog) W1 52 40 ty (.pointer none) Try.underlying52 zeroP (by simp [Value.cells, Value.oneCell']) (by simp [Value.cells]) g _ _ _ (by omega) cur1 40 hrow1 (by rw [hc1l]; simp [Value.cells]; omega)
  obtain ⟨cur2, hcur2⟩ : ∃ cur2, splice cur1 ((i + (n - j)) * 1) (Builtin.zeroCells (Value.cells (.pointer none)) (n - (i + (n - j)))).toList = cur2 := ⟨_, rfl⟩
  rw [hcur2] at hcl
  have hzl : (Builtin.zeroCells (Value.cells (.pointer none)) (n - (i + (n - j)))).toList.length = (n - (i + (n - j))) * 1 := by rw [Array.length_toList, size_zeroCells]; simp [Value.cells]
  have hc2l : cur2.length = c * 1 := by rw [← hcur2, length_splice _ _ _ (by rw [hc1l, hzl]; omega), hc1l]
  have hc2t : cur2.take ((i + (n - j)) * 1) = xs.take (i * 1) ++ xs.drop (j * 1) := by
    rw [← hcur2, splice, List.take_append_of_le_length (by rw [List.length_take]; omega), List.take_take, Nat.min_self, hc1t]
  obtain ⟨W2, hW2⟩ : ∃ W2, W1.setRow g cur2.toArray = W2 := ⟨_, rfl⟩
  have hrow2 : Row W2 g 40 cur2 := by rw [← hW2]; exact hrow1.set cur2
  have hon2 : Only (fun k => k = g) w W2 := by rw [← hW2]; exact hon1.grown (grown_setRow W1 g _) (fun r e => .inr (by cases e; rfl))
  rw [hW2] at hcl
  have hown2 : W2.ownsRow base 40 1 (.slice (some ⟨g, 0, none⟩) (i + (n - j)) c) (i + (n - j)) (xs.take (i * 1) ++ xs.drop (j * 1)) := by
    have h := List.take_append_drop ((i + (n - j)) * 1) cur2
    rw [hc2t] at h
    rw [← h] at hrow2 hc2l
    exact own_of_row hrow2 hc2l (by omega) (by unfold maxLen; omega) (by simp only [List.length_append, List.length_take, List.length_drop]; omega) hbg
  have H1 := Lib.hid ha1
  have H2 := Lib.hid hcl
  simp only [Nat.mul_one] at H1 H2
  clear hcur1 hc1t hW1 hrow1 hon1 hcur2 hc2t hW2 hrow2 hc2l hc1l hzl ha1 hcl hi0 hz0 hz1 hz2 hown hfit hdl hxl hlen hrow
  have hic : i ≤ c := by omega
  have hjc : j ≤ c := by omega
  have hci : ¬ c = i := by omega
  have hij2 : i ≤ j := by omega
  have hin : i ≤ n := by omega
  have hic2 : (i : Int) ≤ (c : Int) := by omega
  have hjn2 : (j : Int) ≤ (n : Int) := by omega
  have hlo : i + (n - j) ≤ n := by omega
  have hlc : i + (n - j) ≤ c := by omega
  have hcl2 : ¬ (c = i + (n - j)) := by omega
  by_cases hcj : c = j
  · obtain rfl : n = j := by omega
    obtain rfl : c = n := hcj
    have hnj : ¬ (c < c) := by omega
    simp only [Nat.sub_self, Nat.add_zero] at hown2 H1 H2 hci hin ⊢
    clear hlo hlc hcl2 hjc hj hij2 hjn2
    go_enter Try.func43, Try.ntmps43
    go_wp2
    go_region_law (refine step_appendR rfl _ _ 52 52 rfl (.slice (some ⟨g, 0, none⟩) i c) (.slice (some ⟨g, 0, none⟩) 0 0) (by simp [Act.eval, Act.put]) (by simp [Act.eval, Act.put]) (H1.out _ (fun h => absurd h hnj) _ _) ?_)
    go_wp2_with (refine wpList_clearR _ rfl _ 52 rfl _ rfl (H2.out _ _) ?_)
    go_ret
    exact ⟨rfl, hown2, hon2⟩
  · have hcj2 : j < c := by omega
    go_enter Try.func43, Try.ntmps43
    go_wp2
    go_region_law (refine step_appendR rfl _ _ 52 52 rfl (.slice (some ⟨g, 0, none⟩) i c) (.slice (some ⟨g, j, none⟩) (n - j) (c - j)) (by simp [Act.eval, Act.put]) (by simp [Act.eval, Act.put]) (H1.out _ (fun _ => rfl) _ _) ?_)
    go_wp2_with (refine wpList_clearR _ rfl _ 52 rfl _ rfl (H2.out _ _) ?_)
    go_ret
    exact ⟨rfl, hown2, hon2⟩

end Go.Proofs.Ytkhbfjncamobdaa.S
