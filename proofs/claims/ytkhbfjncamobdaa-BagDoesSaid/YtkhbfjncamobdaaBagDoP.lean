/- The reference's Drop and Put over a list of numbers and values. -/
import Derived.Test.YtkhbfjncamobdaaBagDoR
namespace Go.Proofs.Ytkhbfjncamobdaa.S
open Go.RowKit Go.Shelf
set_option linter.unusedVariables false

theorem put_lows (at0 : Int) (v : ByteArray) (l r : List It) (h : ∀ y, y ∈ l → y.1 < at0) : T.put at0 v (l ++ r) = l ++ T.put at0 v r := by
  induction l with
  | nil => rfl
  | cons y l ih =>
    rw [List.cons_append, T.put, if_pos (h y (by simp)), ih (fun z hz => h z (by simp [hz]))]
    rfl
theorem get_lows (at0 : Int) (l r : List It) (h : ∀ y, y ∈ l → y.1 < at0) : T.get at0 (l ++ r) = T.get at0 r := by
  induction l with
  | nil => rfl
  | cons y l ih =>
    rw [List.cons_append, T.get, if_neg (by have := h y (by simp); omega), ih (fun z hz => h z (by simp [hz]))]
theorem get_highs (at0 : Int) (l : List It) (h : ∀ y, y ∈ l → at0 < y.1) : T.get at0 l = none := by
  induction l with
  | nil => rfl
  | cons y l ih => rw [T.get, if_neg (by have := h y (by simp); omega), ih (fun z hz => h z (by simp [hz]))]
theorem del_met (at0 : Int) (l : List It) : (((T.del at0 l).length : Int) != (l.length : Int)) = (T.get at0 l).isSome := by
  have hle : ∀ l : List It, (T.del at0 l).length ≤ l.length := fun l => List.length_filter_le _ _
  induction l with
  | nil => rfl
  | cons y l ih =>
    by_cases h : y.1 = at0
    · have e : T.del at0 (y :: l) = T.del at0 l := by simp [T.del, h]
      rw [e, T.get, if_pos h, List.length_cons]
      have := hle l
      simp
      omega
    · have e : T.del at0 (y :: l) = y :: T.del at0 l := by simp [T.del, h]
      rw [e, T.get, if_neg h, List.length_cons, List.length_cons, ← ih]
      have := hle l
      by_cases h2 : (T.del at0 l).length = l.length
      · rw [h2]; simp
      · rw [bne_iff_ne.2 (by omega), bne_iff_ne.2 (by omega)]
theorem del_snoc (at0 : Int) (l : List It) (x : It) : T.del at0 (l ++ [x]) = T.del at0 l ++ (if x.1 = at0 then [] else [x]) := by
  unfold T.del
  rw [List.filter_append]
  congr 1
  by_cases h : x.1 = at0 <;> simp [h]

section
set_option maxRecDepth 100000
set_option maxHeartbeats 1000000
def Listed (l : List It) (b : Bool) (w : World) (e : Ending) (w' : World) : Prop := ∃ u, e = .returned (.tuple #[u, .bool b]) ∧ w'.ownsRow w.heap.size 67 2 u l.length (cellsI l) ∧ Below w.heap.size w w'
theorem drop_ref (at0 : Int) (L : List It) (v : Value) (w : World) (hl : Lies w v L.length 2 (cellsI L)) (hle : L.length ≤ 1000) :
    Calls Try.prog 15 #[v, .int .i64 at0] w (Listed (T.del at0 L) (T.get at0 L).isSome w) := by
  obtain ⟨i0, hi, hz0, hz1, hz2⟩ := info_parts infoE
  obtain ⟨a, cap, rfl, HL, hn, hm⟩ := hl.parts
  have hmet := del_met at0 L
  obtain ⟨r, hr⟩ : ∃ r, (T.get at0 L).isSome = r := ⟨_, rfl⟩
  rw [hr] at hmet ⊢
  have HM := Lib.hid hmet
  obtain ⟨N, hN⟩ : ∃ N, L.length = N := ⟨_, rfl⟩
  rw [hN] at HL hn hle HM ⊢
  have HN := Lib.hid hN
  clear hl hN hmet hr
  go_enter Try.func15, Try.ntmps15
  go_wp2
  go_loopw [6, 7] (fun u i wr => ∃ k : Nat, k ≤ N ∧ i = .int .i64 k ∧ Hid (wr.ownsRow w.heap.size 67 2 u (T.del at0 (L.take k)).length (cellsI (T.del at0 (L.take k)))) ∧ Below w.heap.size w wr) (fun _ i _ => N - (intOf i).toNat)
  case atStart => exact ⟨0, Nat.zero_le _, rfl, World.ownsRow_nil _ _ _ _, Below.refl _ _⟩
  case round =>
    obtain ⟨k, hk, rfl, HO, hB⟩ := hrel
    by_cases hlt : k < N
    · obtain ⟨x, hx⟩ : ∃ x, L[k]? = some x := ⟨_, List.getElem?_eq_getElem (by rw [HN.out]; exact hlt)⟩
      obtain ⟨b, off, rfl, c0, c1⟩ := ent_at HN.out (HL.out.below hB) hx
      have hs := del_snoc at0 (L.take k) x
      rw [← take_snoc hx] at hs
      have hkl : (T.del at0 (L.take k)).length ≤ 1000 := by
        refine Nat.le_trans (List.length_filter_le _ _) ?_
        rw [List.length_take]
        omega
      by_cases h1 : x.1 = at0
      · rw [if_pos h1, List.append_nil] at hs
        have HO2 : Hid (wr.ownsRow w.heap.size 67 2 u6 (T.del at0 (L.take (k + 1))).length (cellsI (T.del at0 (L.take (k + 1))))) := by rw [hs]; exact HO
        subst h1
        clear hs hx HO c1
        go_wp2
        go_roundw
        case rel => exact ⟨k + 1, by omega, by go_num, HO2, hB⟩
        case measure => simp [intOf]; omega
      · rw [if_neg h1] at hs
        have HS := Lib.hid hs
        clear hs hx
        go_wp2_with (at_builtin; go_must (refine wpList_append_own _ rfl _ _ 26 rfl w.heap.size 67 i0 (.agg #[.int .i64 0, .string ByteArray.empty]) 2 24 Try.underlying26 hi hz0 hz1 hz2 rfl (by decide) _ _ _ rfl (HO.out.alloc _) ⟨wr.heap.size, 0, none⟩ 1 1 [.int .i64 x.1, .string x.2] rfl rfl (World.news_of_block (heap_alloc_new wr _)) (by simp [Value.oneCell']) (by unfold maxLen; omega) (by omega) (by have := hB.size; simp; omega) ?_; intro v' w1 hown' hgrow _))
        have hs1 := hB.size
        have HB : Below w.heap.size w w1 := (hB.alloc hs1 _).grown hgrow (by simp; omega) (fun r e => (HO.out.lt r e).1)
        have HO2 : Hid (w1.ownsRow w.heap.size 67 2 v' (T.del at0 (L.take (k + 1))).length (cellsI (T.del at0 (L.take (k + 1))))) := by
          rw [HS.out, List.length_append, cellsI_snoc]
          exact hown'
        clear hown' hgrow HO
        go_roundw
        case rel => exact ⟨k + 1, by omega, by go_num, HO2, HB⟩
        case measure => simp [intOf]; omega
    · obtain rfl : N = k := by omega
      have ho := HO.out
      rw [List.take_of_length_le (by rw [HN.out]; omega)] at ho
      obtain ⟨l2, hl2⟩ : ∃ l2, T.del at0 L = l2 := ⟨_, rfl⟩
      rw [hl2] at ho HM
      have HL2 := Lib.hid hl2
      obtain ⟨M, hMM⟩ : ∃ M, l2.length = M := ⟨_, rfl⟩
      rw [hMM] at ho HM
      have HMM := Lib.hid hMM
      obtain ⟨a2, c2, rfl, _, _, _⟩ := lies_own ho
      have HO2 := Lib.hid ho
      have hq := HM.out
      clear HO ho hl2 hMM
      go_wp2
      go_ret2
      exact ⟨_, rfl, by rw [HL2.out, HMM.out]; exact HO2.out, hB⟩

def PutI (at0 : Int) (v : ByteArray) (L : List It) (r : Bool) (B0 : Nat) (k : Nat) (u met done : Value) (wr : World) : Prop :=
  (done = .bool false ∧ met = .bool false ∧ (∀ y, y ∈ L.take k → y.1 < at0) ∧ wr.ownsRow B0 67 2 u k (cellsI (L.take k))) ∨
  (done = .bool true ∧ met = .bool r ∧ ∃ O, O ++ L.drop k = T.put at0 v L ∧ O.length ≤ k + 1 ∧ wr.ownsRow B0 67 2 u O.length (cellsI O))
theorem put_ref (at0 : Int) (s : ByteArray) (L : List It) (v : Value) (w : World) (hl : Lies w v L.length 2 (cellsI L)) (hle : L.length ≤ 1000) (hR : T.Rise L) :
    Calls Try.prog 14 #[v, .int .i64 at0, .string s] w (Listed (T.put at0 s L) (T.get at0 L).isSome w) := by
  obtain ⟨i0, hi, hz0, hz1, hz2⟩ := info_parts infoE
  obtain ⟨a, cap, rfl, HL, hn, hm⟩ := hl.parts
  obtain ⟨r, hr⟩ : ∃ r, (T.get at0 L).isSome = r := ⟨_, rfl⟩
  rw [hr]
  have HR := Lib.hid hr
  obtain ⟨N, hN⟩ : ∃ N, L.length = N := ⟨_, rfl⟩
  rw [hN] at HL hn hle ⊢
  have HN := Lib.hid hN
  have HRi := Lib.hid hR
  clear hl hN hr hR
  go_enter Try.func14, Try.ntmps14
  go_wp2
  go_loopw [8, 9, 10, 11] (fun u met done i wr => ∃ k : Nat, k ≤ N ∧ i = .int .i64 k ∧ Hid (PutI at0 s L r w.heap.size k u met done wr) ∧ Below w.heap.size w wr) (fun _ _ _ i _ => N - (intOf i).toNat)
  case atStart => exact ⟨0, Nat.zero_le _, rfl, .inl ⟨rfl, rfl, by simp, World.ownsRow_nil _ _ _ _⟩, Below.refl _ _⟩
  case round =>
    obtain ⟨k, hk, rfl, HI, hB⟩ := hrel
    by_cases hlt : k < N
    · obtain ⟨x, hx⟩ : ∃ x, L[k]? = some x := ⟨_, List.getElem?_eq_getElem (by rw [HN.out]; exact hlt)⟩
      obtain ⟨b, off, rfl, c0, c1⟩ := ent_at HN.out (HL.out.below hB) hx
      have HX := Lib.hid hx
      have hspl : L = L.take k ++ x :: L.drop (k + 1) := by rw [← drop_at hx, List.take_append_drop]
      have HSPL := Lib.hid hspl
      clear hspl hx
      rcases HI.out with ⟨rfl, rfl, hlow, hown⟩ | ⟨rfl, rfl, O, hO, hOl, hown⟩
      · have HO := Lib.hid hown
        have HLow := Lib.hid hlow
        clear hown hlow HI
        by_cases h1 : at0 ≤ x.1
        · by_cases h2 : x.1 = at0
          · have hr1 : r = true := by rw [← HR.out, HSPL.out, get_lows at0 _ _ HLow.out, T.get, if_pos h2]; rfl
            have hp : T.put at0 s L = L.take k ++ (at0, s) :: L.drop (k + 1) := by
              have e := put_lows at0 s (L.take k) (x :: L.drop (k + 1)) HLow.out
              rw [← HSPL.out, T.put, if_neg (by omega), if_pos h2] at e
              exact e
            have HP := Lib.hid hp
            have hq : (x.1 == at0) = true := by simp [h2]
            clear hp
            subst hr1
            go_wp2_with (at_builtin; (refine wpList_append_own _ rfl _ _ 26 rfl w.heap.size 67 i0 (.agg #[.int .i64 0, .string ByteArray.empty]) 2 24 Try.underlying26 hi hz0 hz1 hz2 rfl (by decide) _ _ _ rfl (HO.out.alloc _) ⟨wr.heap.size, 0, none⟩ 1 1 [.int .i64 at0, .string s] rfl rfl (World.news_of_block (heap_alloc_new wr _)) (by simp [Value.oneCell']) (by unfold maxLen; omega) (by omega) (by have := hB.size; simp; omega) ?_; intro v1 w1 hown1 hgrow1 _; have hs1 := hB.size; have HB1 : Below w.heap.size w w1 := (hB.alloc hs1 _).grown hgrow1 (by simp; omega) (fun r e => (HO.out.lt r e).1); have hrd := ent_at HN.out (HL.out.below HB1) HX.out; obtain ⟨_, _, e1, d0, d1⟩ := hrd; cases e1))
            have HI2 : Hid (PutI at0 s L true w.heap.size (k + 1) v1 (.bool true) (.bool true) w1) := .inr ⟨rfl, rfl, L.take k ++ [(at0, s)], by rw [HP.out]; simp, by rw [List.length_append, List.length_take, List.length_singleton]; omega, by
              rw [List.length_append, List.length_take, HN.out, Nat.min_eq_left (by omega), cellsI_snoc]
              exact hown1⟩
            clear hown1 hgrow1 HO
            go_roundw
            case rel => exact ⟨k + 1, by omega, by go_num, HI2, HB1⟩
            case measure => simp [intOf]; omega
          · have hr1 : r = false := by
              rw [← HR.out, HSPL.out, get_lows at0 _ _ HLow.out, get_highs at0 _ (fun y hy => ?_)]
              · rfl
              · have hR2 := HRi.out
                rw [HSPL.out] at hR2
                rcases List.mem_cons.1 hy with rfl | hy
                · omega
                · have := (T.Rise.mid hR2).2 y hy
                  omega
            have hp : T.put at0 s L = L.take k ++ (at0, s) :: x :: L.drop (k + 1) := by
              have e := put_lows at0 s (L.take k) (x :: L.drop (k + 1)) HLow.out
              rw [← HSPL.out, T.put, if_neg (by omega), if_neg h2] at e
              exact e
            have HP := Lib.hid hp
            have hq : (x.1 == at0) = false := by simpa using h2
            clear hp
            subst hr1
            go_wp2_with (first | (at_builtin; (refine wpList_append_own _ rfl _ _ 26 rfl w.heap.size 67 i0 (.agg #[.int .i64 0, .string ByteArray.empty]) 2 24 Try.underlying26 hi hz0 hz1 hz2 rfl (by decide) _ _ _ rfl (HO.out.alloc _) ⟨wr.heap.size, 0, none⟩ 1 1 [.int .i64 at0, .string s] rfl rfl (World.news_of_block (heap_alloc_new wr _)) (by simp [Value.oneCell']) (by unfold maxLen; omega) (by omega) (by have := hB.size; simp; omega) ?_; intro v1 w1 hown1 hgrow1 _; have hs1 := hB.size; have HB1 : Below w.heap.size w w1 := (hB.alloc hs1 _).grown hgrow1 (by simp; omega) (fun r e => (HO.out.lt r e).1); have hrd := ent_at HN.out (HL.out.below HB1) HX.out; obtain ⟨_, _, e1, d0, d1⟩ := hrd; cases e1)) | (at_builtin; (refine wpList_append_own _ rfl _ _ 26 rfl w.heap.size 67 i0 (.agg #[.int .i64 0, .string ByteArray.empty]) 2 24 Try.underlying26 hi hz0 hz1 hz2 rfl (by decide) _ _ _ rfl (hown1.alloc _) ⟨w1.heap.size, 0, none⟩ 1 1 [.int .i64 x.1, .string x.2] rfl rfl (World.news_of_block (heap_alloc_new w1 _)) (by simp [Value.oneCell']) (by unfold maxLen; omega) (by omega) (by have := HB1.size; simp; omega) ?_; intro v2 w2 hown2 hgrow2 _)))
            have hs2 := HB1.size
            have HB2 : Below w.heap.size w w2 := (HB1.alloc hs2 _).grown hgrow2 (by simp; omega) (fun r e => (hown1.lt r e).1)
            have HI2 : Hid (PutI at0 s L false w.heap.size (k + 1) v2 (.bool false) (.bool true) w2) := .inr ⟨rfl, rfl, L.take k ++ [(at0, s)] ++ [x], by rw [HP.out]; simp, by rw [List.length_append, List.length_append, List.length_take, List.length_singleton, List.length_singleton]; omega, by
              rw [List.length_append, List.length_append, List.length_take, HN.out, Nat.min_eq_left (by omega), cellsI_snoc, cellsI_snoc]
              exact hown2⟩
            clear hown1 hgrow1 HO hown2 hgrow2
            go_roundw
            case rel => exact ⟨k + 1, by omega, by go_num, HI2, HB2⟩
            case measure => simp [intOf]; omega
        · have hlow2 : ∀ y, y ∈ L.take (k + 1) → y.1 < at0 := fun y hy => by
            rw [take_snoc HX.out] at hy
            rcases List.mem_append.1 hy with hy | hy
            · exact HLow.out y hy
            · obtain rfl : y = x := by simpa using hy
              omega
          have HLow2 := Lib.hid hlow2
          clear hlow2
          go_wp2_with (at_builtin; (refine wpList_append_own _ rfl _ _ 26 rfl w.heap.size 67 i0 (.agg #[.int .i64 0, .string ByteArray.empty]) 2 24 Try.underlying26 hi hz0 hz1 hz2 rfl (by decide) _ _ _ rfl (HO.out.alloc _) ⟨wr.heap.size, 0, none⟩ 1 1 [.int .i64 x.1, .string x.2] rfl rfl (World.news_of_block (heap_alloc_new wr _)) (by simp [Value.oneCell']) (by unfold maxLen; omega) (by omega) (by have := hB.size; simp; omega) ?_; intro v1 w1 hown1 hgrow1 _; have hs1 := hB.size; have HB1 : Below w.heap.size w w1 := (hB.alloc hs1 _).grown hgrow1 (by simp; omega) (fun r e => (HO.out.lt r e).1)))
          have HI2 : Hid (PutI at0 s L r w.heap.size (k + 1) v1 (.bool false) (.bool false) w1) := .inl ⟨rfl, rfl, HLow2.out, by
            rw [take_snoc HX.out, cellsI_snoc]
            exact hown1⟩
          clear hown1 hgrow1 HO
          go_roundw
          case rel => exact ⟨k + 1, by omega, by go_num, HI2, HB1⟩
          case measure => simp [intOf]; omega
      · have HO := Lib.hid hown
        have HOO := Lib.hid hO
        clear hown hO HI
        go_wp2_with (at_builtin; (refine wpList_append_own _ rfl _ _ 26 rfl w.heap.size 67 i0 (.agg #[.int .i64 0, .string ByteArray.empty]) 2 24 Try.underlying26 hi hz0 hz1 hz2 rfl (by decide) _ _ _ rfl (HO.out.alloc _) ⟨wr.heap.size, 0, none⟩ 1 1 [.int .i64 x.1, .string x.2] rfl rfl (World.news_of_block (heap_alloc_new wr _)) (by simp [Value.oneCell']) (by unfold maxLen; omega) (by omega) (by have := hB.size; simp; omega) ?_; intro v1 w1 hown1 hgrow1 _; have hs1 := hB.size; have HB1 : Below w.heap.size w w1 := (hB.alloc hs1 _).grown hgrow1 (by simp; omega) (fun r e => (HO.out.lt r e).1)))
        have HI2 : Hid (PutI at0 s L r w.heap.size (k + 1) v1 (.bool r) (.bool true) w1) := .inr ⟨rfl, rfl, O ++ [x], by rw [← HOO.out, drop_at HX.out]; simp, by rw [List.length_append, List.length_singleton]; omega, by
          rw [List.length_append, cellsI_snoc]
          exact hown1⟩
        clear hown1 hgrow1 HO
        go_roundw
        case rel => exact ⟨k + 1, by omega, by go_num, HI2, HB1⟩
        case measure => simp [intOf]; omega
    · obtain rfl : N = k := by omega
      rcases HI.out with ⟨rfl, rfl, hlow, hown⟩ | ⟨rfl, rfl, O, hO, hOl, hown⟩
      · have hlow2 := hlow
        rw [List.take_of_length_le (by rw [HN.out]; omega)] at hlow2 hown
        have hr1 : r = false := by
          have := get_lows at0 L [] hlow2
          rw [List.append_nil] at this
          rw [← HR.out, this]
          rfl
        have hp : T.put at0 s L = L ++ [(at0, s)] := by
          have := put_lows at0 s L [] hlow2
          rw [List.append_nil] at this
          exact this
        have HP := Lib.hid hp
        have HO := Lib.hid hown
        subst hr1
        clear hp hlow hlow2 hown HI
        go_wp2_with (at_builtin; (refine wpList_append_own _ rfl _ _ 26 rfl w.heap.size 67 i0 (.agg #[.int .i64 0, .string ByteArray.empty]) 2 24 Try.underlying26 hi hz0 hz1 hz2 rfl (by decide) _ _ _ rfl (HO.out.alloc _) ⟨wr.heap.size, 0, none⟩ 1 1 [.int .i64 at0, .string s] rfl rfl (World.news_of_block (heap_alloc_new wr _)) (by simp [Value.oneCell']) (by unfold maxLen; omega) (by omega) (by have := hB.size; simp; omega) ?_; intro v1 w1 hown1 hgrow1 _))
        have HO2 : Hid (w1.ownsRow w.heap.size 67 2 v1 (T.put at0 s L).length (cellsI (T.put at0 s L))) := by
          rw [HP.out, List.length_append, cellsI_snoc, HN.out]
          exact hown1
        have hs1 := hB.size
        have HB1 : Below w.heap.size w w1 := (hB.alloc hs1 _).grown hgrow1 (by simp; omega) (fun r e => (HO.out.lt r e).1)
        clear hown1 hgrow1 HO
        go_wp2
        go_ret2
        exact ⟨_, rfl, HO2.out, HB1⟩
      · rw [List.drop_of_length_le (by rw [HN.out]; omega), List.append_nil] at hO
        subst hO
        have HO2 := Lib.hid hown
        clear HI hown
        go_wp2
        go_ret2
        exact ⟨_, rfl, HO2.out, hB⟩
end
end Go.Proofs.Ytkhbfjncamobdaa.S
