/- Several texts in one, each under its own heading. -/
import Derived.Test.YtkipkcmcolomcaaGreatPk19
import Derived.Test.YtkipkcmcolomcaaGreatPk04
/- The document's Drop. -/
namespace Go.Proofs.YtkipkcmcolomcaaGreat.Dir
def er (L : List N) (i k : Nat) : List N := (L.take k).eraseIdx i
theorem er_zero (L : List N) (i : Nat) : er L i 0 = [] := by unfold er; simp
theorem er_at {L : List N} {i : Nat} (h : i < L.length) : er L i (i + 1) = er L i i := by
  unfold er
  have hl : (L.take i).length = i := by rw [List.length_take]; omega
  rw [take_snoc h, List.eraseIdx_append_of_length_le (by omega), hl, Nat.sub_self, show [nm L i].eraseIdx 0 = [] from rfl, List.append_nil, List.eraseIdx_of_length_le (by omega)]
theorem er_other {L : List N} {i k : Nat} (h : k < L.length) (hk : ¬ k = i) : er L i (k + 1) = er L i k ++ [nm L k] := by
  unfold er
  have hl : (L.take k).length = k := by rw [List.length_take]; omega
  rw [take_snoc h]
  rcases Nat.lt_or_ge i k with hh | hh
  · rw [List.eraseIdx_append_of_lt_length (by omega)]
  · rw [List.eraseIdx_of_length_le (by simp; omega), List.eraseIdx_of_length_le (by omega)]
theorem er_all (L : List N) (i : Nat) : er L i L.length = L.eraseIdx i := by unfold er; rw [List.take_length]
theorem er_len (L : List N) (i k : Nat) : (er L i k).length ≤ k := by
  unfold er
  have h1 := List.length_eraseIdx_le (L.take k) i
  have h2 := List.length_take_le k L
  omega
namespace R
open Go.RowKit
attribute [local go_sem] Oper.semAt_some
set_option linter.unusedVariables false
set_option linter.unusedSimpArgs false
section
set_option maxRecDepth 100000
set_option maxHeartbeats 8000000
theorem drop_any (s name : ByteArray) (D : Option (List N)) (w : World) (hs : s.size ≤ 281474976710656) (hn : name.size ≤ 281474976710656) (h : DirO s D) :
    Calls Tryz.prog 72 #[.string s, .string name] w (Ans w (.tuple #[.string (dropVo D name), .int .i64 (findEo D name)])) := by
  by_cases hE : findEo D name = 0
  · cases D with
    | none => exact absurd hE (by show ¬ (110 : Int) = 0; decide)
    | some L =>
      obtain ⟨h1, h2⟩ := find_zero.1 hE
      obtain ⟨i0, hi, hz0, hz1, hz2⟩ := info_parts infoNm
      have hF := Lib.hid (fun W => found_good s name L W hs h h1 h2)
      have HV : Hid (dropVo (some L) name = bytesL (L.eraseIdx (idx L name))) := if_pos hE
      rw [HV.out, hE]
      have hdp := h.erase h2
      have hmany := bytesL_many L
      have hsz := h.2.2
      have hbs : bytesL L = s := h.2.1
      rw [hbs] at hmany
      have hall := er_all L (idx L name)
      have hz := er_zero L (idx L name)
      have HAT := Lib.hid (er_at h2)
      have HOT := Lib.hid (fun k (hk : k < L.length) (hne : ¬ k = idx L name) => er_other hk hne)
      have HLEN := Lib.hid (fun k => er_len L (idx L name) k)
      unfold FoundPost at hF
      generalize idx L name = ii at hF h2 hdp HAT HOT HLEN hall hz ⊢
      obtain ⟨E, hEe⟩ : ∃ E : Nat → List N, er L ii = E := ⟨_, rfl⟩
      simp only [hEe] at HAT HOT HLEN hall hz
      have hBy : Hid (∀ W v, Nms W v (E L.length) → Calls Tryz.prog 107 #[v] W (Ans W (.string (bytesL (L.eraseIdx ii))))) := fun W v hh => by
        rw [hall] at hh
        exact bytes_any v _ W hh (by have := hdp.2.2; omega) (fun i hi2 => (hdp.1.1 i hi2).2.2)
      obtain ⟨Z, hZ⟩ : ∃ Z, bytesL (L.eraseIdx ii) = Z := ⟨_, rfl⟩
      rw [hZ] at hBy ⊢
      obtain ⟨n, hnl⟩ : ∃ n, L.length = n := ⟨_, rfl⟩
      have HNL := Lib.hid hnl
      rw [hnl] at hF HOT hBy h2 hmany
      have hz' : Hid (E 0 = []) := hz
      clear h hs hn hE h1 hdp hbs hall hz hEe hZ hnl
      go_enter Tryz.func72, Tryz.ntmps72
      go_wp2_with (first
        | (go_at_call 106; (with_reducible refine Calls.mono (hF.out _) ?_); rintro e w1 ⟨v, rfl, hO, hB⟩; have HL := Lib.hid (Nms.own (L := L) (by rw [HNL.out]; exact hO)); have HB := Lib.hid hB; obtain ⟨a, cap, rfl, hc1, hc2⟩ := own_parts hO; clear hO hB))
      go_loopw [9, 10] (fun u i wr => ∃ k : Nat, k ≤ n ∧ i = .int .i64 (k : Int) ∧ Hid (wr.ownsRow w1.heap.size 52 2 u (E k).length (cellsL (E k))) ∧ Hid (Below w1.heap.size w1 wr)) (fun _ i _ => n - (intOf i).toNat)
      case atStart => exact ⟨0, by omega, rfl, by rw [hz'.out]; exact World.ownsRow_nil _ _ _ _, Below.refl _ _⟩
      case round =>
        obtain ⟨k, hk, rfl, HO, HBk⟩ := hrel
        by_cases hlt : k < n
        · by_cases hki : k = ii
          · subst hki
            have HO2 : Hid (wr.ownsRow w1.heap.size 52 2 u9 (E (k + 1)).length (cellsL (E (k + 1)))) := by rw [HAT.out]; exact HO
            have hq : ((k : Int) != (k : Int)) = false := by simp
            clear HO
            go_wp2
            go_roundw
            case rel => exact ⟨k + 1, by omega, by go_num, HO2, HBk⟩
            case measure => simp [intOf]; omega
          · have hq : ((k : Int) != (ii : Int)) = true := bne_iff_ne.2 (by omega)
            have h3 := (HL.out.below HBk.out).at (k := k) (by rw [HNL.out]; exact hlt)
            rw [HNL.out] at h3
            obtain ⟨b, off, cap2, e2, c0, c1⟩ := h3
            cases e2
            have hE2 := HOT.out k hlt hki
            have hEl := HLEN.out k
            obtain ⟨e, he⟩ : ∃ e, nm L k = e := ⟨_, rfl⟩
            rw [he] at c0 c1 hE2
            obtain ⟨x, y⟩ := e
            dsimp only at c0 c1
            obtain ⟨m, hm⟩ : ∃ m, (E k).length = m := ⟨_, rfl⟩
            rw [hm] at hEl HO
            have HM := Lib.hid hm
            have HE2 := Lib.hid hE2
            have hs1 := HBk.out.size
            clear hE2 he hm hki
            go_wp2_with (at_builtin; go_must (refine wpList_append_own _ rfl _ _ 30 rfl w1.heap.size 52 i0 (.agg #[.string ⟨#[]⟩, .int .u32 0]) 2 24 Tryz.underlying30 hi hz0 hz1 hz2 rfl (by decide) _ _ _ rfl (HO.out.alloc _) ⟨wr.heap.size, 0, none⟩ 1 1 [.string x, .int .u32 (y : Int)] rfl rfl (World.news_of_block (World.alloc_heap_new wr _)) (by simp [Value.oneCell']) (by unfold maxLen; omega) (by omega) (by simp; omega) ?_; intro v' w2 hown' hgrow _))
            have HB2 : Hid (Below w1.heap.size w1 w2) := (HBk.out.alloc hs1 _).grown hgrow (by simp; omega) (fun r e => (HO.out.lt r e).1)
            have HO2 : Hid (w2.ownsRow w1.heap.size 52 2 v' (E (k + 1)).length (cellsL (E (k + 1)))) := by
              rw [HE2.out, List.length_append, cellsL_snoc, HM.out]
              exact hown'
            clear hown' hgrow HO
            go_roundw
            case rel => exact ⟨k + 1, by omega, by go_num, HO2, HB2⟩
            case measure => simp [intOf]; omega
        · obtain rfl : k = n := by omega
          have HNs := Lib.hid (Nms.own HO.out)
          clear HO
          go_wp2_with (go_at_call 107; (with_reducible refine Calls.mono (hBy.out _ _ HNs.out) ?_); rintro e w2 ⟨rfl, hB2⟩)
          go_returns
          exact ⟨rfl, below_th (below_th HB.out HBk.out) hB2⟩
  · have hF := Lib.hid (fun W => found_bad s name D W hs hn h hE)
    have HV := Lib.hid (dropVo_not hE)
    rw [HV.out]
    obtain ⟨E, hEE⟩ : ∃ E, findEo D name = E := ⟨_, rfl⟩
    rw [hEE] at hE hF ⊢
    have hne : (E != 0) = true := bne_iff_ne.2 hE
    clear h hs hn hE hEE
    go_enter Tryz.func72, Tryz.ntmps72
    go_wp2_with (go_at_call 106; (with_reducible refine Calls.mono (hF.out _) ?_); rintro e w1 ⟨⟨v, rfl⟩, hB⟩)
    go_returns
    exact ⟨rfl, hB⟩
end
end R
end Go.Proofs.YtkipkcmcolomcaaGreat.Dir
/- The document's less, Same. -/
namespace Go.Proofs.YtkipkcmcolomcaaGreat.Dir.R
open Go.RowKit
attribute [local go_sem] Oper.semAt_some
set_option linter.unusedVariables false
set_option linter.unusedSimpArgs false
theorem drop_cons (s : ByteArray) {j : Nat} (h : j < s.size) : s.data.toList.drop j = UInt8.ofNat (sb s j) :: s.data.toList.drop (j + 1) := by
  have hl : j < s.data.toList.length := by simpa using h
  rw [← List.getElem_cons_drop (h := hl), list_sb s j hl]
theorem ofNat_sb (s : ByteArray) (j : Nat) : (UInt8.ofNat (sb s j)).toNat = sb s j := by
  have := sb_lt s j
  simp
  omega
section
set_option maxRecDepth 100000
set_option maxHeartbeats 8000000
theorem less_any (a b : ByteArray) (w : World) (ha : a.size ≤ 281474976710656) (hb : b.size ≤ 281474976710656) : Calls Tryz.prog 136 #[.string a, .string b] w fun e w' => e = .returned (.bool (ltB a b)) ∧ Below w.heap.size w w' := by
  have HL : Hid (ltB a b = Op.bytesLess (a.data.toList.drop 0) (b.data.toList.drop 0)) := by
    unfold Hid ltB
    rw [List.drop_zero, List.drop_zero, Lib.toList_data, Lib.toList_data]
  obtain ⟨R, hR⟩ : ∃ R, ltB a b = R := ⟨_, rfl⟩
  rw [hR] at HL ⊢
  clear hR
  obtain ⟨W0, rfl⟩ : ∃ W0 : World, W0 = w := ⟨_, rfl⟩
  go_enter Tryz.func136, Tryz.ntmps136
  go_wp2
  go_loopw [5] (fun i wr => ∃ j : Nat, i = .int .i64 (j : Int) ∧ j ≤ a.size ∧ j ≤ b.size ∧ Hid (R = Op.bytesLess (a.data.toList.drop j) (b.data.toList.drop j)) ∧ Hid (Below W0.heap.size W0 wr)) (fun i _ => (a.size : Nat) - (intOf i).toNat)
  case atStart => exact ⟨0, rfl, by omega, by omega, HL, Below.refl _ _⟩
  case round =>
    obtain ⟨j, rfl, hj1, hj2, HQ, HB⟩ := hrel
    clear HL
    by_cases h1 : j < a.size
    · have g1 : (j : Int) < (a.size : Int) := by omega
      by_cases h2 : j < b.size
      · have g2 : (j : Int) < (b.size : Int) := by omega
        have e1 : ∀ h : j < a.size, (((a[j]'h).toNat : Nat) : Int) = ((sb a j : Nat) : Int) := fun h => by
          have : a.data.toList[j]? = some (a[j]'h) := Go.Proofs.byte_at a j h
          simp [sb, this]
        have e2 : ∀ h : j < b.size, (((b[j]'h).toNat : Nat) : Int) = ((sb b j : Nat) : Int) := fun h => by
          have : b.data.toList[j]? = some (b[j]'h) := Go.Proofs.byte_at b j h
          simp [sb, this]
        have hc : R = Op.bytesLess (UInt8.ofNat (sb a j) :: a.data.toList.drop (j + 1)) (UInt8.ofNat (sb b j) :: b.data.toList.drop (j + 1)) := by rw [HQ.out, drop_cons a h1, drop_cons b h2]
        have o1 := ofNat_sb a j
        have o2 := ofNat_sb b j
        by_cases hne : sb a j = sb b j
        · have HN : Hid (R = Op.bytesLess (a.data.toList.drop (j + 1)) (b.data.toList.drop (j + 1))) := by
            unfold Hid
            rw [hc, hne, Bool.eq_iff_iff, bl_cons]
            constructor
            · rintro (h | ⟨_, h⟩)
              · omega
              · exact h
            · intro h
              exact .inr ⟨rfl, h⟩
          have hq : (((sb a j : Nat) : Int) != ((sb b j : Nat) : Int)) = false := by rw [hne]; simp
          obtain ⟨x, hx⟩ : ∃ x, sb a j = x := ⟨_, rfl⟩
          obtain ⟨y, hy⟩ : ∃ y, sb b j = y := ⟨_, rfl⟩
          rw [hx] at e1 hq
          rw [hy] at e2 hq
          clear hc hne o1 o2 hx hy
          go_wp2
          go_region
          go_wp2
          all_goals
            go_roundw
          case rel => exact ⟨j + 1, by go_num, by omega, by omega, HN, HB.out.drew⟩
          case measure => simp [intOf]; omega
        · have hq : (((sb a j : Nat) : Int) != ((sb b j : Nat) : Int)) = true := bne_iff_ne.2 (by omega)
          have hd : decide ((sb a j : Nat) < (sb b j : Nat)) = R := by
            rw [hc, Bool.eq_iff_iff, bl_cons, decide_eq_true_eq, o1, o2]
            constructor
            · intro h; exact .inl h
            · rintro (h | ⟨h, _⟩)
              · exact h
              · have := congrArg UInt8.toNat h
                rw [o1, o2] at this
                exact absurd this hne
          have hd2 : decide (((sb a j : Nat) : Int) < ((sb b j : Nat) : Int)) = R := by
            rw [← hd, decide_eq_decide]
            omega
          obtain ⟨x, hx⟩ : ∃ x, sb a j = x := ⟨_, rfl⟩
          obtain ⟨y, hy⟩ : ∃ y, sb b j = y := ⟨_, rfl⟩
          rw [hx] at e1 hq hd hd2
          rw [hy] at e2 hq hd hd2
          clear hc hne o1 o2 hx hy
          go_wp2
          go_quiet (fail)
          go_wp2
          go_quiet (fail)
          go_wp2
          go_ret
          exact ⟨rfl, below_drewN (below_drewN HB.out _) _⟩
      · have g2 : ¬ (j : Int) < (b.size : Int) := by omega
        have HR : Hid (R = false) := by
          unfold Hid
          rw [HQ.out, List.drop_of_length_le (l := b.data.toList) (by simp; omega)]
          unfold Op.bytesLess
          rfl
        have g3 : ¬ (a.size : Int) < (b.size : Int) := by omega
        have g4 : decide ((a.size : Int) < (b.size : Int)) = false := decide_eq_false g3
        have g5 : decide (a.size < b.size) = false := decide_eq_false (by omega)
        go_wp2
        go_ret
        exact ⟨by rw [HR.out]; rfl, HB.out⟩
    · obtain rfl : j = a.size := by omega
      have HR : Hid (R = decide (a.size < b.size)) := by
        unfold Hid
        rw [HQ.out, List.drop_of_length_le (l := a.data.toList) (by simp)]
        by_cases h2 : a.size < b.size
        · rw [drop_cons b h2, decide_eq_true h2]
          rfl
        · rw [List.drop_of_length_le (l := b.data.toList) (by simp; omega), decide_eq_false h2]
          rfl
      go_wp2
      go_ret
      exact ⟨by rw [HR.out]; rfl, HB.out⟩
end
end Go.Proofs.YtkipkcmcolomcaaGreat.Dir.R
/- The document's Same, Sorted. -/
namespace Go.Proofs.YtkipkcmcolomcaaGreat.Dir
open Go.RowKit
attribute [local go_sem] Oper.semAt_some
set_option linter.unusedVariables false
set_option linter.unusedSimpArgs false
theorem run_eqN (d : Nat) (a b : N) (w : World) : (Op.equalIn (d + 2) 52 a.val b.val).run Tryz.prog w = .ok (decide (a = b)) w := by
  unfold N.val
  rw [run_equalIn_agg w (d + 1) 52 _ _ (by kernel_rfl) (by kernel_rfl)]
  obtain ⟨a0, a1⟩ := a
  obtain ⟨b0, b1⟩ := b
  simp only [N.mk.injEq]
  by_cases h0 : a0 = b0
  · by_cases h1 : a1 = b1
    · simp [go_sem, h0, h1]
    · have h' : ¬ (a1 : Int) = b1 := by omega
      simp [go_sem, h0, h1, h']
  · have h0' : ¬ a0.toList = b0.toList := fun he => h0 (ba_ext (by rw [← Lib.toList_data, ← Lib.toList_data]; exact he))
    simp [go_sem, h0, h0']
theorem neqN (a b : N) (w : World) : (binOp .neq 52 a.val b.val).run Tryz.prog w = .ok (.bool (!decide (a = b))) w := by
  have h := run_eqN 9998 a b w
  unfold N.val at h ⊢
  rw [run_neq_struct, h]
  rfl
theorem make_fun (n : Nat) (hn : n ≤ 4096) : ∃ X : Array Value, X.size = n * 2 ∧ ∀ W : World, (Instr.makeSlice 30 (.int .i64 0) (.int .i64 (n : Int))).run Tryz.prog W = .ok (.slice (some ⟨W.heap.size, 0, none⟩) 0 n) (W.alloc (.cells X 52)) := by
  obtain ⟨i0, hi, hz0, hz1, hz2⟩ := info_parts infoNm
  refine ⟨madeCells (Value.agg #[.string ⟨#[]⟩, .int .u32 0]).cells (n * 2), by rw [size_madeCells], fun W => ?_⟩
  have hr := run_make (P := Tryz.prog) W 30 52 i0 (.agg #[.string ⟨#[]⟩, .int .u32 0]) Tryz.underlying30 hi hz0 .i64 .i64 0 n (Int.le_refl _) (by omega) (by rw [hz2]; omega) (by omega)
  simp only [Int.toNat_zero, Int.toNat_natCast, hz1] at hr
  exact hr
/-- the cells of a slice that is not nil, wherever it is laid -/
theorem Nms.news {w : World} {a : Addr} {n cap : Nat} {L : List N} (h : Nms w (.slice (some a) n cap) L) : ∀ j u, (cellsL L)[j]? = some u → w.cell? (a.add j) = some u := fun j u hj => by
  obtain ⟨a', cap', e, _, _, h4, h5⟩ := h
  cases e
  have hl := (List.getElem?_eq_some_iff.1 hj).1
  rw [cellsL_length] at hl
  obtain ⟨b, off, e2, hc⟩ := h5 (by omega)
  cases e2
  rw [add_plain]
  exact hc j u hj
theorem run_append_tab (w : World) (base : Nat) (v : Value) (n : Nat) (xs : List Value) (hown : w.ownsRow base 52 2 v n xs) (vL : Value) (L : List N) (hL : Nms w vL L) (h1 : n + L.length ≤ 100000) (hb : base ≤ w.heap.size) :
    ∃ v' w', (Builtin.append_ #[30, 30] 30 #[v, vL]).run Tryz.prog w = .ok v' w' ∧ w'.ownsRow base 52 2 v' (n + L.length) (xs ++ cellsL L) ∧ w.grownBy w' v.ownBlock := by
  obtain ⟨i0, hi, hz0, hz1, hz2⟩ := info_parts infoNm
  obtain ⟨a, cap, rfl, hc1, hc2⟩ := hL.parts
  cases a with
  | none =>
    have hc0 : cap = 0 := Lies.none_cap hL
    have hl0 : L = [] := List.eq_nil_of_length_eq_zero (by omega)
    subst hl0
    subst hc0
    refine ⟨v, w, run_append_owned_none (P := Tryz.prog) w base 30 30 52 i0 2 Tryz.underlying30 hi v n xs hown, ?_, ⟨rfl, rfl, rfl, Nat.le_refl _, fun _ _ _ => rfl⟩⟩
    simpa [cellsL] using hown
  | some ad =>
    obtain ⟨v', w', hr, h2, h3, _⟩ := run_append_own (P := Tryz.prog) w base 30 30 52 i0 (.agg #[.string ⟨#[]⟩, .int .u32 0]) 2 24 Tryz.underlying30 hi hz0 hz1 hz2 rfl (by decide) v n xs hown ad L.length cap (cellsL L) (cellsL_length L) hL.news (cellsL_one L) (by unfold maxLen; omega) (by omega) hb
    exact ⟨v', w', hr, h2, h3⟩
theorem wp_append_tab {w : World} {o : Oper} {a : Act} {K : Act → World → Prop} {Q : Exit → Act → World → Prop} (s x : Operand)
    (ho : o.op = .call { callee := .builtin .append, args := #[s, x], argTypes := #[30, 30] }) (hty : o.type = 30)
    (base : Nat) (v : Value) (n : Nat) (xs : List Value) (hs : a.eval s = v) (hown : w.ownsRow base 52 2 v n xs) (vL : Value) (L : List N) (hx : a.eval x = vL) (hL : Nms w vL L) (h1 : n + L.length ≤ 100000) (hb : base ≤ w.heap.size)
    (h : ∀ v' w', w'.ownsRow base 52 2 v' (n + L.length) (xs ++ cellsL L) → w.grownBy w' v.ownBlock → K (a.put o.dst v') w') : o.wp Tryz.prog a w K Q := by
  obtain ⟨v', w', hr, h2, h3⟩ := run_append_tab w base v n xs hown vL L hL h1 hb
  unfold Oper.wp execOp
  simp only [ho, hty, resolve, invoke, builtin, Sem.run_bind, Sem.run_pure, Result.andThen_ok, List.map_toArray, List.map_cons, List.map_nil, hs, hx, hr]
  exact h v' w' h2 h3
theorem wpList_append_tab {w : World} {ops : Array Oper} {rest : List Oper} {o : Oper} {a : Act} {Q : Exit → Act → World → Prop} (hgd : o.guard = none) (s x : Operand)
    (ho : o.op = .call { callee := .builtin .append, args := #[s, x], argTypes := #[30, 30] }) (hty : o.type = 30)
    (base : Nat) (v : Value) (n : Nat) (xs : List Value) (hs : a.eval s = v) (hown : w.ownsRow base 52 2 v n xs) (vL : Value) (L : List N) (hx : a.eval x = vL) (hL : Nms w vL L) (h1 : n + L.length ≤ 100000) (hb : base ≤ w.heap.size)
    (h : ∀ v' w', w'.ownsRow base 52 2 v' (n + L.length) (xs ++ cellsL L) → w.grownBy w' v.ownBlock → wpList Tryz.prog ops Q rest (a.put o.dst v') w') : wpList Tryz.prog ops Q (o :: rest) a w :=
  wpList_plain hgd fun _ hK => wp_append_tab s x ho hty base v n xs hs hown vL L hx hL h1 hb fun v' w' h2 h3 => hK _ _ (h v' w' h2 h3)
namespace R
section
set_option maxRecDepth 100000
set_option maxHeartbeats 8000000
theorem same_any (u v : Value) (A B : List N) (w : World) (hA : Nms w u A) (hB : Nms w v B) : Calls Tryz.prog 36 #[u, v] w (Ans w (.bool (decide (A = B)))) := by
  obtain ⟨a, cap, rfl, hc1, hc2⟩ := hA.parts
  obtain ⟨b, cap2, rfl, hd1, hd2⟩ := hB.parts
  have HA := Lib.hid hA
  have HB := Lib.hid hB
  by_cases hl : A.length = B.length
  · have HY : Hid ((∀ i, i < A.length → nm A i = nm B i) → decide (A = B) = true) := fun h => decide_eq_true (nm_ext hl h)
    have HN : Hid (∀ i, i < A.length → ¬ nm A i = nm B i → decide (A = B) = false) := fun i hi h => decide_eq_false (fun e => h (by rw [e]))
    obtain ⟨R, hR⟩ : ∃ R, decide (A = B) = R := ⟨_, rfl⟩
    rw [hR] at HY HN ⊢
    rw [← hl] at HB hd1 ⊢
    obtain ⟨n, hn⟩ : ∃ n, A.length = n := ⟨_, rfl⟩
    have hn2 : B.length = n := by omega
    rw [hn] at HA HB HY HN hc1 hd1 ⊢
    have HAN := Lib.hid hn
    have HBN := Lib.hid hn2
    have hq : ((n : Int) != (n : Int)) = false := by simp
    clear hA hB hl hR hn hn2
    obtain ⟨W0, rfl⟩ : ∃ W0 : World, W0 = w := ⟨_, rfl⟩
    go_enter Tryz.func36, Tryz.ntmps36
    go_wp2
    go_loopw [5] (fun i wr => ∃ k : Nat, k ≤ n ∧ i = .int .i64 (k : Int) ∧ Hid (∀ j, j < k → nm A j = nm B j) ∧ Hid (Below W0.heap.size W0 wr)) (fun i _ => n - (intOf i).toNat)
    case atStart => exact ⟨0, by omega, rfl, fun j hj => by omega, Below.refl _ _⟩
    case round =>
      obtain ⟨k, hk, rfl, HQ, HBk⟩ := hrel
      by_cases hlt : k < n
      · have h1 := (HA.out.below HBk.out).at (k := k) (by rw [HAN.out]; exact hlt)
        have h2 := (HB.out.below HBk.out).at (k := k) (by rw [HBN.out]; exact hlt)
        rw [HAN.out] at h1
        rw [HBN.out] at h2
        obtain ⟨b1, o1, c1, e1, p0, p1⟩ := h1
        obtain ⟨b2, o2, c2, e2, r0, r1⟩ := h2
        cases e1
        cases e2
        have hne := fun W => neqN (nm A k) (nm B k) W
        have hN1 := HN.out k hlt
        obtain ⟨x, hx⟩ : ∃ x, nm A k = x := ⟨_, rfl⟩
        obtain ⟨y, hy⟩ : ∃ y, nm B k = y := ⟨_, rfl⟩
        rw [hx] at p0 p1 hne hN1
        rw [hy] at r0 r1 hne hN1
        unfold N.val at hne
        by_cases hxy : x = y
        · rw [decide_eq_true hxy] at hne
          have HQ2 : Hid (∀ j, j < k + 1 → nm A j = nm B j) := fun j hj => by
            rcases Nat.lt_succ_iff_lt_or_eq.1 hj with h | h
            · exact HQ.out j h
            · rw [h, hx, hy]; exact hxy
          simp only [Bool.not_true] at hne
          clear hN1 hx hy hxy
          go_wp2
          go_quiet (fail)
          go_wp2
          go_roundw
          case rel => exact ⟨k + 1, by omega, by go_num, HQ2, below_drewN HBk.out _⟩
          case measure => simp [intOf]; omega
        · rw [decide_eq_false hxy] at hne
          have HF := Lib.hid (hN1 hxy)
          simp only [Bool.not_false] at hne
          clear hN1 hx hy hxy
          go_wp2
          go_quiet (fail)
          go_wp2
          go_ret
          exact ⟨by rw [HF.out]; rfl, below_drewN HBk.out _⟩
      · obtain rfl : k = n := by omega
        have HT := Lib.hid (HY.out HQ.out)
        go_wp2
        go_ret
        exact ⟨by rw [HT.out]; rfl, HBk.out⟩
  · have HF := Lib.hid (decide_eq_false (p := A = B) (fun e => hl (by rw [e])))
    have hq : ((A.length : Int) != (B.length : Int)) = true := bne_iff_ne.2 (by omega)
    clear hA hB hl
    go_enter Tryz.func36, Tryz.ntmps36
    go_wp2
    go_ret
    exact ⟨by rw [HF.out]; rfl, Below.refl _ _⟩
end
end R
end Go.Proofs.YtkipkcmcolomcaaGreat.Dir
/- The document's Sorted, List. -/
namespace Go.Proofs.YtkipkcmcolomcaaGreat.Dir
set_option linter.unusedVariables false
set_option linter.unusedSimpArgs false
/-- two neighbours change places -/
def swp (L : List N) (m : Nat) : List N := (L.set (m + 1) (nm L m)).set m (nm L (m + 1))
theorem swp_length (L : List N) (m : Nat) : (swp L m).length = L.length := by unfold swp; rw [List.length_set, List.length_set]
theorem nm_swp {L : List N} {m : Nat} (h : m + 1 < L.length) (i : Nat) : nm (swp L m) i = if i = m then nm L (m + 1) else if i = m + 1 then nm L m else nm L i := by
  unfold swp
  rw [nm_set (by rw [List.length_set]; omega), nm_set h]
theorem swp_perm {L : List N} {m : Nat} (h : m + 1 < L.length) : (swp L m).Perm L := by
  unfold swp
  rw [← nm_elem h, ← nm_elem (show m < L.length by omega)]
  exact List.set_set_perm h (by omega)
def Lt (L : List N) (p q : Nat) : Prop := ltB (nm L p).name (nm L q).name = true
def UpTo (L : List N) (i : Nat) : Prop := ∀ p q, p < q → q < i → Lt L p q
def Ins (L : List N) (i k : Nat) : Prop := (∀ p q, p < q → q ≤ i → ¬ p = k → ¬ q = k → Lt L p q) ∧ ∀ q, k < q → q ≤ i → Lt L k q
theorem Ins.start {L : List N} {i : Nat} (h : UpTo L i) : Ins L i i := ⟨fun p q h1 h2 h3 h4 => h p q h1 (by omega), fun q h1 h2 => by omega⟩
theorem Ins.swap {L : List N} {i m : Nat} (hl : m + 1 < L.length) (hm : m + 1 ≤ i) (h : Ins L i (m + 1)) (hlt : Lt L (m + 1) m) : Ins (swp L m) i m := by
  unfold Lt at hlt
  refine ⟨fun p q h1 h2 h3 h4 => ?_, fun q h1 h2 => ?_⟩
  · unfold Lt
    rw [nm_swp hl, nm_swp hl, if_neg h3, if_neg h4]
    by_cases hp : p = m + 1
    · subst hp
      rw [if_pos rfl, if_neg (by omega)]
      exact h.1 m q (by omega) h2 (by omega) (by omega)
    · rw [if_neg hp]
      by_cases hq : q = m + 1
      · rw [if_pos hq]
        exact h.1 p m (by omega) (by omega) hp (by omega)
      · rw [if_neg hq]
        exact h.1 p q h1 h2 hp hq
  · unfold Lt
    rw [nm_swp hl, nm_swp hl, if_pos rfl, if_neg (by omega)]
    by_cases hq : q = m + 1
    · rw [if_pos hq]
      exact hlt
    · rw [if_neg hq]
      exact h.2 q (by omega) h2
theorem Ins.zero {L : List N} {i : Nat} (h : Ins L i 0) : UpTo L (i + 1) := fun p q h1 h2 => by
  by_cases hp : p = 0
  · rw [hp]; exact h.2 q (by omega) (by omega)
  · exact h.1 p q h1 (by omega) hp (by omega)
theorem Ins.stop {L : List N} {i m : Nat} (hF : Fine L) (hl : m + 1 < L.length) (hm : m + 1 ≤ i) (h : Ins L i (m + 1)) (hn : ¬ Lt L (m + 1) m) : UpTo L (i + 1) := by
  have hlt : Lt L m (m + 1) := by
    unfold Lt at hn ⊢
    rcases ltB_total (nm L m).name (nm L (m + 1)).name with k | k | k
    · exact k
    · have := hF.2 m (m + 1) (by omega) hl k
      omega
    · exact absurd k hn
  intro p q h1 h2
  by_cases hq : q = m + 1
  · subst hq
    by_cases hp : p = m
    · rw [hp]; exact hlt
    · have := h.1 p m (by omega) (by omega) (by omega) (by omega)
      unfold Lt at this hlt ⊢
      exact ltB_trans this hlt
  · by_cases hp : p = m + 1
    · rw [hp]; exact h.2 q (by omega) (by omega)
    · exact h.1 p q h1 (by omega) hp hq
theorem UpTo.all {L : List N} {i : Nat} (h : UpTo L i) (hi : L.length ≤ i) : Up L := Up.of fun p q h1 h2 => h p q h1 (by omega)
theorem UpTo.one (L : List N) : UpTo L 1 := fun p q h1 h2 => by omega
open Go.RowKit
attribute [local go_sem] Oper.semAt_some
theorem own_below {W W' : World} {base : Nat} {e : TypeId} {sz : Nat} {v : Value} {n : Nat} {xs : List Value} (h : W.ownsRow base e sz v n xs) (hB : Below W.heap.size W W') : W'.ownsRow base e sz v n xs := h.kept (grown_of_below hB) (by cases hv : v.ownBlock <;> simp)
theorem own_put {w : World} {base n cap g k : Nat} {L : List N} (hn : L.length = n) (h : w.ownsRow base 52 2 (.slice (some ⟨g, 0, none⟩) n cap) n (cellsL L)) (hk : k < n) (e : N) :
    (∃ u, w.cell? ⟨g, k * 2, none⟩ = some u) ∧ w.frozen? ⟨g, k * 2, none⟩ = false ∧
    (∃ u, (w.setCell ⟨g, k * 2, none⟩ (.string e.name)).cell? ⟨g, k * 2 + 1, none⟩ = some u) ∧ (w.setCell ⟨g, k * 2, none⟩ (.string e.name)).frozen? ⟨g, k * 2 + 1, none⟩ = false ∧
    ((w.setCell ⟨g, k * 2, none⟩ (.string e.name)).setCell ⟨g, k * 2 + 1, none⟩ (.int .u32 e.ino)).ownsRow base 52 2 (.slice (some ⟨g, 0, none⟩) n cap) n (cellsL (L.set k e)) ∧
    Below g w ((w.setCell ⟨g, k * 2, none⟩ (.string e.name)).setCell ⟨g, k * 2 + 1, none⟩ (.int .u32 e.ino)) := by
  have hl := cellsL_length L
  have h1 := (h.stored (k * 2) (.string e.name)).1
  have h2 := (h1.stored (k * 2 + 1) (.int .u32 e.ino)).1
  rw [cellsL_set e L k (by omega)] at h2
  exact ⟨⟨_, (h.cellAt (k * 2) (by omega)).trans (List.getElem?_eq_getElem (by omega))⟩, h.frozenAt _, ⟨_, (h1.cellAt (k * 2 + 1) (by omega)).trans (List.getElem?_eq_getElem (by simp; omega))⟩, h1.frozenAt _, h2,
    ((Below.refl g w).setCell (p := ⟨g, k * 2, none⟩) (Nat.le_refl _) _).setCell (p := ⟨g, k * 2 + 1, none⟩) (Nat.le_refl _) _⟩
/-- two neighbours change places in memory -/
theorem swap_mem {w W : World} {n cap g m : Nat} {L : List N} (hn : L.length = n) (h : W.ownsRow w.heap.size 52 2 (.slice (some ⟨g, 0, none⟩) n cap) n (cellsL L)) (hg : w.heap.size ≤ g) (hB : Below w.heap.size w W) (hm : m + 1 < n) (x y : N) (hx : nm L (m + 1) = x) (hy : nm L m = y) :
    (∃ u, (W.alloc (.cells #[.string x.name, .int .u32 (x.ino : Int)] 52)).cell? ⟨g, (m + 1) * 2, none⟩ = some u) ∧ (W.alloc (.cells #[.string x.name, .int .u32 (x.ino : Int)] 52)).frozen? ⟨g, (m + 1) * 2, none⟩ = false ∧ (W.alloc (.cells #[.string x.name, .int .u32 (x.ino : Int)] 52)).cell? ⟨g, m * 2, none⟩ = some (.string y.name) ∧ (W.alloc (.cells #[.string x.name, .int .u32 (x.ino : Int)] 52)).cell? ⟨g, m * 2 + 1, none⟩ = some (.int .u32 (y.ino : Int)) ∧
    (∃ u, ((W.alloc (.cells #[.string x.name, .int .u32 (x.ino : Int)] 52)).setCell ⟨g, (m + 1) * 2, none⟩ (.string y.name)).cell? ⟨g, (m + 1) * 2 + 1, none⟩ = some u) ∧ ((W.alloc (.cells #[.string x.name, .int .u32 (x.ino : Int)] 52)).setCell ⟨g, (m + 1) * 2, none⟩ (.string y.name)).frozen? ⟨g, (m + 1) * 2 + 1, none⟩ = false ∧
    (((W.alloc (.cells #[.string x.name, .int .u32 (x.ino : Int)] 52)).setCell ⟨g, (m + 1) * 2, none⟩ (.string y.name)).setCell ⟨g, (m + 1) * 2 + 1, none⟩ (.int .u32 (y.ino : Int))).cell? ⟨W.heap.size, 0, none⟩ = some (.string x.name) ∧ (((W.alloc (.cells #[.string x.name, .int .u32 (x.ino : Int)] 52)).setCell ⟨g, (m + 1) * 2, none⟩ (.string y.name)).setCell ⟨g, (m + 1) * 2 + 1, none⟩ (.int .u32 (y.ino : Int))).cell? ⟨W.heap.size, 1, none⟩ = some (.int .u32 (x.ino : Int)) ∧
    (∃ u, (((W.alloc (.cells #[.string x.name, .int .u32 (x.ino : Int)] 52)).setCell ⟨g, (m + 1) * 2, none⟩ (.string y.name)).setCell ⟨g, (m + 1) * 2 + 1, none⟩ (.int .u32 (y.ino : Int))).cell? ⟨g, m * 2, none⟩ = some u) ∧ (((W.alloc (.cells #[.string x.name, .int .u32 (x.ino : Int)] 52)).setCell ⟨g, (m + 1) * 2, none⟩ (.string y.name)).setCell ⟨g, (m + 1) * 2 + 1, none⟩ (.int .u32 (y.ino : Int))).frozen? ⟨g, m * 2, none⟩ = false ∧ (∃ u, ((((W.alloc (.cells #[.string x.name, .int .u32 (x.ino : Int)] 52)).setCell ⟨g, (m + 1) * 2, none⟩ (.string y.name)).setCell ⟨g, (m + 1) * 2 + 1, none⟩ (.int .u32 (y.ino : Int))).setCell ⟨g, m * 2, none⟩ (.string x.name)).cell? ⟨g, m * 2 + 1, none⟩ = some u) ∧ ((((W.alloc (.cells #[.string x.name, .int .u32 (x.ino : Int)] 52)).setCell ⟨g, (m + 1) * 2, none⟩ (.string y.name)).setCell ⟨g, (m + 1) * 2 + 1, none⟩ (.int .u32 (y.ino : Int))).setCell ⟨g, m * 2, none⟩ (.string x.name)).frozen? ⟨g, m * 2 + 1, none⟩ = false ∧
    Hid ((((((W.alloc (.cells #[.string x.name, .int .u32 (x.ino : Int)] 52)).setCell ⟨g, (m + 1) * 2, none⟩ (.string y.name)).setCell ⟨g, (m + 1) * 2 + 1, none⟩ (.int .u32 (y.ino : Int))).setCell ⟨g, m * 2, none⟩ (.string x.name)).setCell ⟨g, m * 2 + 1, none⟩ (.int .u32 (x.ino : Int))).ownsRow w.heap.size 52 2 (.slice (some ⟨g, 0, none⟩) n cap) n (cellsL (swp L m))) ∧ Hid (Below w.heap.size w (((((W.alloc (.cells #[.string x.name, .int .u32 (x.ino : Int)] 52)).setCell ⟨g, (m + 1) * 2, none⟩ (.string y.name)).setCell ⟨g, (m + 1) * 2 + 1, none⟩ (.int .u32 (y.ino : Int))).setCell ⟨g, m * 2, none⟩ (.string x.name)).setCell ⟨g, m * 2 + 1, none⟩ (.int .u32 (x.ino : Int)))) := by
  have hgl : g < W.heap.size := by
    rcases h.2 with ⟨e, _⟩ | ⟨g2, cap2, cur, e, _, hh, _⟩
    · cases e
    · cases e; exact (Array.getElem?_eq_some_iff.1 hh).1
  have o8 := h.alloc (.cells #[.string x.name, .int .u32 (x.ino : Int)] 52)
  have r8 := (Nms.own (L := L) (by rw [hn]; exact o8)).get hn (k := m) (by omega)
  rw [hy, Nat.zero_add] at r8
  obtain ⟨a1, a2, a3, a4, o9, b9⟩ := own_put hn o8 hm y
  have hl9 : (L.set (m + 1) y).length = n := by rw [List.length_set]; exact hn
  obtain ⟨c1, c2, c3, c4, o10, b10⟩ := own_put hl9 o9 (show m < n by omega) x
  have hat := At.new W x
  have hat9 : At (((W.alloc (.cells #[.string x.name, .int .u32 (x.ino : Int)] 52)).setCell ⟨g, (m + 1) * 2, none⟩ (.string y.name)).setCell ⟨g, (m + 1) * 2 + 1, none⟩ (.int .u32 (y.ino : Int))) W.heap.size x := ((Below.heap_setCell _ _ _ _ (show W.heap.size ≠ g by omega)).trans (Below.heap_setCell _ _ _ _ (show W.heap.size ≠ g by omega))).trans hat
  have hsw : (L.set (m + 1) y).set m x = swp L m := by unfold swp; rw [hx, hy]
  rw [hsw] at o10
  exact ⟨a1, a2, r8.1, r8.2, a3, a4, hat9.c.1, hat9.c.2, c1, c2, c3, c4, o10, ((hB.alloc hB.size _).trans (b9.mono hg)).trans (b10.mono hg)⟩
namespace R
def SortPost (L : List N) (w : World) (e : Ending) (w' : World) : Prop := ∃ v M, e = .returned v ∧ SortP L M ∧ w'.ownsRow w.heap.size 52 2 v M.length (cellsL M) ∧ Below w.heap.size w w'
section
set_option maxRecDepth 100000
set_option maxHeartbeats 8000000
theorem sorted_any (v : Value) (L : List N) (w : World) (hL : Nms w v L) (hF : Fine L) (hl : L.length ≤ 4000) (hsz : ∀ i, (nm L i).name.size ≤ 1000) : Calls Tryz.prog 108 #[v] w (SortPost L w) := by
  obtain ⟨X, hX, hmk⟩ := make_fun L.length (by omega)
  have HOWN : Hid (∀ W : World, (W.alloc (.cells X 52)).ownsRow W.heap.size 52 2 (.slice (some ⟨W.heap.size, 0, none⟩) 0 L.length) 0 []) := fun W =>
    ⟨rfl, .inr ⟨W.heap.size, L.length, X, rfl, Nat.le_refl _, World.alloc_heap_new W _, Nat.zero_le _, by unfold maxLen; omega, by rw [hX], by simp⟩⟩
  have HL := Lib.hid hL
  have HSZ : Hid (∀ O : List N, O.Perm L → ∀ i, i < O.length → (nm O i).name.size ≤ 1000) := fun O hp i hi => by
    obtain ⟨j, _, hj⟩ := mem_nm (hp.mem_iff.1 (nm_mem hi))
    rw [← hj]
    exact hsz j
  have HFP : Hid (∀ O : List N, O.Perm L → Fine O ∧ O.length = L.length) := fun O hp => ⟨hF.perm hp.symm, hp.length_eq⟩
  have HR : Hid (∀ O v w', O.Perm L → UpTo O O.length → w'.ownsRow w.heap.size 52 2 v O.length (cellsL O) → Below w.heap.size w w' → SortPost L w (.returned v) w') := fun O v w' h1 h2 h3 h4 => ⟨v, O, rfl, ⟨h1, h2.all (Nat.le_refl _)⟩, h3, h4⟩
  obtain ⟨av, capv, rfl, hv1, hv2⟩ := hL.parts
  obtain ⟨n, hn⟩ : ∃ n, L.length = n := ⟨_, rfl⟩
  have HLN := Lib.hid hn
  rw [hn] at HL HOWN HFP hmk hl hv1 ⊢
  clear hL hsz hF hn hX
  obtain ⟨W0, rfl⟩ : ∃ W0 : World, W0 = w := ⟨_, rfl⟩
  go_enter Tryz.func108, Tryz.ntmps108
  go_wp2_with (at_builtin; go_must (refine wpList_append_tab rfl _ _ rfl rfl W0.heap.size (.slice (some ⟨W0.heap.size, 0, none⟩) 0 n) 0 [] rfl (HOWN.out W0) _ L rfl (HL.out.below (below_new W0 _)) (by rw [HLN.out]; omega) (by simp) ?_; intro v4 w4 hown4 hgrow4; rw [Nat.zero_add, List.nil_append, HLN.out] at hown4; have hb4 : Below W0.heap.size W0 w4 := (below_new W0 (.cells X 52)).grown hgrow4 (by simp) (fun r e => Nat.le_of_eq (by simpa [Value.ownBlock] using e)); obtain ⟨a4, cap4, rfl, hc1, hc2⟩ := own_parts hown4; have HO4 := Lib.hid hown4; have HB4 := Lib.hid hb4; clear hown4 hgrow4 hb4))
  go_loopw [4, 5, 6] (fun i _ _ wr => ∃ (q : Nat) (O : List N), i = .int .i64 (q : Int) ∧ 1 ≤ q ∧ q ≤ n + 1 ∧ Hid (O.Perm L) ∧ Hid (UpTo O q) ∧ Hid (wr.ownsRow W0.heap.size 52 2 (.slice a4 n cap4) n (cellsL O)) ∧ Hid (Below W0.heap.size W0 wr)) (fun i _ _ _ => n + 1 - (intOf i).toNat)
  case atStart => exact ⟨1, L, rfl, by omega, by omega, List.Perm.refl _, UpTo.one L, HO4.out, HB4.out⟩
  case round =>
    obtain ⟨q, O, rfl, hq1, hq2, HP, HU, HO, HB⟩ := hrel
    by_cases hlt : q < n
    · have hli : (q : Int) < (n : Int) := by omega
      obtain ⟨WO, rfl⟩ : ∃ WO : World, WO = wr := ⟨_, rfl⟩
      obtain ⟨g, cap5, e5, hg, _, _⟩ := own_open HO.out (by omega)
      cases e5
      go_wp2
      go_loopw [5, 6] (fun kk _ wq => ∃ (k : Nat) (P : List N), kk = .int .i64 (k : Int) ∧ k ≤ q ∧ Hid (P.Perm L) ∧ Hid (Ins P q k) ∧ Hid (wq.ownsRow W0.heap.size 52 2 (.slice (some ⟨g, 0, none⟩) n cap4) n (cellsL P)) ∧ Hid (Below W0.heap.size W0 wq)) (fun kk _ _ => (intOf kk).toNat)
      case atStart => exact ⟨q, O, rfl, by omega, HP, Ins.start HU.out, HO, HB⟩
      case round =>
        obtain ⟨k, P, rfl, hkq, HPP, HI, HOP, HBP⟩ := hrel
        obtain ⟨hFP, hPl⟩ := HFP.out P HPP.out
        by_cases hk0 : k = 0
        · subst hk0
          have HU2 := Lib.hid (Ins.zero HI.out)
          clear hFP hPl
          go_wp2
          go_quiet (fail)
          go_wp2
          go_roundw
          case rel => exact ⟨q + 1, P, by go_num, by omega, by omega, HPP, HU2, HOP.out, below_drewN HBP.out _⟩
          case measure => simp [intOf]; omega
        · obtain ⟨m, hm⟩ : ∃ m, m + 1 = k := ⟨k - 1, by omega⟩
          have hmn : m + 1 < n := by omega
          have hIm : Ins P q (m + 1) := by rw [hm]; exact HI.out
          have hrd := fun (W : World) (h : Below wr.heap.size wr W) => (Nms.own (L := P) (by rw [hPl]; exact own_below HOP.out h))
          have hr1 := fun (W : World) (h : Below wr.heap.size wr W) => (hrd W h).get hPl (k := m + 1) (by omega)
          have hr2 := fun (W : World) (h : Below wr.heap.size wr W) => (hrd W h).get hPl (k := m) (by omega)
          have hz1 := HSZ.out P HPP.out (m + 1) (by omega)
          have hz2 := HSZ.out P HPP.out m (by omega)
          have hLS := fun W => less_any (nm P (m + 1)).name (nm P m).name W (by omega) (by omega)
          have hSM := fun (W : World) (x y : N) (h : Below wr.heap.size wr W) (e1 : nm P (m + 1) = x) (e2 : nm P m = y) => swap_mem hPl (own_below HOP.out h) hg (below_th HBP.out h) hmn x y e1 e2
          have hstop := fun (h : ¬ ltB (nm P (m + 1)).name (nm P m).name = true) => Ins.stop hFP (by omega) (by omega) hIm h
          have hswap := fun (h : ltB (nm P (m + 1)).name (nm P m).name = true) => Ins.swap (by omega) (by omega) hIm h
          have hperm : (swp P m).Perm L := (swp_perm (by omega)).trans HPP.out
          obtain ⟨x, hx⟩ : ∃ x, nm P (m + 1) = x := ⟨_, rfl⟩
          obtain ⟨y, hy⟩ : ∃ y, nm P m = y := ⟨_, rfl⟩
          rw [hx, hy] at hLS hstop hswap
          simp only [hx, Nat.zero_add] at hr1
          simp only [hy, Nat.zero_add] at hr2
          unfold Reads at hr1 hr2
          have HSM := Lib.hid (fun W h => hSM W x y h hx hy)
          obtain ⟨xn, xi⟩ := x
          obtain ⟨yn, yi⟩ := y
          dsimp only at hLS hstop hswap hr1 hr2 HSM
          have HLS := Lib.hid hLS
          have HC : Hid (∀ W, Below wr.heap.size wr W → W.cell? ⟨g, (m + 1) * 2, none⟩ = some (.string xn) ∧ W.cell? ⟨g, m * 2, none⟩ = some (.string yn)) := fun W h => ⟨(hr1 W h).1, (hr2 W h).1⟩
          have HC1 := Lib.hid hr1
          have HPM := Lib.hid hperm
          have hself : Below wr.heap.size wr wr := Below.refl _ _
          have hself2 : Below wr.heap.size wr wr.drew := hself.drew
          have hk0 : (0 : Int) < (k : Int) := by omega
          have hk1 : decide (0 < k) = true := decide_eq_true (by omega)
          have hk2 : decide ((0 : Int) < (k : Int)) = true := decide_eq_true (by omega)
          have hkn : (k : Int) < (n : Int) := by omega
          have hm1 : (m : Int) < (n : Int) := by omega
          have hwk : IntKind.i64.wrap ((k : Int) - 1) = (m : Int) := by rw [IntKind.wrap_i64]; omega
          have HM := Lib.hid hm
          simp only [hm] at HC HC1 HSM
          clear hLS hr1 hr2 hSM hrd hz1 hz2 hx hy hFP hPl hperm hIm hmn hm
          go_wp2
          go_region_held3 (fun w' => (w'.cell? ⟨g, k * 2, none⟩ = some (.string xn) ∧ w'.cell? ⟨g, m * 2, none⟩ = some (.string yn))) (exact HC.out _ (by assumption)) (first
            | (go_at_call 136; (with_reducible refine Calls.mono (HLS.out _) ?_); rintro e w2 ⟨rfl, hBn⟩; have hb6 := below_th (by assumption : Below wr.heap.size wr _) hBn))
          cases hlt2 : ltB xn yn with
          | true =>
            have HI2 := Lib.hid (hswap hlt2)
            obtain ⟨k1, k2⟩ := HC1.out _ hb6
            obtain ⟨⟨u1, p1⟩, p2, p3, p4, ⟨u5, p5⟩, p6, p7, p8, ⟨u9, p9⟩, p10, ⟨u11, p11⟩, p12, HO2, HB2⟩ := HSM.out _ hb6
            clear hstop hswap hlt2
            go_wp2
            go_roundw
            case rel => exact ⟨m, swp P m, by go_num, by have := HM.out; omega, HPM.out, HI2, HO2, HB2⟩
            case measure => have h9 : m + 1 = k := HM.out; simp only [intOf, IntKind.wrap_i64]; omega
          | false =>
            have HU2 := Lib.hid (hstop (by rw [hlt2]; decide))
            have HB2 := Lib.hid (below_th HBP.out hb6)
            have HO2 := Lib.hid (own_below HOP.out hb6)
            clear hstop hswap hlt2
            go_wp2
            go_roundw
            case rel => exact ⟨q + 1, P, by go_num, by omega, by omega, HPP, HU2, HO2, HB2⟩
            case measure => simp [intOf]; omega
    · have hOl := (HFP.out O HP.out).2
      have HF := Lib.hid (HR.out O _ wr HP.out (by rw [hOl]; exact fun p r h1 h2 => HU.out p r h1 (by omega)) (by rw [hOl]; exact HO.out) HB.out)
      have hli : ¬ (q : Int) < (n : Int) := by omega
      clear hOl
      go_wp2
      go_returns
      exact HF.out
end
end R
end Go.Proofs.YtkipkcmcolomcaaGreat.Dir
