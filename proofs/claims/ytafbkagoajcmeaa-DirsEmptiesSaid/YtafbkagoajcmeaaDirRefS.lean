/- The document's Same, Sorted. -/
import Derived.Test.YtafbkagoajcmeaaDirRefL
namespace Go.Proofs.Ytafbkagoajcmeaa.Dir
open Go.RowKit
attribute [local go_sem] Oper.semAt_some
set_option linter.unusedVariables false
set_option linter.unusedSimpArgs false
theorem run_eqN (d : Nat) (a b : N) (w : World) : (Op.equalIn (d + 2) 40 a.val b.val).run Try.prog w = .ok (decide (a = b)) w := by
  unfold N.val
  rw [run_equalIn_agg w (d + 1) 40 _ _ (by kernel_rfl) (by kernel_rfl)]
  obtain ⟨a0, a1⟩ := a
  obtain ⟨b0, b1⟩ := b
  simp only [N.mk.injEq]
  by_cases h0 : a0 = b0
  · by_cases h1 : a1 = b1
    · simp [go_sem, h0, h1]
    · have h' : ¬ (a1 : Int) = b1 := by omega
      simp [go_sem, h0, h1, h']
  · have h0' : ¬ a0.toList = b0.toList := fun he => h0 (ba_ext (by rw [← Lib.toList_data, ← Lib.toList_data]; exact he))
    simp [go_sem, h0, h0']
theorem neqN (a b : N) (w : World) : (binOp .neq 40 a.val b.val).run Try.prog w = .ok (.bool (!decide (a = b))) w := by
  have h := run_eqN 9998 a b w
  unfold N.val at h ⊢
  rw [run_neq_struct, h]
  rfl
theorem make_fun (n : Nat) (hn : n ≤ 4096) : ∃ X : Array Value, X.size = n * 2 ∧ ∀ W : World, (Instr.makeSlice 24 (.int .i64 0) (.int .i64 (n : Int))).run Try.prog W = .ok (.slice (some ⟨W.heap.size, 0, none⟩) 0 n) (W.alloc (.cells X 40)) := by
  obtain ⟨i0, hi, hz0, hz1, hz2⟩ := info_parts infoNm
  refine ⟨madeCells (Value.agg #[.string ⟨#[]⟩, .int .u32 0]).cells (n * 2), by rw [size_madeCells], fun W => ?_⟩
  have hr := run_make (P := Try.prog) W 24 40 i0 (.agg #[.string ⟨#[]⟩, .int .u32 0]) Try.underlying24 hi hz0 .i64 .i64 0 n (Int.le_refl _) (by omega) (by rw [hz2]; omega) (by omega)
  simp only [Int.toNat_zero, Int.toNat_natCast, hz1] at hr
  exact hr
/-- the cells of a slice that is not nil, wherever it is laid -/
theorem Nms.news {w : World} {a : Addr} {n cap : Nat} {L : List N} (h : Nms w (.slice (some a) n cap) L) : ∀ j u, (cellsL L)[j]? = some u → w.cell? (a.add j) = some u := fun j u hj => by
  obtain ⟨a', cap', e, _, _, h4, h5⟩ := h
  cases e
  have hl := (List.getElem?_eq_some_iff.1 hj).1
  rw [cellsL_length] at hl
  obtain ⟨b, off, e2, hc⟩ := h5 (by omega)
  cases e2
  rw [add_plain]
  exact hc j u hj
theorem run_append_tab (w : World) (base : Nat) (v : Value) (n : Nat) (xs : List Value) (hown : w.ownsRow base 40 2 v n xs) (vL : Value) (L : List N) (hL : Nms w vL L) (h1 : n + L.length ≤ 100000) (hb : base ≤ w.heap.size) :
    ∃ v' w', (Builtin.append_ #[24, 24] 24 #[v, vL]).run Try.prog w = .ok v' w' ∧ w'.ownsRow base 40 2 v' (n + L.length) (xs ++ cellsL L) ∧ w.grownBy w' v.ownBlock := by
  obtain ⟨i0, hi, hz0, hz1, hz2⟩ := info_parts infoNm
  obtain ⟨a, cap, rfl, hc1, hc2⟩ := hL.parts
  cases a with
  | none =>
    have hc0 : cap = 0 := Lies.none_cap hL
    have hl0 : L = [] := List.eq_nil_of_length_eq_zero (by omega)
    subst hl0
    subst hc0
    refine ⟨v, w, run_append_owned_none (P := Try.prog) w base 24 24 40 i0 2 Try.underlying24 hi v n xs hown, ?_, ⟨rfl, rfl, rfl, Nat.le_refl _, fun _ _ _ => rfl⟩⟩
    simpa [cellsL] using hown
  | some ad =>
    obtain ⟨v', w', hr, h2, h3, _⟩ := run_append_own (P := Try.prog) w base 24 24 40 i0 (.agg #[.string ⟨#[]⟩, .int .u32 0]) 2 24 Try.underlying24 hi hz0 hz1 hz2 rfl (by decide) v n xs hown ad L.length cap (cellsL L) (cellsL_length L) hL.news (cellsL_one L) (by unfold maxLen; omega) (by omega) hb
    exact ⟨v', w', hr, h2, h3⟩
theorem wp_append_tab {w : World} {o : Oper} {a : Act} {K : Act → World → Prop} {Q : Exit → Act → World → Prop} (s x : Operand)
    (ho : o.op = .call { callee := .builtin .append, args := #[s, x], argTypes := #[24, 24] }) (hty : o.type = 24)
    (base : Nat) (v : Value) (n : Nat) (xs : List Value) (hs : a.eval s = v) (hown : w.ownsRow base 40 2 v n xs) (vL : Value) (L : List N) (hx : a.eval x = vL) (hL : Nms w vL L) (h1 : n + L.length ≤ 100000) (hb : base ≤ w.heap.size)
    (h : ∀ v' w', w'.ownsRow base 40 2 v' (n + L.length) (xs ++ cellsL L) → w.grownBy w' v.ownBlock → K (a.put o.dst v') w') : o.wp Try.prog a w K Q := by
  obtain ⟨v', w', hr, h2, h3⟩ := run_append_tab w base v n xs hown vL L hL h1 hb
  unfold Oper.wp execOp
  simp only [ho, hty, resolve, invoke, builtin, Sem.run_bind, Sem.run_pure, Result.andThen_ok, List.map_toArray, List.map_cons, List.map_nil, hs, hx, hr]
  exact h v' w' h2 h3
theorem wpList_append_tab {w : World} {ops : Array Oper} {rest : List Oper} {o : Oper} {a : Act} {Q : Exit → Act → World → Prop} (hgd : o.guard = none) (s x : Operand)
    (ho : o.op = .call { callee := .builtin .append, args := #[s, x], argTypes := #[24, 24] }) (hty : o.type = 24)
    (base : Nat) (v : Value) (n : Nat) (xs : List Value) (hs : a.eval s = v) (hown : w.ownsRow base 40 2 v n xs) (vL : Value) (L : List N) (hx : a.eval x = vL) (hL : Nms w vL L) (h1 : n + L.length ≤ 100000) (hb : base ≤ w.heap.size)
    (h : ∀ v' w', w'.ownsRow base 40 2 v' (n + L.length) (xs ++ cellsL L) → w.grownBy w' v.ownBlock → wpList Try.prog ops Q rest (a.put o.dst v') w') : wpList Try.prog ops Q (o :: rest) a w :=
  wpList_plain hgd fun _ hK => wp_append_tab s x ho hty base v n xs hs hown vL L hx hL h1 hb fun v' w' h2 h3 => hK _ _ (h v' w' h2 h3)
namespace R
section
set_option maxRecDepth 100000
set_option maxHeartbeats 8000000
theorem same_any (u v : Value) (A B : List N) (w : World) (hA : Nms w u A) (hB : Nms w v B) : Calls Try.prog 17 #[u, v] w (Ans w (.bool (decide (A = B)))) := by
  obtain ⟨a, cap, rfl, hc1, hc2⟩ := hA.parts
  obtain ⟨b, cap2, rfl, hd1, hd2⟩ := hB.parts
  have HA := Lib.hid hA
  have HB := Lib.hid hB
  by_cases hl : A.length = B.length
  · have HY : Hid ((∀ i, i < A.length → nm A i = nm B i) → decide (A = B) = true) := fun h => decide_eq_true (nm_ext hl h)
    have HN : Hid (∀ i, i < A.length → ¬ nm A i = nm B i → decide (A = B) = false) := fun i hi h => decide_eq_false (fun e => h (by rw [e]))
    obtain ⟨R, hR⟩ : ∃ R, decide (A = B) = R := ⟨_, rfl⟩
    rw [hR] at HY HN ⊢
    rw [← hl] at HB hd1 ⊢
    obtain ⟨n, hn⟩ : ∃ n, A.length = n := ⟨_, rfl⟩
    have hn2 : B.length = n := by omega
    rw [hn] at HA HB HY HN hc1 hd1 ⊢
    have HAN := Lib.hid hn
    have HBN := Lib.hid hn2
    have hq : ((n : Int) != (n : Int)) = false := by simp
    clear hA hB hl hR hn hn2
    obtain ⟨W0, rfl⟩ : ∃ W0 : World, W0 = w := ⟨_, rfl⟩
    go_enter Try.func17, Try.ntmps17
    go_wp2
    go_loopw [5] (fun i wr => ∃ k : Nat, k ≤ n ∧ i = .int .i64 (k : Int) ∧ Hid (∀ j, j < k → nm A j = nm B j) ∧ Hid (Below W0.heap.size W0 wr)) (fun i _ => n - (intOf i).toNat)
    case atStart => exact ⟨0, by omega, rfl, fun j hj => by omega, Below.refl _ _⟩
    case round =>
      obtain ⟨k, hk, rfl, HQ, HBk⟩ := hrel
      by_cases hlt : k < n
      · have h1 := (HA.out.below HBk.out).at (k := k) (by rw [HAN.out]; exact hlt)
        have h2 := (HB.out.below HBk.out).at (k := k) (by rw [HBN.out]; exact hlt)
        rw [HAN.out] at h1
        rw [HBN.out] at h2
        obtain ⟨b1, o1, c1, e1, p0, p1⟩ := h1
        obtain ⟨b2, o2, c2, e2, r0, r1⟩ := h2
        cases e1
        cases e2
        have hne := fun W => neqN (nm A k) (nm B k) W
        have hN1 := HN.out k hlt
        obtain ⟨x, hx⟩ : ∃ x, nm A k = x := ⟨_, rfl⟩
        obtain ⟨y, hy⟩ : ∃ y, nm B k = y := ⟨_, rfl⟩
        rw [hx] at p0 p1 hne hN1
        rw [hy] at r0 r1 hne hN1
        unfold N.val at hne
        by_cases hxy : x = y
        · rw [decide_eq_true hxy] at hne
          have HQ2 : Hid (∀ j, j < k + 1 → nm A j = nm B j) := fun j hj => by
            rcases Nat.lt_succ_iff_lt_or_eq.1 hj with h | h
            · exact HQ.out j h
            · rw [h, hx, hy]; exact hxy
          simp only [Bool.not_true] at hne
          clear hN1 hx hy hxy
          go_wp2
          go_quiet (fail)
          go_wp2
          go_roundw
          case rel => exact ⟨k + 1, by omega, by go_num, HQ2, below_drewN HBk.out _⟩
          case measure => simp [intOf]; omega
        · rw [decide_eq_false hxy] at hne
          have HF := Lib.hid (hN1 hxy)
          simp only [Bool.not_false] at hne
          clear hN1 hx hy hxy
          go_wp2
          go_quiet (fail)
          go_wp2
          go_ret
          exact ⟨by rw [HF.out]; rfl, below_drewN HBk.out _⟩
      · obtain rfl : k = n := by omega
        have HT := Lib.hid (HY.out HQ.out)
        go_wp2
        go_ret
        exact ⟨by rw [HT.out]; rfl, HBk.out⟩
  · have HF := Lib.hid (decide_eq_false (p := A = B) (fun e => hl (by rw [e])))
    have hq : ((A.length : Int) != (B.length : Int)) = true := bne_iff_ne.2 (by omega)
    clear hA hB hl
    go_enter Try.func17, Try.ntmps17
    go_wp2
    go_ret
    exact ⟨by rw [HF.out]; rfl, Below.refl _ _⟩
end
end R
end Go.Proofs.Ytafbkagoajcmeaa.Dir
