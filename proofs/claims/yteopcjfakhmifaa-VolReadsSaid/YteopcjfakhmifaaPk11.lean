/- Several texts in one, each under its own heading. -/
import Derived.Test.YteopcjfakhmifaaPk10
import Derived.Test.YteopcjfakhmifaaPk09
/- The document's Changed. -/
namespace Go.Proofs.Yteopcjfakhmifaa.Vol
open Go.RowKit
attribute [local go_sem] Oper.semAt_some
set_option linter.unusedVariables false
set_option linter.unusedSimpArgs false
/-! ### which ones are others -/
theorem full_stays {was is : ByteArray} {k : Nat} (hk : k < nb is.size) : fullV (cuts was) k = fullV (cuts is) k ↔ stays was is k := by
  have e2 : fullV (cuts is) k = full (ch is k) := by unfold fullV; rw [if_pos (by rw [cuts_len]; exact hk), tx_cuts hk]
  rw [e2]
  by_cases h : k < nb was.size
  · have e1 : fullV (cuts was) k = full (ch was k) := by unfold fullV; rw [if_pos (by rw [cuts_len]; exact h), tx_cuts h]
    rw [e1]
    exact ⟨fun e => ⟨h, e⟩, fun e => e.2⟩
  · have e1 : fullV (cuts was) k = none4 := if_neg (by rw [cuts_len]; exact h)
    rw [e1]
    constructor
    · intro e
      have h1 := congrArg ByteArray.size e
      rw [full_size (ch_le _ _)] at h1
      exact absurd h1 (by decide)
    · intro e; exact absurd e.1 h
theorem tx_cuts_le (s : ByteArray) (k : Nat) : (tx (cuts s) k).size ≤ 508 := by
  by_cases h : k < nb s.size
  · rw [tx_cuts h]; exact ch_le _ _
  · rw [tx_out (by rw [cuts_len]; omega)]; exact Nat.zero_le _
theorem str_ne {a b : ByteArray} (h : ¬ a = b) : (a.toList == b.toList) = false := beq_eq_false_iff_ne.2 fun e => h (ba_ext (by rw [← Lib.toList_data, ← Lib.toList_data]; exact e))
/-- numbers are answered -/
def ChgPost (was is : ByteArray) (w : World) (e : Ending) (w' : World) : Prop := ∃ v, e = .returned v ∧ Ints w' v (chg was is) ∧ Below w.heap.size w w'
namespace R
section
set_option maxRecDepth 100000
set_option maxHeartbeats 2000000
theorem changed_any (was is : ByteArray) (w : World) (h1 : was.size ≤ 100000) (h2 : is.size ≤ 100000) : Calls Try.prog 19 #[.string was, .string is] w (ChgPost was is w) := by
  obtain ⟨i0, hin, hz0, hz1, hz2⟩ := info_parts infoInts
  have HC1 := Lib.hid (fun W => cut_any was W h1)
  have HC2 := Lib.hid (fun W => cut_any is W h2)
  obtain ⟨N, hN⟩ : ∃ N, nb is.size = N := ⟨_, rfl⟩
  have hN9 : N ≤ 200 := by rw [← hN]; unfold nb; omega
  have HLen : Hid ((cuts is).length = N) := (cuts_len is).trans hN
  have HR : Hid (∀ base v w', w'.ownsRow base 3 1 v (chgK was is N).length ((chgK was is N).map fun (x : Nat) => .int .i64 (x : Int)) → Below w.heap.size w w' → ChgPost was is w (.returned v) w') := fun base v w' h3 h4 => by
    refine ⟨v, rfl, ?_, h4⟩
    have h5 := Ints.own (base := base) h3
    rw [← hN] at h5
    exact h5
  have HT : Hid (∀ k, k < N → (fullV (cuts was) k = fullV (cuts is) k ↔ stays was is k)) := fun k hk => full_stays (by rw [hN]; exact hk)
  have HF1 : Hid (∀ (v : Value) (k : Nat) (W : World), Strs W v (cuts was) → k ≤ 100000 → Calls Try.prog 43 #[v, .int .i64 (k : Int)] W (Ans W (.string (fullV (cuts was) k)))) := fun v k W h3 h4 => full_any v _ k W h3 h4 (tx_cuts_le _ _)
  have HF2 : Hid (∀ (v : Value) (k : Nat) (W : World), Strs W v (cuts is) → k ≤ 100000 → Calls Try.prog 43 #[v, .int .i64 (k : Int)] W (Ans W (.string (fullV (cuts is) k)))) := fun v k W h3 h4 => full_any v _ k W h3 h4 (tx_cuts_le _ _)
  have HK := Lib.hid (chgK_le was is)
  clear hN h1 h2
  go_enter Try.func19, Try.ntmps19
  go_wp2_with (first
    | (go_at_call 16; (with_reducible refine Calls.mono (HC1.out _) ?_); rintro e w1 ⟨v1, rfl, hS1, hB1⟩; have HS1 := Lib.hid hS1; have HB1 := Lib.hid hB1; clear hS1 hB1)
    | (go_at_call 16; (with_reducible refine Calls.mono (HC2.out _) ?_); rintro e w2 ⟨v2, rfl, hS2, hB2⟩; have HS2 := Lib.hid hS2; have HB2 := Lib.hid (below_th HB1.out hB2); have HS3 := Lib.hid (HS1.out.below hB2); clear hS2 hB2))
  obtain ⟨a2, cap2, rfl, m1, m2⟩ := HS2.out.parts
  rw [HLen.out] at HS2 m1 ⊢
  go_loopw [7, 8] (fun v i wr => ∃ k : Nat, i = .int .i64 (k : Int) ∧ k ≤ N ∧ Hid (wr.ownsRow w2.heap.size 3 1 v (chgK was is k).length ((chgK was is k).map fun (x : Nat) => .int .i64 (x : Int))) ∧ Hid (Below w2.heap.size w2 wr)) (fun _ i _ => N - (intOf i).toNat)
  case atStart => exact ⟨0, rfl, by omega, World.ownsRow_nil _ _ _ _, Below.refl _ _⟩
  case round =>
    obtain ⟨k, rfl, hk, HO, HB0⟩ := hrel
    by_cases hlt : k < N
    · have hkI : (k : Int) < (N : Int) := by omega
      have HA := Lib.hid (fun W (h : Below wr.heap.size wr W) => HF1.out v1 k W ((HS3.out.below HB0.out).below h) (by omega))
      have HA2 := Lib.hid (fun W (h : Below wr.heap.size wr W) => HF2.out _ k W ((HS2.out.below HB0.out).below h) (by omega))
      have hT := HT.out k hlt
      obtain ⟨x, hx⟩ : ∃ x, fullV (cuts was) k = x := ⟨_, rfl⟩
      obtain ⟨y, hy⟩ : ∃ y, fullV (cuts is) k = y := ⟨_, rfl⟩
      rw [hx, hy] at hT
      rw [hx] at HA
      rw [hy] at HA2
      clear hx hy
      by_cases hs : stays was is k
      · have he := hT.2 hs
        subst he
        have HKY := Lib.hid (chgK_yes hs)
        clear hT hs
        go_wp2_with (first
          | (go_at_call 43; (with_reducible refine Calls.mono (HA.out _ (Below.refl _ _)) ?_); rintro e w3 ⟨rfl, hb3⟩; have HB3 := Lib.hid hb3; clear hb3)
          | (go_at_call 43; (with_reducible refine Calls.mono (HA2.out _ HB3.out) ?_); rintro e w4 ⟨rfl, hb4⟩; have HB4 := Lib.hid (below_th HB3.out hb4); clear hb4))
        go_roundw
        case rel => exact ⟨k + 1, by go_num, hlt, by rw [HKY.out]; exact own_below2 HO.out HB4.out, below_th HB0.out HB4.out⟩
        case measure => simp [intOf]; omega
      · have he := str_ne (fun e => hs (hT.1 e))
        have HKN := Lib.hid (chgK_no hs)
        have hKL : (chgK was is k).length ≤ k := HK.out k
        clear hT hs
        go_wp2_with (first
          | (go_at_call 43; (with_reducible refine Calls.mono (HA.out _ (Below.refl _ _)) ?_); rintro e w3 ⟨rfl, hb3⟩; have HB3 := Lib.hid hb3; clear hb3)
          | (go_at_call 43; (with_reducible refine Calls.mono (HA2.out _ HB3.out) ?_); rintro e w4 ⟨rfl, hb4⟩; have HB4 := Lib.hid (below_th HB3.out hb4); have HO4 := Lib.hid (own_below2 HO.out HB4.out); have HB04 := Lib.hid (below_th HB0.out HB4.out); have HNEW : Hid (Ints (w4.alloc (.cells #[.int .i64 (k : Int)] 3)) (.slice (some ⟨w4.heap.size, 0, none⟩) 1 1) [k]) := Ints.one (World.alloc_heap_new w4 _); have HOWN := Lib.hid (own_below2 HO4.out (below_new w4 (.cells #[.int .i64 (k : Int)] 3))); have HBA0 := Lib.hid (below_al HB04.out (.cells #[.int .i64 (k : Int)] 3)); clear hb4)
          | (at_builtin; (refine wpList_append_ints rfl _ _ rfl rfl w2.heap.size _ _ _ rfl HOWN.out _ [k] rfl HNEW.out (by show (chgK was is k).length + 1 ≤ _; omega) HBA0.out.size ?_; intro v5 w5 hown5 hgrow5; have HO5 := Lib.hid hown5; have HB50 := Lib.hid (HBA0.out.grown hgrow5 HBA0.out.size (fun r e => ((HOWN.out).lt r e).1)); clear hown5 hgrow5)))
        go_roundw
        case rel => exact ⟨k + 1, by go_num, hlt, by rw [HKN.out, List.length_append, List.map_append]; exact HO5.out, HB50.out⟩
        case measure => simp [intOf]; omega
    · have hkN : k = N := by omega
      subst hkN
      have HFIN := Lib.hid (HR.out _ _ wr HO.out (below_th HB2.out HB0.out))
      go_wp2
      go_ret
      exact HFIN.out
end
end R
end Go.Proofs.Yteopcjfakhmifaa.Vol
/- The document's SameTexts, SameInts, SameInodes. -/
namespace Go.Proofs.Yteopcjfakhmifaa.Vol
open Go.RowKit
attribute [local go_sem] Oper.semAt_some
set_option linter.unusedVariables false
set_option linter.unusedSimpArgs false
theorem below_drewN {B : Nat} {w W : World} (h : Below B w W) (n : Nat) : Below B w (W.drewN n) := ⟨h.1, h.2, h.3, h.4, h.5⟩
theorem getD_ext {α : Type} {A B : List α} {d : α} (hl : A.length = B.length) (h : ∀ j, j < A.length → A.getD j d = B.getD j d) : A = B := by
  apply List.ext_getElem?
  intro i
  by_cases hi : i < A.length
  · have := h i hi
    rw [List.getD_eq_getElem?_getD, List.getD_eq_getElem?_getD, List.getElem?_eq_getElem hi, List.getElem?_eq_getElem (hl ▸ hi)] at this
    rw [List.getElem?_eq_getElem hi, List.getElem?_eq_getElem (hl ▸ hi)]
    exact congrArg some this
  · rw [List.getElem?_eq_none (by omega), List.getElem?_eq_none (by omega)]
namespace R
section
set_option maxRecDepth 100000
set_option maxHeartbeats 2000000
theorem texts_any (v1 v2 : Value) (A B : List ByteArray) (w : World) (h1 : Strs w v1 A) (h2 : Strs w v2 B) : Calls Try.prog 14 #[v1, v2] w (Ans w (.bool (decide (A = B)))) := by
  obtain ⟨a1, cap1, rfl, hn1, hm1⟩ := h1.parts
  obtain ⟨a2, cap2, rfl, hn2, hm2⟩ := h2.parts
  by_cases hl : A.length = B.length
  · have hq : ((A.length : Int) != (B.length : Int)) = false := by simp [hl]
    obtain ⟨N, hN⟩ : ∃ N, A.length = N := ⟨_, rfl⟩
    have HEQ : Hid ((∀ j, j < N → A.getD j ⟨#[]⟩ = B.getD j ⟨#[]⟩) → A = B) := fun h => getD_ext hl (fun j hj => h j (by omega))
    have HNE : Hid (∀ j, A.getD j ⟨#[]⟩ ≠ B.getD j ⟨#[]⟩ → ¬ A = B) := fun j h e => h (by rw [e])
    have hBN : B.length = N := by omega
    rw [hN] at h1 hn1 hq ⊢
    rw [hBN] at h2 hn2 hq ⊢
    have H1 := Lib.hid h1
    have H2 := Lib.hid h2
    have HN1 := Lib.hid hN
    have HN2 := Lib.hid hBN
    clear h1 h2 hN hBN hl
    obtain ⟨W0, rfl⟩ : ∃ W0 : World, W0 = w := ⟨_, rfl⟩
    go_enter Try.func14, Try.ntmps14
    go_wp2
    go_loopw [5] (fun i wr => ∃ k : Nat, k ≤ N ∧ i = .int .i64 (k : Int) ∧ Hid (∀ j, j < k → A.getD j ⟨#[]⟩ = B.getD j ⟨#[]⟩) ∧ Below W0.heap.size W0 wr) (fun i _ => N - (intOf i).toNat)
    case atStart => exact ⟨0, by omega, rfl, fun j hj => by omega, Below.refl _ _⟩
    case round =>
      obtain ⟨k, hk, rfl, HU, hB⟩ := hrel
      by_cases hlt : k < N
      · have hkI : (k : Int) < (N : Int) := by omega
        obtain ⟨x, hx⟩ : ∃ x, A.getD k ⟨#[]⟩ = x := ⟨_, rfl⟩
        obtain ⟨y, hy⟩ : ∃ y, B.getD k ⟨#[]⟩ = y := ⟨_, rfl⟩
        obtain ⟨b1, off1, e1, k1⟩ := (H1.out.below hB).at HN1.out hlt
        obtain ⟨b2, off2, e2, k2⟩ := (H2.out.below hB).at HN2.out hlt
        cases e1
        cases e2
        have c0 := k1 x hx.symm
        have c1 := k2 y hy.symm
        clear k1 k2
        have HBq := Lib.hid hB
        by_cases he : x = y
        · have HX : Hid (A.getD k ⟨#[]⟩ = B.getD k ⟨#[]⟩) := by unfold Hid; rw [hx, hy, he]
          subst he
          clear hx hy
          go_wp2
          go_quiet (fail)
          go_wp2
          go_roundw
          case rel => exact ⟨k + 1, by omega, by go_num, fun j hj => (by rcases Nat.lt_succ_iff_lt_or_eq.1 hj with h | h; exact HU.out j h; rw [h]; exact HX.out), below_drewN HBq.out _⟩
          case measure => simp [intOf]; omega
        · have HX := Lib.hid (HNE.out k (by rw [hx, hy]; exact he))
          have hne := str_ne he
          clear hx hy he
          go_wp2
          go_quiet (fail)
          go_wp2
          go_ret
          exact ⟨by rw [decide_eq_false HX.out]; rfl, below_drewN HBq.out _⟩
      · obtain rfl : k = N := by omega
        have HA := Lib.hid (HEQ.out HU.out)
        go_wp2
        go_ret
        exact ⟨by rw [decide_eq_true HA.out]; rfl, hB⟩
  · have hq : ((A.length : Int) != (B.length : Int)) = true := by simp; omega
    have HA : Hid (¬ A = B) := fun e => hl (by rw [e])
    clear h1 h2
    go_enter Try.func14, Try.ntmps14
    go_wp2
    go_ret
    exact ⟨by rw [decide_eq_false HA.out]; rfl, Below.refl _ _⟩
theorem ints_any (v1 v2 : Value) (A B : List Nat) (w : World) (h1 : Ints w v1 A) (h2 : Ints w v2 B) : Calls Try.prog 17 #[v1, v2] w (Ans w (.bool (decide (A = B)))) := by
  obtain ⟨a1, cap1, rfl, hn1, hm1⟩ := h1.parts
  obtain ⟨a2, cap2, rfl, hn2, hm2⟩ := h2.parts
  by_cases hl : A.length = B.length
  · have hq : ((A.length : Int) != (B.length : Int)) = false := by simp [hl]
    obtain ⟨N, hN⟩ : ∃ N, A.length = N := ⟨_, rfl⟩
    have HEQ : Hid ((∀ j, j < N → A.getD j 0 = B.getD j 0) → A = B) := fun h => getD_ext hl (fun j hj => h j (by omega))
    have HNE : Hid (∀ j, A.getD j 0 ≠ B.getD j 0 → ¬ A = B) := fun j h e => h (by rw [e])
    have hBN : B.length = N := by omega
    rw [hN] at h1 hn1 hq ⊢
    rw [hBN] at h2 hn2 hq ⊢
    have H1 := Lib.hid h1
    have H2 := Lib.hid h2
    have HN1 := Lib.hid hN
    have HN2 := Lib.hid hBN
    clear h1 h2 hN hBN hl
    obtain ⟨W0, rfl⟩ : ∃ W0 : World, W0 = w := ⟨_, rfl⟩
    go_enter Try.func17, Try.ntmps17
    go_wp2
    go_loopw [5] (fun i wr => ∃ k : Nat, k ≤ N ∧ i = .int .i64 (k : Int) ∧ Hid (∀ j, j < k → A.getD j 0 = B.getD j 0) ∧ Below W0.heap.size W0 wr) (fun i _ => N - (intOf i).toNat)
    case atStart => exact ⟨0, by omega, rfl, fun j hj => by omega, Below.refl _ _⟩
    case round =>
      obtain ⟨k, hk, rfl, HU, hB⟩ := hrel
      by_cases hlt : k < N
      · have hkI : (k : Int) < (N : Int) := by omega
        obtain ⟨x, hx⟩ : ∃ x, A.getD k 0 = x := ⟨_, rfl⟩
        obtain ⟨y, hy⟩ : ∃ y, B.getD k 0 = y := ⟨_, rfl⟩
        obtain ⟨b1, off1, e1, k1⟩ := (H1.out.below hB).at HN1.out hlt
        obtain ⟨b2, off2, e2, k2⟩ := (H2.out.below hB).at HN2.out hlt
        cases e1
        cases e2
        have c0 := k1 x hx.symm
        have c1 := k2 y hy.symm
        clear k1 k2
        have HBq := Lib.hid hB
        by_cases he : x = y
        · have HX : Hid (A.getD k 0 = B.getD k 0) := by unfold Hid; rw [hx, hy, he]
          subst he
          clear hx hy
          go_wp2
          go_quiet (fail)
          go_wp2
          go_roundw
          case rel => exact ⟨k + 1, by omega, by go_num, fun j hj => (by rcases Nat.lt_succ_iff_lt_or_eq.1 hj with h | h; exact HU.out j h; rw [h]; exact HX.out), below_drewN HBq.out _⟩
          case measure => simp [intOf]; omega
        · have HX := Lib.hid (HNE.out k (by rw [hx, hy]; exact he))
          have hne : ((x : Int) != (y : Int)) = true := bne_iff_ne.2 (by omega)
          have hne2 : ¬ (x : Int) = (y : Int) := by omega
          clear hx hy he
          go_wp2
          go_quiet (fail)
          go_wp2
          go_ret
          exact ⟨by rw [decide_eq_false HX.out]; rfl, below_drewN HBq.out _⟩
      · obtain rfl : k = N := by omega
        have HA := Lib.hid (HEQ.out HU.out)
        go_wp2
        go_ret
        exact ⟨by rw [decide_eq_true HA.out]; rfl, hB⟩
  · have hq : ((A.length : Int) != (B.length : Int)) = true := by simp; omega
    have HA : Hid (¬ A = B) := fun e => hl (by rw [e])
    clear h1 h2
    go_enter Try.func17, Try.ntmps17
    go_wp2
    go_ret
    exact ⟨by rw [decide_eq_false HA.out]; rfl, Below.refl _ _⟩
theorem inodes_any (v1 v2 : Value) (A B : List Ino.I) (w : World) (h1 : Inos w v1 A) (h2 : Inos w v2 B) : Calls Try.prog 31 #[v1, v2] w (Ans w (.bool (decide (A = B)))) := by
  obtain ⟨a1, cap1, rfl, hn1, hm1⟩ := h1.parts
  obtain ⟨a2, cap2, rfl, hn2, hm2⟩ := h2.parts
  by_cases hl : A.length = B.length
  · have hq : ((A.length : Int) != (B.length : Int)) = false := by simp [hl]
    obtain ⟨N, hN⟩ : ∃ N, A.length = N := ⟨_, rfl⟩
    have HEQ : Hid ((∀ j, j < N → A.getD j Ino.I.zero = B.getD j Ino.I.zero) → A = B) := fun h => getD_ext hl (fun j hj => h j (by omega))
    have HNE : Hid (∀ j, A.getD j Ino.I.zero ≠ B.getD j Ino.I.zero → ¬ A = B) := fun j h e => h (by rw [e])
    have hBN : B.length = N := by omega
    rw [hN] at h1 hn1 hq ⊢
    rw [hBN] at h2 hn2 hq ⊢
    have H1 := Lib.hid h1
    have H2 := Lib.hid h2
    have HN1 := Lib.hid hN
    have HN2 := Lib.hid hBN
    clear h1 h2 hN hBN hl
    obtain ⟨W0, rfl⟩ : ∃ W0 : World, W0 = w := ⟨_, rfl⟩
    go_enter Try.func31, Try.ntmps31
    go_wp2
    go_loopw [5] (fun i wr => ∃ k : Nat, k ≤ N ∧ i = .int .i64 (k : Int) ∧ Hid (∀ j, j < k → A.getD j Ino.I.zero = B.getD j Ino.I.zero) ∧ Below W0.heap.size W0 wr) (fun i _ => N - (intOf i).toNat)
    case atStart => exact ⟨0, by omega, rfl, fun j hj => by omega, Below.refl _ _⟩
    case round =>
      obtain ⟨k, hk, rfl, HU, hB⟩ := hrel
      by_cases hlt : k < N
      · have hkI : (k : Int) < (N : Int) := by omega
        obtain ⟨x, hx⟩ : ∃ x, A.getD k Ino.I.zero = x := ⟨_, rfl⟩
        obtain ⟨y, hy⟩ : ∃ y, B.getD k Ino.I.zero = y := ⟨_, rfl⟩
        obtain ⟨b1, off1, e1, k1⟩ := (H1.out.below hB).at HN1.out hlt
        obtain ⟨b2, off2, e2, k2⟩ := (H2.out.below hB).at HN2.out hlt
        cases e1
        cases e2
        obtain ⟨c0, c1, c2, c3, c4, c5, c6, c7, c8, c9, c10, c11⟩ := k1 x hx.symm
        obtain ⟨d0, d1, d2, d3, d4, d5, d6, d7, d8, d9, d10, d11⟩ := k2 y hy.symm
        have hq := fun W => Ino.neqI x y W
        unfold Ino.I.val at hq
        clear k1 k2
        have HBq := Lib.hid hB
        by_cases he : x = y
        · have HX : Hid (A.getD k Ino.I.zero = B.getD k Ino.I.zero) := by unfold Hid; rw [hx, hy, he]
          rw [decide_eq_true he] at hq
          have hq1 : ∀ W, (binOp .neq 41 (.agg #[.int .i64 x.kind, .int .u16 x.mode, .int .u16 x.links, .int .u32 x.size, .int .u64 x.time, .int .i64 x.depth, .int .u32 x.m.a, .int .u32 x.m.b, .int .u32 x.m.c, .int .u32 x.m.d, .int .u32 x.m.e, .int .u32 x.m.f]) (.agg #[.int .i64 y.kind, .int .u16 y.mode, .int .u16 y.links, .int .u32 y.size, .int .u64 y.time, .int .i64 y.depth, .int .u32 y.m.a, .int .u32 y.m.b, .int .u32 y.m.c, .int .u32 y.m.d, .int .u32 y.m.e, .int .u32 y.m.f])).run Try.prog W = .ok (.bool false) W := hq
          clear he hq
          clear hx hy
          go_wp2
          go_quiet (fail)
          go_wp2
          go_roundw
          case rel => exact ⟨k + 1, by omega, by go_num, fun j hj => (by rcases Nat.lt_succ_iff_lt_or_eq.1 hj with h | h; exact HU.out j h; rw [h]; exact HX.out), below_drewN HBq.out _⟩
          case measure => simp [intOf]; omega
        · have HX := Lib.hid (HNE.out k (by rw [hx, hy]; exact he))
          rw [decide_eq_false he] at hq
          have hq1 : ∀ W, (binOp .neq 41 (.agg #[.int .i64 x.kind, .int .u16 x.mode, .int .u16 x.links, .int .u32 x.size, .int .u64 x.time, .int .i64 x.depth, .int .u32 x.m.a, .int .u32 x.m.b, .int .u32 x.m.c, .int .u32 x.m.d, .int .u32 x.m.e, .int .u32 x.m.f]) (.agg #[.int .i64 y.kind, .int .u16 y.mode, .int .u16 y.links, .int .u32 y.size, .int .u64 y.time, .int .i64 y.depth, .int .u32 y.m.a, .int .u32 y.m.b, .int .u32 y.m.c, .int .u32 y.m.d, .int .u32 y.m.e, .int .u32 y.m.f])).run Try.prog W = .ok (.bool true) W := hq
          clear hq
          clear hx hy he
          go_wp2
          go_quiet (fail)
          go_wp2
          go_ret
          exact ⟨by rw [decide_eq_false HX.out]; rfl, below_drewN HBq.out _⟩
      · obtain rfl : k = N := by omega
        have HA := Lib.hid (HEQ.out HU.out)
        go_wp2
        go_ret
        exact ⟨by rw [decide_eq_true HA.out]; rfl, hB⟩
  · have hq : ((A.length : Int) != (B.length : Int)) = true := by simp; omega
    have HA : Hid (¬ A = B) := fun e => hl (by rw [e])
    clear h1 h2
    go_enter Try.func31, Try.ntmps31
    go_wp2
    go_ret
    exact ⟨by rw [decide_eq_false HA.out]; rfl, Below.refl _ _⟩
end
end R
end Go.Proofs.Yteopcjfakhmifaa.Vol
