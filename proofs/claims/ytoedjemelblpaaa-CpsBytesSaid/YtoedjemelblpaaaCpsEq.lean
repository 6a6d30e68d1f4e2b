/- Which blocks are no contents; when two lists of blocks are the same: of the program, and of the document. -/
import Derived.Test.YtoedjemelblpaaaCpsChks
namespace Go.Proofs.Ytoedjemelblpaaa.Cps
open Go.RowKit Go.Shelf
attribute [local go_sem] Oper.semAt_some
set_option linter.unusedVariables false
set_option linter.unusedSimpArgs false

theorem neqS (a b : ByteArray) (w : World) : (binOp .neq 9 (Value.string a) (Value.string b)).run Try.prog w = .ok (.bool (!decide (a = b))) w := by
  by_cases h : a = b
  · first | (simp [go_sem, h]; done) | (simp [go_sem, binOp, h]; done)
  · have h4 : ¬ a.toList = b.toList := fun he => h (ByteArray.ext (Array.toList_inj.1 (by rw [← Lib.toList_data, ← Lib.toList_data]; exact he)))
    first | (simp [go_sem, h, h4]; done) | (simp [go_sem, binOp, h, h4]; done)
theorem beq_yes {A B : ByteArray} (h : A = B) : (A.toList == B.toList) = true := by rw [h]; simp
theorem beq_no {A B : ByteArray} (h : ¬ A = B) : (A.toList == B.toList) = false := by
  rw [beq_eq_false_iff_ne]
  exact fun he => h (ByteArray.ext (Array.toList_inj.1 (by rw [← Lib.toList_data, ← Lib.toList_data]; exact he)))
def All508 (T : List ByteArray) : Prop := ∀ b ∈ T, b.size = 508
instance (T : List ByteArray) : Decidable (All508 T) := by unfold All508; infer_instance
theorem all508_upto {T : List ByteArray} : All508 T ↔ ∀ j, j < T.length → (T.getD j ⟨#[]⟩).size = 508 := by
  constructor
  · intro h j hj
    exact h _ (by rw [List.getD_eq_getElem?_getD, List.getElem?_eq_getElem hj]; exact List.getElem_mem hj)
  · intro h b hb
    obtain ⟨j, hj⟩ := List.getElem?_of_mem hb
    have hl := (List.getElem?_eq_some_iff.1 hj).1
    have := h j hl
    rw [List.getD_eq_getElem?_getD, hj] at this
    exact this
theorem getD_ext {X Y : List ByteArray} (hl : X.length = Y.length) (h : ∀ i, i < X.length → X.getD i ⟨#[]⟩ = Y.getD i ⟨#[]⟩) : X = Y := by
  apply List.ext_getElem hl
  intro i h1 h2
  have := h i h1
  rw [List.getD_eq_getElem?_getD, List.getD_eq_getElem?_getD, List.getElem?_eq_getElem h1, List.getElem?_eq_getElem h2] at this
  exact this
section
set_option maxRecDepth 100000
set_option maxHeartbeats 2000000
theorem isNo_any (b : ByteArray) (w : World) : Calls Try.prog 52 #[.string b] w fun e w' => e = .returned (.bool (decide (¬ b.size = 508))) ∧ w = w' := by
  by_cases h : b.size = 508
  · have g : ((b.size : Int) != 508) = false := by simp [h]
    have HD : Hid (decide (¬ b.size = 508) = false) := decide_eq_false (fun hh => hh h)
    clear h
    go_enter Try.func52, Try.ntmps52
    go_wp2
    go_ret
    exact ⟨by rw [HD.out]; simp [g], rfl⟩
  · have g : ((b.size : Int) != 508) = true := by simp; omega
    have HD : Hid (decide (¬ b.size = 508) = true) := decide_eq_true h
    clear h
    go_enter Try.func52, Try.ntmps52
    go_wp2
    go_ret
    exact ⟨by rw [HD.out]; simp [g], rfl⟩
theorem indexS_any (v : Value) (T : List ByteArray) (w : World) (hT : Strs w v T) :
    Calls Try.prog 66 #[v, .func (.func 52) #[] #[]] w fun e w' => ∃ i : Int, e = .returned (.int .i64 i) ∧ Hid (0 ≤ i ↔ ¬ All508 T) ∧ Below w.heap.size w w' := by
  obtain ⟨a, cap, rfl, hn, hm⟩ := hT.parts
  have HA := Lib.hid (all508_upto (T := T))
  have HL := Lib.hid hT
  obtain ⟨N, hN⟩ : ∃ N, T.length = N := ⟨_, rfl⟩
  rw [hN] at HL HA hn ⊢
  have HN := Lib.hid hN
  have HX := Lib.hid (fun s W => isNo_any s W)
  clear hT hN
  obtain ⟨W0, rfl⟩ : ∃ W0 : World, W0 = w := ⟨_, rfl⟩
  go_enter Try.func66, Try.ntmps66
  go_wp2
  go_loopw [5, 8] (fun _ i wr => ∃ k : Nat, k ≤ N ∧ i = .int .i64 (k : Int) ∧ Hid (∀ j, j < k → (T.getD j ⟨#[]⟩).size = 508) ∧ Below W0.heap.size W0 wr) (fun _ i _ => N - (intOf i).toNat)
  case atStart => exact ⟨0, by omega, rfl, fun j hj => by omega, Below.refl _ _⟩
  case round =>
    obtain ⟨k, hk, rfl, HW, hB⟩ := hrel
    by_cases hlt : k < N
    · obtain ⟨b1, off, e2, c0⟩ := (HL.out.below hB).get (k := k) (by rw [HN.out]; exact hlt)
      subst e2
      have HBq := Lib.hid hB
      by_cases h1 : (T.getD k ⟨#[]⟩).size = 508
      · have hx := HX.out (T.getD k ⟨#[]⟩)
        rw [decide_eq_false (fun hh => hh h1)] at hx
        have HX1 := Lib.hid hx
        have HS : Hid (∀ j, j < k + 1 → (T.getD j ⟨#[]⟩).size = 508) := fun j hj => by
          rcases Nat.lt_succ_iff_lt_or_eq.1 hj with h | h
          · exact HW.out j h
          · rw [h]; exact h1
        generalize T.getD k ⟨#[]⟩ = s at c0 HX1
        clear h1 hx
        go_wp2_with (go_at_call 52; refine (HX1.out _).mono ?_; rintro e w' ⟨rfl, rfl⟩)
        go_roundw
        case rel => exact ⟨k + 1, by omega, by go_num, HS.out, HBq.out⟩
        case measure => simp [intOf]; omega
      · have hx := HX.out (T.getD k ⟨#[]⟩)
        rw [decide_eq_true h1] at hx
        have HX1 := Lib.hid hx
        have HY : Hid (¬ All508 T) := fun hh => h1 (HA.out.1 hh k hlt)
        generalize T.getD k ⟨#[]⟩ = s at c0 HX1
        clear h1 hx
        go_wp2_with (go_at_call 52; refine (HX1.out _).mono ?_; rintro e w' ⟨rfl, rfl⟩)
        go_ret
        exact ⟨_, rfl, ⟨fun _ => HY.out, fun _ => (by omega)⟩, HBq.out⟩
    · obtain rfl : N = k := by omega
      go_wp2
      go_ret
      exact ⟨_, rfl, ⟨fun hh => by omega, fun hh => absurd (HA.out.2 HW.out) hh⟩, hB⟩
theorem containsS_any (v : Value) (T : List ByteArray) (w : World) (hT : Strs w v T) :
    Calls Try.prog 51 #[v, .func (.func 52) #[] #[]] w (Ans w (.bool (!decide (All508 T)))) := by
  have hI := indexS_any v T w hT
  obtain ⟨a, cap, rfl, hn, hm⟩ := hT.parts
  clear hT
  go_enter Try.func51, Try.ntmps51
  go_wp2_with (go_at_call 66; refine hI.mono ?_; rintro e w' ⟨i, rfl, HI, hB⟩)
  go_ret
  refine ⟨?_, hB⟩
  by_cases h : All508 T
  · have : ¬ 0 ≤ i := fun hh => HI.out.1 hh h
    rw [decide_eq_true h]
    simp [this]
  · have : 0 ≤ i := HI.out.2 h
    rw [decide_eq_false h]
    simp [this]
theorem equalS_any (v1 v2 : Value) (X Y : List ByteArray) (w : World) (h1 : Strs w v1 X) (h2 : Strs w v2 Y) : Calls Try.prog 54 #[v1, v2] w (Ans w (.bool (decide (X = Y)))) := by
  obtain ⟨a1, cap1, rfl, hn1, hm1⟩ := h1.parts
  obtain ⟨a2, cap2, rfl, hn2, hm2⟩ := h2.parts
  by_cases hl : X.length = Y.length
  · have HYes : Hid ((∀ j, j < X.length → X.getD j ⟨#[]⟩ = Y.getD j ⟨#[]⟩) → decide (X = Y) = true) := fun h => decide_eq_true (getD_ext hl h)
    have HNo : Hid (∀ k, ¬ X.getD k ⟨#[]⟩ = Y.getD k ⟨#[]⟩ → decide (X = Y) = false) := fun k hk => decide_eq_false fun h => hk (by rw [h])
    obtain ⟨r, hr⟩ : ∃ r, decide (X = Y) = r := ⟨_, rfl⟩
    rw [hr] at HYes ⊢
    simp only [hr] at HNo
    obtain ⟨N, hN⟩ : ∃ N, X.length = N := ⟨_, rfl⟩
    have hN2 : Y.length = N := by omega
    rw [hN] at h1 HYes hn1 ⊢
    rw [hN2] at h2 hn2 ⊢
    have HX := Lib.hid (fun W (h : Below w.heap.size w W) k (hk : k < N) => (h1.below h).get (k := k) (by rw [hN]; exact hk))
    have HY := Lib.hid (fun W (h : Below w.heap.size w W) k (hk : k < N) => (h2.below h).get (k := k) (by rw [hN2]; exact hk))
    clear h1 h2 hl hN hN2 hr
    obtain ⟨W0, rfl⟩ : ∃ W0 : World, W0 = w := ⟨_, rfl⟩
    go_enter Try.func54, Try.ntmps54
    go_wp2
    go_loopw [5, 13] (fun _ i wr => ∃ k : Nat, k ≤ N ∧ i = .int .i64 (k : Int) ∧ Hid (∀ j, j < k → X.getD j ⟨#[]⟩ = Y.getD j ⟨#[]⟩) ∧ Below W0.heap.size W0 wr) (fun _ i _ => N - (intOf i).toNat)
    case atStart => exact ⟨0, by omega, rfl, fun j hj => by omega, Below.refl _ _⟩
    case round =>
      obtain ⟨k, hk, rfl, HW, hB⟩ := hrel
      by_cases hlt : k < N
      · obtain ⟨b1, off1, e1, c1⟩ := HX.out _ hB k hlt
        obtain ⟨b2, off2, e2, c2⟩ := HY.out _ hB k hlt
        subst e1
        subst e2
        have HBq := Lib.hid hB
        by_cases he : X.getD k ⟨#[]⟩ = Y.getD k ⟨#[]⟩
        · have hq := beq_yes he
          have HS : Hid (∀ j, j < k + 1 → X.getD j ⟨#[]⟩ = Y.getD j ⟨#[]⟩) := fun j hj => by
            rcases Nat.lt_succ_iff_lt_or_eq.1 hj with h | h
            · exact HW.out j h
            · rw [h]; exact he
          clear he
          generalize X.getD k ⟨#[]⟩ = s1 at c1 hq
          generalize Y.getD k ⟨#[]⟩ = s2 at c2 hq
          go_wp2
          go_quiet (fail)
          go_wp2
          go_roundw
          case rel => exact ⟨k + 1, by omega, by go_num, HS.out, below_drewN HBq.out _⟩
          case measure => simp [intOf]; omega
        · have hq := beq_no he
          have HF := Lib.hid (HNo.out k he)
          clear he
          generalize X.getD k ⟨#[]⟩ = s1 at c1 hq
          generalize Y.getD k ⟨#[]⟩ = s2 at c2 hq
          go_wp2
          go_quiet (fail)
          go_wp2
          go_ret
          exact ⟨by rw [HF.out]; rfl, below_drewN HBq.out _⟩
      · obtain rfl : N = k := by omega
        have HF := Lib.hid (HYes.out HW.out)
        go_wp2
        go_ret
        exact ⟨by rw [HF.out]; rfl, hB⟩
  · have HF : Hid (decide (X = Y) = false) := decide_eq_false fun h => hl (by rw [h])
    have g1 : ¬ (X.length : Int) = (Y.length : Int) := by omega
    have g2 : ((X.length : Int) != (Y.length : Int)) = true := by simp; omega
    have g3 : (X.length == Y.length) = false := by simp [hl]
    obtain ⟨r, hr⟩ : ∃ r, decide (X = Y) = r := ⟨_, rfl⟩
    rw [hr] at HF ⊢
    clear h1 h2 hr
    generalize X.length = n1 at hn1 g1 g2 g3 hl ⊢
    generalize Y.length = n2 at hn2 g1 g2 g3 hl ⊢
    go_enter Try.func54, Try.ntmps54
    go_wp2
    go_ret
    exact ⟨by rw [HF.out]; rfl, Below.refl _ _⟩
theorem sameTexts_any (v1 v2 : Value) (X Y : List ByteArray) (w : World) (h1 : Strs w v1 X) (h2 : Strs w v2 Y) : Calls Try.prog 33 #[v1, v2] w (Ans w (.bool (decide (X = Y)))) := by
  obtain ⟨a1, cap1, rfl, hn1, hm1⟩ := h1.parts
  obtain ⟨a2, cap2, rfl, hn2, hm2⟩ := h2.parts
  by_cases hl : X.length = Y.length
  · have HYes : Hid ((∀ j, j < X.length → X.getD j ⟨#[]⟩ = Y.getD j ⟨#[]⟩) → decide (X = Y) = true) := fun h => decide_eq_true (getD_ext hl h)
    have HNo : Hid (∀ k, ¬ X.getD k ⟨#[]⟩ = Y.getD k ⟨#[]⟩ → decide (X = Y) = false) := fun k hk => decide_eq_false fun h => hk (by rw [h])
    obtain ⟨r, hr⟩ : ∃ r, decide (X = Y) = r := ⟨_, rfl⟩
    rw [hr] at HYes ⊢
    simp only [hr] at HNo
    obtain ⟨N, hN⟩ : ∃ N, X.length = N := ⟨_, rfl⟩
    have hN2 : Y.length = N := by omega
    rw [hN] at h1 HYes hn1 ⊢
    rw [hN2] at h2 hn2 ⊢
    have HX := Lib.hid (fun W (h : Below w.heap.size w W) k (hk : k < N) => (h1.below h).get (k := k) (by rw [hN]; exact hk))
    have HY := Lib.hid (fun W (h : Below w.heap.size w W) k (hk : k < N) => (h2.below h).get (k := k) (by rw [hN2]; exact hk))
    clear h1 h2 hl hN hN2 hr
    obtain ⟨W0, rfl⟩ : ∃ W0 : World, W0 = w := ⟨_, rfl⟩
    go_enter Try.func33, Try.ntmps33
    go_wp2
    go_loopw [5] (fun i wr => ∃ k : Nat, k ≤ N ∧ i = .int .i64 (k : Int) ∧ Hid (∀ j, j < k → X.getD j ⟨#[]⟩ = Y.getD j ⟨#[]⟩) ∧ Below W0.heap.size W0 wr) (fun i _ => N - (intOf i).toNat)
    case atStart => exact ⟨0, by omega, rfl, fun j hj => by omega, Below.refl _ _⟩
    case round =>
      obtain ⟨k, hk, rfl, HW, hB⟩ := hrel
      by_cases hlt : k < N
      · obtain ⟨b1, off1, e1, c1⟩ := HX.out _ hB k hlt
        obtain ⟨b2, off2, e2, c2⟩ := HY.out _ hB k hlt
        subst e1
        subst e2
        have HBq := Lib.hid hB
        by_cases he : X.getD k ⟨#[]⟩ = Y.getD k ⟨#[]⟩
        · have hq := beq_yes he
          have HS : Hid (∀ j, j < k + 1 → X.getD j ⟨#[]⟩ = Y.getD j ⟨#[]⟩) := fun j hj => by
            rcases Nat.lt_succ_iff_lt_or_eq.1 hj with h | h
            · exact HW.out j h
            · rw [h]; exact he
          clear he
          generalize X.getD k ⟨#[]⟩ = s1 at c1 hq
          generalize Y.getD k ⟨#[]⟩ = s2 at c2 hq
          go_wp2
          go_quiet (fail)
          go_wp2
          go_roundw
          case rel => exact ⟨k + 1, by omega, by go_num, HS.out, below_drewN HBq.out _⟩
          case measure => simp [intOf]; omega
        · have hq := beq_no he
          have HF := Lib.hid (HNo.out k he)
          clear he
          generalize X.getD k ⟨#[]⟩ = s1 at c1 hq
          generalize Y.getD k ⟨#[]⟩ = s2 at c2 hq
          go_wp2
          go_quiet (fail)
          go_wp2
          go_ret
          exact ⟨by rw [HF.out]; rfl, below_drewN HBq.out _⟩
      · obtain rfl : N = k := by omega
        have HF := Lib.hid (HYes.out HW.out)
        go_wp2
        go_ret
        exact ⟨by rw [HF.out]; rfl, hB⟩
  · have HF : Hid (decide (X = Y) = false) := decide_eq_false fun h => hl (by rw [h])
    have g1 : ¬ (X.length : Int) = (Y.length : Int) := by omega
    have g2 : ((X.length : Int) != (Y.length : Int)) = true := by simp; omega
    have g3 : (X.length == Y.length) = false := by simp [hl]
    obtain ⟨r, hr⟩ : ∃ r, decide (X = Y) = r := ⟨_, rfl⟩
    rw [hr] at HF ⊢
    clear h1 h2 hr
    generalize X.length = n1 at hn1 g1 g2 g3 hl ⊢
    generalize Y.length = n2 at hn2 g1 g2 g3 hl ⊢
    go_enter Try.func33, Try.ntmps33
    go_wp2
    go_ret
    exact ⟨by rw [HF.out]; rfl, Below.refl _ _⟩
end
end Go.Proofs.Ytoedjemelblpaaa.Cps
