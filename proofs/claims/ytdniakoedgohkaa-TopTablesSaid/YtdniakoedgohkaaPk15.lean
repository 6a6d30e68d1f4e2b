/- Several texts in one, each under its own heading. -/
import Derived.Test.YtdniakoedgohkaaPk14
import Derived.Lib.SmallJoins
import Derived.OpenShut
import Derived.Test.YtdniakoedgohkaaPk13
import Derived.Laws.AppendOwnNone
import Derived.Deep.RegionLaw
import Derived.Deep.AppendLies
import Derived.Test.YtdniakoedgohkaaPk05
import Derived.Test.YtdniakoedgohkaaPk08
/- Which blocks are no contents; when two lists of blocks are the same: of the program, and of the document. -/
namespace Go.Proofs.Ytdniakoedgohkaa.Cps
open Go.RowKit Go.Shelf
attribute [local go_sem] Oper.semAt_some
set_option linter.unusedVariables false
set_option linter.unusedSimpArgs false

theorem neqS (a b : ByteArray) (w : World) : (binOp .neq 9 (Value.string a) (Value.string b)).run Try.prog w = .ok (.bool (!decide (a = b))) w := by
  by_cases h : a = b
  · first | (simp [go_sem, h]; done) | (simp [go_sem, binOp, h]; done)
  · have h4 : ¬ a.toList = b.toList := fun he => h (ByteArray.ext (Array.toList_inj.1 (by rw [← Lib.toList_data, ← Lib.toList_data]; exact he)))
    first | (simp [go_sem, h, h4]; done) | (simp [go_sem, binOp, h, h4]; done)
theorem beq_yes {A B : ByteArray} (h : A = B) : (A.toList == B.toList) = true := by rw [h]; simp
theorem beq_no {A B : ByteArray} (h : ¬ A = B) : (A.toList == B.toList) = false := by
  rw [beq_eq_false_iff_ne]
  exact fun he => h (ByteArray.ext (Array.toList_inj.1 (by rw [← Lib.toList_data, ← Lib.toList_data]; exact he)))
def All508 (T : List ByteArray) : Prop := ∀ b ∈ T, b.size = 508
instance (T : List ByteArray) : Decidable (All508 T) := by unfold All508; infer_instance
theorem all508_upto {T : List ByteArray} : All508 T ↔ ∀ j, j < T.length → (T.getD j ⟨#[]⟩).size = 508 := by
  constructor
  · intro h j hj
    exact h _ (by rw [List.getD_eq_getElem?_getD, List.getElem?_eq_getElem hj]; exact List.getElem_mem hj)
  · intro h b hb
    obtain ⟨j, hj⟩ := List.getElem?_of_mem hb
    have hl := (List.getElem?_eq_some_iff.1 hj).1
    have := h j hl
    rw [List.getD_eq_getElem?_getD, hj] at this
    exact this
theorem getD_ext {X Y : List ByteArray} (hl : X.length = Y.length) (h : ∀ i, i < X.length → X.getD i ⟨#[]⟩ = Y.getD i ⟨#[]⟩) : X = Y := by
  apply List.ext_getElem hl
  intro i h1 h2
  have := h i h1
  rw [List.getD_eq_getElem?_getD, List.getD_eq_getElem?_getD, List.getElem?_eq_getElem h1, List.getElem?_eq_getElem h2] at this
  exact this
section
set_option maxRecDepth 100000
set_option maxHeartbeats 2000000
theorem isNo_any (b : ByteArray) (w : World) : Calls Try.prog 56 #[.string b] w fun e w' => e = .returned (.bool (decide (¬ b.size = 508))) ∧ w = w' := by
  by_cases h : b.size = 508
  · have g : ((b.size : Int) != 508) = false := by simp [h]
    have HD : Hid (decide (¬ b.size = 508) = false) := decide_eq_false (fun hh => hh h)
    clear h
    go_enter Try.func56, Try.ntmps56
    go_wp2
    go_ret
    exact ⟨by rw [HD.out]; simp [g], rfl⟩
  · have g : ((b.size : Int) != 508) = true := by simp; omega
    have HD : Hid (decide (¬ b.size = 508) = true) := decide_eq_true h
    clear h
    go_enter Try.func56, Try.ntmps56
    go_wp2
    go_ret
    exact ⟨by rw [HD.out]; simp [g], rfl⟩
theorem indexS_any (v : Value) (T : List ByteArray) (w : World) (hT : Strs w v T) :
    Calls Try.prog 82 #[v, .func (.func 56) #[] #[]] w fun e w' => ∃ i : Int, e = .returned (.int .i64 i) ∧ Hid (0 ≤ i ↔ ¬ All508 T) ∧ Below w.heap.size w w' := by
  obtain ⟨a, cap, rfl, hn, hm⟩ := hT.parts
  have HA := Lib.hid (all508_upto (T := T))
  have HL := Lib.hid hT
  obtain ⟨N, hN⟩ : ∃ N, T.length = N := ⟨_, rfl⟩
  rw [hN] at HL HA hn ⊢
  have HN := Lib.hid hN
  have HX := Lib.hid (fun s W => isNo_any s W)
  clear hT hN
  obtain ⟨W0, rfl⟩ : ∃ W0 : World, W0 = w := ⟨_, rfl⟩
  go_enter Try.func82, Try.ntmps82
  go_wp2
  go_loopw [5, 8] (fun _ i wr => ∃ k : Nat, k ≤ N ∧ i = .int .i64 (k : Int) ∧ Hid (∀ j, j < k → (T.getD j ⟨#[]⟩).size = 508) ∧ Below W0.heap.size W0 wr) (fun _ i _ => N - (intOf i).toNat)
  case atStart => exact ⟨0, by omega, rfl, fun j hj => by omega, Below.refl _ _⟩
  case round =>
    obtain ⟨k, hk, rfl, HW, hB⟩ := hrel
    by_cases hlt : k < N
    · obtain ⟨b1, off, e2, c0⟩ := (HL.out.below hB).get (k := k) (by rw [HN.out]; exact hlt)
      subst e2
      have HBq := Lib.hid hB
      by_cases h1 : (T.getD k ⟨#[]⟩).size = 508
      · have hx := HX.out (T.getD k ⟨#[]⟩)
        rw [decide_eq_false (fun hh => hh h1)] at hx
        have HX1 := Lib.hid hx
        have HS : Hid (∀ j, j < k + 1 → (T.getD j ⟨#[]⟩).size = 508) := fun j hj => by
          rcases Nat.lt_succ_iff_lt_or_eq.1 hj with h | h
          · exact HW.out j h
          · rw [h]; exact h1
        generalize T.getD k ⟨#[]⟩ = s at c0 HX1
        clear h1 hx
        go_wp2_with (go_at_call 56; refine (HX1.out _).mono ?_; rintro e w' ⟨rfl, rfl⟩)
        go_roundw
        case rel => exact ⟨k + 1, by omega, by go_num, HS.out, HBq.out⟩
        case measure => simp [intOf]; omega
      · have hx := HX.out (T.getD k ⟨#[]⟩)
        rw [decide_eq_true h1] at hx
        have HX1 := Lib.hid hx
        have HY : Hid (¬ All508 T) := fun hh => h1 (HA.out.1 hh k hlt)
        generalize T.getD k ⟨#[]⟩ = s at c0 HX1
        clear h1 hx
        go_wp2_with (go_at_call 56; refine (HX1.out _).mono ?_; rintro e w' ⟨rfl, rfl⟩)
        go_ret
        exact ⟨_, rfl, ⟨fun _ => HY.out, fun _ => (by omega)⟩, HBq.out⟩
    · obtain rfl : N = k := by omega
      go_wp2
      go_ret
      exact ⟨_, rfl, ⟨fun hh => by omega, fun hh => absurd (HA.out.2 HW.out) hh⟩, hB⟩
theorem containsS_any (v : Value) (T : List ByteArray) (w : World) (hT : Strs w v T) :
    Calls Try.prog 55 #[v, .func (.func 56) #[] #[]] w (Ans w (.bool (!decide (All508 T)))) := by
  have hI := indexS_any v T w hT
  obtain ⟨a, cap, rfl, hn, hm⟩ := hT.parts
  clear hT
  go_enter Try.func55, Try.ntmps55
  go_wp2_with (go_at_call 82; refine hI.mono ?_; rintro e w' ⟨i, rfl, HI, hB⟩)
  go_ret
  refine ⟨?_, hB⟩
  by_cases h : All508 T
  · have : ¬ 0 ≤ i := fun hh => HI.out.1 hh h
    rw [decide_eq_true h]
    simp [this]
  · have : 0 ≤ i := HI.out.2 h
    rw [decide_eq_false h]
    simp [this]
theorem equalS_any (v1 v2 : Value) (X Y : List ByteArray) (w : World) (h1 : Strs w v1 X) (h2 : Strs w v2 Y) : Calls Try.prog 54 #[v1, v2] w (Ans w (.bool (decide (X = Y)))) := by
  obtain ⟨a1, cap1, rfl, hn1, hm1⟩ := h1.parts
  obtain ⟨a2, cap2, rfl, hn2, hm2⟩ := h2.parts
  by_cases hl : X.length = Y.length
  · have HYes : Hid ((∀ j, j < X.length → X.getD j ⟨#[]⟩ = Y.getD j ⟨#[]⟩) → decide (X = Y) = true) := fun h => decide_eq_true (getD_ext hl h)
    have HNo : Hid (∀ k, ¬ X.getD k ⟨#[]⟩ = Y.getD k ⟨#[]⟩ → decide (X = Y) = false) := fun k hk => decide_eq_false fun h => hk (by rw [h])
    obtain ⟨r, hr⟩ : ∃ r, decide (X = Y) = r := ⟨_, rfl⟩
    rw [hr] at HYes ⊢
    simp only [hr] at HNo
    obtain ⟨N, hN⟩ : ∃ N, X.length = N := ⟨_, rfl⟩
    have hN2 : Y.length = N := by omega
    rw [hN] at h1 HYes hn1 ⊢
    rw [hN2] at h2 hn2 ⊢
    have HX := Lib.hid (fun W (h : Below w.heap.size w W) k (hk : k < N) => (h1.below h).get (k := k) (by rw [hN]; exact hk))
    have HY := Lib.hid (fun W (h : Below w.heap.size w W) k (hk : k < N) => (h2.below h).get (k := k) (by rw [hN2]; exact hk))
    clear h1 h2 hl hN hN2 hr
    obtain ⟨W0, rfl⟩ : ∃ W0 : World, W0 = w := ⟨_, rfl⟩
    go_enter Try.func54, Try.ntmps54
    go_wp2
    go_loopw [5, 13] (fun _ i wr => ∃ k : Nat, k ≤ N ∧ i = .int .i64 (k : Int) ∧ Hid (∀ j, j < k → X.getD j ⟨#[]⟩ = Y.getD j ⟨#[]⟩) ∧ Below W0.heap.size W0 wr) (fun _ i _ => N - (intOf i).toNat)
    case atStart => exact ⟨0, by omega, rfl, fun j hj => by omega, Below.refl _ _⟩
    case round =>
      obtain ⟨k, hk, rfl, HW, hB⟩ := hrel
      by_cases hlt : k < N
      · obtain ⟨b1, off1, e1, c1⟩ := HX.out _ hB k hlt
        obtain ⟨b2, off2, e2, c2⟩ := HY.out _ hB k hlt
        subst e1
        subst e2
        have HBq := Lib.hid hB
        by_cases he : X.getD k ⟨#[]⟩ = Y.getD k ⟨#[]⟩
        · have hq := beq_yes he
          have HS : Hid (∀ j, j < k + 1 → X.getD j ⟨#[]⟩ = Y.getD j ⟨#[]⟩) := fun j hj => by
            rcases Nat.lt_succ_iff_lt_or_eq.1 hj with h | h
            · exact HW.out j h
            · rw [h]; exact he
          clear he
          generalize X.getD k ⟨#[]⟩ = s1 at c1 hq
          generalize Y.getD k ⟨#[]⟩ = s2 at c2 hq
          go_wp2
          go_quiet (fail)
          go_wp2
          go_roundw
          case rel => exact ⟨k + 1, by omega, by go_num, HS.out, below_drewN HBq.out _⟩
          case measure => simp [intOf]; omega
        · have hq := beq_no he
          have HF := Lib.hid (HNo.out k he)
          clear he
          generalize X.getD k ⟨#[]⟩ = s1 at c1 hq
          generalize Y.getD k ⟨#[]⟩ = s2 at c2 hq
          go_wp2
          go_quiet (fail)
          go_wp2
          go_ret
          exact ⟨by rw [HF.out]; rfl, below_drewN HBq.out _⟩
      · obtain rfl : N = k := by omega
        have HF := Lib.hid (HYes.out HW.out)
        go_wp2
        go_ret
        exact ⟨by rw [HF.out]; rfl, hB⟩
  · have HF : Hid (decide (X = Y) = false) := decide_eq_false fun h => hl (by rw [h])
    have g1 : ¬ (X.length : Int) = (Y.length : Int) := by omega
    have g2 : ((X.length : Int) != (Y.length : Int)) = true := by simp; omega
    have g3 : (X.length == Y.length) = false := by simp [hl]
    obtain ⟨r, hr⟩ : ∃ r, decide (X = Y) = r := ⟨_, rfl⟩
    rw [hr] at HF ⊢
    clear h1 h2 hr
    generalize X.length = n1 at hn1 g1 g2 g3 hl ⊢
    generalize Y.length = n2 at hn2 g1 g2 g3 hl ⊢
    go_enter Try.func54, Try.ntmps54
    go_wp2
    go_ret
    exact ⟨by rw [HF.out]; rfl, Below.refl _ _⟩
end
end Go.Proofs.Ytdniakoedgohkaa.Cps
/- The document's Same, SameNumbers; what came in, cut; what stands ahead of every law. -/
namespace Go.Proofs.Ytdniakoedgohkaa.Cps
open Go.RowKit Go.Shelf Go.ChangeShapes Go.WideShapes Go.Deep
attribute [local go_sem] Oper.semAt_some
set_option linter.unusedVariables false
set_option linter.unusedSimpArgs false
section
set_option maxRecDepth 100000
set_option maxHeartbeats 2000000
theorem same_any (v1 v2 : Value) (A B : List C) (w : World) (h1 : Chs w v1 A) (h2 : Chs w v2 B) : Calls Try.prog 25 #[v1, v2] w (Ans w (.bool (decide (A = B)))) := by
  obtain ⟨a1, cap1, rfl, hn1, hm1⟩ := h1.parts
  obtain ⟨a2, cap2, rfl, hn2, hm2⟩ := h2.parts
  by_cases hl : A.length = B.length
  · have hq : ((A.length : Int) != (B.length : Int)) = false := by simp [hl]
    obtain ⟨N, hN⟩ : ∃ N, A.length = N := ⟨_, rfl⟩
    have H1 := Lib.hid h1
    have H2 := Lib.hid h2
    have HEQ : Hid ((∀ j, j < N → ck A j = ck B j) → A = B) := fun h => ck_ext hl (fun j hj => h j (by omega))
    have HNE : Hid (∀ j, ck A j ≠ ck B j → ¬ A = B) := fun j h e => h (by rw [e])
    rw [← hl] at H2 hn2 hq ⊢
    have hBN : B.length = N := by omega
    rw [hN] at H1 H2 hn1 hn2 hq ⊢
    have HN1 := Lib.hid hN
    have HN2 := Lib.hid hBN
    clear h1 h2 hN hBN hl
    obtain ⟨W0, rfl⟩ : ∃ W0 : World, W0 = w := ⟨_, rfl⟩
    go_enter Try.func25, Try.ntmps25
    go_wp2
    go_loopw [5] (fun i wr => ∃ k : Nat, k ≤ N ∧ i = .int .i64 (k : Int) ∧ Hid (∀ j, j < k → ck A j = ck B j) ∧ Below W0.heap.size W0 wr) (fun i _ => N - (intOf i).toNat)
    case atStart => exact ⟨0, by omega, rfl, fun j hj => by omega, Below.refl _ _⟩
    case round =>
      obtain ⟨k, hk, rfl, HU, hB⟩ := hrel
      by_cases hlt : k < N
      · obtain ⟨b1, off1, cap3, e1, c0, c1, c2, c3⟩ := (H1.out.below hB).at (k := k) (by rw [HN1.out]; exact hlt)
        obtain ⟨b2, off2, cap4, e2, d0, d1, d2, d3⟩ := (H2.out.below hB).at (k := k) (by rw [HN2.out]; exact hlt)
        rw [HN1.out] at e1
        rw [HN2.out] at e2
        cases e1
        cases e2
        have HBq := Lib.hid hB
        have hq := fun W => neqC (ck A k) (ck B k) W
        unfold C.val at hq
        by_cases hx : ck A k = ck B k
        · rw [decide_eq_true hx] at hq
          have hq1 : ∀ W, (binOp .neq 85 (.agg #[.int .u64 (ck A k).cp, .int .u64 (ck A k).tick, .bool (ck A k).snap, .string (ck A k).root]) (.agg #[.int .u64 (ck B k).cp, .int .u64 (ck B k).tick, .bool (ck B k).snap, .string (ck B k).root])).run Try.prog W = .ok (.bool false) W := hq
          have HX := Lib.hid hx
          clear hx hq
          go_wp2
          go_quiet (fail)
          go_wp2
          go_roundw
          case rel => exact ⟨k + 1, by omega, by go_num, fun j hj => (by rcases Nat.lt_succ_iff_lt_or_eq.1 hj with h | h; exact HU.out j h; rw [h]; exact HX.out), below_drewN HBq.out _⟩
          case measure => simp [intOf]; omega
        · rw [decide_eq_false hx] at hq
          have hq1 : ∀ W, (binOp .neq 85 (.agg #[.int .u64 (ck A k).cp, .int .u64 (ck A k).tick, .bool (ck A k).snap, .string (ck A k).root]) (.agg #[.int .u64 (ck B k).cp, .int .u64 (ck B k).tick, .bool (ck B k).snap, .string (ck B k).root])).run Try.prog W = .ok (.bool true) W := hq
          have HX := Lib.hid (HNE.out k hx)
          clear hx hq
          go_wp2
          go_quiet (fail)
          go_wp2
          go_ret
          exact ⟨by rw [decide_eq_false HX.out]; rfl, below_drewN HBq.out _⟩
      · obtain rfl : k = N := by omega
        have HA := Lib.hid (HEQ.out HU.out)
        go_wp2
        go_ret
        exact ⟨by rw [decide_eq_true HA.out]; rfl, hB⟩
  · have hq : ((A.length : Int) != (B.length : Int)) = true := by simp; omega
    have HA : Hid (¬ A = B) := fun e => hl (by rw [e])
    clear h1 h2
    go_enter Try.func25, Try.ntmps25
    go_wp2
    go_ret
    exact ⟨by rw [decide_eq_false HA.out]; rfl, Below.refl _ _⟩
theorem chs_new (w : World) (L : List C) (arr : Array Value) (h : arr.toList = L.flatMap C.cells) (hl : L.length ≤ maxLen) : Chs (w.alloc (.cells arr 85)) (.slice (some ⟨w.heap.size, 0, none⟩) L.length L.length) L := by
  refine ⟨_, L.length, rfl, Nat.le_refl _, ⟨hl, fun e => by cases e⟩, flat_length C.cells 4 L (fun _ _ => rfl), fun _ => ⟨w.heap.size, 0, rfl, fun j u hj => ?_⟩⟩
  rw [← h] at hj
  have hn : (w.alloc (.cells arr 85)).heap[w.heap.size]? = some (.cells arr 85) := World.alloc_heap_new w _
  simp only [World.cell?, hn, Nat.zero_add]
  rw [← hj, Array.getElem?_toList]
  rfl
theorem nums_new (w : World) (X : List Int) (arr : Array Value) (h : arr.toList = X.map (.int .u64)) (hl : X.length ≤ maxLen) : Nums (w.alloc (.cells arr 22)) (.slice (some ⟨w.heap.size, 0, none⟩) X.length X.length) X := by
  refine ⟨_, X.length, rfl, Nat.le_refl _, ⟨hl, fun e => by cases e⟩, by simp, fun _ => ⟨w.heap.size, 0, rfl, fun j u hj => ?_⟩⟩
  rw [← h] at hj
  have hn : (w.alloc (.cells arr 22)).heap[w.heap.size]? = some (.cells arr 22) := World.alloc_heap_new w _
  simp only [World.cell?, hn, Nat.zero_add]
  rw [← hj, Array.getElem?_toList]
  rfl
/-! ### what stands ahead of every law -/
def FL : List C := [⟨1, 2, false, zeros 42⟩, ⟨2, 6, true, zeros 42⟩, ⟨3, 7, false, zeros 42⟩, ⟨4, 9, false, zeros 42⟩]
theorem fl_exp : expE FL = 0 ∧ expN FL 10 3 = 1 ∧ numV (expV FL 10 3) = [2, 3, 4] ∧ (expV FL 10 3).length = 3 := by decide +kernel
theorem fl_del : delE FL 2 = 93 ∧ delE FL 4 = 94 := by decide +kernel
theorem fl_fnd : fndE FL 3 = 0 ∧ fndC FL 3 = ⟨3, 7, false, zeros 42⟩ := by decide +kernel
end
end Go.Proofs.Ytdniakoedgohkaa.Cps
/- Contents as blocks and read again: what the law on tables shows first, and what it takes each content through. -/
namespace Go.Proofs.Ytdniakoedgohkaa.Tab
open Go.RowKit
open Record (wrapB)
open Cps (Strs)
attribute [local go_sem] Oper.semAt_some
set_option linter.unusedVariables false
set_option linter.unusedSimpArgs false
theorem unwrap_wrap (c : ByteArray) (hc : c.size ≤ 508) (w : World) : Calls Try.prog 40 #[.string (wrapB c)] w fun e w' => e = .returned (.tuple #[.string (c ++ zeros (508 - c.size)), .int .i64 0]) ∧ Below w.heap.size w w' := by
  have := Record.unwrap_any (wrapB c) w (by rw [Record.wrapB_size hc]; omega)
  rw [Record.unwS_wrap hc, Record.unwE_yes (Record.unw_wrap hc)] at this
  exact this
theorem pad_size {c : ByteArray} (hc : c.size ≤ 508) : (c ++ zeros (508 - c.size)).size = 508 := by rw [ByteArray.size_append, zeros_size]; omega
theorem pad_cut (c : ByteArray) (n : Nat) : (c ++ zeros n).extract 0 c.size = c := extract_left c (zeros n)
theorem pad_none {c : ByteArray} (hc : c.size = 508) : c ++ zeros (508 - c.size) = c := by
  rw [hc, Nat.sub_self]
  refine ByteArray.ext ?_
  rw [ByteArray.data_append]
  show c.data ++ #[] = c.data
  simp
section
set_option maxRecDepth 100000
set_option maxHeartbeats 2000000
theorem tabs_any (w : World) : Calls Try.prog 16 #[] w fun e w' => e = .returned (.bool true) ∧ Below w.heap.size w w' := by
  obtain ⟨c, hc⟩ : ∃ c : ByteArray, (⟨#[97, 98]⟩ : ByteArray) = c := ⟨_, rfl⟩
  have hcs : c.size = 2 := by rw [← hc]; rfl
  have h1 : ∀ W, Calls Try.prog 39 #[.string ⟨#[97, 98]⟩] W fun e w' => e = .returned (.tuple #[.string (wrapB c), .int .i64 0]) ∧ Below W.heap.size W w' := fun W => by
    have := Record.wrap_any c W (by omega)
    rw [Record.wrapS_yes (by omega), Record.wrapE_yes (by omega)] at this
    rw [hc]
    exact this
  have h2 := fun W => unwrap_wrap c (by omega) W
  obtain ⟨b, hb⟩ : ∃ b, wrapB c = b := ⟨_, rfl⟩
  have hbs : b.size = 512 := by rw [← hb]; exact Record.wrapB_size (by omega)
  obtain ⟨s, hs⟩ : ∃ s, c ++ zeros (508 - c.size) = s := ⟨_, rfl⟩
  have z1 : s.size = 508 := by rw [← hs]; exact pad_size (by omega)
  have z2 : s.extract 0 2 = ⟨#[97, 98]⟩ := by rw [← hs, hc, ← hcs]; exact pad_cut c _
  have z3 : (2 : Int) ≤ (s.size : Int) := by omega
  have z4 : 2 ≤ s.size := by omega
  have hcl : (⟨#[97, 98]⟩ : ByteArray).toList = [97, 98] := by rw [Lib.toList_data]
  rw [hb] at h1 h2
  rw [hs] at h2
  have H1 := Lib.hid h1
  have H2 := Lib.hid h2
  clear h1 h2 hb hs hc hcs
  go_enter Try.func16, Try.ntmps16
  go_wp2_with (first
    | (go_at_call 39; (with_reducible refine Calls.mono (H1.out _) ?_); rintro e w1 ⟨rfl, hB1⟩)
    | (go_at_call 40; (with_reducible refine Calls.mono (H2.out _) ?_); rintro e w2 ⟨rfl, hB2⟩))
  go_ret
  exact ⟨rfl, below_th hB1 hB2⟩
/-- what a content is taken through: it is read as it was -/
def ThrPost (T : List ByteArray) (w : World) (e : Ending) (w' : World) : Prop := ∃ v, e = .returned (.tuple #[v, .bool true]) ∧ Strs w' v T ∧ Below w.heap.size w w'
theorem through_any (v : Value) (T : List ByteArray) (w : World) (hT : Strs w v T) (h508 : ∀ b ∈ T, b.size = 508) (hl : T.length ≤ 1000) : Calls Try.prog 21 #[v] w (ThrPost T w) := by
  obtain ⟨i0, hi, hz0, hz1, hz2⟩ := info_parts Cps.infoStr
  obtain ⟨a, cap, rfl, hc1, hc2⟩ := hT.parts
  have HT := Lib.hid hT
  have H508 : Hid (∀ k, k < T.length → (T.getD k ⟨#[]⟩).size = 508) := fun k hk => by
    rw [List.getD_eq_getElem?_getD, List.getElem?_eq_getElem hk]
    exact h508 _ (List.getElem_mem hk)
  obtain ⟨N, hN⟩ : ∃ N, T.length = N := ⟨_, rfl⟩
  have HN := Lib.hid hN
  rw [hN] at hc1 hl H508 ⊢
  clear hT h508 hN
  obtain ⟨W0, rfl⟩ : ∃ W0 : World, W0 = w := ⟨_, rfl⟩
  go_enter Try.func21, Try.ntmps21
  go_wp2
  go_loopw [4, 5] (fun u i wr => ∃ k : Nat, k ≤ N ∧ i = .int .i64 (k : Int) ∧ Hid (wr.ownsRow W0.heap.size 9 1 u k ((T.take k).map Value.string)) ∧ Hid (Below W0.heap.size W0 wr)) (fun _ i _ => N - (intOf i).toNat)
  case atStart => exact ⟨0, Nat.zero_le _, rfl, World.ownsRow_nil _ _ _ _, Below.refl _ _⟩
  case round =>
    obtain ⟨k, hk, rfl, HO, HB⟩ := hrel
    by_cases hlt : k < N
    · obtain ⟨b, off, e2, c0⟩ := (HT.out.below HB.out).get (k := k) (by rw [HN.out]; exact hlt)
      cases e2
      have hz := H508.out k hlt
      obtain ⟨x, hx⟩ : ∃ x, T.getD k ⟨#[]⟩ = x := ⟨_, rfl⟩
      rw [hx] at c0 hz
      have hT1 : (T.take (k + 1)).map Value.string = (T.take k).map Value.string ++ [Value.string x] := by
        rw [List.take_add_one, List.getElem?_eq_getElem (by rw [HN.out]; exact hlt)]
        rw [List.getD_eq_getElem?_getD, List.getElem?_eq_getElem (by rw [HN.out]; exact hlt)] at hx
        simp only [Option.getD_some] at hx
        rw [hx]
        simp
      have HS := Lib.hid hT1
      have h1 := fun W => Record.wrap_any x W (by omega)
      rw [Record.wrapS_yes (by omega), Record.wrapE_yes (by omega)] at h1
      have h2 := fun W => unwrap_wrap x (by omega) W
      rw [pad_none hz] at h2
      have hno : ¬ Record.decOk (wrapB x) := fun h => Record.not_both h (Record.unw_wrap (by omega))
      have h3 := fun W => Record.decode_any (wrapB x) W (by rw [Record.wrapB_size (by omega)]; omega)
      unfold Record.DecPost at h3
      rw [Record.decV_no hno, Record.decE_no hno] at h3
      obtain ⟨B, hBB⟩ : ∃ B, wrapB x = B := ⟨_, rfl⟩
      rw [hBB] at h1 h2 h3
      unfold Record.R.val Record.R.none at h3
      dsimp only at h3
      have H1 := Lib.hid h1
      have H2 := Lib.hid h2
      have H3 := Lib.hid h3
      have HOW : Hid (∀ W A, Below wr.heap.size wr W → ((W.alloc (.cells #[.int .u64 0, .int .u64 0, .bool false, .bool false, .int .i64 0, A] 97)).alloc (.cells #[.string x] 9)).ownsRow W0.heap.size 9 1 u4 k ((T.take k).map Value.string) ∧
          Below W0.heap.size W0 ((W.alloc (.cells #[.int .u64 0, .int .u64 0, .bool false, .bool false, .int .i64 0, A] 97)).alloc (.cells #[.string x] 9))) := fun W A hW => by
        refine ⟨((HO.out.kept (Cps.grown_of_below hW) (by cases hv : u4.ownBlock <;> simp)).alloc _).alloc _, ?_⟩
        have h5 := below_th HB.out hW
        exact (h5.alloc h5.size _).alloc (by rw [World.size_alloc]; have := h5.size; omega) _
      have HNEW : Hid (∀ (W : World) A, ∀ j u, ([.string x] : List Value)[j]? = some u → ((W.alloc (.cells #[.int .u64 0, .int .u64 0, .bool false, .bool false, .int .i64 0, A] 97)).alloc (.cells #[.string x] 9)).cell? ((⟨W.heap.size + 1, 0, none⟩ : Addr).add j) = some u) := fun W A => World.news_of_block (cs := #[.string x]) (by
        have := World.alloc_heap_new (W.alloc (.cells #[.int .u64 0, .int .u64 0, .bool false, .bool false, .int .i64 0, A] 97)) (.cells #[.string x] 9)
        rwa [World.size_alloc] at this)
      clear hx hz hT1 h1 h2 h3 hno hBB
      go_wp2_with (first
        | (go_at_call 39; (with_reducible refine Calls.mono (H1.out _) ?_); rintro e w1 ⟨rfl, hB1⟩)
        | (go_at_call 40; (with_reducible refine Calls.mono (H2.out _) ?_); rintro e w2 ⟨rfl, hB2⟩)
        | (go_at_call 51; (with_reducible refine Calls.mono (H3.out _) ?_); rintro e w3 ⟨vd, rfl, hE, hB3⟩; obtain ⟨av, cv, ev, _, _⟩ := hE.parts; obtain rfl : vd = .slice av 0 cv := ev; clear hE)
        | (at_builtin; (refine wpList_append_own _ rfl _ _ 42 rfl W0.heap.size 9 i0 (.string ⟨#[]⟩) 1 16 Try.underlying42 hi hz0 hz1 hz2 rfl (by decide) _ k ((T.take k).map Value.string) rfl (HOW.out w3 (.slice av 0 cv) (below_th (below_th hB1 hB2) hB3)).1 ⟨w3.heap.size + 1, 0, none⟩ 1 1 [.string x] rfl rfl (HNEW.out w3 (.slice av 0 cv)) (by simp [Value.oneCell']) (by unfold maxLen; omega) (by omega) (HOW.out w3 (.slice av 0 cv) (below_th (below_th hB1 hB2) hB3)).2.size ?_; intro v5 w5 hown5 hgrow5 _; have hq5 := HOW.out w3 (.slice av 0 cv) (below_th (below_th hB1 hB2) hB3); have HO5 := Lib.hid hown5; have HB5 := Lib.hid (hq5.2.grown hgrow5 hq5.2.size (fun r e => ((hq5.1).lt r e).1)); clear hown5 hgrow5 hq5)))
      go_roundw
      case rel => exact ⟨k + 1, by omega, by go_num, by rw [HS.out]; exact HO5.out, HB5.out⟩
      case measure => simp [intOf]; omega
    · obtain rfl : N = k := by omega
      have hf : Strs wr u4 T := by
        have h1 := Lies.own HO.out
        rw [show T.take N = T from List.take_of_length_le (by have := HN.out; omega)] at h1
        unfold Cps.Strs
        rw [HN.out]
        exact h1
      have HF : Hid (ThrPost T W0 (.returned (.tuple #[u4, .bool true])) wr) := ⟨u4, rfl, hf, HB.out⟩
      clear hf HO HB
      go_wp2
      go_ret2
      exact HF.out
end
end Go.Proofs.Ytdniakoedgohkaa.Tab
