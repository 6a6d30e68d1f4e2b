/- Right of the program, CleanOnes, Next. -/
import Derived.Test.YtgadclbenbakfaaUsgMem
namespace Go.Proofs.Ytgadclbenbakfaa.Usage
open Go.RowKit
attribute [local go_sem] Oper.semAt_some
set_option linter.unusedVariables false

/-- what asks of a slice answers: only what is new is written -/
def Ans (w : World) (v : Value) (e : Ending) (w' : World) : Prop := e = .returned v ∧ Below w.heap.size w w'
def wrongUpto (L : List S) (k : Nat) : Prop := ∀ j, j < k → oneB (seg L j) = true
def AllOne (L : List S) : Prop := ∀ s ∈ L, oneP s
instance (L : List S) : Decidable (AllOne L) := by unfold AllOne; infer_instance
theorem all_one {L : List S} : AllOne L ↔ wrongUpto L L.length :=
  ⟨fun h j hj => decide_eq_true (h _ (seg_mem hj)), fun h s hs => by obtain ⟨i, hi, rfl⟩ := mem_seg hs; exact of_decide_eq_true (h i hi)⟩
section
set_option maxRecDepth 100000
set_option maxHeartbeats 1000000
theorem indexFunc_any (v : Value) (L : List S) (w : World) (hL : Segs w v L) :
    Calls Try.prog 31 #[v, .func (.func 24) #[] #[]] w fun e w' => ∃ i : Int, e = .returned (.int .i64 i) ∧ Hid (0 ≤ i ↔ ¬ AllOne L) ∧ Below w.heap.size w w' := by
  obtain ⟨a, cap, rfl, hn, hm⟩ := hL.parts
  obtain ⟨N, hN⟩ : ∃ N, L.length = N := ⟨_, rfl⟩
  have HA := Lib.hid (all_one (L := L))
  have HL := Lib.hid hL
  rw [hN] at HL HA hn ⊢
  have HN := Lib.hid hN
  have hx := fun s W => isWrong_any s W
  unfold S.val at hx
  have HX := Lib.hid hx
  clear hL hN hx
  obtain ⟨W0, rfl⟩ : ∃ W0 : World, W0 = w := ⟨_, rfl⟩
  go_enter Try.func31, Try.ntmps31
  go_wp2
  go_loopw [5, 8] (fun _ i wr => ∃ k : Nat, k ≤ N ∧ i = .int .i64 (k : Int) ∧ Hid (wrongUpto L k) ∧ Below W0.heap.size W0 wr) (fun _ i _ => N - (intOf i).toNat)
  case atStart => exact ⟨0, by omega, rfl, fun j hj => by omega, Below.refl _ _⟩
  case round =>
    obtain ⟨k, hk, rfl, HW, hB⟩ := hrel
    by_cases hlt : k < N
    · obtain ⟨b, off, cap2, e2, c0, c1, c2⟩ := ((HL.out).below hB).at (k := k) (by rw [HN.out]; exact hlt)
      cases e2
      cases h1 : oneB (seg L k) with
      | true =>
        go_wp2_with (go_at_call 24; refine (HX.out (seg L k) _).mono ?_; rintro e w' ⟨rfl, hB1⟩; simp only [h1, Bool.not_true])
        go_roundw
        case rel => exact ⟨k + 1, by omega, by go_num, fun j hj => (by rcases Nat.lt_succ_iff_lt_or_eq.1 hj with h | h; exact HW.out j h; rw [h]; exact h1), below_th hB hB1⟩
        case measure => simp [intOf]; omega
      | false =>
        go_wp2_with (go_at_call 24; refine (HX.out (seg L k) _).mono ?_; rintro e w' ⟨rfl, hB1⟩; simp only [h1, Bool.not_false])
        go_ret
        exact ⟨_, rfl, ⟨fun _ hh => (by have := HA.out.1 hh k hlt; rw [h1] at this; cases this), fun _ => (by omega)⟩, below_th hB hB1⟩
    · obtain rfl : k = N := by omega
      go_wp2
      go_ret
      exact ⟨_, rfl, ⟨fun hh => by omega, fun hh => absurd (HA.out.2 HW.out) hh⟩, hB⟩
theorem containsFunc_any (v : Value) (L : List S) (w : World) (hL : Segs w v L) :
    Calls Try.prog 23 #[v, .func (.func 24) #[] #[]] w (Ans w (.bool (!decide (AllOne L)))) := by
  have hI := indexFunc_any v L w hL
  obtain ⟨a, cap, rfl, hn, hm⟩ := hL.parts
  clear hL
  go_enter Try.func23, Try.ntmps23
  go_wp2_with (go_at_call 31; refine hI.mono ?_; rintro e w' ⟨i, rfl, HI, hB⟩)
  go_ret
  refine ⟨?_, hB⟩
  by_cases h : AllOne L
  · have : ¬ 0 ≤ i := fun hh => HI.out.1 hh h
    rw [decide_eq_true h]
    simp [this]
  · have : 0 ≤ i := HI.out.2 h
    rw [decide_eq_false h]
    simp [this]

def rightB (L : List S) : Bool := decide (RightP L)
theorem right_any (v : Value) (L : List S) (w : World) (hL : Segs w v L) : Calls Try.prog 12 #[v] w (Ans w (.bool (rightB L))) := by
  have go : ∀ (x : Bool), Hid (rightB L = x) → Calls Try.prog 12 #[v] w (Ans w (.bool x)) → Calls Try.prog 12 #[v] w (Ans w (.bool (rightB L))) := fun x hb hc => by rw [hb.out]; exact hc
  by_cases h8 : 8 ≤ L.length
  · obtain ⟨b, off, cap, rfl, c0, c1, c2⟩ := hL.at (k := 0) (by omega)
    simp only [Nat.zero_mul, Nat.add_zero] at c0 c1 c2
    have hC := containsFunc_any _ L w hL
    obtain ⟨N, hN⟩ : ∃ N, L.length = N := ⟨_, rfl⟩
    have g8 : (8 : Int) ≤ N := by omega
    by_cases h256 : L.length ≤ 256
    · by_cases hs : (seg L 0).state = 1
      · have hq : ((seg L 0).state == 1) = true := by simp [hs]
        by_cases ha : AllOne L
        · refine go true (decide_eq_true ⟨h8, h256, hs, ha⟩) ?_
          rw [decide_eq_true ha] at hC
          rw [hN] at hC ⊢
          have HC := Lib.hid hC
          clear hL hC go ha
          go_enter Try.func12, Try.ntmps12
          go_wp2_with (go_at_call 23; refine HC.out.mono ?_; rintro e w' ⟨rfl, hB⟩)
          go_ret
          exact ⟨rfl, hB⟩
        · refine go false (decide_eq_false fun hh => ha hh.2.2.2) ?_
          rw [decide_eq_false ha] at hC
          rw [hN] at hC ⊢
          have HC := Lib.hid hC
          clear hL hC go ha
          go_enter Try.func12, Try.ntmps12
          go_wp2_with (go_at_call 23; refine HC.out.mono ?_; rintro e w' ⟨rfl, hB⟩)
          go_ret
          exact ⟨rfl, hB⟩
      · have hq : ((seg L 0).state == 1) = false := by simp [hs]
        refine go false (decide_eq_false fun hh => hs hh.2.2.1) ?_
        rw [hN]
        clear hL hC go
        go_enter Try.func12, Try.ntmps12
        go_wp2
        go_ret
        exact ⟨rfl, Below.refl _ _⟩
    · refine go false (decide_eq_false fun hh => h256 hh.2.1) ?_
      rw [hN]
      have g9 : ¬ (N : Int) ≤ 256 := by omega
      clear hL hC go
      go_enter Try.func12, Try.ntmps12
      go_wp2
      go_ret
      exact ⟨rfl, Below.refl _ _⟩
  · obtain ⟨a, cap, rfl, hn, hm⟩ := hL.parts
    refine go false (decide_eq_false fun hh => h8 hh.1) ?_
    obtain ⟨N, hN⟩ : ∃ N, L.length = N := ⟨_, rfl⟩
    have g8 : ¬ (8 : Int) ≤ N := by omega
    rw [hN]
    clear hL go
    go_enter Try.func12, Try.ntmps12
    go_wp2
    go_ret
    exact ⟨rfl, Below.refl _ _⟩

theorem cleanOnes_any (v : Value) (L : List S) (w : World) (hL : Segs w v L) (hl : L.length ≤ 4611686018427387904) : Calls Try.prog 14 #[v] w (Ans w (.int .i64 (cleanN L : Nat))) := by
  obtain ⟨a, cap, rfl, hn, hm⟩ := hL.parts
  obtain ⟨N, hN⟩ : ∃ N, L.length = N := ⟨_, rfl⟩
  have HL := Lib.hid hL
  have HT := Lib.hid (show L.take L.length = L from List.take_length)
  rw [hN] at HL HT hn hl ⊢
  have HN := Lib.hid hN
  clear hL hN
  obtain ⟨W0, rfl⟩ : ∃ W0 : World, W0 = w := ⟨_, rfl⟩
  go_enter Try.func14, Try.ntmps14
  go_wp2
  go_loopw [3, 5, 8] (fun c _ i wr => ∃ k : Nat, k ≤ N ∧ i = .int .i64 (k : Int) ∧ c = .int .i64 (cleanN (L.take k) : Nat) ∧ Below W0.heap.size W0 wr) (fun _ _ i _ => N - (intOf i).toNat)
  case atStart => exact ⟨0, by omega, rfl, rfl, Below.refl _ _⟩
  case round =>
    obtain ⟨k, hk, rfl, rfl, hB⟩ := hrel
    by_cases hlt : k < N
    · obtain ⟨b, off, cap2, e2, c0, c1, c2⟩ := ((HL.out).below hB).at (k := k) (by rw [HN.out]; exact hlt)
      cases e2
      have hs := cleanN_succ (L := L) (k := k) (by rw [HN.out]; exact hlt)
      have hle := cleanN_le (L.take k)
      rw [List.length_take] at hle
      have HA := At.new wr (seg L k)
      have HB := Lib.hid (below_al hB (boxO (seg L k)))
      unfold boxO at HA HB
      obtain ⟨d0, d1, d2⟩ := HA.c
      clear HA hB
      by_cases h1 : (seg L k).state = 0
      · have hq : ((seg L k).state == 0) = true := by simp [h1]
        rw [if_pos h1] at hs
        have HS := Lib.hid hs
        clear hs h1
        go_wp2
        go_roundw
        case rel => exact ⟨k + 1, by omega, by go_num, by rw [HS.out]; go_num, HB⟩
        case measure => simp [intOf]; omega
      · have hq : ((seg L k).state == 0) = false := by simp [h1]
        rw [if_neg h1] at hs
        have HS := Lib.hid hs
        clear hs h1
        go_wp2
        go_roundw
        case rel => exact ⟨k + 1, by omega, by go_num, by rw [HS.out]; rfl, HB⟩
        case measure => simp [intOf]; omega
    · obtain rfl : k = N := by omega
      go_wp2
      go_ret
      exact ⟨by rw [HT.out]; rfl, hB⟩
end
end Go.Proofs.Ytgadclbenbakfaa.Usage
