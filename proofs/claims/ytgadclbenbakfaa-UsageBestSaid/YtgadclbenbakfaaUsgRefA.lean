/- The document's one, Right, CleanOnes, Next, Same. -/
import Derived.Test.YtgadclbenbakfaaUsgNext
namespace Go.Proofs.Ytgadclbenbakfaa.Usage.R
open Go.RowKit
attribute [local go_sem] Oper.semAt_some
set_option linter.unusedVariables false

section
set_option maxRecDepth 100000
set_option maxHeartbeats 1000000
theorem one_any (s : S) (w : World) : Calls Try.prog 25 #[s.val] w (Ans w (.bool (oneB s))) := by
  obtain ⟨l, b, st⟩ := s
  have HB := below_new w (boxO ⟨l, b, st⟩)
  unfold S.val
  unfold boxO at HB
  dsimp only at HB ⊢
  have go : ∀ (x : Bool), Hid (oneB ⟨l, b, st⟩ = x) → Calls Try.prog 25 #[.agg #[.int .i64 l, .int .u64 b, .int .i64 st]] w (Ans w (.bool x)) → Calls Try.prog 25 #[.agg #[.int .i64 l, .int .u64 b, .int .i64 st]] w (Ans w (.bool (oneB ⟨l, b, st⟩))) := fun x hb hc => by rw [hb.out]; exact hc
  by_cases h0 : 0 ≤ st
  · by_cases h1 : st ≤ 2
    · by_cases h2 : 0 ≤ l
      · by_cases h3 : l ≤ 16
        · by_cases h4 : b < 281474976710656
          · refine go true (decide_eq_true ⟨⟨h0, h1⟩, h2, h3, h4⟩) ?_
            have h4' : (b : Int) < 281474976710656 := by omega
            go_enter Try.func25, Try.ntmps25
            go_wp2
            go_ret
            exact ⟨rfl, HB⟩
          · refine go false (decide_eq_false fun hh => h4 hh.2.2.2) ?_
            have h4' : ¬ (b : Int) < 281474976710656 := by omega
            go_enter Try.func25, Try.ntmps25
            go_wp2
            go_ret
            exact ⟨rfl, HB⟩
        · refine go false (decide_eq_false fun hh => h3 hh.2.2.1) ?_
          go_enter Try.func25, Try.ntmps25
          go_wp2
          go_ret
          exact ⟨rfl, HB⟩
      · refine go false (decide_eq_false fun hh => h2 hh.2.1) ?_
        go_enter Try.func25, Try.ntmps25
        go_wp2
        go_ret
        exact ⟨rfl, HB⟩
    · refine go false (decide_eq_false fun hh => h1 hh.1.2) ?_
      go_enter Try.func25, Try.ntmps25
      go_wp2
      go_ret
      exact ⟨rfl, HB⟩
  · refine go false (decide_eq_false fun hh => h0 hh.1.1) ?_
    go_enter Try.func25, Try.ntmps25
    go_wp2
    go_ret
    exact ⟨rfl, HB⟩

theorem right_any (v : Value) (L : List S) (w : World) (hL : Segs w v L) : Calls Try.prog 13 #[v] w (Ans w (.bool (rightB L))) := by
  have go : ∀ (x : Bool), Hid (rightB L = x) → Calls Try.prog 13 #[v] w (Ans w (.bool x)) → Calls Try.prog 13 #[v] w (Ans w (.bool (rightB L))) := fun x hb hc => by rw [hb.out]; exact hc
  by_cases h8 : 8 ≤ L.length
  · obtain ⟨b, off, cap, rfl, c0, c1, c2⟩ := hL.at (k := 0) (by omega)
    simp only [Nat.zero_mul, Nat.add_zero] at c0 c1 c2
    obtain ⟨N, hN⟩ : ∃ N, L.length = N := ⟨_, rfl⟩
    have g8 : (8 : Int) ≤ N := by omega
    by_cases h256 : L.length ≤ 256
    · have g256 : (N : Int) ≤ 256 := by omega
      by_cases hs : (seg L 0).state = 1
      · have hq : ((seg L 0).state != 1) = false := by simp [hs]
        have HA := Lib.hid (all_one (L := L))
        have HR : Hid (AllOne L → rightB L = true) := fun h => decide_eq_true ⟨h8, h256, hs, h⟩
        have HR2 : Hid (¬ AllOne L → rightB L = false) := fun h => decide_eq_false fun hh => h hh.2.2.2
        have HL := Lib.hid hL
        rw [hN] at HL HA ⊢
        have HN := Lib.hid hN
        have HX := Lib.hid (fun s W => one_any s W)
        unfold S.val at HX
        clear hL go hs h8 h256 hN
        obtain ⟨W0, rfl⟩ : ∃ W0 : World, W0 = w := ⟨_, rfl⟩
        go_enter Try.func13, Try.ntmps13
        go_wp2
        go_loopw [3] (fun i wr => ∃ k : Nat, k ≤ N ∧ i = .int .i64 (k : Int) ∧ Hid (wrongUpto L k) ∧ Below W0.heap.size W0 wr) (fun i _ => N - (intOf i).toNat)
        case atStart => exact ⟨0, by omega, rfl, fun j hj => by omega, Below.refl _ _⟩
        case round =>
          obtain ⟨k, hk, rfl, HW, hB⟩ := hrel
          by_cases hlt : k < N
          · have HLk := ((HL.out).below hB).get HN.out hlt
            obtain ⟨d0, d1, d2⟩ := HLk
            cases h1 : oneB (seg L k) with
            | true =>
              go_wp2_with (go_at_call 25; refine (HX.out (seg L k) _).mono ?_; rintro e w' ⟨rfl, hB1⟩; simp only [h1])
              go_roundw
              case rel => exact ⟨k + 1, by omega, by go_num, fun j hj => (by rcases Nat.lt_succ_iff_lt_or_eq.1 hj with h | h; exact HW.out j h; rw [h]; exact h1), below_th hB hB1⟩
              case measure => simp [intOf]; omega
            | false =>
              have HF := Lib.hid (HR2.out fun hh => by have := HA.out.1 hh k hlt; rw [h1] at this; cases this)
              go_wp2_with (go_at_call 25; refine (HX.out (seg L k) _).mono ?_; rintro e w' ⟨rfl, hB1⟩; simp only [h1])
              go_ret
              exact ⟨by rw [HF.out]; rfl, below_th hB hB1⟩
          · obtain rfl : k = N := by omega
            have HF := Lib.hid (HR.out (HA.out.2 HW.out))
            go_wp2
            go_ret
            exact ⟨by rw [HF.out]; rfl, hB⟩
      · have hq : ((seg L 0).state != 1) = true := by simp [hs]
        refine go false (decide_eq_false fun hh => hs hh.2.2.1) ?_
        rw [hN]
        clear hL go hs
        go_enter Try.func13, Try.ntmps13
        go_wp2
        go_ret
        exact ⟨rfl, Below.refl _ _⟩
    · refine go false (decide_eq_false fun hh => h256 hh.2.1) ?_
      rw [hN]
      have g9 : ¬ (N : Int) ≤ 256 := by omega
      clear hL go
      go_enter Try.func13, Try.ntmps13
      go_wp2
      go_ret
      exact ⟨rfl, Below.refl _ _⟩
  · obtain ⟨a, cap, rfl, hn, hm⟩ := hL.parts
    refine go false (decide_eq_false fun hh => h8 hh.1) ?_
    obtain ⟨N, hN⟩ : ∃ N, L.length = N := ⟨_, rfl⟩
    have g8 : ¬ (8 : Int) ≤ N := by omega
    rw [hN]
    clear hL go
    go_enter Try.func13, Try.ntmps13
    go_wp2
    go_ret
    exact ⟨rfl, Below.refl _ _⟩

theorem cleanOnes_any (v : Value) (L : List S) (w : World) (hL : Segs w v L) (hl : L.length ≤ 4611686018427387904) : Calls Try.prog 15 #[v] w (Ans w (.int .i64 (cleanN L : Nat))) := by
  obtain ⟨a, cap, rfl, hn, hm⟩ := hL.parts
  obtain ⟨N, hN⟩ : ∃ N, L.length = N := ⟨_, rfl⟩
  have HL := Lib.hid hL
  have HT := Lib.hid (show L.take L.length = L from List.take_length)
  rw [hN] at HL HT hn hl ⊢
  have HN := Lib.hid hN
  clear hL hN
  obtain ⟨W0, rfl⟩ : ∃ W0 : World, W0 = w := ⟨_, rfl⟩
  go_enter Try.func15, Try.ntmps15
  go_wp2
  go_loopw [3, 4] (fun c i wr => ∃ k : Nat, k ≤ N ∧ i = .int .i64 (k : Int) ∧ c = .int .i64 (cleanN (L.take k) : Nat) ∧ Below W0.heap.size W0 wr) (fun _ i _ => N - (intOf i).toNat)
  case atStart => exact ⟨0, by omega, rfl, rfl, Below.refl _ _⟩
  case round =>
    obtain ⟨k, hk, rfl, rfl, hB⟩ := hrel
    by_cases hlt : k < N
    · obtain ⟨b, off, cap2, e2, c0, c1, c2⟩ := ((HL.out).below hB).at (k := k) (by rw [HN.out]; exact hlt)
      cases e2
      have hs := cleanN_succ (L := L) (k := k) (by rw [HN.out]; exact hlt)
      have hle := cleanN_le (L.take k)
      rw [List.length_take] at hle
      by_cases h1 : (seg L k).state = 0
      · have hq : ((seg L k).state == 0) = true := by simp [h1]
        rw [if_pos h1] at hs
        have HS := Lib.hid hs
        clear hs h1
        go_wp2
        go_roundw
        case rel => exact ⟨k + 1, by omega, by go_num, by rw [HS.out]; go_num, hB⟩
        case measure => simp [intOf]; omega
      · have hq : ((seg L k).state == 0) = false := by simp [h1]
        rw [if_neg h1] at hs
        have HS := Lib.hid hs
        clear hs h1
        go_wp2
        go_roundw
        case rel => exact ⟨k + 1, by omega, by go_num, by rw [HS.out]; rfl, hB⟩
        case measure => simp [intOf]; omega
    · obtain rfl : k = N := by omega
      go_wp2
      go_ret
      exact ⟨by rw [HT.out]; rfl, hB⟩

theorem way_int1 {L : List S} {N f k : Nat} (hN : L.length = N) : ((f : Int) + ((k : Int) + 1)).tmod (N : Int) = ((way L f k : Nat) : Int) := by
  rw [← way_int hN]
  congr 1
  omega
theorem next_any (v : Value) (L : List S) (from_ : Int) (w : World) (hL : Segs w v L) (hl : L.length ≤ 2305843009213693952) : Calls Try.prog 11 #[v, .int .i64 from_] w fun e w' => e = .returned (nxA L from_) ∧ w = w' := by
  obtain ⟨a, cap, rfl, hn, hm⟩ := hL.parts
  obtain ⟨N, hN⟩ : ∃ N, L.length = N := ⟨_, rfl⟩
  by_cases hf0 : 0 ≤ from_
  · by_cases hf : from_ < N
    · obtain ⟨f, rfl⟩ := Int.eq_ofNat_of_zero_le hf0
      have hf2 : f < L.length := by omega
      have HS := Lib.hid (fun i => nxA_some (L := L) (f := f) (i := i) hf2)
      have HO := Lib.hid (nxA_none (L := L) hf2)
      have HW := Lib.hid (fun k => way_int1 (L := L) (f := f) (k := k) hN)
      have HX := Lib.hid (fun k => way_lt (L := L) f k (by omega))
      have HE := Lib.hid (fun k => nextOf_some (L := L) (f := f) (k := k))
      have HZ := Lib.hid (nextOf_none (L := L) (f := f))
      have HL := Lib.hid hL
      rw [hN] at HL HX HE HZ hn hl ⊢
      have HN := Lib.hid hN
      clear hL hN hf2
      obtain ⟨W0, rfl⟩ : ∃ W0 : World, W0 = w := ⟨_, rfl⟩
      go_enter Try.func11, Try.ntmps11
      go_wp2
      go_loopw [6, 7] (fun i _ wr => ∃ k : Nat, k ≤ N ∧ i = .int .i64 ((k : Int) + 1) ∧ Hid (noneUpto L f k) ∧ wr = W0) (fun i _ _ => N + 1 - (intOf i).toNat)
      case atStart => exact ⟨0, by omega, rfl, fun j hj => by omega, rfl⟩
      case round =>
        obtain ⟨k, hk, rfl, HU, rfl⟩ := hrel
        by_cases hlt : k < N
        · obtain ⟨i, hi⟩ : ∃ i, way L f k = i := ⟨_, rfl⟩
          have hr := HW.out k
          have hilt := HX.out k
          rw [hi] at hr hilt
          obtain ⟨b, off, cap2, e2, c0, c1, c2⟩ := (HL.out).at (k := i) (by rw [HN.out]; exact hilt)
          cases e2
          by_cases h1 : (seg L i).state = 0
          · have hq : ((seg L i).state == 0) = true := by simp [h1]
            have hE := HE.out k hlt (by rw [hi]; exact h1) HU.out
            rw [hi] at hE
            have hA := Lib.hid (HS.out i hE)
            clear h1 hE
            go_wp2
            go_returns
            exact ⟨by rw [hA.out]; rfl, rfl⟩
          · have hq : ((seg L i).state == 0) = false := by simp [h1]
            have HU2 := Lib.hid (HU.out.succ (by rw [hi]; exact h1))
            clear h1 HU
            go_wp2
            go_roundw
            case rel => exact ⟨k + 1, by omega, by go_num, HU2, trivial⟩
            case measure => simp [intOf]; omega
        · obtain rfl : k = N := by omega
          have hA := Lib.hid (HO.out (HZ.out HU.out))
          go_wp2
          go_returns
          exact ⟨by rw [hA.out]; rfl, rfl⟩
    · have HA := Lib.hid (nxA_no (L := L) (f := from_) (by omega))
      rw [hN]
      clear hL hN
      go_enter Try.func11, Try.ntmps11
      go_wp2
      go_returns
      exact ⟨by rw [HA.out]; rfl, rfl⟩
  · have HA := Lib.hid (nxA_no (L := L) (f := from_) (by omega))
    rw [hN]
    clear hL hN
    go_enter Try.func11, Try.ntmps11
    go_wp2
    go_returns
    exact ⟨by rw [HA.out]; rfl, rfl⟩
end
end Go.Proofs.Ytgadclbenbakfaa.Usage.R
