/- Next of the program. -/
import Derived.Test.YtgadclbenbakfaaUsgRight
namespace Go.Proofs.Ytgadclbenbakfaa.Usage
open Go.RowKit
attribute [local go_sem] Oper.semAt_some
set_option linter.unusedVariables false

def nxA (L : List S) (f : Int) : Value := .tuple #[.int .i64 (nxV L f), .bool (nxB L f)]
theorem nxA_no {L : List S} {f : Int} (h : ¬ (0 ≤ f ∧ f < L.length)) : nxA L f = .tuple #[.int .i64 0, .bool false] := by unfold nxA nxV nxB; rw [if_neg h, if_neg h]
theorem nxA_none {L : List S} {f : Nat} (h : f < L.length) (hn : nextOf L f = none) : nxA L f = .tuple #[.int .i64 0, .bool false] := by
  unfold nxA nxV nxB
  rw [if_pos (by omega), if_pos (by omega), Int.toNat_natCast, hn]; rfl
theorem nxA_some {L : List S} {f i : Nat} (h : f < L.length) (hn : nextOf L f = some i) : nxA L f = .tuple #[.int .i64 i, .bool true] := by
  unfold nxA nxV nxB
  rw [if_pos (by omega), if_pos (by omega), Int.toNat_natCast, hn]; rfl
theorem way_int {L : List S} {N f k : Nat} (hN : L.length = N) : ((f : Int) + 1 + (k : Int)).tmod (N : Int) = ((way L f k : Nat) : Int) := by
  rw [Int.tmod_eq_emod_of_nonneg (by omega)]
  unfold way
  rw [hN, show (f : Int) + 1 + (k : Int) = ((f + 1 + k : Nat) : Int) by omega]
  exact (Int.natCast_emod _ _).symm
def noneUpto (L : List S) (f k : Nat) : Prop := ∀ j, j < k → ¬ (seg L (way L f j)).state = 0
theorem noneUpto.succ {L : List S} {f k : Nat} (h : noneUpto L f k) (hk : ¬ (seg L (way L f k)).state = 0) : noneUpto L f (k + 1) := fun j hj => by
  rcases Nat.lt_succ_iff_lt_or_eq.1 hj with h1 | h1
  · exact h j h1
  · rw [h1]; exact hk
section
set_option maxRecDepth 100000
set_option maxHeartbeats 1000000
theorem next_any (v : Value) (L : List S) (from_ : Int) (w : World) (hL : Segs w v L) (hl : L.length ≤ 2305843009213693952) : Calls Try.prog 10 #[v, .int .i64 from_] w fun e w' => e = .returned (nxA L from_) ∧ w = w' := by
  obtain ⟨a, cap, rfl, hn, hm⟩ := hL.parts
  obtain ⟨N, hN⟩ : ∃ N, L.length = N := ⟨_, rfl⟩
  have hH := fun W => has_any a N cap from_ W
  by_cases hf : 0 ≤ from_ ∧ from_ < N
  · obtain ⟨f, rfl⟩ := Int.eq_ofNat_of_zero_le hf.1
    rw [hasB_yes hf] at hH
    have hf2 : f < L.length := by omega
    have HS := Lib.hid (fun i => nxA_some (L := L) (f := f) (i := i) hf2)
    have HO := Lib.hid (nxA_none (L := L) hf2)
    have HW := Lib.hid (fun k => way_int (L := L) (f := f) (k := k) hN)
    have HX := Lib.hid (fun k => way_lt (L := L) f k (by omega))
    have HE := Lib.hid (fun k => nextOf_some (L := L) (f := f) (k := k))
    have HZ := Lib.hid (nextOf_none (L := L) (f := f))
    have HL := Lib.hid hL
    have hf3 := hf.2
    rw [hN] at HL HX HE HZ hn hl ⊢
    have HN := Lib.hid hN
    have HH := Lib.hid hH
    clear hL hN hH hf hf2
    obtain ⟨W0, rfl⟩ : ∃ W0 : World, W0 = w := ⟨_, rfl⟩
    go_enter Try.func10, Try.ntmps10
    go_wp2_with (go_at_call 22; refine (HH.out _).mono ?_; rintro e w' ⟨rfl, rfl⟩)
    go_loopw [6, 7, 14] (fun _ _ i wr => ∃ k : Nat, k ≤ N ∧ i = .int .i64 (k : Int) ∧ Hid (noneUpto L f k) ∧ wr = W0) (fun _ _ i _ => N - (intOf i).toNat)
    case atStart => exact ⟨0, by omega, rfl, fun j hj => by omega, rfl⟩
    case round =>
      obtain ⟨k, hk, rfl, HU, rfl⟩ := hrel
      by_cases hlt : k < N
      · obtain ⟨i, hi⟩ : ∃ i, way L f k = i := ⟨_, rfl⟩
        have hr := HW.out k
        have hilt := HX.out k
        rw [hi] at hr hilt
        obtain ⟨b, off, cap2, e2, c0, c1, c2⟩ := (HL.out).at (k := i) (by rw [HN.out]; exact hilt)
        cases e2
        by_cases h1 : (seg L i).state = 0
        · have hq : ((seg L i).state == 0) = true := by simp [h1]
          have hE := HE.out k hlt (by rw [hi]; exact h1) HU.out
          rw [hi] at hE
          have hA := Lib.hid (HS.out i hE)
          clear h1 hE
          go_wp2
          go_returns
          exact ⟨by rw [hA.out]; rfl, rfl⟩
        · have hq : ((seg L i).state == 0) = false := by simp [h1]
          have HU2 := Lib.hid (HU.out.succ (by rw [hi]; exact h1))
          clear h1 HU
          go_wp2
          go_roundw
          case rel => exact ⟨k + 1, by omega, by go_num, HU2, trivial⟩
          case measure => simp [intOf]; omega
      · obtain rfl : k = N := by omega
        have hA := Lib.hid (HO.out (HZ.out HU.out))
        go_wp2
        go_returns
        exact ⟨by rw [hA.out]; rfl, rfl⟩
  · rw [hasB_no hf] at hH
    have HA := Lib.hid (nxA_no (L := L) (f := from_) (by omega))
    rw [hN]
    clear hL hN hf
    go_enter Try.func10, Try.ntmps10
    go_wp2_with (go_at_call 22; refine (hH _).mono ?_; rintro e w' ⟨rfl, rfl⟩)
    go_returns
    exact ⟨by rw [HA.out]; rfl, rfl⟩
end
end Go.Proofs.Ytgadclbenbakfaa.Usage
