/- What a segment is worth, told by the program's closure. -/
import Derived.Scope
import Derived.Test.YtgadclbenbakfaaUsgNext
namespace Go.Proofs.Ytgadclbenbakfaa.Usage
open Go.RowKit
attribute [local go_sem] Oper.semAt_some
set_option linter.unusedVariables false

theorem ben_fact (lv : Int) (m : Nat) (h0 : 0 ≤ lv) (h1 : lv ≤ 16) (hm : m ≤ 288230376151711744) : IntKind.u64.wrap ((IntKind.u64.wrap ((16 - lv) * (m : Int))).tdiv (lv + 1)) = (((16 - lv).toNat * m / (lv.toNat + 1) : Nat) : Int) := by
  obtain ⟨l, rfl⟩ := Int.eq_ofNat_of_zero_le h0
  obtain ⟨r, hr⟩ : ∃ r : Nat, 16 - l = r := ⟨_, rfl⟩
  have e1 : (16 : Int) - (l : Int) = (r : Int) := by omega
  have hb : r * m ≤ 16 * 288230376151711744 := Nat.mul_le_mul (by omega) hm
  rw [e1, Int.toNat_natCast, Int.toNat_natCast, show (r : Int) * (m : Int) = ((r * m : Nat) : Int) from (Int.natCast_mul _ _).symm, show (l : Int) + 1 = ((l + 1 : Nat) : Int) by omega]
  have w1 : IntKind.u64.wrap (((r * m : Nat)) : Int) = ((r * m : Nat) : Int) := by rw [IntKind.wrap_u64]; omega
  have hq : r * m / (l + 1) ≤ r * m := Nat.div_le_self _ _
  rw [w1, show ((r * m : Nat) : Int).tdiv ((l + 1 : Nat) : Int) = ((r * m / (l + 1) : Nat) : Int) from rfl, IntKind.wrap_u64]
  obtain ⟨q, hq2⟩ : ∃ q, r * m / (l + 1) = q := ⟨_, rfl⟩
  rw [hq2] at hq ⊢
  omega
theorem ben_plain (lv : Int) (m : Nat) (h0 : 0 ≤ lv) (h1 : lv ≤ 16) : (16 - lv) * (m : Int) / (lv + 1) = (((16 - lv).toNat * m / (lv.toNat + 1) : Nat) : Int) := by
  obtain ⟨l, rfl⟩ := Int.eq_ofNat_of_zero_le h0
  obtain ⟨r, hr⟩ : ∃ r : Nat, 16 - l = r := ⟨_, rfl⟩
  have e1 : (16 : Int) - (l : Int) = (r : Int) := by omega
  rw [e1, Int.toNat_natCast, Int.toNat_natCast, show (r : Int) * (m : Int) = ((r * m : Nat) : Int) from (Int.natCast_mul _ _).symm, show (l : Int) + 1 = ((l + 1 : Nat) : Int) by omega]
  rfl
section
set_option maxRecDepth 100000
set_option maxHeartbeats 1000000
theorem worth1_any (s : S) (way : Int) (now : Nat) (b1 b2 : Nat) (W : World) (ho : oneP s) (hw : isWayP way) (hnow : now < 18446744073709551616) (h1 : W.cell? ⟨b1, 0, none⟩ = some (.int .i64 way)) (h2 : W.cell? ⟨b2, 0, none⟩ = some (.int .u64 now)) :
    Calls Try.prog 33 #[s.val, .pointer (some ⟨b1, 0, none⟩), .pointer (some ⟨b2, 0, none⟩)] W (Ans W (.int .u64 (worth way now s : Nat))) := by
  have l1 := World.block_lt_of_cell? _ _ h1
  have l2 := World.block_lt_of_cell? _ _ h2
  have HB := below_new W (boxO s)
  have HA := At.new W s
  have d1 := ((below_new W (boxO s)).cell (p := ⟨b1, 0, none⟩) l1).trans h1
  have d2 := ((below_new W (boxO s)).cell (p := ⟨b2, 0, none⟩) l2).trans h2
  obtain ⟨hs, hl0, hl1, hb⟩ := ho
  obtain ⟨e0, e1, e2⟩ := HA.c
  have w1 : IntKind.i64.wrap (16 - s.live) = 16 - s.live := by rw [IntKind.wrap_i64]; omega
  have w2 : IntKind.u64.wrap (16 - s.live) = 16 - s.live := by rw [IntKind.wrap_u64]; omega
  obtain ⟨hw0, hw2⟩ := hw
  have HW0 := Lib.hid (worth_old now s)
  have HW1 := Lib.hid (worth_few now s)
  have HW2 := Lib.hid (worth_no (now := now) (s := s))
  have HW3 := Lib.hid (worth_yes (now := now) (s := s))
  obtain ⟨lv, bg, st⟩ := s
  unfold S.val
  unfold boxO at HB d1 d2 e0 e1 e2
  dsimp only at *
  clear HA h1 h2 hs
  rcases (show way = 0 ∨ way = 1 ∨ way = 2 by omega) with rfl | rfl | rfl
  · have w3 : IntKind.u64.wrap (281474976710656 - (bg : Int)) = 281474976710656 - (bg : Int) := by rw [IntKind.wrap_u64]; omega
    go_enter Try.func33, Try.ntmps33
    go_wp2
    apply wp_scope_straight
    go_wp2
    go_region
    all_goals
      go_wp2
      apply wp_label
      go_wp2
      go_ret
      exact ⟨by rw [HW0.out]; simp; omega, HB.drew⟩
  · go_enter Try.func33, Try.ntmps33
    go_wp2
    apply wp_scope_straight
    go_wp2
    go_region
    all_goals
      go_wp2
      apply wp_label
      go_wp2
      go_ret
      exact ⟨by rw [HW1.out]; simp; omega, HB.drew⟩
  · by_cases h : now ≤ bg
    · have h' : (now : Int) ≤ bg := by omega
      have hx := HW2.out h
      have HX := Lib.hid hx
      clear h hx
      go_enter Try.func33, Try.ntmps33
      go_wp2
      apply wp_scope_straight
      go_wp2
      go_region
      all_goals
        go_wp2
        apply wp_label
        go_wp2
        go_ret
        exact ⟨by rw [HX.out]; rfl, HB.drew⟩
    · have h' : ¬ (now : Int) ≤ bg := by omega
      have HX := Lib.hid (HW3.out h)
      have w3 : IntKind.u64.wrap ((now : Int) - (bg : Int)) = (now : Int) - (bg : Int) := by rw [IntKind.wrap_u64]; omega
      have w4 : IntKind.i64.wrap (lv + 1) = lv + 1 := by rw [IntKind.wrap_i64]; omega
      have w5 : IntKind.u64.wrap (lv + 1) = lv + 1 := by rw [IntKind.wrap_u64]; omega
      have w6 : ¬ lv + 1 = 0 := by omega
      clear h HW3 HW0 HW1 HW2
      by_cases hm : now - bg ≤ 288230376151711744
      · have hm2 : (now : Int) - (bg : Int) ≤ 288230376151711744 := by omega
        rw [Nat.min_eq_left hm] at HX
        have wf := ben_fact lv (now - bg) hl0 hl1 hm
        rw [show (((now - bg : Nat)) : Int) = (now : Int) - (bg : Int) by omega] at wf
        have WF := Lib.hid wf
        clear wf
        go_enter Try.func33, Try.ntmps33
        go_wp2
        apply wp_scope_straight
        go_wp2
        go_region
        all_goals
          go_wp2
          apply wp_label
          go_wp2
          all_goals
            first
              | (exfalso; omega)
              | (go_ret
                 exact ⟨by rw [HX.out, ← WF.out]; first | rfl | simp [show (288230376151711744 : Int) = (now : Int) - bg by omega], HB.drew⟩)
      · have hm2 : ¬ (now : Int) - (bg : Int) ≤ 288230376151711744 := by omega
        rw [Nat.min_eq_right (by omega)] at HX
        have WF := Lib.hid (ben_plain lv 288230376151711744 hl0 hl1)
        go_enter Try.func33, Try.ntmps33
        go_wp2
        apply wp_scope_straight
        go_wp2
        go_region
        all_goals
          go_wp2
          apply wp_label
          go_wp2
          all_goals
            first
              | (exfalso; omega)
              | (go_ret
                 exact ⟨by rw [HX.out, ← WF.out]; rfl, HB.drew⟩)
end
end Go.Proofs.Ytgadclbenbakfaa.Usage
