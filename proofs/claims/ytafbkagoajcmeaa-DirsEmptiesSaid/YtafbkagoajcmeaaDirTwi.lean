/- isTwice of the program. -/
import Derived.Test.YtafbkagoajcmeaaDirPar
namespace Go.Proofs.Ytafbkagoajcmeaa.Dir
open Go.RowKit
attribute [local go_sem] Oper.semAt_some
set_option linter.unusedVariables false
set_option linter.unusedSimpArgs false
/-- what isTwice answers -/
def TwicePost (M : List N) (w : World) (e : Ending) (w' : World) : Prop := ((e = .returned (.bool true) ∧ twiceP M) ∨ (e = .returned (.bool false) ∧ ¬ twiceP M)) ∧ Below w.heap.size w w'
section
set_option maxRecDepth 100000
set_option maxHeartbeats 4000000
theorem isTwice_any (v : Value) (M : List N) (w : World) (hM : Nms w v M) (hn3 : M.length ≤ 1000000) : Calls Try.prog 30 #[v] w (TwicePost M w) := by
  obtain ⟨a, cap, rfl, hcap1, hcap2⟩ := hM.parts
  have HY : Hid (∀ i W, i + 1 < M.length → (nm M (i + 1)).name = (nm M i).name → Below w.heap.size w W → TwicePost M w (.returned (.bool true)) W) := fun i W h1 h2 h3 => ⟨.inl ⟨rfl, i, h1, h2⟩, h3⟩
  have HN : Hid (∀ W, (∀ i, i + 1 < M.length → ¬ (nm M (i + 1)).name = (nm M i).name) → Below w.heap.size w W → TwicePost M w (.returned (.bool false)) W) := fun W h1 h2 => ⟨.inr ⟨rfl, fun ⟨i, h3, h4⟩ => h1 i h3 h4⟩, h2⟩
  have HL := Lib.hid hM
  obtain ⟨R, hR⟩ : ∃ R, TwicePost M w = R := ⟨_, rfl⟩
  rw [hR] at HY HN ⊢
  obtain ⟨n, hn⟩ : ∃ n, M.length = n := ⟨_, rfl⟩
  have HLN := Lib.hid hn
  rw [hn] at HL HY HN hcap1 hn3 ⊢
  clear hM hn hR
  obtain ⟨W0, rfl⟩ : ∃ W0 : World, W0 = w := ⟨_, rfl⟩
  go_enter Try.func30, Try.ntmps30
  go_wp2
  go_loopw [3] (fun i wr => ∃ q : Nat, 1 ≤ q ∧ i = .int .i64 (q : Int) ∧ (q ≤ n ∨ q = 1) ∧ Hid (∀ i, i + 1 < q → ¬ (nm M (i + 1)).name = (nm M i).name) ∧ Hid (Below W0.heap.size W0 wr)) (fun i _ => n - (intOf i).toNat)
  case atStart => exact ⟨1, by omega, rfl, .inr rfl, fun i h => by omega, Below.refl _ _⟩
  case round =>
    obtain ⟨q, hq1, rfl, hq2, HQ, HB⟩ := hrel
    by_cases hlt : q < n
    · obtain ⟨j, hj⟩ : ∃ j, j + 1 = q := ⟨q - 1, by omega⟩
      have hli : (q : Int) < (n : Int) := by omega
      have hNm := HL.out.below HB.out
      have h1 := hNm.at (k := q) (by rw [HLN.out]; exact hlt)
      rw [HLN.out] at h1
      obtain ⟨b, off, cap2, e2, c0, c1⟩ := h1
      cases e2
      obtain ⟨d0, d1⟩ := hNm.get HLN.out (k := j) (by omega)
      have hw1 : IntKind.i64.wrap ((q : Int) - 1) = (j : Int) := by rw [IntKind.wrap_i64]; omega
      have hj2 : (j : Int) < (n : Int) := by omega
      have HJ := Lib.hid hj
      by_cases hq : (nm M q).name = (nm M j).name
      · have hb := beq_yes hq
        have HR := Lib.hid (fun W (h : Below W0.heap.size W0 W) => HY.out j W (by omega) (by rw [hj]; exact hq) h)
        generalize (nm M q).name = x at *
        generalize (nm M j).name = y at *
        clear hq hj hNm
        go_wp2
        go_quiet (fail)
        go_wp2
        exact HR.out _ (below_drewN HB.out _)
      · have hb := beq_no hq
        have HM2 : Hid (∀ i, i + 1 < q + 1 → ¬ (nm M (i + 1)).name = (nm M i).name) := fun i h => by
          rcases Nat.lt_succ_iff_lt_or_eq.1 h with h | h
          · exact HQ.out i h
          · have hij : i = j := by omega
            rw [hij, hj]
            exact hq
        obtain ⟨x, hx⟩ : ∃ x, (nm M q).name = x := ⟨_, rfl⟩
        obtain ⟨y, hy⟩ : ∃ y, (nm M j).name = y := ⟨_, rfl⟩
        rw [hx] at c0 hb
        rw [hy] at d0 hb
        clear hq hx hy hj hNm
        go_wp2
        go_quiet (fail)
        go_wp2
        go_roundw
        case rel => exact ⟨q + 1, by omega, by go_num, .inl (by omega), HM2, below_drewN HB.out _⟩
        case measure => simp [intOf]; omega
    · have HR := Lib.hid (HN.out _ (fun i h => HQ.out i (by omega)) HB.out)
      have hli : ¬ (q : Int) < (n : Int) := by omega
      go_wp2
      exact HR.out
end
end Go.Proofs.Ytafbkagoajcmeaa.Dir
