/- The document's Choose. -/
import Derived.Test.YtgadclbenbakfaaUsgRefC
namespace Go.Proofs.Ytgadclbenbakfaa.Usage.R
open Go.RowKit
attribute [local go_sem] Oper.semAt_some
set_option linter.unusedVariables false

theorem cand_one (L : List S) : cand L 1 = [] := by
  have : ¬ okS 0 (seg L 0) := fun h => h.1 rfl
  rw [cand_succ, if_neg this]
  rfl
section
set_option maxRecDepth 100000
set_option maxHeartbeats 4000000
theorem choose_any (v : Value) (L : List S) (way : Int) (now : Nat) (w : World) (hL : Segs w v L) (hnow : now < 18446744073709551616) : Calls Try.prog 17 #[v, .int .i64 way, .int .u64 now] w (Ans w (chA L way now)) := by
  have HR := right_any _ L w hL
  obtain ⟨a, cap, rfl, hn, hm⟩ := hL.parts
  by_cases hr : RightP L
  · rw [show rightB L = true from decide_eq_true hr] at HR
    by_cases hw0 : 0 ≤ way
    · by_cases hw2 : way ≤ 2
      · have hw : isWayP way := ⟨hw0, hw2⟩
        obtain ⟨b, off, cap2, e2, _⟩ := hL.at (k := 0) (by have := hr.1; omega)
        cases e2
        obtain ⟨N, hN⟩ : ∃ N, L.length = N := ⟨_, rfl⟩
        have HFIN := Lib.hid (chA_yes (now := now) hr hw)
        have HL := Lib.hid hL
        have HB1 := Lib.hid (fun k => cand_succ L k)
        have HBS := Lib.hid (bst_snoc L way now)
        have HBL := Lib.hid (bst_lt L way now)
        have HONE := Lib.hid (fun k (hk : k < L.length) => hr.one hk)
        have HBT := Lib.hid (fun a b ha hb W => better_any a b way now W ha hb hw hnow)
        have h1 := hr.1
        have h2 := hr.2.1
        rw [hN] at HFIN HL HONE hn h1 h2 HR ⊢
        have HN := Lib.hid hN
        have HO1 := Lib.hid (show bst L way now (cand L 1) = 0 by rw [cand_one]; rfl)
        clear hL hN hw hr
        obtain ⟨W0, rfl⟩ : ∃ W0 : World, W0 = w := ⟨_, rfl⟩
        go_enter Try.func17, Try.ntmps17
        go_wp2_with (go_at_call 13; refine HR.mono ?_; rintro e w1 ⟨rfl, hB1⟩)
        go_loopw [10, 11] (fun c i wr => ∃ k : Nat, 1 ≤ k ∧ k ≤ N ∧ i = .int .i64 (k : Int) ∧ c = .int .i64 (bst L way now (cand L k) : Nat) ∧ Below W0.heap.size W0 wr) (fun _ i _ => N - (intOf i).toNat)
        case atStart => exact ⟨1, by omega, by omega, rfl, by rw [HO1.out]; rfl, hB1⟩
        case round =>
          obtain ⟨k, hk1, hk, rfl, rfl, hB⟩ := hrel
          by_cases hlt : k < N
          · obtain ⟨c0, c1, c2⟩ := ((HL.out).below hB).get HN.out hlt
            have HC := Lib.hid (fun W' (h : Below wr.heap.size wr W') j (hj : j < N) => (((HL.out).below hB).below h).get HN.out hj)
            have hb1 := HB1.out k
            have hbs := HBS.out (cand L k) k
            have hbl := HBL.out k
            have hok : okS k (seg L k) ↔ (¬ k = 0 ∧ (seg L k).state = 1 ∧ ¬ (seg L k).live = 16) := Iff.rfl
            have hone := HONE.out k hlt
            have hBz := Below.refl wr.heap.size wr
            have hBd := hBz.drew
            have HBd := Lib.hid (below_th hB hBd)
            have HBq := Lib.hid hB
            obtain ⟨c, hc⟩ : ∃ c, bst L way now (cand L k) = c := ⟨_, rfl⟩
            rw [hc] at hbs hbl ⊢
            by_cases hs : (seg L k).state = 1
            · have hq : ((seg L k).state == 1) = true := by simp [hs]
              by_cases hl : (seg L k).live = 16
              · have HC16 : Hid (∀ W', Below wr.heap.size wr W' → W'.cell? ⟨b, off + k * 3, none⟩ = some (.int .i64 16) ∧ W'.cell? ⟨b, off + k * 3 + 1, none⟩ = some (.int .u64 (seg L k).begun) ∧ W'.cell? ⟨b, off + k * 3 + 2, none⟩ = some (.int .i64 (seg L k).state)) := fun W' h => by have h2 := HC.out W' h k hlt; rw [hl] at h2; exact h2
                rw [hl] at c0
                have HNX : Hid (bst L way now (cand L (k + 1)) = c) := by unfold Hid; rw [hb1, if_neg (fun hh => (hok.1 hh).2.2 hl), List.append_nil, hc]
                clear hs hl hb1 hbs hbl hok hone hc hB
                go_wp2
                go_quiet (fail)
                go_wp2
                go_roundw
                case rel => exact ⟨k + 1, by omega, by omega, by go_num, by rw [HNX.out], below_drewN HBq.out _⟩
                case measure => simp [intOf]; omega
              · have hq2 : (seg L k).live < 16 := by have := hone.2.2.1; omega
                have hyes : okS k (seg L k) := hok.2 ⟨by omega, hs, hl⟩
                rw [if_pos hyes] at hb1
                rw [← hb1] at hbs
                by_cases hc0 : c = 0
                · have hq3 : ((c : Int) == 0) = true := by simp [hc0]
                  rw [if_pos (.inl hc0)] at hbs
                  have HNX := Lib.hid hbs
                  clear hs hl hb1 hbs hbl hok hone hc hB hyes hc0
                  go_wp2
                  go_quiet (fail)
                  go_wp2
                  go_roundw
                  case rel => exact ⟨k + 1, by omega, by omega, by go_num, by rw [HNX.out], below_drewN HBq.out _⟩
                  case measure => simp [intOf]; omega
                · have hq3 : ((c : Int) == 0) = false := by simp [hc0]
                  have hcl : c < N := by have := hbl (by omega); omega
                  have hBT := fun W => HBT.out (seg L k) (seg L c) hone (HONE.out c hcl) W
                  unfold S.val Ans at hBT
                  obtain ⟨d0, d1, d2⟩ := HC.out wr hBz c hcl
                  have hbb : betterB (seg L k) (seg L c) way now = decide (worth way now (seg L c) < worth way now (seg L k)) := rfl
                  by_cases hx : worth way now (seg L c) < worth way now (seg L k)
                  · rw [if_pos (.inr hx)] at hbs
                    rw [decide_eq_true hx] at hbb
                    rw [hbb] at hBT
                    have HBTT := Lib.hid hBT
                    have HNX := Lib.hid hbs
                    clear hs hl hb1 hbs hbl hok hone hc hB hyes hc0 hx hbb hBT
                    go_wp2
                    go_region_held3 (fun w' => w'.cell? ⟨b, off + k * 3, none⟩ = some (.int .i64 (seg L k).live) ∧ w'.cell? ⟨b, off + k * 3 + 1, none⟩ = some (.int .u64 (seg L k).begun) ∧ w'.cell? ⟨b, off + k * 3 + 2, none⟩ = some (.int .i64 (seg L k).state) ∧ w'.cell? ⟨b, off + c * 3, none⟩ = some (.int .i64 (seg L c).live) ∧ w'.cell? ⟨b, off + c * 3 + 1, none⟩ = some (.int .u64 (seg L c).begun) ∧ w'.cell? ⟨b, off + c * 3 + 2, none⟩ = some (.int .i64 (seg L c).state)) (exact ⟨(HC.out _ (by assumption) k hlt).1, (HC.out _ (by assumption) k hlt).2.1, (HC.out _ (by assumption) k hlt).2.2, HC.out _ (by assumption) c hcl⟩) ((go_at_call 29; with_reducible refine Calls.mono (HBTT.out _) ?_; rintro e w5 ⟨rfl, hB5⟩; have hB5' := below_th hBd hB5))
                    go_wp2
                    go_roundw
                    case rel => exact ⟨k + 1, by omega, by omega, by go_num, by rw [HNX.out], below_th HBd.out hB5⟩
                    case measure => simp [intOf]; omega
                  · rw [if_neg (fun hh => hh.elim hc0 hx)] at hbs
                    rw [decide_eq_false hx] at hbb
                    rw [hbb] at hBT
                    have HBTT := Lib.hid hBT
                    have HNX := Lib.hid hbs
                    clear hs hl hb1 hbs hbl hok hone hc hB hyes hc0 hx hbb hBT
                    go_wp2
                    go_region_held3 (fun w' => w'.cell? ⟨b, off + k * 3, none⟩ = some (.int .i64 (seg L k).live) ∧ w'.cell? ⟨b, off + k * 3 + 1, none⟩ = some (.int .u64 (seg L k).begun) ∧ w'.cell? ⟨b, off + k * 3 + 2, none⟩ = some (.int .i64 (seg L k).state) ∧ w'.cell? ⟨b, off + c * 3, none⟩ = some (.int .i64 (seg L c).live) ∧ w'.cell? ⟨b, off + c * 3 + 1, none⟩ = some (.int .u64 (seg L c).begun) ∧ w'.cell? ⟨b, off + c * 3 + 2, none⟩ = some (.int .i64 (seg L c).state)) (exact ⟨(HC.out _ (by assumption) k hlt).1, (HC.out _ (by assumption) k hlt).2.1, (HC.out _ (by assumption) k hlt).2.2, HC.out _ (by assumption) c hcl⟩) ((go_at_call 29; with_reducible refine Calls.mono (HBTT.out _) ?_; rintro e w5 ⟨rfl, hB5⟩; have hB5' := below_th hBd hB5))
                    go_wp2
                    go_roundw
                    case rel => exact ⟨k + 1, by omega, by omega, by go_num, by rw [HNX.out], below_th HBd.out hB5⟩
                    case measure => simp [intOf]; omega
            · have hq : ((seg L k).state == 1) = false := by simp [hs]
              have HNX : Hid (bst L way now (cand L (k + 1)) = c) := by unfold Hid; rw [hb1, if_neg (fun hh => hs (hok.1 hh).2.1), List.append_nil, hc]
              clear hs hb1 hbs hbl hok hone hc hB
              go_wp2
              go_quiet (fail)
              go_wp2
              go_roundw
              case rel => exact ⟨k + 1, by omega, by omega, by go_num, by rw [HNX.out], below_drewN HBq.out _⟩
              case measure => simp [intOf]; omega
          · obtain rfl : k = N := by omega
            go_wp2
            go_returns
            exact ⟨by rw [HFIN.out]; simp, hB⟩
      · rw [chA_way hr (fun hh => hw2 hh.2)]
        clear hr hL
        go_enter Try.func17, Try.ntmps17
        go_wp2_with (go_at_call 13; refine HR.mono ?_; rintro e w1 ⟨rfl, hB1⟩)
        go_returns
        exact ⟨rfl, hB1⟩
    · rw [chA_way hr (fun hh => hw0 hh.1)]
      clear hr hL
      go_enter Try.func17, Try.ntmps17
      go_wp2_with (go_at_call 13; refine HR.mono ?_; rintro e w1 ⟨rfl, hB1⟩)
      go_returns
      exact ⟨rfl, hB1⟩
  · rw [show rightB L = false from decide_eq_false hr] at HR
    rw [chA_wrong hr]
    clear hr hL
    go_enter Try.func17, Try.ntmps17
    go_wp2_with (go_at_call 13; refine HR.mono ?_; rintro e w1 ⟨rfl, hB1⟩)
    go_returns
    exact ⟨rfl, hB1⟩
end
end Go.Proofs.Ytgadclbenbakfaa.Usage.R
