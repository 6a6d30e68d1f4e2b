/- RootApart, walked. -/
import Derived.Test.YtdniakoedgohkaaRootCut
namespace Go.Proofs.Ytdniakoedgohkaa.Root
open Go.RowKit
attribute [local go_sem] Oper.semAt_some
set_option linter.unusedVariables false
set_option linter.unusedSimpArgs false
section
set_option maxRecDepth 100000
set_option maxHeartbeats 8000000
theorem rot_eq {a b : Q} (ha : RightP a) (hb : RightP b) : decide (rotB a = rotB b) = decide (a = b) := decide_eq_decide.2 ⟨fun h => rot_inj ha hb h, fun h => by rw [h]⟩
theorem apart_go (A B : Q) (a b : Q) (w : World) (a1 : Option Addr) (n1 cap1 K1 : Nat) (a2 : Option Addr) (n2 cap2 K2 : Nat) (a3 : Option Addr) (n3 cap3 K3 : Nat) (a4 : Option Addr) (n4 cap4 K4 : Nat) (hA : cutQ a = A) (hB : cutQ b = B)
    (hc1 : Nums w (.slice a1 K1 cap1) A.dats) (hc2 : Nums w (.slice a2 K2 cap2) A.cps) (hc3 : Nums w (.slice a3 K3 cap3) B.dats) (hc4 : Nums w (.slice a4 K4 cap4) B.cps) (hoa : QOk A) (hob : QOk B)
    (l11 : K1 ≤ n1) (l13 : n1 ≤ cap1) (l14 : cap1 ≤ 9223372036854775807) (m1 : min (n1 : Int) 100 = (K1 : Int))
    (l21 : K2 ≤ n2) (l23 : n2 ≤ cap2) (l24 : cap2 ≤ 9223372036854775807) (m2 : min (n2 : Int) 100 = (K2 : Int))
    (l31 : K3 ≤ n3) (l33 : n3 ≤ cap3) (l34 : cap3 ≤ 9223372036854775807) (m3 : min (n3 : Int) 100 = (K3 : Int))
    (l41 : K4 ≤ n4) (l43 : n4 ≤ cap4) (l44 : cap4 ≤ 9223372036854775807) (m4 : min (n4 : Int) 100 = (K4 : Int))
    (E1 E2 : ByteArray) (er1 er2 : Int) (sm : Bool) (he1 : encS A = E1) (he1' : encE A = er1) (he2 : encS B = E2) (he2' : encE B = er2) (hsm : decide (A = B) = sm)
    (H : (er1 = 0 ∧ er2 = 0 ∧ (E1.toList == E2.toList) = sm) ∨ (er1 = 0 ∧ er2 = 153) ∨ er1 = 153) :
    Calls Try.prog 5 #[a.val (.slice a1 n1 cap1) (.slice a2 n2 cap2), b.val (.slice a3 n3 cap3) (.slice a4 n4 cap4)] w (Ans w (.bool true)) := by
  have hBa := below_new w (boxQ a (.slice a1 n1 cap1) (.slice a2 n2 cap2))
  obtain ⟨hQa, hQb⟩ := boxes w a b (.slice a1 n1 cap1) (.slice a2 n2 cap2) (.slice a3 n3 cap3) (.slice a4 n4 cap4)
  have hBb : Below w.heap.size w ((w.alloc (boxQ a (.slice a1 n1 cap1) (.slice a2 n2 cap2))).alloc (boxQ b (.slice a3 n3 cap3) (.slice a4 n4 cap4))) := below_al hBa _ (by simp)
  have HS := Lib.hid shown_any
  have hEA := fun d c W (h1 : Nums W d A.dats) (h2 : Nums W c A.cps) => encode_any A d c W h1 h2 hoa
  have hEB := fun d c W (h1 : Nums W d B.dats) (h2 : Nums W c B.cps) => encode_any B d c W h1 h2 hob
  have hSm := fun d c e f W h1 h2 h3 h4 => same_any A B d c e f W h1 h2 h3 h4
  unfold Q.val Ans at hEA hEB hSm
  simp only [he1, he1'] at hEA
  simp only [he2, he2'] at hEB
  simp only [hsm] at hSm
  have ap : a.cp = A.cp := by rw [← hA]; rfl
  have at' : a.tick = A.tick := by rw [← hA]; rfl
  have bp : b.cp = B.cp := by rw [← hB]; rfl
  have bt : b.tick = B.tick := by rw [← hB]; rfl
  unfold boxQ at hQa hQb hBb
  unfold Q.val
  have HEA := Lib.hid hEA
  have HEB := Lib.hid hEB
  have HSM := Lib.hid hSm
  have HO := Lib.hid (And.intro (And.intro hc1 hc2) (And.intro hc3 hc4))
  unfold QAt at hQa hQb
  rw [ap, at', bp, bt] at hQa hQb hBb ⊢
  obtain ⟨WB, hWB⟩ : ∃ WB, (w.alloc (.cells #[.int .u64 (A.cp : Int), .int .u64 (A.tick : Int), .slice a1 n1 cap1, .slice a2 n2 cap2] 25)).alloc (.cells #[.int .u64 (B.cp : Int), .int .u64 (B.tick : Int), .slice a3 n3 cap3, .slice a4 n4 cap4] 25) = WB := ⟨_, rfl⟩
  rw [hWB] at hQa hQb hBb
  have hA' : QAt WB w.heap.size ⟨A.cp, A.tick, a.dats, a.cps⟩ (.slice a1 n1 cap1) (.slice a2 n2 cap2) := hQa
  have hB' : QAt WB (w.heap.size + 1) ⟨B.cp, B.tick, b.dats, b.cps⟩ (.slice a3 n3 cap3) (.slice a4 n4 cap4) := hQb
  have b1 : (K1 : Int) ≤ (cap1 : Int) := by omega
  have b2 : (K2 : Int) ≤ (cap2 : Int) := by omega
  have b3 : (K3 : Int) ≤ (cap3 : Int) := by omega
  have b4 : (K4 : Int) ≤ (cap4 : Int) := by omega
  have b5 : 0 ≤ (K1 : Int) := by omega
  have b6 : 0 ≤ (K2 : Int) := by omega
  have b7 : 0 ≤ (K3 : Int) := by omega
  have b8 : 0 ≤ (K4 : Int) := by omega
  clear hEA hEB hSm he1 he1' he2 he2' hsm hA hB ap at' bp bt hQa hQb hBa hc1 hc2 hc3 hc4
  obtain ⟨q, hqq⟩ : ∃ q, w.heap.size = q := ⟨_, rfl⟩
  rw [hqq] at hA' hB' hBb
  have HST : Hid (∀ W, Below WB.heap.size WB W → ∃ W2, (((W.setCell ⟨q, 2, none⟩ (.slice a1 K1 cap1)).setCell ⟨q, 3, none⟩ (.slice a2 K2 cap2)).setCell ⟨q + 1, 2, none⟩ (.slice a3 K3 cap3)).setCell ⟨q + 1, 3, none⟩ (.slice a4 K4 cap4) = W2 ∧ QAt W2 q A (.slice a1 K1 cap1) (.slice a2 K2 cap2) ∧ QAt W2 (q + 1) B (.slice a3 K3 cap3) (.slice a4 K4 cap4) ∧ Below q w W2) := fun W hW => by
    refine ⟨_, rfl, ?_, ?_, ?_⟩
    · exact ((hA'.th hW).put2 A.dats A.cps (.slice a1 K1 cap1) (.slice a2 K2 cap2)).of_heap (put2_other _ _ _ _ _ (by omega))
    · exact ((hB'.th hW).of_heap (put2_other _ _ _ _ _ (by omega))).put2 B.dats B.cps (.slice a3 K3 cap3) (.slice a4 K4 cap4)
    · have h1 : Below q w W := hBb.trans (hW.mono (by have := hBb.size; omega))
      exact below_put2 (below_put2 h1 q (Nat.le_refl _) _ _) (q + 1) (by omega) _ _
  have HFR : Hid (∀ W, Below WB.heap.size WB W → (W.cell? ⟨q, 2, none⟩ = some (.slice a1 n1 cap1) ∧ W.cell? ⟨q, 3, none⟩ = some (.slice a2 n2 cap2) ∧ W.cell? ⟨q + 1, 2, none⟩ = some (.slice a3 n3 cap3) ∧ W.cell? ⟨q + 1, 3, none⟩ = some (.slice a4 n4 cap4)) ∧ (W.cell? ⟨q, 0, none⟩ = some (.int .u64 (A.cp : Int)) ∧ W.cell? ⟨q, 1, none⟩ = some (.int .u64 (A.tick : Int)) ∧ W.cell? ⟨q + 1, 0, none⟩ = some (.int .u64 (B.cp : Int)) ∧ W.cell? ⟨q + 1, 1, none⟩ = some (.int .u64 (B.tick : Int))) ∧ W.frozen? ⟨q, 2, none⟩ = false ∧ W.frozen? ⟨q, 3, none⟩ = false ∧ W.frozen? ⟨q + 1, 2, none⟩ = false ∧ W.frozen? ⟨q + 1, 3, none⟩ = false) := fun W hW => by
    obtain ⟨u0, u1, u2, u3⟩ := (hA'.th hW).c
    obtain ⟨v0, v1, v2, v3⟩ := (hB'.th hW).c
    exact ⟨⟨u2, u3, v2, v3⟩, ⟨u0, u1, v0, v1⟩, (hA'.th hW).f 2, (hA'.th hW).f 3, (hB'.th hW).f 2, (hB'.th hW).f 3⟩
  clear hA' hB' hBb
  go_enter Try.func5, Try.ntmps5
  go_wp2_with (go_at_call 8; (with_reducible refine Calls.mono (HS.out _) ?_); rintro e w1 ⟨rfl, hB1⟩; obtain ⟨⟨u2, u3, v2, v3⟩, ⟨u0, u1, v0, v1⟩, f2, f3, k2, k3⟩ := HFR.out _ hB1; obtain ⟨w2, hw2, hq1, hq2, hbw⟩ := HST.out _ hB1; have HQ1 := Lib.hid hq1; have HQ2 := Lib.hid hq2; have HBW := Lib.hid hbw; have HW2 := Lib.hid hw2; clear hq1 hq2 hbw hw2)
  try simp only [hqq]
  have hw2 := HW2.out
  try simp only [hw2]
  have HG : Hid (∀ W, Below w2.heap.size w2 W → ((Nums W (.slice a1 K1 cap1) A.dats ∧ Nums W (.slice a2 K2 cap2) A.cps) ∧ Nums W (.slice a3 K3 cap3) B.dats ∧ Nums W (.slice a4 K4 cap4) B.cps) ∧ (W.cell? ⟨q, 0, none⟩ = some (.int .u64 (A.cp : Int)) ∧ W.cell? ⟨q, 1, none⟩ = some (.int .u64 (A.tick : Int)) ∧ W.cell? ⟨q, 2, none⟩ = some (.slice a1 K1 cap1) ∧ W.cell? ⟨q, 3, none⟩ = some (.slice a2 K2 cap2)) ∧ W.cell? ⟨q + 1, 0, none⟩ = some (.int .u64 (B.cp : Int)) ∧ W.cell? ⟨q + 1, 1, none⟩ = some (.int .u64 (B.tick : Int)) ∧ W.cell? ⟨q + 1, 2, none⟩ = some (.slice a3 K3 cap3) ∧ W.cell? ⟨q + 1, 3, none⟩ = some (.slice a4 K4 cap4)) := fun W hW => by
    have hb : Below w.heap.size w w2 := hqq ▸ HBW.out
    exact ⟨⟨⟨(HO.out.1.1.below hb).below hW, (HO.out.1.2.below hb).below hW⟩, (HO.out.2.1.below hb).below hW, (HO.out.2.2.below hb).below hW⟩, (HQ1.out.th hW).c, (HQ2.out.th hW).c⟩
  have hself : Below w2.heap.size w2 w2 := Below.refl _ _
  have HFIN : Hid (∀ W, Below w2.heap.size w2 W → Below w.heap.size w W) := fun W hW => by
    have hb : Below w.heap.size w w2 := hqq ▸ HBW.out
    exact below_th hb hW
  obtain ⟨_, ⟨y0, y1, y2, y3⟩, y4, y5, y6, y7⟩ := HG.out w2 hself
  clear HQ1 HQ2 HBW HW2 hw2 HO HST HFR HS u0 u1 u2 u3 v0 v1 v2 v3 f2 f3 k2 k3 hB1 hWB hqq m1 m2 m3 m4 b1 b2 b3 b4 b5 b6 b7 b8 l11 l13 l14 l21 l23 l24 l31 l33 l34 l41 l43 l44
  rcases H with ⟨rfl, rfl, hes⟩ | ⟨rfl, rfl⟩ | rfl
  · cases sm with
    | true =>
      go_wp2_with (first
        | (go_at_call 9; (with_reducible refine Calls.mono (HEA.out _ _ _ (HG.out _ hself).1.1.1 (HG.out _ hself).1.1.2) ?_); rintro e w3 ⟨rfl, hB3⟩; obtain ⟨_, ⟨s0, s1, s2, s3⟩, s4, s5, s6, s7⟩ := HG.out _ hB3)
        | (go_at_call 9; (with_reducible refine Calls.mono (HEB.out _ _ _ (HG.out _ hB3).1.2.1 (HG.out _ hB3).1.2.2) ?_); rintro e w4 ⟨rfl, hB4⟩; have hB34 := below_th hB3 hB4; obtain ⟨_, ⟨t0, t1, t2, t3⟩, t4, t5, t6, t7⟩ := HG.out _ hB34)
        | (go_at_call 15; (with_reducible refine Calls.mono (HSM.out _ _ _ _ _ (HG.out _ hB34).1.1.1 (HG.out _ hB34).1.1.2 (HG.out _ hB34).1.2.1 (HG.out _ hB34).1.2.2) ?_); rintro e w5 ⟨rfl, hB5⟩))
      go_ret
      exact ⟨rfl, HFIN.out _ (below_th hB34 hB5)⟩
    | false =>
      go_wp2_with (first
        | (go_at_call 9; (with_reducible refine Calls.mono (HEA.out _ _ _ (HG.out _ hself).1.1.1 (HG.out _ hself).1.1.2) ?_); rintro e w3 ⟨rfl, hB3⟩; obtain ⟨_, ⟨s0, s1, s2, s3⟩, s4, s5, s6, s7⟩ := HG.out _ hB3)
        | (go_at_call 9; (with_reducible refine Calls.mono (HEB.out _ _ _ (HG.out _ hB3).1.2.1 (HG.out _ hB3).1.2.2) ?_); rintro e w4 ⟨rfl, hB4⟩; have hB34 := below_th hB3 hB4; obtain ⟨_, ⟨t0, t1, t2, t3⟩, t4, t5, t6, t7⟩ := HG.out _ hB34)
        | (go_at_call 15; (with_reducible refine Calls.mono (HSM.out _ _ _ _ _ (HG.out _ hB34).1.1.1 (HG.out _ hB34).1.1.2 (HG.out _ hB34).1.2.1 (HG.out _ hB34).1.2.2) ?_); rintro e w5 ⟨rfl, hB5⟩))
      go_ret
      exact ⟨rfl, HFIN.out _ (below_th hB34 hB5)⟩
  · go_wp2_with (first
      | (go_at_call 9; (with_reducible refine Calls.mono (HEA.out _ _ _ (HG.out _ hself).1.1.1 (HG.out _ hself).1.1.2) ?_); rintro e w3 ⟨rfl, hB3⟩; obtain ⟨_, ⟨s0, s1, s2, s3⟩, s4, s5, s6, s7⟩ := HG.out _ hB3)
      | (go_at_call 9; (with_reducible refine Calls.mono (HEB.out _ _ _ (HG.out _ hB3).1.2.1 (HG.out _ hB3).1.2.2) ?_); rintro e w4 ⟨rfl, hB4⟩; have hB34 := below_th hB3 hB4; obtain ⟨_, ⟨t0, t1, t2, t3⟩, t4, t5, t6, t7⟩ := HG.out _ hB34)
      | (go_at_call 15; (with_reducible refine Calls.mono (HSM.out _ _ _ _ _ (HG.out _ hB34).1.1.1 (HG.out _ hB34).1.1.2 (HG.out _ hB34).1.2.1 (HG.out _ hB34).1.2.2) ?_); rintro e w5 ⟨rfl, hB5⟩))
    go_ret
    exact ⟨rfl, HFIN.out _ (below_th hB34 hB5)⟩
  · go_wp2_with (first
      | (go_at_call 9; (with_reducible refine Calls.mono (HEA.out _ _ _ (HG.out _ hself).1.1.1 (HG.out _ hself).1.1.2) ?_); rintro e w3 ⟨rfl, hB3⟩; obtain ⟨_, ⟨s0, s1, s2, s3⟩, s4, s5, s6, s7⟩ := HG.out _ hB3)
      | (go_at_call 9; (with_reducible refine Calls.mono (HEB.out _ _ _ (HG.out _ hB3).1.2.1 (HG.out _ hB3).1.2.2) ?_); rintro e w4 ⟨rfl, hB4⟩; have hB34 := below_th hB3 hB4; obtain ⟨_, ⟨t0, t1, t2, t3⟩, t4, t5, t6, t7⟩ := HG.out _ hB34)
      | (go_at_call 15; (with_reducible refine Calls.mono (HSM.out _ _ _ _ _ (HG.out _ hB34).1.1.1 (HG.out _ hB34).1.1.2 (HG.out _ hB34).1.2.1 (HG.out _ hB34).1.2.2) ?_); rintro e w5 ⟨rfl, hB5⟩))
    go_ret
    exact ⟨rfl, HFIN.out _ (below_th hB34 hB5)⟩
theorem RootApart_walk (a : Q) (d1 c1 : Value) (b : Q) (d2 c2 : Value) (w : World) (h : Nums w d1 a.dats ∧ Nums w c1 a.cps) (ho : QOk a) (h' : Nums w d2 b.dats ∧ Nums w c2 b.cps) (ho' : QOk b) : Calls Try.prog 5 #[a.val d1 c1, b.val d2 c2] w (Ans w (.bool true)) := by
  obtain ⟨h1, h2⟩ := h
  obtain ⟨h3, h4⟩ := h'
  obtain ⟨a1, n1, cap1, K1, rfl, hc1, hk1, l11, l12, l13, l14, m1⟩ := h1.hundred
  obtain ⟨a2, n2, cap2, K2, rfl, hc2, hk2, l21, l22, l23, l24, m2⟩ := h2.hundred
  obtain ⟨a3, n3, cap3, K3, rfl, hc3, hk3, l31, l32, l33, l34, m3⟩ := h3.hundred
  obtain ⟨a4, n4, cap4, K4, rfl, hc4, hk4, l41, l42, l43, l44, m4⟩ := h4.hundred
  refine apart_go (cutQ a) (cutQ b) a b w a1 n1 cap1 K1 a2 n2 cap2 K2 a3 n3 cap3 K3 a4 n4 cap4 K4 rfl rfl hc1 hc2 hc3 hc4 (cut_ok ho) (cut_ok ho') l11 l13 l14 m1 l21 l23 l24 m2 l31 l33 l34 m3 l41 l43 l44 m4 _ _ _ _ _ rfl rfl rfl rfl rfl ?_
  by_cases ha : RightP (cutQ a)
  · by_cases hb : RightP (cutQ b)
    · left
      refine ⟨encE_yes ha, encE_yes hb, ?_⟩
      rw [encS_yes ha, encS_yes hb, ← rot_eq ha hb]
      by_cases he : rotB (cutQ a) = rotB (cutQ b)
      · rw [decide_eq_true he]; exact (beqL_yes he).1
      · rw [decide_eq_false he]; exact (beqL_no he).1
    · exact .inr (.inl ⟨encE_yes ha, encE_no hb⟩)
  · exact .inr (.inr (encE_no ha))
end
end Go.Proofs.Ytdniakoedgohkaa.Root
