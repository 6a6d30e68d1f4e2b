/- RootDoubles, walked. -/
import Derived.Deep.Cut
import Derived.Deep.DeepCutAuto
import Derived.Deep.RegionLaw
import Derived.Deep.RegionHeld3
import Derived.Test.YtdniakoedgohkaaRootCut
namespace Go.Proofs.Ytdniakoedgohkaa.Root
open Go.RowKit
attribute [local go_sem] Oper.semAt_some
set_option linter.unusedVariables false
set_option linter.unusedSimpArgs false
section
set_option maxRecDepth 100000
set_option maxHeartbeats 8000000
theorem Nums.tail {w : World} {b off n cap : Nat} {L : List Nat} (h : Nums w (.slice (some ⟨b, off, none⟩) n cap) L) (hn : L.length = n) (h1 : 1 ≤ n) : Nums w (.slice (if cap = 1 then some ⟨b, off, none⟩ else some ⟨b, off + 1, none⟩) (n - 1) (cap - 1)) L.tail := by
  have hl : L.tail.length = n - 1 := by rw [List.length_tail, hn]
  obtain ⟨a1, c1, e, h2, h3, h4, h5⟩ := h
  cases e
  have hm := h3.1
  rw [hn] at h2
  refine ⟨_, cap - 1, by rw [hl], by rw [hl]; omega, ⟨by omega, fun e => by split at e <;> cases e⟩, by rw [List.length_map, Nat.mul_one], fun hp => ?_⟩
  rw [hl] at hp
  obtain ⟨b2, o2, e2, hc⟩ := h5 (by rw [hn]; omega)
  cases e2
  rw [if_neg (by omega)]
  refine ⟨b, off + 1, rfl, fun j u hj => ?_⟩
  have := hc (j + 1) u (by
    rw [List.getElem?_map] at hj ⊢
    rw [List.getElem?_tail] at hj
    exact hj)
  rw [show off + 1 + j = off + (j + 1) by omega]
  exact this
theorem QAt.putD {W : World} {b : Nat} {q : Q} {vd vc : Value} (h : QAt W b q vd vc) (D : List Nat) (d : Value) : QAt (W.setCell ⟨b, 2, none⟩ d) b ⟨q.cp, q.tick, D, q.cps⟩ d vc := by
  unfold QAt at h ⊢
  exact heap_setCell_same W b 2 _ _ d h
theorem doubles_fin {w3 W w5 : World} {p : Nat} {R : Q} {x K1 : Nat} {v5 sA sC : Value} (hq : QAt w5 p R sA sC) (hown : w5.ownsRow W.heap.size 35 1 v5 (K1 + 1) ((R.dats.map fun (x : Nat) => Value.int .u32 (x : Int)) ++ [x].map fun (x : Nat) => Value.int .u32 (x : Int))) (hk : R.dats.length = K1) (hW : W.heap.size = p + 1) (h3 : Below p w3 W) (hb : Below W.heap.size W w5) :
    QAt (w5.setCell ⟨p, 2, none⟩ v5) p ⟨R.cp, R.tick, R.dats ++ [x], R.cps⟩ v5 sC ∧ Nums (w5.setCell ⟨p, 2, none⟩ v5) v5 (R.dats ++ [x]) ∧ Below p w3 (w5.setCell ⟨p, 2, none⟩ v5) := by
  refine ⟨hq.putD _ _, ?_, (h3.trans (hb.mono (by omega))).setCell (p := ⟨p, 2, none⟩) (Nat.le_refl _) _⟩
  have h1 := Lies.own (ownsRow_setCell_below hown (a := ⟨p, 2, none⟩) (by show p < _; omega) v5)
  unfold Nums
  rw [List.length_append, hk, List.map_append]
  exact h1
theorem doubles_go (R r : Q) (w : World) (a1 : Option Addr) (n1 cap1 K1 : Nat) (a2 : Option Addr) (n2 cap2 K2 : Nat) (hR : cutQ r = R) (hc1 : Nums w (.slice a1 K1 cap1) R.dats) (hc2 : Nums w (.slice a2 K2 cap2) R.cps) (ho : QOk R)
    (hk1 : R.dats.length = K1) (hk2 : R.cps.length = K2)
    (l11 : K1 ≤ n1) (l12 : K1 ≤ 100) (l13 : n1 ≤ cap1) (l14 : cap1 ≤ 9223372036854775807) (m1 : min (n1 : Int) 100 = (K1 : Int))
    (l21 : K2 ≤ n2) (l22 : K2 ≤ 100) (l23 : n2 ≤ cap2) (l24 : cap2 ≤ 9223372036854775807) (m2 : min (n2 : Int) 100 = (K2 : Int)) :
    Calls Try.prog 6 #[r.val (.slice a1 n1 cap1) (.slice a2 n2 cap2)] w (Ans w (.bool true)) := by
  have hB := below_new w (boxQ r (.slice a1 n1 cap1) (.slice a2 n2 cap2))
  have hA := QAt.new w r (.slice a1 n1 cap1) (.slice a2 n2 cap2)
  have HS := Lib.hid shown_any
  have hRt := fun d c W (h1 : Nums W d R.dats) (h2 : Nums W c R.cps) => right_any R d c W h1 h2 ho
  unfold Q.val Ans at hRt
  have hcp : r.cp = R.cp := by rw [← hR]; rfl
  have htk : r.tick = R.tick := by rw [← hR]; rfl
  unfold boxQ at hB hA
  unfold Q.val
  have HO := Lib.hid (And.intro hc1 hc2)
  unfold QAt at hA
  rw [hcp, htk] at hA hB ⊢
  obtain ⟨WB, hWB⟩ : ∃ WB, w.alloc (.cells #[.int .u64 (R.cp : Int), .int .u64 (R.tick : Int), .slice a1 n1 cap1, .slice a2 n2 cap2] 25) = WB := ⟨_, rfl⟩
  rw [hWB] at hA hB
  have hA' : QAt WB w.heap.size ⟨R.cp, R.tick, r.dats, r.cps⟩ (.slice a1 n1 cap1) (.slice a2 n2 cap2) := hA
  have b1 : (K1 : Int) ≤ (cap1 : Int) := by omega
  have b2 : (K2 : Int) ≤ (cap2 : Int) := by omega
  have b3 : 0 ≤ (K1 : Int) := by omega
  have b4 : 0 ≤ (K2 : Int) := by omega
  obtain ⟨q, hqq⟩ : ∃ q, w.heap.size = q := ⟨_, rfl⟩
  rw [hqq] at hA' hB
  have HST : Hid (∀ W, Below WB.heap.size WB W → (∃ W2, (W.setCell ⟨q, 2, none⟩ (.slice a1 K1 cap1)).setCell ⟨q, 3, none⟩ (.slice a2 K2 cap2) = W2 ∧ QAt W2 q R (.slice a1 K1 cap1) (.slice a2 K2 cap2) ∧ Below q w W2) ∧ (W.cell? ⟨q, 0, none⟩ = some (.int .u64 (R.cp : Int)) ∧ W.cell? ⟨q, 1, none⟩ = some (.int .u64 (R.tick : Int)) ∧ W.cell? ⟨q, 2, none⟩ = some (.slice a1 n1 cap1) ∧ W.cell? ⟨q, 3, none⟩ = some (.slice a2 n2 cap2)) ∧ W.frozen? ⟨q, 2, none⟩ = false ∧ W.frozen? ⟨q, 3, none⟩ = false) := fun W hW => by
    have h1 : Below q w W := hB.trans (hW.mono (by have := hB.size; omega))
    exact ⟨⟨_, rfl, (hA'.th hW).put2 R.dats R.cps (.slice a1 K1 cap1) (.slice a2 K2 cap2), below_put2 h1 q (Nat.le_refl _) _ _⟩, (hA'.th hW).c, (hA'.th hW).f 2, (hA'.th hW).f 3⟩
  clear hA' hA hB hcp htk hc1 hc2
  cases hr : rightB R with
  | false =>
    simp only [hr] at hRt
    have HRT := Lib.hid hRt
    clear hRt hr
    go_enter Try.func6, Try.ntmps6
    go_wp2_with (first
      | (go_at_call 8; (with_reducible refine Calls.mono (HS.out _) ?_); rintro e w1 ⟨rfl, hB1⟩; obtain ⟨⟨w2, hw2, hq2, hbw⟩, ⟨u0, u1, u2, u3⟩, f2, f3⟩ := HST.out _ hB1; have HQ := Lib.hid hq2; have HBW := Lib.hid hbw; have hbw' : Below w.heap.size w w2 := hqq ▸ hbw; have hn1 := HO.out.1.below hbw'; have hn2 := HO.out.2.below hbw'; obtain ⟨c0, c1, c2, c3⟩ := hq2.c; clear hq2 hbw)
      | (go_at_call 13; (with_reducible refine Calls.mono (HRT.out _ _ _ hn1 hn2) ?_); rintro e w3 ⟨rfl, hB3⟩))
    go_ret
    exact ⟨rfl, below_th hbw' hB3⟩
  | true =>
    simp only [hr] at hRt
    have HRT := Lib.hid hRt
    have hrp : RightP R := of_decide_eq_true hr
    have hK1 : 1 ≤ K1 ∧ K1 ≤ 60 := hk1 ▸ hrp.1.2.2.2.1
    have hK2 : 1 ≤ K2 ∧ K2 ≤ 12 := hk2 ▸ hrp.1.2.2.2.2
    clear hRt hr
    obtain ⟨bA, oA, rfl, _⟩ := HO.out.1.at hk1 (k := 0) (by omega)
    obtain ⟨bC, oC, rfl, _⟩ := HO.out.2.at hk2 (k := 0) (by omega)
    have j1 : decide ((K1 : Int) < 1) = false := decide_eq_false (by omega)
    have j2 : decide ((K2 : Int) < 1) = false := decide_eq_false (by omega)
    have j3 : ¬ (K1 : Int) < 1 := by omega
    have j4 : ¬ (K2 : Int) < 1 := by omega
    go_enter Try.func6, Try.ntmps6
    go_upto_region 9 with (first
      | (go_at_call 8; (with_reducible refine Calls.mono (HS.out _) ?_); rintro e w1 ⟨rfl, hB1⟩; obtain ⟨⟨w2, hw2, hq2, hbw⟩, ⟨u0, u1, u2, u3⟩, f2, f3⟩ := HST.out _ hB1; have HQ := Lib.hid hq2; have HBW := Lib.hid hbw; have hbw' : Below w.heap.size w w2 := hqq ▸ hbw; have hn1 := HO.out.1.below hbw'; have hn2 := HO.out.2.below hbw'; obtain ⟨c0, c1, c2, c3⟩ := hq2.c; clear hq2 hbw)
      | (go_at_call 13; (with_reducible refine Calls.mono (HRT.out _ _ _ hn1 hn2) ?_); rintro e w3 ⟨rfl, hB3⟩; obtain ⟨d0, d1, d2, d3⟩ := (HQ.out.th hB3).c))
    obtain ⟨W, hW⟩ : ∃ W, w3.alloc (.cells #[.int .u64 (R.cp : Int), .int .u64 (R.tick : Int), .slice (some ⟨bA, oA, none⟩) K1 cap1, .slice (some ⟨bC, oC, none⟩) K2 cap2] 25) = W := ⟨_, rfl⟩
    obtain ⟨p, hpp⟩ : ∃ p, w3.heap.size = p := ⟨_, rfl⟩
    have hWs : W.heap.size = p + 1 := by rw [← hW, ← hpp]; exact World.size_alloc ..
    have hb3W : Below p w3 W := by rw [← hW, ← hpp]; exact below_new _ _
    have hQ4 : QAt W p R (.slice (some ⟨bA, oA, none⟩) K1 cap1) (.slice (some ⟨bC, oC, none⟩) K2 cap2) := by rw [← hW, ← hpp]; exact QAt.new w3 R _ _
    have hQ3 : QAt W q R (.slice (some ⟨bA, oA, none⟩) K1 cap1) (.slice (some ⟨bC, oC, none⟩) K2 cap2) := (HQ.out.th hB3).th (by rw [hpp]; exact hb3W)
    have hm1 : Nums W (.slice (some ⟨bA, oA, none⟩) K1 cap1) R.dats := (hn1.below hB3).below (by rw [hpp]; exact hb3W)
    have hm2 : Nums W (.slice (some ⟨bC, oC, none⟩) K2 cap2) R.cps := (hn2.below hB3).below (by rw [hpp]; exact hb3W)
    have hbw3 : Below w.heap.size w w3 := below_th hbw' hB3
    rw [hW]
    simp only [hpp]
    have HQW := Lib.hid (HQ.out.th hB3)
    have HN1 := Lib.hid (hn1.below hB3)
    have HN2 := Lib.hid (hn2.below hB3)
    have HQ4 := Lib.hid hQ4
    have HQ3 := Lib.hid hQ3
    have HM1 := Lib.hid hm1
    have HM2 := Lib.hid hm2
    have HB3W := Lib.hid hb3W
    have HBW3 := Lib.hid hbw3
    have HRP := Lib.hid hrp
    clear hQ4 hQ3 hm1 hm2 hb3W hbw3 hrp hW hB1 hB3 hn1 hn2 hbw' c0 c1 c2 c3 d0 d1 d2 d3 u0 u1 u2 u3 f2 f3 hw2 HQ HBW HST HO m1 m2 j1 j2 j3 j4 hWB HS
    obtain ⟨x, hx⟩ : ∃ x, nu R.cps 0 = x := ⟨_, rfl⟩
    have HX := Lib.hid hx
    obtain ⟨N1, hN1⟩ : ∃ N, K1 + 1 = N := ⟨_, rfl⟩
    have wN : IntKind.i64.wrap ((K1 : Int) + 1) = (N1 : Int) := by rw [IntKind.wrap_i64]; omega
    obtain ⟨X, hXs, hmk⟩ := make_nums N1 (by omega)
    have KD := Lib.hid hk1
    have hx32 : x < 4294967296 := by rw [← hx]; exact nu_lt ho.4 0
    have HCELL : Hid (∀ W', Below W.heap.size W W' → W'.cell? ⟨q, 2, none⟩ = some (.slice (some ⟨bA, oA, none⟩) K1 cap1) ∧ W'.cell? ⟨q, 3, none⟩ = some (.slice (some ⟨bC, oC, none⟩) K2 cap2) ∧ W'.cell? ⟨bC, oC, none⟩ = some (.int .u32 (x : Int)) ∧ W'.cell? ⟨bC, oC + 0, none⟩ = some (.int .u32 (x : Int))) := fun W' hW' => by
      obtain ⟨b9, o9, e9, c9⟩ := (HM2.out.below hW').at hk2 (k := 0) (by omega)
      cases e9
      rw [hx] at c9
      exact ⟨(HQ3.out.th hW').c.2.2.1, (HQ3.out.th hW').c.2.2.2, c9, c9⟩
    have l0 : (0 : Int) < (K2 : Int) := by omega
    have l1 : 0 < K2 := by omega
    have hs1 : Below W.heap.size W ((W.alloc (.cells X 35)).drew) := below_drew (below_new W _)
    have hs2 : Below W.heap.size W (((W.alloc (.cells X 35)).alloc (.cells #[.int .u32 (x : Int)] 35)).drew) := below_drew (below_al (below_new W _) _ (by simp))
    have hs3 : Below W.heap.size W (((W.alloc (.cells #[.int .u32 (x : Int)] 35)).alloc (.cells X 35)).drew) := below_drew (below_al (below_new W _) _ (by simp))
    have hz1 : (W.alloc (.cells #[.int .u32 (x : Int)] 35)).heap.size = W.heap.size + 1 := World.size_alloc ..
    have hz2 : (W.alloc (.cells X 35)).heap.size = W.heap.size + 1 := World.size_alloc ..
    have HO1 : Hid (((W.alloc (.cells X 35)).drew).ownsRow W.heap.size 35 1 (.slice (some ⟨W.heap.size, 0, none⟩) 0 N1) 0 []) := World.ownsRow_made W X N1 (Nat.le_refl _) (by unfold maxLen; omega) hXs
    have HO2 : Hid ((((W.alloc (.cells X 35)).alloc (.cells #[.int .u32 (x : Int)] 35)).drew).ownsRow W.heap.size 35 1 (.slice (some ⟨W.heap.size, 0, none⟩) 0 N1) 0 []) := (World.ownsRow_made W X N1 (Nat.le_refl _) (by unfold maxLen; omega) hXs).alloc _
    have ho3 := World.ownsRow_made (base := W.heap.size) (W.alloc (.cells #[.int .u32 (x : Int)] 35)) X N1 (e := 35) (size := 1) (by rw [hz1]; exact Nat.le_succ _) (by unfold maxLen; omega) hXs
    rw [hz1] at ho3
    have HO3 : Hid ((((W.alloc (.cells #[.int .u32 (x : Int)] 35)).alloc (.cells X 35)).drew).ownsRow W.heap.size 35 1 (.slice (some ⟨W.heap.size + 1, 0, none⟩) 0 N1) 0 []) := ho3
    have HBX2 : Hid (∀ w4, (((W.alloc (.cells X 35)).alloc (.cells #[.int .u32 (x : Int)] 35)).drew).grownBy w4 (Value.slice (some ⟨W.heap.size, 0, none⟩) 0 N1).ownBlock → w4.heap[W.heap.size + 1]? = some (.cells #[.int .u32 (x : Int)] 35 (0, 0))) := fun w4 hg => by
      have h0 := World.alloc_heap_new (W.alloc (.cells X 35)) (.cells #[.int .u32 (x : Int)] 35)
      rw [hz2] at h0
      refine (hg.block _ (Array.getElem?_eq_some_iff.1 (show (((W.alloc (.cells X 35)).alloc (.cells #[.int .u32 (x : Int)] 35)).drew).heap[W.heap.size + 1]? = _ from h0)).1 (fun e => ?_)).trans h0
      simp [Value.ownBlock] at e
    have HBX3 : Hid (∀ w4, (((W.alloc (.cells #[.int .u32 (x : Int)] 35)).alloc (.cells X 35)).drew).grownBy w4 (Value.slice (some ⟨W.heap.size + 1, 0, none⟩) 0 N1).ownBlock → w4.heap[W.heap.size]? = some (.cells #[.int .u32 (x : Int)] 35 (0, 0))) := fun w4 hg => by
      have h0 : ((W.alloc (.cells #[.int .u32 (x : Int)] 35)).alloc (.cells X 35)).heap[W.heap.size]? = some (.cells #[.int .u32 (x : Int)] 35 (0, 0)) := (Below.heap_alloc _ _ _ (by rw [hz1]; omega)).trans (World.alloc_heap_new W _)
      refine (hg.block _ (Array.getElem?_eq_some_iff.1 (show (((W.alloc (.cells #[.int .u32 (x : Int)] 35)).alloc (.cells X 35)).drew).heap[W.heap.size]? = _ from h0)).1 (fun e => ?_)).trans h0
      simp [Value.ownBlock] at e
    obtain ⟨s0, s1, s2, s3⟩ := HCELL.out W (Below.refl _ _)
    obtain ⟨r0, r1, r2, r3⟩ := HCELL.out _ (below_new W (.cells X 35))
    obtain ⟨q0, q1, q2, q3⟩ := HCELL.out _ (below_new W (.cells #[.int .u32 (x : Int)] 35))
    obtain ⟨p0, p1, p2, p3⟩ := HCELL.out ((W.alloc (.cells X 35)).alloc (.cells #[.int .u32 (x : Int)] 35)) (below_al (below_new W _) _ (by simp))
    obtain ⟨o0, o1, o2, o3⟩ := HCELL.out ((W.alloc (.cells #[.int .u32 (x : Int)] 35)).alloc (.cells X 35)) (below_al (below_new W _) _ (by simp))
    have HS1 := Lib.hid hs1
    have HS2 := Lib.hid hs2
    have HS3 := Lib.hid hs3
    have HWS := Lib.hid hWs
    have HPP := Lib.hid hpp
    clear hs1 hs2 hs3 hz1 hz2 ho3 hXs hk1 hk2 hx hx32 hN1 hWs hpp
    go_cut [] (fun wx => ∃ v5, Hid (QAt wx p ⟨R.cp, R.tick, R.dats ++ [x], R.cps⟩ v5 (.slice (some ⟨bC, oC, none⟩) K2 cap2)) ∧ Hid (Nums wx v5 (R.dats ++ [x])) ∧ Hid (Below p w3 wx))
    case first =>
      go_region_law (first
        | (refine step_append_nums rfl (.tmp 42) (.tmp 44) rfl rfl W.heap.size (.slice (some ⟨W.heap.size, 0, none⟩) 0 N1) 0 [] rfl HO1.out _ R.dats rfl (HM1.out.below HS1.out) (by have := KD.out; omega) HS1.out.size ?_; intro v4 w4 hown4 hgrow4; rw [Nat.zero_add, List.nil_append, KD.out] at hown4; have hb4 : Below W.heap.size W w4 := HS1.out.grown hgrow4 HS1.out.size (fun r e => by (have e2 : W.heap.size = r := by simpa [Value.ownBlock] using e); omega); obtain ⟨y0, y1, y2, y3⟩ := HCELL.out _ hb4; obtain ⟨x0, x1, x2, x3⟩ := HCELL.out _ (below_al hb4 (.cells #[.int .u32 (x : Int)] 35) hb4.size); have HO4 := Lib.hid hown4; have HB4 := Lib.hid hb4; clear hown4 hgrow4 hb4)
        | (refine step_append_nums rfl (.tmp 42) (.tmp 44) rfl rfl W.heap.size (.slice (some ⟨W.heap.size, 0, none⟩) 0 N1) 0 [] rfl HO2.out _ R.dats rfl (HM1.out.below HS2.out) (by have := KD.out; omega) HS2.out.size ?_; intro v4 w4 hown4 hgrow4; rw [Nat.zero_add, List.nil_append, KD.out] at hown4; have hb4 : Below W.heap.size W w4 := HS2.out.grown hgrow4 HS2.out.size (fun r e => by (have e2 : W.heap.size = r := by simpa [Value.ownBlock] using e); omega); have HC4 : Hid (Nums w4 (.slice (some ⟨W.heap.size + 1, 0, none⟩) 1 1) [x]) := nums_one (HBX2.out w4 hgrow4); obtain ⟨y0, y1, y2, y3⟩ := HCELL.out _ hb4; obtain ⟨x0, x1, x2, x3⟩ := HCELL.out _ (below_al hb4 (.cells #[.int .u32 (x : Int)] 35) hb4.size); have HO4 := Lib.hid hown4; have HB4 := Lib.hid hb4; clear hown4 hgrow4 hb4)
        | (refine step_append_nums rfl (.tmp 42) (.tmp 44) rfl rfl W.heap.size (.slice (some ⟨W.heap.size + 1, 0, none⟩) 0 N1) 0 [] rfl HO3.out _ R.dats rfl (HM1.out.below HS3.out) (by have := KD.out; omega) HS3.out.size ?_; intro v4 w4 hown4 hgrow4; rw [Nat.zero_add, List.nil_append, KD.out] at hown4; have hb4 : Below W.heap.size W w4 := HS3.out.grown hgrow4 HS3.out.size (fun r e => by (have e2 : W.heap.size + 1 = r := by simpa [Value.ownBlock] using e); omega); have HC4 : Hid (Nums w4 (.slice (some ⟨W.heap.size, 0, none⟩) 1 1) [x]) := nums_one (HBX3.out w4 hgrow4); obtain ⟨y0, y1, y2, y3⟩ := HCELL.out _ hb4; obtain ⟨x0, x1, x2, x3⟩ := HCELL.out _ (below_al hb4 (.cells #[.int .u32 (x : Int)] 35) hb4.size); have HO4 := Lib.hid hown4; have HB4 := Lib.hid hb4; clear hown4 hgrow4 hb4)
        | (refine step_append_nums rfl (.tmp 45) (.tmp 50) rfl rfl W.heap.size v4 K1 _ rfl (HO4.out.alloc _) _ [x] rfl (nums_one (World.alloc_heap_new w4 _)) (by (show K1 + 1 ≤ 100000); omega) (by (have := HB4.out.size); simp; omega) ?_; intro v5 w5 hown5 hgrow5; obtain ⟨g5, c5, rfl⟩ := ownsRow_succ (k := K1) hown5; have hb5 : Below W.heap.size W w5 := (below_al HB4.out (.cells #[.int .u32 (x : Int)] 35) HB4.out.size).grown hgrow5 (below_al HB4.out (.cells #[.int .u32 (x : Int)] 35) HB4.out.size).size (fun g e => (HO4.out.lt g e).1); have q5 := HQ4.out.th hb5; obtain ⟨e0, e1, e2, e3⟩ := q5.c; have ff5 := q5.f 2; have HFI := Lib.hid (doubles_fin q5 hown5 KD.out HWS.out HB3W.out hb5); clear hown5 hgrow5 hb5 q5)
        | (refine step_append_nums rfl (.tmp 45) (.tmp 50) rfl rfl W.heap.size v4 K1 _ rfl HO4.out _ [x] rfl HC4.out (by (show K1 + 1 ≤ 100000); omega) HB4.out.size ?_; intro v5 w5 hown5 hgrow5; obtain ⟨g5, c5, rfl⟩ := ownsRow_succ (k := K1) hown5; have hb5 : Below W.heap.size W w5 := (HB4.out).grown hgrow5 (HB4.out).size (fun g e => (HO4.out.lt g e).1); have q5 := HQ4.out.th hb5; obtain ⟨e0, e1, e2, e3⟩ := q5.c; have ff5 := q5.f 2; have HFI := Lib.hid (doubles_fin q5 hown5 KD.out HWS.out HB3W.out hb5); clear hown5 hgrow5 hb5 q5))
      all_goals
        go_wp2_with fail
        go_meet
        exact ⟨_, HFI.out.1, HFI.out.2.1, HFI.out.2.2⟩
    case rest =>
      obtain ⟨v5, HT4, HT5, HTB⟩ := hcut
      obtain ⟨a5, c5, ev5, _, _⟩ := HT5.out.parts
      rw [List.length_append, KD.out] at ev5
      obtain rfl : v5 = .slice a5 (K1 + 1) c5 := ev5
      have HPC : Hid (Below w3.heap.size w3 wc) := by
        show Below w3.heap.size w3 wc
        rw [HPP.out]
        exact HTB.out
      have HQC := Lib.hid (HQW.out.th HPC.out)
      have HM1C := Lib.hid (HN1.out.below HPC.out)
      have HM2C := Lib.hid (HN2.out.below HPC.out)
      have HBC := Lib.hid (below_th HBW3.out HPC.out)
      clear s0 s1 s2 s3 r0 r1 r2 r3 q0 q1 q2 q3 p0 p1 p2 p3 o0 o1 o2 o3 HO1 HO2 HO3 HS1 HS2 HS3 HBX2 HBX3 HCELL HQW HQ4 HQ3 HM1 HM2 HB3W HBW3 HN1 HN2 hmk wN HWS HRT
      obtain ⟨z0, z1, z2, z3⟩ := HQC.out.c
      have hbn := below_new wc (boxQ R (.slice (some ⟨bA, oA, none⟩) K1 cap1) (.slice (some ⟨bC, oC, none⟩) K2 cap2))
      have hqn := HQC.out.th hbn
      have hnn := QAt.new wc R (.slice (some ⟨bA, oA, none⟩) K1 cap1) (.slice (some ⟨bC, oC, none⟩) K2 cap2)
      unfold boxQ at hbn hqn hnn
      obtain ⟨y0, y1, y2, y3⟩ := hqn.c
      have ffn := hnn.f 2
      have k1 : (1 : Int) ≤ (K1 : Int) := by omega
      have k2 : (K1 : Int) ≤ (cap1 : Int) := by omega
      have k3 : 1 ≤ K1 := by omega
      have k4 : K1 ≤ cap1 := by omega
      clear hbn hqn hnn
      go_upto_region 12 with fail
      have hTL := HM1C.out.tail KD.out (by omega)
      obtain ⟨aT, haT⟩ : ∃ aT, (if cap1 = 1 then some (⟨bA, oA, none⟩ : Addr) else some ⟨bA, oA + 1, none⟩) = aT := ⟨_, rfl⟩
      rw [haT] at hTL
      simp only [haT]
      clear haT z0 z1 z2 z3 y0 y1 y2 y3 ffn
      obtain ⟨n, hnn⟩ : ∃ n, wc.heap.size = n := ⟨_, rfl⟩
      have hbn := below_new wc (boxQ ⟨R.cp, R.tick, R.dats.tail, R.cps⟩ (.slice aT (K1 - 1) (cap1 - 1)) (.slice (some ⟨bC, oC, none⟩) K2 cap2))
      have hqn := QAt.new wc ⟨R.cp, R.tick, R.dats.tail, R.cps⟩ (.slice aT (K1 - 1) (cap1 - 1)) (.slice (some ⟨bC, oC, none⟩) K2 cap2)
      unfold boxQ at hbn hqn
      dsimp only at hbn hqn
      obtain ⟨wd, hwd⟩ : ∃ wd, wc.alloc (.cells #[.int .u64 (R.cp : Int), .int .u64 (R.tick : Int), .slice aT (K1 - 1) (cap1 - 1), .slice (some ⟨bC, oC, none⟩) K2 cap2] 25) = wd := ⟨_, rfl⟩
      rw [hwd] at hbn hqn ⊢
      rw [hnn] at hqn
      try simp only [hnn]
      have HF : Hid (∀ W', Below wd.heap.size wd W' → (W'.cell? ⟨p, 0, none⟩ = some (.int .u64 (R.cp : Int)) ∧ W'.cell? ⟨p, 1, none⟩ = some (.int .u64 (R.tick : Int)) ∧ W'.cell? ⟨p, 2, none⟩ = some (.slice a5 (K1 + 1) c5) ∧ W'.cell? ⟨p, 3, none⟩ = some (.slice (some ⟨bC, oC, none⟩) K2 cap2)) ∧
          (W'.cell? ⟨n, 0, none⟩ = some (.int .u64 (R.cp : Int)) ∧ W'.cell? ⟨n, 1, none⟩ = some (.int .u64 (R.tick : Int)) ∧ W'.cell? ⟨n, 2, none⟩ = some (.slice aT (K1 - 1) (cap1 - 1)) ∧ W'.cell? ⟨n, 3, none⟩ = some (.slice (some ⟨bC, oC, none⟩) K2 cap2)) ∧ W'.cell? ⟨q, 2, none⟩ = some (.slice (some ⟨bA, oA, none⟩) K1 cap1)) := fun W' hW' => ⟨((HT4.out.th hbn).th hW').c, (hqn.th hW').c, ((HQC.out.th hbn).th hW').c.2.2.1⟩
      have HNM : Hid (∀ W', Below wd.heap.size wd W' → Nums W' (.slice a5 (K1 + 1) c5) (R.dats ++ [x]) ∧ Nums W' (.slice aT (K1 - 1) (cap1 - 1)) R.dats.tail ∧ Nums W' (.slice (some ⟨bC, oC, none⟩) K2 cap2) R.cps) := fun W' hW' => ⟨(HT5.out.below hbn).below hW', (hTL.below hbn).below hW', (HM2C.out.below hbn).below hW'⟩
      have hx0 : R.cps[0]? = some x := by
        have h0 := HRP.out.1.2.2.2.2.1
        rw [nu_get (by omega), HX.out]
      have r1 : rightB ⟨R.cp, R.tick, R.dats ++ [x], R.cps⟩ = false := decide_eq_false (twice_not hx0)
      have r2 : rightB ⟨R.cp, R.tick, R.dats.tail, R.cps⟩ = decide (1 < R.dats.length) := decide_eq_decide.2 (less_iff HRP.out)
      rw [KD.out] at r2
      have ht1 := fun W' h1 h2 => right_any ⟨R.cp, R.tick, R.dats ++ [x], R.cps⟩ (.slice a5 (K1 + 1) c5) (.slice (some ⟨bC, oC, none⟩) K2 cap2) W' h1 h2 ⟨ho.1, ho.2, (fun y hy => by
        rcases List.mem_append.1 hy with h | h
        · exact ho.3 y h
        · obtain rfl : y = x := by simpa using h
          rw [← HX.out]; exact nu_lt ho.4 0), ho.4⟩
      have ht2 := fun W' h1 h2 => right_any ⟨R.cp, R.tick, R.dats.tail, R.cps⟩ (.slice aT (K1 - 1) (cap1 - 1)) (.slice (some ⟨bC, oC, none⟩) K2 cap2) W' h1 h2 ⟨ho.1, ho.2, fun y hy => ho.3 y (List.mem_of_mem_tail hy), ho.4⟩
      simp only [r1] at ht1
      simp only [r2] at ht2
      unfold Q.val Ans at ht1 ht2
      have HT1 := Lib.hid ht1
      have HBD : Hid (Below w.heap.size w wd) := below_th HBC.out hbn
      obtain ⟨⟨s0, s1, s2, s3⟩, ⟨s4, s5, s6, s7⟩, s8⟩ := HF.out wd (Below.refl _ _)
      have hD1 : Below wd.heap.size wd wd.drew := (Below.refl _ _).drew
      clear ht1 r1 r2 hx0 hbn hqn hTL hwd HT4 HT5 HTB HPC HQC HM1C HM2C HBC hnn HX HPP HRP k1 k2 k3 k4
      by_cases h1K : 1 < K1
      · have g1 : decide ((1 : Int) < (K1 : Int)) = true := decide_eq_true (by omega)
        simp only [decide_eq_true h1K] at ht2
        have HT2 := Lib.hid ht2
        clear ht2 h1K
        go_region_held3 (fun W' => (W'.cell? ⟨p, 0, none⟩ = some (.int .u64 (R.cp : Int)) ∧ W'.cell? ⟨p, 1, none⟩ = some (.int .u64 (R.tick : Int)) ∧ W'.cell? ⟨p, 2, none⟩ = some (.slice a5 (K1 + 1) c5) ∧ W'.cell? ⟨p, 3, none⟩ = some (.slice (some ⟨bC, oC, none⟩) K2 cap2)) ∧
          (W'.cell? ⟨n, 0, none⟩ = some (.int .u64 (R.cp : Int)) ∧ W'.cell? ⟨n, 1, none⟩ = some (.int .u64 (R.tick : Int)) ∧ W'.cell? ⟨n, 2, none⟩ = some (.slice aT (K1 - 1) (cap1 - 1)) ∧ W'.cell? ⟨n, 3, none⟩ = some (.slice (some ⟨bC, oC, none⟩) K2 cap2)) ∧ W'.cell? ⟨q, 2, none⟩ = some (.slice (some ⟨bA, oA, none⟩) K1 cap1)) (first | exact HF.out _ hD1 | exact HF.out _ (by assumption)) (first
          | (go_at_call 13; (with_reducible refine Calls.mono (HT1.out _ (HNM.out _ hD1).1 (HNM.out _ hD1).2.2) ?_); rintro e x1 ⟨rfl, hBn⟩; have hx1 := below_th hD1 hBn)
          | (go_at_call 13; (with_reducible refine Calls.mono (HT2.out _ (HNM.out _ hx1).2.1 (HNM.out _ hx1).2.2) ?_); rintro e x2 ⟨rfl, hBm⟩; have hx2 := below_th hx1 hBm))
        go_wp2
        go_ret
        exact ⟨rfl, below_th HBD.out (by assumption)⟩
      · have g1 : decide ((1 : Int) < (K1 : Int)) = false := decide_eq_false (by omega)
        simp only [decide_eq_false h1K] at ht2
        have HT2 := Lib.hid ht2
        clear ht2 h1K
        go_region_held3 (fun W' => (W'.cell? ⟨p, 0, none⟩ = some (.int .u64 (R.cp : Int)) ∧ W'.cell? ⟨p, 1, none⟩ = some (.int .u64 (R.tick : Int)) ∧ W'.cell? ⟨p, 2, none⟩ = some (.slice a5 (K1 + 1) c5) ∧ W'.cell? ⟨p, 3, none⟩ = some (.slice (some ⟨bC, oC, none⟩) K2 cap2)) ∧
          (W'.cell? ⟨n, 0, none⟩ = some (.int .u64 (R.cp : Int)) ∧ W'.cell? ⟨n, 1, none⟩ = some (.int .u64 (R.tick : Int)) ∧ W'.cell? ⟨n, 2, none⟩ = some (.slice aT (K1 - 1) (cap1 - 1)) ∧ W'.cell? ⟨n, 3, none⟩ = some (.slice (some ⟨bC, oC, none⟩) K2 cap2)) ∧ W'.cell? ⟨q, 2, none⟩ = some (.slice (some ⟨bA, oA, none⟩) K1 cap1)) (first | exact HF.out _ hD1 | exact HF.out _ (by assumption)) (first
          | (go_at_call 13; (with_reducible refine Calls.mono (HT1.out _ (HNM.out _ hD1).1 (HNM.out _ hD1).2.2) ?_); rintro e x1 ⟨rfl, hBn⟩; have hx1 := below_th hD1 hBn)
          | (go_at_call 13; (with_reducible refine Calls.mono (HT2.out _ (HNM.out _ hx1).2.1 (HNM.out _ hx1).2.2) ?_); rintro e x2 ⟨rfl, hBm⟩; have hx2 := below_th hx1 hBm))
        go_wp2
        go_ret
        exact ⟨rfl, below_th HBD.out (by assumption)⟩
theorem RootDoubles_walk (r : Q) (d c : Value) (w : World) (h : Nums w d r.dats ∧ Nums w c r.cps) (ho : QOk r) : Calls Try.prog 6 #[r.val d c] w (Ans w (.bool true)) := by
  obtain ⟨h1, h2⟩ := h
  obtain ⟨a1, n1, cap1, K1, rfl, hc1, hk1, l11, l12, l13, l14, m1⟩ := h1.hundred
  obtain ⟨a2, n2, cap2, K2, rfl, hc2, hk2, l21, l22, l23, l24, m2⟩ := h2.hundred
  exact doubles_go (cutQ r) r w a1 n1 cap1 K1 a2 n2 cap2 K2 rfl hc1 hc2 (cut_ok ho) hk1 hk2 l11 l12 l13 l14 m1 l21 l22 l23 l24 m2
end
end Go.Proofs.Ytdniakoedgohkaa.Root
