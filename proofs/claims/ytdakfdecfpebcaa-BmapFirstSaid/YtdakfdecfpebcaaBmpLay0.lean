/- The document's Lay, of no depth. -/
import Derived.Test.YtdakfdecfpebcaaBmpLay
namespace Go.Proofs.Ytdakfdecfpebcaa.Bmp
open Go.RowKit Ino
attribute [local go_sem] Oper.semAt_some
set_option linter.unusedVariables false
set_option linter.unusedSimpArgs false
theorem getD_takeN {V : List Nat} {k i : Nat} : (V.take k).getD i 0 = if i < k then V.getD i 0 else 0 := by
  rw [List.getD_eq_getElem?_getD, List.getD_eq_getElem?_getD]
  by_cases h : i < k
  · rw [if_pos h, List.getElem?_take_of_lt h]
  · rw [if_neg h, List.getElem?_take_eq_none (by omega)]
    rfl
theorem six_next {V : List Nat} {k : Nat} (h : k < 6) : sixOf (V.take (k + 1)) = (sixOf (V.take k)).set k (V.getD k 0) := by
  refine M.ext' fun i hi => ?_
  rw [M.set_at _ _ _ _ hi]
  have e : ∀ (L : List Nat) i, i < 6 → (sixOf L).at' i = L.getD i 0 := fun L i hi => by
    match i, hi with
    | 0, _ => rfl
    | 1, _ => rfl
    | 2, _ => rfl
    | 3, _ => rfl
    | 4, _ => rfl
    | 5, _ => rfl
  rw [e _ _ hi, e _ _ hi, getD_takeN, getD_takeN]
  by_cases h1 : k = i
  · subst h1
    rw [if_pos rfl, if_pos (by omega)]
  · rw [if_neg h1]
    by_cases h2 : i < k
    · rw [if_pos (by omega), if_pos h2]
    · rw [if_neg (by omega), if_neg h2]
namespace R
section
set_option maxRecDepth 100000
set_option maxHeartbeats 4000000
theorem lay_zero (s : Nat) (v1 v2 : Value) (V I : List Nat) (w : World) (h : s < 4294967296) (hV : U32s w v1 V) (hI : U32s w v2 I) (hok : layP s V I) (hd : dpN s = 0) :
    Calls Try.prog 16 #[.int .u32 s, v1, v2] w (LayPost s V I w) := by
  have HY := Lib.hid (fun v w' (hv : Strs w' v (blocksOf s V I)) (hB : Below w.heap.size w w') => lay_yes (w := w) hok hv hB)
  obtain ⟨o1, o2, o3, o4⟩ := hok
  obtain ⟨a1, c1, rfl, hca, hcb⟩ := hV.parts
  obtain ⟨a2, c2, rfl, hcc, hcd⟩ := hI.parts
  have hBl := Lib.hid (fun W => Ino.R.blocks_any s W h)
  have hDp := Lib.hid (fun W => Ino.R.depth_any s W h)
  have hC := Lib.hid (fun W => count_any s W h)
  have HZ : Hid (∀ k, k < I.length → ¬ I.getD k 0 = 0) := fun k hk => by
    rw [List.getD_eq_getElem?_getD, List.getElem?_eq_getElem hk]
    exact o4 _ (List.getElem_mem hk)
  have g1 : ¬ (8193532 : Int) < (s : Int) := by omega
  obtain ⟨W0, rfl⟩ : ∃ W0 : World, W0 = w := ⟨_, rfl⟩
  have HI := Lib.hid (fun W (hB : Below W0.heap.size W0 W) k (hk : k < I.length) => (hI.below hB).get (k := k) hk)
  have HV := Lib.hid (fun W (hB : Below W0.heap.size W0 W) k (hk : k < V.length) => (hV.below hB).get (k := k) hk)
  have hbo : blocksOf s V I = [] := if_pos hd
  have hmo : mapOf s V I = sixOf V := if_pos hd
  have hn6 : V.length ≤ 6 := by rw [o2]; exact dp_none hd
  have HVT : Hid (sixOf (V.take V.length) = sixOf V) := by unfold Hid; rw [List.take_length]
  rw [hbo] at HY
  rw [hmo] at HY
  rw [hd] at hDp
  have HFIN := Lib.hid (fun w' (hB : Below W0.heap.size W0 w') => HY.out _ w' (Strs.nil w') hB)
  obtain ⟨R, hR⟩ : ∃ R, LayPost s V I W0 = R := ⟨_, rfl⟩
  rw [hR] at HFIN ⊢
  clear hV hI hR HY hbo hmo hd
  obtain ⟨ni, hni⟩ : ∃ ni, I.length = ni := ⟨_, rfl⟩
  rw [hni] at HI HZ o3 hcc ⊢
  rw [← o3] at hC
  rw [← o2] at hBl
  obtain ⟨b, hb⟩ : ∃ b, V.length = b := ⟨_, rfl⟩
  rw [hb] at HV hBl hca hn6 HVT ⊢
  clear o1 o2 o3 o4 hni h hb
  have g2 : ((b : Int) != (b : Int)) = false := by simp
  have g3 : ((ni : Int) != (ni : Int)) = false := by simp
  have hZ1 := (zM_new W0).th (below_new _ boxZM)
  have hZ2 := zM_new (W0.alloc boxZM)
  have HB := Lib.hid (below_al (below_new W0 boxZM) boxZM)
  rw [World.size_alloc] at hZ2
  obtain ⟨x0, x1, x2, x3, x4, x5⟩ := zM_c hZ1
  obtain ⟨y0, y1, y2, y3, y4, y5⟩ := zM_c hZ2
  unfold boxZM at x0 x1 x2 x3 x4 x5 y0 y1 y2 y3 y4 y5 HB
  clear hZ1 hZ2
  go_enter Try.func16, Try.ntmps16
  go_wp2_with (first
    | (go_at_call 24; (with_reducible refine Calls.mono (hBl.out _) ?_); rintro e w1 ⟨rfl, hw⟩; rw [← hw]; clear hw w1)
    | (go_at_call 13; (with_reducible refine Calls.mono (hC.out _) ?_); rintro e w1 ⟨rfl, hw⟩; rw [← hw]; clear hw w1))
  go_loop [10] (fun i => ∃ k : Nat, i = .int .i64 (k : Int) ∧ k ≤ ni) (fun i => ni - (intOf i).toNat)
  case atStart => exact ⟨0, rfl, by omega⟩
  case round =>
    obtain ⟨k, rfl, hk⟩ := hrel
    by_cases hlt : k < ni
    · obtain ⟨bb, off, e1, c1⟩ := HI.out _ HB.out k hlt
      subst e1
      have hx := HZ.out k hlt
      have q0 : (((I.getD k 0 : Nat) : Int) == 0) = false := beq_eq_false_iff_ne.2 (by omega)
      have q00 : (I.getD k 0 == 0) = false := beq_eq_false_iff_ne.2 hx
      clear hx
      generalize I.getD k 0 = x at c1 q0 q00
      go_wp2
      go_round
      case rel => exact ⟨k + 1, by go_num, by omega⟩
      case measure => simp [intOf]; omega
    · obtain rfl : k = ni := by omega
      have hA0 := (((zM_new W0).th (below_new _ boxZM)).th (below_new _ boxZM))
      have hA2 := zM_new ((W0.alloc boxZM).alloc boxZM)
      have hB2 := below_al (below_al (below_new W0 boxZM) boxZM) boxZM
      simp only [World.size_alloc] at hA2
      unfold boxZM at hA2 hB2 hA0
      have HA := Lib.hid (And.intro hA0 (And.intro hA2 hB2))
      clear hA0 hA2 hB2
      go_wp2_with (go_at_call 25; (with_reducible refine Calls.mono (hDp.out _) ?_); rintro e w1 ⟨rfl, hw⟩; rw [← hw]; clear hw w1)
      go_loopw [13] (fun i wr => ∃ k : Nat, k ≤ b ∧ i = .int .i64 (k : Int) ∧ Hid (AtM wr (W0.heap.size + 1 + 1) (sixOf (V.take k))) ∧ Hid (AtM wr W0.heap.size M.zero) ∧ Hid (Below W0.heap.size W0 wr)) (fun i _ => b - (intOf i).toNat)
      case atStart => exact ⟨0, by omega, rfl, HA.out.2.1, HA.out.1, HA.out.2.2⟩
      case round =>
        obtain ⟨k, hk, rfl, HM, HR0, HBk⟩ := hrel
        by_cases hlt : k < b
        · obtain ⟨bb, off, e1, c1⟩ := HV.out _ HBk.out k hlt
          subst e1
          have hk6 : k < 6 := by omega
          have hcx := HM.out.cell hk6
          have hfx := HM.out.f k
          obtain ⟨hM2, hB2⟩ := HM.out.put hk6 (V.getD k 0)
          rw [← six_next hk6] at hM2
          have hR2 := HR0.out.of_heap (W' := wr.setCell ⟨W0.heap.size + 1 + 1, k, none⟩ (.int .u32 ((V.getD k 0 : Nat) : Int))) (Below.heap_setCell _ _ _ _ (by show W0.heap.size ≠ W0.heap.size + 1 + 1; omega))
          have HM2 := Lib.hid hM2
          have HR2 := Lib.hid hR2
          have HBB := Lib.hid (HBk.out.trans (hB2.mono (by omega)))
          clear hM2 hR2 hB2
          generalize V.getD k 0 = x at c1 HM2 HR2 HBB
          have hki : (k : Int) < 6 := by omega
          go_wp2
          go_roundw
          case rel => exact ⟨k + 1, by omega, by go_num, HM2.out, HR2.out, HBB.out⟩
          case measure => simp [intOf]; omega
        · obtain rfl : k = b := by omega
          have hM := HM.out
          rw [HVT.out] at hM
          obtain ⟨z0, z1, z2, z3, z4, z5⟩ := hM.c
          obtain ⟨r0, r1, r2, r3, r4, r5⟩ := zM_c HR0.out
          have f0 := HR0.out.f 0
          have f1 := HR0.out.f 1
          have f2 := HR0.out.f 2
          have f3 := HR0.out.f 3
          have f4 := HR0.out.f 4
          have f5 := HR0.out.f 5
          obtain ⟨hP, hBP⟩ := put6M HR0.out (sixOf V)
          have HP := Lib.hid hP
          have HBP := Lib.hid (HBk.out.trans hBP)
          generalize sixOf V = X at z0 z1 z2 z3 z4 z5 HP HBP HFIN
          obtain ⟨X0, X1, X2, X3, X4, X5⟩ := X
          dsimp only at z0 z1 z2 z3 z4 z5 HP HBP
          clear hM hP hBP
          go_wp2
          refine bodyPost_ret (results_lay rfl _ _ rfl HP.out) rfl ?_
          exact HFIN.out _ HBP.out
end
end R
end Go.Proofs.Ytdakfdecfpebcaa.Bmp
