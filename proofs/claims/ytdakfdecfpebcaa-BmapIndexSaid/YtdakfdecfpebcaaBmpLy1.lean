/- The program's Lay of no depth: what is copied into the inode's map. -/
import Derived.Test.YtdakfdecfpebcaaBagRow
import Derived.Test.YtdakfdecfpebcaaBmpLy0
namespace Go.Proofs.Ytdakfdecfpebcaa.Bmp
open Go.RowKit Ino
attribute [local go_sem] Oper.semAt_some
set_option linter.unusedVariables false
set_option linter.unusedSimpArgs false
theorem infoU : (Try.prog.info? 22).map (·.size) = some 1 := by kernel_rfl
theorem splice_six : ∀ V : List Nat, V.length ≤ 6 → splice (List.replicate 6 (Value.int .u32 0)) 0 (V.map fun (n : Nat) => Value.int .u32 (n : Int)) = [Value.int .u32 ((sixOf V).a : Nat), .int .u32 ((sixOf V).b : Nat), .int .u32 ((sixOf V).c : Nat), .int .u32 ((sixOf V).d : Nat), .int .u32 ((sixOf V).e : Nat), .int .u32 ((sixOf V).f : Nat)]
  | [], _ => rfl
  | [_], _ => rfl
  | [_, _], _ => rfl
  | [_, _, _], _ => rfl
  | [_, _, _, _], _ => rfl
  | [_, _, _, _, _], _ => rfl
  | [_, _, _, _, _, _], _ => rfl
  | _ :: _ :: _ :: _ :: _ :: _ :: _ :: _, h => by simp at h
theorem copy_six {W : World} {b : Nat} {v : Value} {V : List Nat} (hM : AtM W b M.zero) (hV : U32s W v V) (h6 : V.length ≤ 6) (ty : TypeId) : ∃ W', (Builtin.copy_ #[31, 31] ty #[.slice (some ⟨b, 0, none⟩) 6 6, v]).run Try.prog W = .ok (goInt V.length) W' ∧ AtM W' b (sixOf V) ∧ Only (fun i => i = b) W W' := by
  obtain ⟨a, cap, rfl, h1, h2⟩ := hV.parts
  obtain ⟨i0, hi, hs⟩ := Option.map_eq_some_iff.1 infoU
  by_cases h0 : V.length = 0
  · have e : V = [] := List.eq_nil_of_length_eq_zero h0
    subst e
    exact ⟨W, run_copy_none (P := Try.prog) W _ _ ty 22 _ a 6 6 0 cap Try.underlying31 infoU rfl, hM, Only.refl _ _⟩
  · obtain ⟨bb, off, rfl, _⟩ := hV.get (k := 0) (by omega)
    have hr := run_copyR (P := Try.prog) W 31 31 ty 22 i0 1 Try.underlying31 hi hs b 0 6 6 ⟨bb, off, none⟩ V.length cap (List.replicate 6 (Value.int .u32 0)) 32 (V.map fun (n : Nat) => Value.int .u32 (n : Int)) hM (by rw [List.length_map]; show _ = min _ 6 * 1; omega) (fun j u hj => by
      have hl := (List.getElem?_eq_some_iff.1 hj).1
      rw [List.length_map] at hl
      obtain ⟨b2, o2, e, hc⟩ := hV.get (k := j) hl
      cases e
      rw [add_plain]
      rw [hc]
      rw [List.getElem?_map, List.getElem?_eq_getElem hl] at hj
      rw [List.getD_eq_getElem?_getD, List.getElem?_eq_getElem hl]
      exact hj) (by rw [List.length_map, List.length_replicate]; omega) (fun u hu => by obtain ⟨x, _, rfl⟩ := List.mem_map.1 hu; rfl)
    rw [show Nat.min V.length 6 = V.length from Nat.min_eq_left h6] at hr
    refine ⟨_, hr, ?_, (Only.refl (fun i => i = b) W).grown (grown_setRow W b _) (fun r e => by cases e; exact .inr rfl)⟩
    rw [splice_six V h6]
    exact setRow_heap W b _ _ 32 (0, 0) hM
section
set_option maxRecDepth 100000
set_option maxHeartbeats 4000000
theorem plain_zero (s : Nat) (v1 v2 : Value) (V I : List Nat) (w : World) (h : s < 4294967296) (hV : U32s w v1 V) (hI : U32s w v2 I) (hok : layP s V I) (hd : dpN s = 0) :
    Calls Try.prog 15 #[.int .u32 s, v1, v2] w (LayPost s V I w) := by
  have HY := Lib.hid (fun v w' (hv : Strs w' v (blocksOf s V I)) (hB : Below w.heap.size w w') => lay_yes (w := w) hok hv hB)
  have HH := Lib.hid (fun W (hB : Below w.heap.size w W) => has_any v2 I W (hI.below hB))
  obtain ⟨o1, o2, o3, o4⟩ := hok
  rw [decide_eq_false (fun hm => o4 _ hm rfl)] at HH
  have hi0 : I.length = 0 := by rw [o3, cnt_def o1, if_neg (by omega), hd]
  have hc0 : cntN s = 0 := by rw [← o3]; exact hi0
  have hn6 : V.length ≤ 6 := by rw [o2]; exact dp_none hd
  have hbo : blocksOf s V I = [] := if_pos hd
  have hmo : mapOf s V I = sixOf V := if_pos hd
  have HCP := Lib.hid (fun W b ty (hM : AtM W b M.zero) (hB : Below w.heap.size w W) => copy_six hM (hV.below hB) hn6 ty)
  obtain ⟨a1, c1, rfl, hca, hcb⟩ := hV.parts
  obtain ⟨a2, c2, rfl, hcc, hcd⟩ := hI.parts
  have hBl := Lib.hid (fun W => Ino.blocks_any s W h)
  have hC := Lib.hid (fun W => count_eq s W h)
  rw [hc0, show ((0 : Nat) : Int) = 0 from rfl] at hC
  rw [hbo, hmo] at HY
  rw [← o2] at hBl
  rw [hi0] at HH ⊢
  have g1 : ¬ (8193532 : Int) < (s : Int) := by omega
  obtain ⟨W0, rfl⟩ : ∃ W0 : World, W0 = w := ⟨_, rfl⟩
  have HFIN := Lib.hid (fun w' (hB : Below W0.heap.size W0 w') => HY.out _ w' (Strs.nil w') hB)
  obtain ⟨R, hR⟩ : ∃ R, LayPost s V I W0 = R := ⟨_, rfl⟩
  rw [hR] at HFIN ⊢
  clear hV hI hR HY hbo hmo hd o1 o3 o4 hc0 hi0
  obtain ⟨X, hX⟩ : ∃ X, sixOf V = X := ⟨_, rfl⟩
  simp only [hX] at HFIN HCP
  obtain ⟨nv, hnv⟩ : ∃ nv, V.length = nv := ⟨_, rfl⟩
  rw [hnv] at HCP hBl hca hn6 ⊢
  have g2 : ((nv : Int) != (nv : Int)) = false := by simp
  have hZ1 := (zM_new W0).th (below_new _ boxZM)
  have hZ2 := zM_new (W0.alloc boxZM)
  have HB := Lib.hid (below_al (below_new W0 boxZM) boxZM)
  rw [World.size_alloc] at hZ2
  obtain ⟨x0, x1, x2, x3, x4, x5⟩ := zM_c hZ1
  obtain ⟨y0, y1, y2, y3, y4, y5⟩ := zM_c hZ2
  have HZ1 := Lib.hid hZ1
  have HZ2 := Lib.hid hZ2
  unfold boxZM at x0 x1 x2 x3 x4 x5 y0 y1 y2 y3 y4 y5 HZ1 HZ2 HB
  clear hZ1 hZ2 hX hnv o2 h
  obtain ⟨XA, XB, XC, XD, XE, XF⟩ := X
  go_enter Try.func15, Try.ntmps15
  go_wp2_with (first
    | (go_at_call 22; (with_reducible refine Calls.mono (hBl.out _) ?_); rintro e w1 ⟨rfl, hw⟩; rw [← hw]; clear hw w1)
    | (go_at_call 12; (with_reducible refine Calls.mono (hC.out _) ?_); rintro e w1 ⟨rfl, hw⟩; rw [← hw]; clear hw w1)
    | (go_at_call 27; (with_reducible refine Calls.mono (HH.out _ HB.out) ?_); rintro e w1 ⟨rfl, hw⟩; rw [hw]; clear hw w1))
  obtain ⟨W9, hcp, hM9, hO9⟩ := HCP.out _ _ 3 HZ2.out HB.out
  rw [hcp]
  simp only [Result.andThen]
  rw [Oper.upon_value]
  have hR9 : AtM W9 W0.heap.size M.zero := HZ1.out.of_heap (hO9.block _ HZ1.out.lt (by omega))
  have hB9 : Below W0.heap.size W0 W9 := HB.out.trans (hO9.below (by simp; omega) (by rintro j rfl; omega))
  obtain ⟨p0, p1, p2, p3, p4, p5⟩ := hM9.c
  obtain ⟨r0, r1, r2, r3, r4, r5⟩ := zM_c hR9
  have f0 := hR9.f 0
  have f1 := hR9.f 1
  have f2 := hR9.f 2
  have f3 := hR9.f 3
  have f4 := hR9.f 4
  have f5 := hR9.f 5
  obtain ⟨hP, hBP⟩ := put6M hR9 ⟨XA, XB, XC, XD, XE, XF⟩
  have HP := Lib.hid hP
  have HBP := Lib.hid (hB9.trans hBP)
  dsimp only at p0 p1 p2 p3 p4 p5 HP HBP
  clear hcp hM9 hO9 hR9 hB9 hP hBP x0 x1 x2 x3 x4 x5 y0 y1 y2 y3 y4 y5 HZ1 HZ2 HB HCP
  go_wp2
  refine bodyPost_ret (results_lay rfl _ _ rfl HP.out) rfl ?_
  exact HFIN.out _ HBP.out
end
end Go.Proofs.Ytdakfdecfpebcaa.Bmp
