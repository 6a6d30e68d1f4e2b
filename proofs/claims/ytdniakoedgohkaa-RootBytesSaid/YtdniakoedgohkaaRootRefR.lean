/- The document's Right. -/
import Derived.Deep.Cut
import Derived.Deep.DeepCutAuto
import Derived.Test.YtdniakoedgohkaaRootApp
namespace Go.Proofs.Ytdniakoedgohkaa.Root.R
open Go.RowKit
attribute [local go_sem] Oper.semAt_some
set_option linter.unusedVariables false
set_option linter.unusedSimpArgs false
theorem right_no {r : Q} {i x : Nat} (hx : r.all[i]? = some x) (h : ¬ inP x) : rightB r = false := decide_eq_false fun k => h (k.2.1 x (List.mem_of_getElem? hx))
theorem right_two {r : Q} {i k x : Nat} (hk : k < i) (hx : r.all[i]? = some x) (hy : r.all[k]? = some x) : rightB r = false := decide_eq_false fun h => ((right_iff r).1 h).2 i x hx |>.2 k hk x hy rfl
theorem right_all {r : Q} (hn : NumP r) (h : ∀ i, i < r.all.length → inP (nu r.all i) ∧ ∀ k, k < i → nu r.all k ≠ nu r.all i) : rightB r = true := decide_eq_true ((right_iff r).2 ⟨hn, fun i x hx => by
  have hi := (List.getElem?_eq_some_iff.1 hx).1
  obtain ⟨h1, h2⟩ := h i hi
  rw [nu_get hi] at hx
  cases hx
  refine ⟨h1, fun k hk y hy => ?_⟩
  rw [nu_get (by omega)] at hy
  cases hy
  exact h2 k hk⟩)
section
set_option maxRecDepth 100000
set_option maxHeartbeats 4000000
theorem right_any (r : Q) (d c : Value) (w : World) (h1 : Nums w d r.dats) (h2 : Nums w c r.cps) : Calls Try.prog 14 #[r.val d c] w (Ans w (.bool (rightB r))) := by
  have hA := QAt.new w r d c
  have hB := below_new w (boxQ r d c)
  have h1' := h1.below hB
  have h2' := h2.below hB
  obtain ⟨ad, cd, rfl, m1, m2⟩ := h1.parts
  obtain ⟨ac, cc, rfl, m3, m4⟩ := h2.parts
  obtain ⟨ND, hND⟩ : ∃ n, r.dats.length = n := ⟨_, rfl⟩
  obtain ⟨NC, hNC⟩ : ∃ n, r.cps.length = n := ⟨_, rfl⟩
  have HNO : Hid (¬ (1 ≤ r.cp ∧ r.cp < 281474976710656 ∧ r.tick < 281474976710656 ∧ (1 ≤ ND ∧ ND ≤ 60) ∧ 1 ≤ NC ∧ NC ≤ 12) → rightB r = false) := fun h => decide_eq_false fun k => h (by rw [← hND, ← hNC]; exact k.1)
  have HYES : Hid ((1 ≤ r.cp ∧ r.cp < 281474976710656 ∧ r.tick < 281474976710656 ∧ (1 ≤ ND ∧ ND ≤ 60) ∧ 1 ≤ NC ∧ NC ≤ 12) → NumP r) := fun h => by unfold NumP; rw [hND, hNC]; exact h
  simp only [hND, hNC] at m1 m3 hA hB h1' h2' ⊢
  have KD := Lib.hid hND
  have KC := Lib.hid hNC
  clear h1 h2 hND hNC
  obtain ⟨g0, g1, g2, g3⟩ := hA.c
  obtain ⟨W1, hW1⟩ : ∃ W1, w.alloc (boxQ r (.slice ad ND cd) (.slice ac NC cc)) = W1 := ⟨_, rfl⟩
  rw [hW1] at hA hB h1' h2' g0 g1 g2 g3
  unfold boxQ at hW1
  have HA := Lib.hid hA
  have HB := Lib.hid hB
  have H1 := Lib.hid h1'
  have H2 := Lib.hid h2'
  clear hA hB h1' h2'
  obtain ⟨RB, hRB⟩ : ∃ x, rightB r = x := ⟨_, rfl⟩
  rw [hRB] at HNO ⊢
  have HRB := Lib.hid hRB
  clear hRB
  obtain ⟨cp, hcp⟩ : ∃ x, r.cp = x := ⟨_, rfl⟩
  obtain ⟨ti, hti⟩ : ∃ x, r.tick = x := ⟨_, rfl⟩
  rw [hcp, hti] at HNO HYES
  unfold Q.val
  simp only [hcp, hti] at hW1 g0 g1 ⊢
  have HCP := Lib.hid hcp
  have HTI := Lib.hid hti
  clear hcp hti
  by_cases c0 : 1 ≤ cp
  · have p0 : (1 : Int) ≤ (cp : Int) := by omega
    have q0 : ¬ (cp : Int) < 1 := by omega
    by_cases c1 : cp < 281474976710656
    · have p1 : (cp : Int) < 281474976710656 := by omega
      have q1 : ¬ (cp : Int) ≥ 281474976710656 := by omega
      have dd1 : decide ((281474976710656 : Int) ≤ (cp : Int)) = false := decide_eq_false (by omega)
      by_cases c2 : ti < 281474976710656
      · have p2 : (ti : Int) < 281474976710656 := by omega
        have q2 : ¬ (ti : Int) ≥ 281474976710656 := by omega
        have dd2 : decide ((281474976710656 : Int) ≤ (ti : Int)) = false := decide_eq_false (by omega)
        by_cases c3 : 1 ≤ ND
        · have p3 : (1 : Int) ≤ (ND : Int) := by omega
          have q3 : ¬ (ND : Int) < 1 := by omega
          by_cases c4 : ND ≤ 60
          · have p4 : (ND : Int) ≤ 60 := by omega
            have q4 : ¬ (ND : Int) > 60 := by omega
            by_cases c5 : 1 ≤ NC
            · have p5 : (1 : Int) ≤ (NC : Int) := by omega
              have q5 : ¬ (NC : Int) < 1 := by omega
              by_cases c6 : NC ≤ 12
              · have p6 : (NC : Int) ≤ 12 := by omega
                have q6 : ¬ (NC : Int) > 12 := by omega
                have HNP : Hid (NumP r) := HYES.out ⟨c0, c1, c2, ⟨c3, c4⟩, c5, c6⟩
                obtain ⟨X, hX, hmk⟩ := make_nums 80 (by decide)
                have hmk80 : ∀ W : World, (Instr.makeSlice 23 (.int .i64 0) (.int .i64 80)).run Try.prog W = .ok (.slice (some ⟨W.heap.size, 0, none⟩) 0 80) (W.alloc (.cells X 35)) := hmk
                have HA2 : Hid (QAt ((W1.alloc (.cells X 35)).drew) w.heap.size r (.slice ad ND cd) (.slice ac NC cc)) := HA.out.th (below_drew (below_new W1 _))
                obtain ⟨f0, f1, f2, f3⟩ := HA2.out.c
                have HA3 : Hid (QAt (W1.alloc (.cells X 35)) w.heap.size r (.slice ad ND cd) (.slice ac NC cc)) := HA.out.th (below_new W1 _)
                obtain ⟨d0, d1, d2, d3⟩ := HA3.out.c
                have HO1 : Hid (((W1.alloc (.cells X 35)).drew).ownsRow W1.heap.size 35 1 (.slice (some ⟨W1.heap.size, 0, none⟩) 0 80) 0 []) := World.ownsRow_made W1 X 80 (Nat.le_refl _) (by unfold maxLen; omega) hX
                have hself1 : Below W1.heap.size W1 ((W1.alloc (.cells X 35)).drew) := below_drew (below_new W1 _)
                have HS1 := Lib.hid hself1
                clear hself1
                obtain ⟨NA, hNA⟩ : ∃ n, r.all.length = n := ⟨_, rfl⟩
                have KA := Lib.hid hNA
                have HTRUE : Hid ((∀ j, j < NA → inP (nu r.all j) ∧ ∀ t, t < j → nu r.all t ≠ nu r.all j) → RB = true) := fun h => by rw [← HRB.out]; exact right_all HNP.out (by rw [hNA]; exact h)
                have HBAD1 : Hid (∀ k x, k < NA → nu r.all k = x → ¬ inP x → RB = false) := fun k x hk e h => by rw [← HRB.out]; exact right_no (i := k) (nu_get (by rw [hNA]; exact hk)) (by rw [e]; exact h)
                have HBAD2 : Hid (∀ k j, k < NA → j < k → nu r.all j = nu r.all k → RB = false) := fun k j hk hj e => by rw [← HRB.out]; exact right_two hj (nu_get (by rw [hNA]; exact hk)) (by rw [nu_get (by rw [hNA]; omega), e])
                clear hNA
                go_enter Try.func14, Try.ntmps14
                go_upto_region 3 with fail
                go_cut [3] (fun v wx => ∃ aa ca, v = .slice aa NA ca ∧ NA ≤ ca ∧ ca ≤ 9223372036854775807 ∧ Hid (Nums wx (.slice aa NA ca) r.all) ∧ Hid (Below w.heap.size w wx))
                case first =>
                  go_region_law (first
                    | (refine step_append_nums rfl (.tmp 43) (.tmp 45) rfl rfl W1.heap.size (.slice (some ⟨W1.heap.size, 0, none⟩) 0 80) 0 [] rfl HO1.out _ r.dats rfl (H1.out.below HS1.out) (by have := KD.out; omega) HS1.out.size ?_; intro v4 w4 hown4 hgrow4; rw [Nat.zero_add, List.nil_append, KD.out] at hown4; have hb4 : Below W1.heap.size W1 w4 := HS1.out.grown hgrow4 HS1.out.size (fun r e => Nat.le_of_eq (by simpa [Value.ownBlock] using e)); obtain ⟨e0, e1, e2, e3⟩ := (HA.out.th hb4).c; have HO4 := Lib.hid hown4; have HB4 := Lib.hid hb4; clear hown4 hgrow4 hb4)
                    | (refine step_append_nums rfl (.tmp 46) (.tmp 48) rfl rfl W1.heap.size v4 ND _ rfl HO4.out _ r.cps rfl (H2.out.below HB4.out) (by have := KC.out; omega) HB4.out.size ?_; intro v5 w5 hown5 hgrow5; have hb5 : Below W1.heap.size W1 w5 := HB4.out.grown hgrow5 HB4.out.size (fun g e => (HO4.out.lt g e).1); have HO5 := Lib.hid hown5; have HB5 := Lib.hid hb5; clear hown5 hgrow5 hb5))
                  all_goals
                    have hall : Nums w5 v5 r.all := by
                      have h := Lies.own HO5.out
                      have e1 : r.all.length = ND + r.cps.length := by show (r.dats ++ r.cps).length = _; rw [List.length_append, KD.out]
                      unfold Nums
                      rw [e1]
                      show Lies w5 v5 _ 1 ((r.dats ++ r.cps).map _)
                      rw [List.map_append]
                      exact h
                    obtain ⟨aa, ca, ev5, m5, m6⟩ := hall.parts
                    rw [KA.out] at ev5 m5
                    subst ev5
                    have HALL := Lib.hid hall
                    have HBF : Hid (Below w.heap.size w w5) := HB.out.trans (HB5.out.mono HB.out.size)
                    clear hall
                    go_wp2_with fail
                    go_meet
                    exact ⟨aa, ca, rfl, m5, m6, HALL.out, HBF.out⟩
                case rest =>
                  obtain ⟨aa, ca, rfl, m5, m6, HALL, HBF⟩ := hcut
                  clear p0 p1 p2 p3 p4 p5 p6 q0 q1 q2 q3 q4 q5 q6 c0 c1 c2 c3 c4 c5 c6 dd1 dd2 f0 f1 f2 f3 d0 d1 d2 d3 g0 g1 g2 g3 hmk hmk80
                  go_wp2
                  go_loopw [4, 5] (fun i _ wr => ∃ k : Nat, k ≤ NA ∧ i = .int .i64 (k : Int) ∧ Hid (∀ j, j < k → inP (nu r.all j) ∧ ∀ t, t < j → nu r.all t ≠ nu r.all j) ∧ Hid (Below wc.heap.size wc wr)) (fun i _ _ => NA - (intOf i).toNat)
                  case atStart => exact ⟨0, Nat.zero_le _, rfl, (fun j hj => by omega), Below.refl _ _⟩
                  case round =>
                    obtain ⟨k, hk, rfl, HU, HBr⟩ := hrel
                    by_cases hlt : k < NA
                    · have hlti : (k : Int) < (NA : Int) := by omega
                      have hk1 := Lib.hid (Nat.succ_le_of_lt hlt)
                      obtain ⟨b1, o1, rfl, k1⟩ := (HALL.out.below HBr.out).at KA.out (k := k) hlt
                      obtain ⟨x, hx⟩ : ∃ x, nu r.all k = x := ⟨_, rfl⟩
                      rw [hx] at k1
                      have HX := Lib.hid hx
                      by_cases x1 : x < 16
                      · have x1i : (x : Int) < 16 := by omega
                        have HR := Lib.hid (HBAD1.out k x hlt hx (fun h => by have := h.1; omega))
                        clear hx x1
                        go_wp2
                        go_ret
                        exact ⟨by rw [HR.out]; rfl, HBF.out.trans (HBr.out.mono HBF.out.size)⟩
                      · have x1i : ¬ (x : Int) < 16 := by omega
                        by_cases x2 : x < 4096
                        · have x2i : (x : Int) < 4096 := by omega
                          have x2j : ¬ (x : Int) ≥ 4096 := by omega
                          have HIN : Hid (inP x) := ⟨by omega, x2⟩
                          have HKC : Hid (∀ W, Below wr.heap.size wr W → W.cell? ⟨b1, o1 + k, none⟩ = some (.int .u32 (x : Int))) := fun W hW => (hW.cell (World.block_lt_of_cell? _ _ k1)).trans k1
                          clear hx x1 x2
                          go_wp2
                          go_loopw [5] (fun m wq => ∃ j : Nat, j ≤ k ∧ m = .int .i64 (j : Int) ∧ Hid (∀ t, t < j → nu r.all t ≠ x) ∧ Hid (Below wr.heap.size wr wq)) (fun m _ => k - (intOf m).toNat)
                          case atStart => exact ⟨0, Nat.zero_le _, rfl, (fun j hj => by omega), Below.refl _ _⟩
                          case round =>
                            obtain ⟨j, hj, rfl, HUj, HBq⟩ := hrel
                            have k2 := HKC.out _ HBq.out
                            by_cases hjk : j < k
                            · have hjki : (j : Int) < (k : Int) := by omega
                              have hj1 := Lib.hid (Nat.succ_le_of_lt hjk)
                              have hjNA : (j : Int) < (NA : Int) := by omega
                              obtain ⟨b2, o2, e2, k3⟩ := (HALL.out.below (below_th HBr.out HBq.out)).at KA.out (k := j) (by omega)
                              cases e2
                              obtain ⟨y, hy⟩ : ∃ y, nu r.all j = y := ⟨_, rfl⟩
                              rw [hy] at k3
                              by_cases hxy : y = x
                              · subst hxy
                                have HR := Lib.hid (HBAD2.out k j hlt hjk (hy.trans HX.out.symm))
                                have q1 : ((y : Int) == (y : Int)) = true := by simp
                                clear hy
                                go_wp2
                                go_quiet (fail)
                                go_wp2
                                go_ret
                                exact ⟨by rw [HR.out]; rfl, below_drewN (HBF.out.trans ((below_th HBr.out HBq.out).mono HBF.out.size)) _⟩
                              · have q1 : ((y : Int) == (x : Int)) = false := by simp; omega
                                have q2 : ¬ (y : Int) = (x : Int) := by omega
                                have HN := Lib.hid (show nu r.all j ≠ x from fun e => hxy (hy.symm.trans e))
                                clear hy hxy
                                go_wp2
                                go_quiet (fail)
                                go_wp2
                                go_roundw
                                case rel => exact ⟨j + 1, hj1.out, by go_num, (fun t ht => (by rcases Nat.lt_succ_iff_lt_or_eq.1 ht with h | h; exact HUj.out t h; rw [h]; exact HN.out)), below_drewN HBq.out _⟩
                                case measure => have := hj1.out; simp [intOf]; omega
                            · have hjki : ¬ (j : Int) < (k : Int) := by omega
                              obtain rfl : j = k := by omega
                              have HNEW : Hid (∀ i, i < j + 1 → inP (nu r.all i) ∧ ∀ t, t < i → nu r.all t ≠ nu r.all i) := fun i hi => by
                                rcases Nat.lt_succ_iff_lt_or_eq.1 hi with h | h
                                · exact HU.out i h
                                · subst h
                                  rw [HX.out]
                                  exact ⟨HIN.out, HUj.out⟩
                              go_wp2
                              go_roundw
                              case rel => exact ⟨j + 1, hk1.out, by go_num, HNEW.out, below_th HBr.out HBq.out⟩
                              case measure => have := hk1.out; simp [intOf]; omega
                        · have x2i : ¬ (x : Int) < 4096 := by omega
                          have x2j : (x : Int) ≥ 4096 := by omega
                          have x2k : (4096 : Int) ≤ (x : Int) := by omega
                          have HR := Lib.hid (HBAD1.out k x hlt hx (fun h => x2 h.2))
                          clear hx x1 x2
                          go_wp2
                          go_ret
                          exact ⟨by rw [HR.out]; rfl, HBF.out.trans (HBr.out.mono HBF.out.size)⟩
                    · have hlti : ¬ (k : Int) < (NA : Int) := by omega
                      obtain rfl : k = NA := by omega
                      have HR := Lib.hid (HTRUE.out HU.out)
                      go_wp2
                      go_ret
                      exact ⟨by rw [HR.out]; rfl, HBF.out.trans (HBr.out.mono HBF.out.size)⟩
              · have p6 : (12 : Int) < (NC : Int) := by omega
                have HX := Lib.hid (HNO.out (fun h => by omega))
                clear c6
                go_enter Try.func14, Try.ntmps14
                go_wp2
                go_ret
                exact ⟨by rw [HX.out]; rfl, HB.out⟩
            · have p5 : (NC : Int) < 1 := by omega
              have HX := Lib.hid (HNO.out (fun h => by omega))
              clear c5
              go_enter Try.func14, Try.ntmps14
              go_wp2
              go_ret
              exact ⟨by rw [HX.out]; rfl, HB.out⟩
          · have p4 : (60 : Int) < (ND : Int) := by omega
            have HX := Lib.hid (HNO.out (fun h => by omega))
            clear c4
            go_enter Try.func14, Try.ntmps14
            go_wp2
            go_ret
            exact ⟨by rw [HX.out]; rfl, HB.out⟩
        · have p3 : (ND : Int) < 1 := by omega
          have HX := Lib.hid (HNO.out (fun h => by omega))
          clear c3
          go_enter Try.func14, Try.ntmps14
          go_wp2
          go_ret
          exact ⟨by rw [HX.out]; rfl, HB.out⟩
      · have p2 : ¬ (ti : Int) < 281474976710656 := by omega
        have HX := Lib.hid (HNO.out (fun h => by omega))
        clear c2
        go_enter Try.func14, Try.ntmps14
        go_wp2
        go_ret
        exact ⟨by rw [HX.out]; rfl, HB.out⟩
    · have p1 : ¬ (cp : Int) < 281474976710656 := by omega
      have HX := Lib.hid (HNO.out (fun h => by omega))
      clear c1
      go_enter Try.func14, Try.ntmps14
      go_wp2
      go_ret
      exact ⟨by rw [HX.out]; rfl, HB.out⟩
  · have p0 : (cp : Int) < 1 := by omega
    have HX := Lib.hid (HNO.out (fun h => by omega))
    clear c0
    go_enter Try.func14, Try.ntmps14
    go_wp2
    go_ret
    exact ⟨by rw [HX.out]; rfl, HB.out⟩
end
end Go.Proofs.Ytdniakoedgohkaa.Root.R
