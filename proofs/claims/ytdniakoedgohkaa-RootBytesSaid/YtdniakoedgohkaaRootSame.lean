/- Same of the document: are two roots the same? -/
import Derived.Test.YtdniakoedgohkaaRootMem
namespace Go.Proofs.Ytdniakoedgohkaa.Root
open Go.RowKit
attribute [local go_sem] Oper.semAt_some
set_option linter.unusedVariables false

section
set_option maxRecDepth 100000
set_option maxHeartbeats 4000000
theorem same_any (a b : Q) (d c e f : Value) (w : World) (h1 : Nums w d a.dats) (h2 : Nums w c a.cps) (h3 : Nums w e b.dats) (h4 : Nums w f b.cps) : Calls Try.prog 15 #[a.val d c, b.val e f] w (Ans w (.bool (decide (a = b)))) := by
  obtain ⟨hA1, hA2⟩ := boxes w a b d c e f
  have hB : Below w.heap.size w ((w.alloc (boxQ a d c)).alloc (boxQ b e f)) := (below_new w _).alloc (by simp) _
  obtain ⟨cp, ti, D, C⟩ := a
  obtain ⟨cp2, ti2, D2, C2⟩ := b
  dsimp only at h1 h2 h3 h4
  have HEQ : Hid (cp = cp2 → ti = ti2 → D.length = D2.length → C.length = C2.length → (∀ j, j < D.length → nu D j = nu D2 j) → (∀ j, j < C.length → nu C j = nu C2 j) → decide ((⟨cp, ti, D, C⟩ : Q) = ⟨cp2, ti2, D2, C2⟩) = true) := fun k1 k2 k3 k4 k5 k6 => decide_eq_true (by rw [k1, k2, nu_ext k3 k5, nu_ext k4 k6])
  have HNE : Hid (¬ (cp = cp2 ∧ ti = ti2 ∧ D.length = D2.length ∧ C.length = C2.length) → decide ((⟨cp, ti, D, C⟩ : Q) = ⟨cp2, ti2, D2, C2⟩) = false) := fun k => decide_eq_false fun h => k (by cases h; exact ⟨rfl, rfl, rfl, rfl⟩)
  have HND : Hid (∀ j, ¬ nu D j = nu D2 j → decide ((⟨cp, ti, D, C⟩ : Q) = ⟨cp2, ti2, D2, C2⟩) = false) := fun j k => decide_eq_false fun h => k (by cases h; rfl)
  have HNC : Hid (∀ j, ¬ nu C j = nu C2 j → decide ((⟨cp, ti, D, C⟩ : Q) = ⟨cp2, ti2, D2, C2⟩) = false) := fun j k => decide_eq_false fun h => k (by cases h; rfl)
  obtain ⟨x, hx⟩ : ∃ x, decide ((⟨cp, ti, D, C⟩ : Q) = ⟨cp2, ti2, D2, C2⟩) = x := ⟨_, rfl⟩
  rw [hx] at HEQ HNE HND HNC ⊢
  clear hx
  have h1' := h1.below hB
  have h2' := h2.below hB
  have h3' := h3.below hB
  have h4' := h4.below hB
  obtain ⟨ad, cd, rfl, m1, m2⟩ := h1.parts
  obtain ⟨ac, cc, rfl, m3, m4⟩ := h2.parts
  obtain ⟨ae, ce, rfl, m5, m6⟩ := h3.parts
  obtain ⟨af, cf, rfl, m7, m8⟩ := h4.parts
  clear h1 h2 h3 h4
  obtain ⟨ND, hND⟩ : ∃ n, D.length = n := ⟨_, rfl⟩
  obtain ⟨NC, hNC⟩ : ∃ n, C.length = n := ⟨_, rfl⟩
  obtain ⟨NE, hNE⟩ : ∃ n, D2.length = n := ⟨_, rfl⟩
  obtain ⟨NF, hNF⟩ : ∃ n, C2.length = n := ⟨_, rfl⟩
  simp only [hND, hNC, hNE, hNF] at HNE HEQ m1 m3 m5 m7 h1' h2' h3' h4' hA1 hA2 hB ⊢
  have KD := Lib.hid hND
  have KC := Lib.hid hNC
  have KE := Lib.hid hNE
  have KF := Lib.hid hNF
  clear hND hNC hNE hNF
  obtain ⟨W1, hW1⟩ : ∃ W1, (w.alloc (boxQ ⟨cp, ti, D, C⟩ (.slice ad ND cd) (.slice ac NC cc))).alloc (boxQ ⟨cp2, ti2, D2, C2⟩ (.slice ae NE ce) (.slice af NF cf)) = W1 := ⟨_, rfl⟩
  rw [hW1] at hA1 hA2 hB h1' h2' h3' h4'
  have HA1 := Lib.hid hA1
  have HA2 := Lib.hid hA2
  have HB := Lib.hid hB
  have H1 := Lib.hid h1'
  have H2 := Lib.hid h2'
  have H3 := Lib.hid h3'
  have H4 := Lib.hid h4'
  obtain ⟨g0, g1, g2, g3⟩ := hA1.c
  obtain ⟨k0, k1, k2, k3⟩ := hA2.c
  dsimp only at g0 g1 k0 k1
  clear hA1 hA2 hB h1' h2' h3' h4'
  unfold boxQ at hW1
  unfold Q.val
  dsimp only at hW1 ⊢
  by_cases e1 : cp = cp2
  · subst e1
    have q1 : ((cp : Int) != (cp : Int)) = false := by simp
    by_cases e2 : ti = ti2
    · subst e2
      have q2 : ((ti : Int) != (ti : Int)) = false := by simp
      by_cases e3 : ND = NE
      · subst e3
        have q3 : ((ND : Int) != (ND : Int)) = false := by simp
        by_cases e4 : NC = NF
        · subst e4
          have q4 : ((NC : Int) != (NC : Int)) = false := by simp
          go_enter Try.func15, Try.ntmps15
          go_wp2
          go_loopw [5] (fun i wr => ∃ k : Nat, k ≤ ND ∧ i = .int .i64 (k : Int) ∧ Hid (∀ j, j < k → nu D j = nu D2 j) ∧ Hid (Below W1.heap.size W1 wr)) (fun i _ => ND - (intOf i).toNat)
          case atStart => exact ⟨0, by omega, rfl, (fun j hj => by omega), Below.refl _ _⟩
          case round =>
            obtain ⟨k, hk, rfl, HU5, HBr⟩ := hrel
            obtain ⟨y0, y1, y2, y3⟩ := (HA1.out.th HBr.out).c
            obtain ⟨z0, z1, z2, z3⟩ := (HA2.out.th HBr.out).c
            dsimp only at y0 y1 z0 z1
            by_cases hlt : k < ND
            · have hlti : (k : Int) < (ND : Int) := by omega
              have hk1 := Lib.hid (Nat.succ_le_of_lt hlt)
              obtain ⟨b1, o1, rfl, c1⟩ := (H1.out.below HBr.out).at KD.out (k := k) hlt
              obtain ⟨b2, o2, rfl, c2⟩ := (H3.out.below HBr.out).at KE.out (k := k) hlt
              obtain ⟨xa, hxa⟩ : ∃ x, nu D k = x := ⟨_, rfl⟩
              obtain ⟨xb, hxb⟩ : ∃ x, nu D2 k = x := ⟨_, rfl⟩
              rw [hxa] at c1
              rw [hxb] at c2
              by_cases hx : xa = xb
              · subst hx
                have HXX := Lib.hid (hxa.trans hxb.symm)
                have hq1 : ((xa : Int) != (xa : Int)) = false := by simp
                clear hxa hxb
                go_wp2
                go_quiet (fail)
                go_wp2
                go_roundw
                case rel => exact ⟨k + 1, hk1.out, by go_num, (fun j hj => (by rcases Nat.lt_succ_iff_lt_or_eq.1 hj with h | h; exact HU5.out j h; rw [h]; exact HXX.out)), below_drewN HBr.out _⟩
                case measure => have := hk1.out; simp [intOf]; omega
              · have HX := Lib.hid (HND.out k (by rw [hxa, hxb]; exact hx))
                have hq1 : ((xa : Int) != (xb : Int)) = true := by simp; omega
                have hq2 : (xa != xb) = true := by simp [hx]
                have hq3 : ¬ (xa : Int) = (xb : Int) := by omega
                clear hxa hxb hx
                go_wp2
                go_quiet (fail)
                go_wp2
                go_ret
                exact ⟨by rw [HX.out]; rfl, below_drewN (HB.out.trans (HBr.out.mono HB.out.size)) _⟩
            · have hlti : ¬ (k : Int) < (ND : Int) := by omega
              obtain rfl : k = ND := by omega
              have KEEP := HBr
              go_wp2
              go_loopw [6] (fun i wr => ∃ k : Nat, k ≤ NC ∧ i = .int .i64 (k : Int) ∧ Hid (∀ j, j < k → nu C j = nu C2 j) ∧ Hid (Below W1.heap.size W1 wr)) (fun i _ => NC - (intOf i).toNat)
              case atStart => exact ⟨0, by omega, rfl, (fun j hj => by omega), HBr.out⟩
              case round =>
                obtain ⟨k, hk, rfl, HU6, HBr⟩ := hrel
                obtain ⟨y0, y1, y2, y3⟩ := (HA1.out.th HBr.out).c
                obtain ⟨z0, z1, z2, z3⟩ := (HA2.out.th HBr.out).c
                dsimp only at y0 y1 z0 z1
                by_cases hlt : k < NC
                · have hlti : (k : Int) < (NC : Int) := by omega
                  have hk1 := Lib.hid (Nat.succ_le_of_lt hlt)
                  obtain ⟨b1, o1, rfl, c1⟩ := (H2.out.below HBr.out).at KC.out (k := k) hlt
                  obtain ⟨b2, o2, rfl, c2⟩ := (H4.out.below HBr.out).at KF.out (k := k) hlt
                  obtain ⟨xa, hxa⟩ : ∃ x, nu C k = x := ⟨_, rfl⟩
                  obtain ⟨xb, hxb⟩ : ∃ x, nu C2 k = x := ⟨_, rfl⟩
                  rw [hxa] at c1
                  rw [hxb] at c2
                  by_cases hx : xa = xb
                  · subst hx
                    have HXX := Lib.hid (hxa.trans hxb.symm)
                    have hq1 : ((xa : Int) != (xa : Int)) = false := by simp
                    clear hxa hxb
                    go_wp2
                    go_quiet (fail)
                    go_wp2
                    go_roundw
                    case rel => exact ⟨k + 1, hk1.out, by go_num, (fun j hj => (by rcases Nat.lt_succ_iff_lt_or_eq.1 hj with h | h; exact HU6.out j h; rw [h]; exact HXX.out)), below_drewN HBr.out _⟩
                    case measure => have := hk1.out; simp [intOf]; omega
                  · have HX := Lib.hid (HNC.out k (by rw [hxa, hxb]; exact hx))
                    have hq1 : ((xa : Int) != (xb : Int)) = true := by simp; omega
                    have hq2 : (xa != xb) = true := by simp [hx]
                    have hq3 : ¬ (xa : Int) = (xb : Int) := by omega
                    clear hxa hxb hx
                    go_wp2
                    go_quiet (fail)
                    go_wp2
                    go_ret
                    exact ⟨by rw [HX.out]; rfl, below_drewN (HB.out.trans (HBr.out.mono HB.out.size)) _⟩
                · have hlti : ¬ (k : Int) < (NC : Int) := by omega
                  obtain rfl : k = NC := by omega
                  have HX := Lib.hid (HEQ.out (by first | rfl | trivial) (by first | rfl | trivial) (by first | rfl | trivial) (by first | rfl | trivial) HU5.out HU6.out)
                  go_wp2
                  go_ret
                  exact ⟨by rw [HX.out]; rfl, HB.out.trans (HBr.out.mono HB.out.size)⟩
        · have q4 : ((NC : Int) != (NF : Int)) = true := by simp; omega
          have HX := Lib.hid (HNE.out (fun h => e4 h.2.2.2))
          have q4b : ¬ (NC : Int) = (NF : Int) := by omega
          clear e4
          go_enter Try.func15, Try.ntmps15
          go_wp2
          go_ret
          exact ⟨by rw [HX.out]; rfl, HB.out⟩
      · have q3 : ((ND : Int) != (NE : Int)) = true := by simp; omega
        have HX := Lib.hid (HNE.out (fun h => e3 h.2.2.1))
        have q3b : ¬ (ND : Int) = (NE : Int) := by omega
        clear e3
        go_enter Try.func15, Try.ntmps15
        go_wp2
        go_ret
        exact ⟨by rw [HX.out]; rfl, HB.out⟩
    · have q2 : ((ti : Int) != (ti2 : Int)) = true := by simp; omega
      have HX := Lib.hid (HNE.out (fun h => e2 h.2.1))
      have q2b : ¬ (ti : Int) = (ti2 : Int) := by omega
      clear e2
      go_enter Try.func15, Try.ntmps15
      go_wp2
      go_ret
      exact ⟨by rw [HX.out]; rfl, HB.out⟩
  · have q1 : ((cp : Int) != (cp2 : Int)) = true := by simp; omega
    have HX := Lib.hid (HNE.out (fun h => e1 h.1))
    have q1b : ¬ (cp : Int) = (cp2 : Int) := by omega
    clear e1
    go_enter Try.func15, Try.ntmps15
    go_wp2
    go_ret
    exact ⟨by rw [HX.out]; rfl, HB.out⟩
end
end Go.Proofs.Ytdniakoedgohkaa.Root
