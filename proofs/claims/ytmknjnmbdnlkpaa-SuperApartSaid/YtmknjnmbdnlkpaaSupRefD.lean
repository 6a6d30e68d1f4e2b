/- Decode of the document. -/
import Derived.Test.YtmknjnmbdnlkpaaSupRefE
import Derived.Test.YtmknjnmbdnlkpaaSupDec
namespace Go.Proofs.Ytmknjnmbdnlkpaa.Super.R
open Go.RowKit Go.Shelf
attribute [local go_sem] Oper.semAt_some
set_option linter.unusedVariables false

section
set_option maxRecDepth 100000
theorem decode_size (b : ByteArray) (w : World) (hs : b.size ≤ 281474976710656) (h : ¬ b.size = 512) : Calls Try.prog 12 #[.string b] w fun e w' => e = .returned (.tuple #[(decV b).val, .int .i64 (decE b)]) ∧ Below w.heap.size w w' := by
  have hno : ¬ decOk b := fun hh => h hh.1
  have HS := Lib.hid (decV_no hno)
  have HE := Lib.hid (decE_no hno)
  have hq : ((b.size : Int) != 512) = true := by simp; omega
  clear hno h
  go_enter Try.func12, Try.ntmps12
  go_wp2
  go_returns
  exact ⟨ret_de HS.out HE.out, (Below.refl _ _).alloc (Nat.le_refl _) _⟩

set_option maxHeartbeats 1000000 in
theorem decode_512 (b : ByteArray) (w : World) (hs : b.size = 512) (V : S) (E : Int) (r c : Bool) (hr : rightB (decS b) = r) (hc : RightP (decS b) → ((sector (decS b)).toList == (b.extract 0 256).toList) = c)
    (hn : (r = false ∨ c = false) → V = S.none ∧ E = 50) (hy : r = true → c = true → V = decS b ∧ E = 0) : Calls Try.prog 12 #[.string b] w fun e w' => e = .returned (.tuple #[V.val, .int .i64 E]) ∧ Below w.heap.size w w' := by
  have hq : ((b.size : Int) != 512) = false := by simp; omega
  have tk : ∀ (a k : Nat), a + k ≤ 512 → 1 ≤ k → k ≤ 8 → ∀ W, Calls Try.prog 23 #[.string b, .int .i64 a, .int .i64 k] W fun e w' => e = .returned (.tuple #[.int .u64 (takeN b a k), .int .i64 0]) ∧ W = w' := fun a k h h1 h2 W => take_ref_yes b a k W (by omega) h1 h2 (by omega)
  have T1 := Lib.hid (tk 4 4 (by omega) (by omega) (by omega))
  have T2 := Lib.hid (tk 8 6 (by omega) (by omega) (by omega))
  have T3 := Lib.hid (tk 14 4 (by omega) (by omega) (by omega))
  have T4 := Lib.hid (tk 18 6 (by omega) (by omega) (by omega))
  have hR := fun W => right_any (decS b) W
  rw [hr] at hR
  have hSC : ∀ W, r = true → Calls Try.prog 21 #[(decS b).val] W fun e w' => e = .returned (.string (sector (decS b))) ∧ Below W.heap.size W w' := fun W h => sector_any _ W (by rw [h] at hr; exact of_decide_eq_true hr)
  have hc' : r = true → ((sector (decS b)).toList == (b.extract 0 256).toList) = c := fun h => hc (by rw [h] at hr; exact of_decide_eq_true hr)
  clear hc
  obtain ⟨T, hT⟩ : ∃ T, sector (decS b) = T := ⟨_, rfl⟩
  rw [hT] at hSC hc'
  unfold S.val decS at hR hSC
  unfold decS at hy
  have l1 := takeN_lt b 4 4
  have l3 := takeN_lt b 14 4
  have e4 : (256 : Nat) ^ 4 = 4294967296 := by decide
  rw [e4] at l1 l3
  obtain ⟨x1, hx1⟩ : ∃ x, takeN b 4 4 = x := ⟨_, rfl⟩
  obtain ⟨x2, hx2⟩ : ∃ x, takeN b 8 6 = x := ⟨_, rfl⟩
  obtain ⟨x3, hx3⟩ : ∃ x, takeN b 14 4 = x := ⟨_, rfl⟩
  obtain ⟨x4, hx4⟩ : ∃ x, takeN b 18 6 = x := ⟨_, rfl⟩
  simp only [hx1, hx2, hx3, hx4] at T1 T2 T3 T4 hR hSC hy l1 l3
  have v1 : IntKind.i64.wrap (x1 : Int) = x1 := by rw [IntKind.wrap_i64]; omega
  have v3 : IntKind.i64.wrap (x3 : Int) = x3 := by rw [IntKind.wrap_i64]; omega
  have HR := Lib.hid hR
  have r2 : (256 : Int) ≤ (b.size : Int) := by omega
  have r4 : 256 ≤ b.size := by omega
  clear hx1 hx2 hx3 hx4 hs l1 l3 hR hr hT
  obtain ⟨W0, hW0⟩ : ∃ W0, (w.alloc (.cells #[.int .i64 0, .int .u64 0, .int .i64 0, .int .u64 0] 24)).alloc (.cells #[.int .i64 (x1 : Int), .int .u64 (x2 : Int), .int .i64 (x3 : Int), .int .u64 (x4 : Int)] 24) = W0 := ⟨_, rfl⟩
  have hA0 : At W0 w.heap.size S.none := by rw [← hW0]; exact (At.new w S.none).th ((Below.refl _ _).alloc (Nat.le_refl _) _)
  have hD0 : At W0 (w.heap.size + 1) ⟨x1, x2, x3, x4⟩ := by
    rw [← hW0]
    have := At.new (w.alloc (boxO S.none)) ⟨x1, x2, x3, x4⟩
    rwa [World.size_alloc] at this
  have hB0 : Below w.heap.size w W0 := by rw [← hW0]; exact ((Below.refl w.heap.size w).alloc (Nat.le_refl _) _).alloc (by simp) _
  obtain ⟨d0, d1, d2, d3⟩ := hD0.c
  dsimp only at d0 d1 d2 d3
  have HA := Lib.hid hA0
  have HD := Lib.hid hD0
  clear hA0 hD0
  go_enter Try.func12, Try.ntmps12
  go_wp2_with (first
    | (go_at_call 23; with_reducible refine Calls.mono (T1.out _) ?_; rintro e w1 ⟨rfl, rfl⟩)
    | (go_at_call 23; with_reducible refine Calls.mono (T2.out _) ?_; rintro e w2 ⟨rfl, rfl⟩)
    | (go_at_call 23; with_reducible refine Calls.mono (T3.out _) ?_; rintro e w3 ⟨rfl, rfl⟩)
    | (go_at_call 23; with_reducible refine Calls.mono (T4.out _) ?_; rintro e w4 ⟨rfl, rfl⟩)
    | (go_at_call 14; with_reducible refine Calls.mono (HR.out _) ?_; rintro e w5 ⟨rfl, hB5⟩))
  have hA5 := HA.out.th hB5
  have hD5 := HD.out.th hB5
  have hB5w := below_th hB0 hB5
  obtain ⟨g0, g1, g2, g3⟩ := hD5.c
  dsimp only at g0 g1 g2 g3
  cases r with
  | false =>
    obtain ⟨rfl, rfl⟩ := hn (.inl rfl)
    obtain ⟨a0, a1, a2, a3⟩ := hA5.c
    have f0 := hA5.f 0
    have f1 := hA5.f 1
    have f2 := hA5.f 2
    have f3 := hA5.f 3
    obtain ⟨k0, k1, k2, k3, hAp, hBp⟩ := hA5.put4 S.none
    dsimp only [S.none] at a0 a1 a2 a3 k0 k1 k2 k3 hBp
    clear hSC hc' hn hy hA5 hD5
    go_region
    go_wp2
    all_goals
      refine bodyPost_ret (results_super rfl _ _ rfl hAp.drew) rfl ?_
      exact ⟨rfl, (hB5w.trans hBp).drew⟩
  | true =>
    have HS5 := Lib.hid (hSC w5.drew rfl)
    have hcmp := hc' rfl
    have hcmp2 : (!(T.toList == (b.extract 0 256).toList)) = !c := by rw [hcmp]
    clear hSC hc'
    go_region_held3 (fun w' => (w'.cell? ⟨w.heap.size + 1, 0, none⟩ = some (.int .i64 (x1 : Int)) ∧ w'.cell? ⟨w.heap.size + 1, 1, none⟩ = some (.int .u64 (x2 : Int)) ∧ w'.cell? ⟨w.heap.size + 1, 2, none⟩ = some (.int .i64 (x3 : Int)) ∧ w'.cell? ⟨w.heap.size + 1, 3, none⟩ = some (.int .u64 (x4 : Int)))) (first | exact hD5.c | exact hD5.drew.c | exact (hD5.drew.th hBs).c) (first
      | (go_at_call 21; with_reducible refine Calls.mono HS5.out ?_; rintro e w6 ⟨rfl, hBs⟩))
    have hA6 := hA5.drew.th hBs
    have hD6 := hD5.drew.th hBs
    have hB6 := hB5w.drew.trans (hBs.mono hB5w.size)
    obtain ⟨a0, a1, a2, a3⟩ := hA6.c
    obtain ⟨e0, e1, e2, e3⟩ := hD6.c
    have f0 := hA6.f 0
    have f1 := hA6.f 1
    have f2 := hA6.f 2
    have f3 := hA6.f 3
    dsimp only [S.none] at a0 a1 a2 a3 e0 e1 e2 e3
    cases c with
    | false =>
      obtain ⟨rfl, rfl⟩ := hn (.inr rfl)
      obtain ⟨k0, k1, k2, k3, hAp, hBp⟩ := hA6.put4 S.none
      dsimp only [S.none] at k0 k1 k2 k3 hBp
      clear hn hy hA5 hD5 hA6 hD6
      go_wp2
      refine bodyPost_ret (results_super rfl _ _ rfl hAp) rfl ?_
      exact ⟨rfl, hB6.trans hBp⟩
    | true =>
      obtain ⟨rfl, rfl⟩ := hy (by trivial) (by trivial)
      obtain ⟨k0, k1, k2, k3, hAp, hBp⟩ := hA6.put4 ⟨x1, x2, x3, x4⟩
      dsimp only at k0 k1 k2 k3 hBp
      clear hn hy hA5 hD5 hA6 hD6
      go_wp2
      refine bodyPost_ret (results_super rfl _ _ rfl hAp) rfl ?_
      exact ⟨rfl, hB6.trans hBp⟩

theorem decode_any (b : ByteArray) (w : World) (hs : b.size ≤ 281474976710656) : Calls Try.prog 12 #[.string b] w fun e w' => e = .returned (.tuple #[(decV b).val, .int .i64 (decE b)]) ∧ Below w.heap.size w w' := by
  by_cases h1 : b.size = 512
  · by_cases h2 : RightP (decS b)
    · by_cases h3 : sector (decS b) = b.extract 0 256
      · have hok : decOk b := ⟨h1, h2, h3⟩
        exact decode_512 b w h1 _ _ true true (rightB_yes h2) (fun _ => beq_yes h3) (fun h => by rcases h with h | h <;> cases h) (fun _ _ => ⟨decV_yes hok, decE_yes hok⟩)
      · have hno : ¬ decOk b := fun h => h3 h.2.2
        exact decode_512 b w h1 _ _ true false (rightB_yes h2) (fun _ => beq_no h3) (fun _ => ⟨decV_no hno, decE_no hno⟩) (fun _ h => by cases h)
    · have hno : ¬ decOk b := fun h => h2 h.2.1
      exact decode_512 b w h1 _ _ false false (rightB_no h2) (fun h => absurd h h2) (fun _ => ⟨decV_no hno, decE_no hno⟩) (fun h => by cases h)
  · exact decode_size b w hs h1
end
end Go.Proofs.Ytmknjnmbdnlkpaa.Super.R
