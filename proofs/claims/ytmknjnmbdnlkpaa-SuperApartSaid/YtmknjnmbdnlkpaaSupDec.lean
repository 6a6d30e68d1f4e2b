/- Decode of the program. -/
import Derived.Handy
import Derived.Test.YtmknjnmbdnlkpaaSupEncP
namespace Go.Proofs.Ytmknjnmbdnlkpaa.Super
open Go.RowKit Go.Shelf
attribute [local go_sem] Oper.semAt_some
set_option linter.unusedVariables false

theorem ret_de {s t : S} {a b : Int} (h : s = t) (h2 : a = b) : Ending.returned (.tuple #[t.val, .int .i64 b]) = .returned (.tuple #[s.val, .int .i64 a]) := by rw [h, h2]
theorem At.drew {W : World} {b : Nat} {s : S} (h : At W b s) : At W.drew b s := h
section
set_option maxRecDepth 100000
theorem results_super {fn : Func} {r e : Tmp} (h : fn.results = #[.cell r 24, .tmp e]) (tmps : Array Value) (w : World) {b : Nat} {s : S} (hp : tmps.getD r undef = .pointer (some ⟨b, 0, none⟩)) (hA : At w b s) :
    (results fn tmps).run Try.prog w = .ok (.tuple #[s.val, tmps.getD e undef]) w := by
  obtain ⟨c0, c1, c2, c3⟩ := hA.c
  rw [Array.getD_eq_getD_getElem?] at hp
  simp [results, h, hp, go_sem, c0, c1, c2, c3]
  rfl
theorem decode_size (b : ByteArray) (w : World) (hs : b.size ≤ 281474976710656) (h : ¬ b.size = 512) : Calls Try.prog 11 #[.string b] w fun e w' => e = .returned (.tuple #[(decV b).val, .int .i64 (decE b)]) ∧ Below w.heap.size w w' := by
  have hno : ¬ decOk b := fun hh => h hh.1
  have HS := Lib.hid (decV_no hno)
  have HE := Lib.hid (decE_no hno)
  have hq : ((b.size : Int) != 512) = true := by simp; omega
  clear hno h
  go_enter Try.func11, Try.ntmps11
  go_wp2
  go_returns
  exact ⟨ret_de HS.out HE.out, (Below.refl _ _).alloc (Nat.le_refl _) _⟩

set_option maxHeartbeats 1000000 in
theorem decode_wrong (b : ByteArray) (w : World) (hs : b.size = 512) (h : ¬ RightP (decS b)) : Calls Try.prog 11 #[.string b] w fun e w' => e = .returned (.tuple #[(decV b).val, .int .i64 (decE b)]) ∧ Below w.heap.size w w' := by
  have hno : ¬ decOk b := fun hh => h hh.2.1
  have HS := Lib.hid (decV_no hno)
  have HE := Lib.hid (decE_no hno)
  have hq : ((b.size : Int) != 512) = false := by simp; omega
  have T1 := Lib.hid (fun W => stake_any b 4 4 W (by omega) (by omega) (by omega) (by omega))
  have T2 := Lib.hid (fun W => stake_any b 8 6 W (by omega) (by omega) (by omega) (by omega))
  have T3 := Lib.hid (fun W => stake_any b 14 4 W (by omega) (by omega) (by omega) (by omega))
  have T4 := Lib.hid (fun W => stake_any b 18 6 W (by omega) (by omega) (by omega) (by omega))
  have hE := fun W => encode_any (decS b) W
  rw [encS_no h, encE_no h] at hE
  unfold S.val decS at hE
  have l1 := takeN_lt b 4 4
  have l3 := takeN_lt b 14 4
  have e4 : (256 : Nat) ^ 4 = 4294967296 := by decide
  rw [e4] at l1 l3
  obtain ⟨x1, hx1⟩ : ∃ x, takeN b 4 4 = x := ⟨_, rfl⟩
  obtain ⟨x2, hx2⟩ : ∃ x, takeN b 8 6 = x := ⟨_, rfl⟩
  obtain ⟨x3, hx3⟩ : ∃ x, takeN b 14 4 = x := ⟨_, rfl⟩
  obtain ⟨x4, hx4⟩ : ∃ x, takeN b 18 6 = x := ⟨_, rfl⟩
  simp only [hx1, hx2, hx3, hx4] at T1 T2 T3 T4 hE l1 l3
  have v1 : IntKind.i64.wrap (x1 : Int) = x1 := by rw [IntKind.wrap_i64]; omega
  have v3 : IntKind.i64.wrap (x3 : Int) = x3 := by rw [IntKind.wrap_i64]; omega
  have HEE := Lib.hid hE
  clear hno h hx1 hx2 hx3 hx4 hs l1 l3 hE
  go_enter Try.func11, Try.ntmps11
  go_wp2_with (first
    | (go_at_call 22; with_reducible refine Calls.mono (T1.out _) ?_; rintro e w1 ⟨rfl, hB1⟩)
    | (go_at_call 22; with_reducible refine Calls.mono (T2.out _) ?_; rintro e w2 ⟨rfl, hB2⟩)
    | (go_at_call 22; with_reducible refine Calls.mono (T3.out _) ?_; rintro e w3 ⟨rfl, hB3⟩)
    | (go_at_call 22; with_reducible refine Calls.mono (T4.out _) ?_; rintro e w4 ⟨rfl, hB4⟩)
    | (go_at_call 9; with_reducible refine Calls.mono (HEE.out _) ?_; rintro e w5 ⟨rfl, hB5⟩))
  have hBw4 : Below w.heap.size w w4 := (Below.refl w.heap.size w).alloc (Nat.le_refl _) _ |> fun h => below_th (below_th (below_th (below_th h hB1) hB2) hB3) hB4
  have hA5 : At w5 w.heap.size S.none := (((((At.new w S.none).th hB1).th hB2).th hB3).th hB4).th (below_th ((Below.refl _ _).alloc (Nat.le_refl _) _) hB5)
  have hD5 : At w5 w4.heap.size ⟨x1, x2, x3, x4⟩ := (At.new w4 _).th hB5
  have hBw5 : Below w.heap.size w w5 := below_th (hBw4.alloc hBw4.size _) hB5
  obtain ⟨a0, a1, a2, a3⟩ := hA5.c
  obtain ⟨d0, d1, d2, d3⟩ := hD5.c
  have f0 := hA5.f 0
  have f1 := hA5.f 1
  have f2 := hA5.f 2
  have f3 := hA5.f 3
  obtain ⟨k0, k1, k2, k3, hAp, hBp⟩ := hA5.put4 S.none
  dsimp only [S.none] at a0 a1 a2 a3 d0 d1 d2 d3 k0 k1 k2 k3 hBp
  go_region
  go_wp2
  all_goals
    refine bodyPost_ret (results_super rfl _ _ rfl hAp.drew) rfl ?_
    exact ⟨ret_de HS.out HE.out, (hBw5.trans hBp).drew⟩

set_option maxHeartbeats 1000000 in
theorem decode_unlike (b : ByteArray) (w : World) (hs : b.size = 512) (h : RightP (decS b)) (hu : ¬ sector (decS b) = b.extract 0 256) : Calls Try.prog 11 #[.string b] w fun e w' => e = .returned (.tuple #[(decV b).val, .int .i64 (decE b)]) ∧ Below w.heap.size w w' := by
  have hno : ¬ decOk b := fun hh => hu hh.2.2
  have HS := Lib.hid (decV_no hno)
  have HE := Lib.hid (decE_no hno)
  have hq : ((b.size : Int) != 512) = false := by simp; omega
  have T1 := Lib.hid (fun W => stake_any b 4 4 W (by omega) (by omega) (by omega) (by omega))
  have T2 := Lib.hid (fun W => stake_any b 8 6 W (by omega) (by omega) (by omega) (by omega))
  have T3 := Lib.hid (fun W => stake_any b 14 4 W (by omega) (by omega) (by omega) (by omega))
  have T4 := Lib.hid (fun W => stake_any b 18 6 W (by omega) (by omega) (by omega) (by omega))
  have hE := fun W => encode_any (decS b) W
  rw [encE_yes h] at hE
  have hsz := enc_size h
  have hhd := enc_head h
  obtain ⟨E, hEe⟩ : ∃ E, encS (decS b) = E := ⟨_, rfl⟩
  simp only [hEe] at hE hsz hhd
  clear hEe
  rw [← hhd] at hu
  have hcmp := beq_no hu
  have r1 : (256 : Int) ≤ (E.size : Int) := by omega
  have r2 : (256 : Int) ≤ (b.size : Int) := by omega
  have r3 : 256 ≤ E.size := by omega
  have r4 : 256 ≤ b.size := by omega
  unfold S.val decS at hE
  have l1 := takeN_lt b 4 4
  have l3 := takeN_lt b 14 4
  have e4 : (256 : Nat) ^ 4 = 4294967296 := by decide
  rw [e4] at l1 l3
  obtain ⟨x1, hx1⟩ : ∃ x, takeN b 4 4 = x := ⟨_, rfl⟩
  obtain ⟨x2, hx2⟩ : ∃ x, takeN b 8 6 = x := ⟨_, rfl⟩
  obtain ⟨x3, hx3⟩ : ∃ x, takeN b 14 4 = x := ⟨_, rfl⟩
  obtain ⟨x4, hx4⟩ : ∃ x, takeN b 18 6 = x := ⟨_, rfl⟩
  simp only [hx1, hx2, hx3, hx4] at T1 T2 T3 T4 hE l1 l3
  have v1 : IntKind.i64.wrap (x1 : Int) = x1 := by rw [IntKind.wrap_i64]; omega
  have v3 : IntKind.i64.wrap (x3 : Int) = x3 := by rw [IntKind.wrap_i64]; omega
  have HEE := Lib.hid hE
  clear hno h hu hhd hsz hx1 hx2 hx3 hx4 hs l1 l3 hE
  go_enter Try.func11, Try.ntmps11
  go_wp2_with (first
    | (go_at_call 22; with_reducible refine Calls.mono (T1.out _) ?_; rintro e w1 ⟨rfl, hB1⟩)
    | (go_at_call 22; with_reducible refine Calls.mono (T2.out _) ?_; rintro e w2 ⟨rfl, hB2⟩)
    | (go_at_call 22; with_reducible refine Calls.mono (T3.out _) ?_; rintro e w3 ⟨rfl, hB3⟩)
    | (go_at_call 22; with_reducible refine Calls.mono (T4.out _) ?_; rintro e w4 ⟨rfl, hB4⟩)
    | (go_at_call 9; with_reducible refine Calls.mono (HEE.out _) ?_; rintro e w5 ⟨rfl, hB5⟩))
  have hBw4 : Below w.heap.size w w4 := (Below.refl w.heap.size w).alloc (Nat.le_refl _) _ |> fun h => below_th (below_th (below_th (below_th h hB1) hB2) hB3) hB4
  have hA5 : At w5 w.heap.size S.none := (((((At.new w S.none).th hB1).th hB2).th hB3).th hB4).th (below_th ((Below.refl _ _).alloc (Nat.le_refl _) _) hB5)
  have hD5 : At w5 w4.heap.size ⟨x1, x2, x3, x4⟩ := (At.new w4 _).th hB5
  have hBw5 : Below w.heap.size w w5 := below_th (hBw4.alloc hBw4.size _) hB5
  obtain ⟨a0, a1, a2, a3⟩ := hA5.c
  obtain ⟨d0, d1, d2, d3⟩ := hD5.c
  have f0 := hA5.f 0
  have f1 := hA5.f 1
  have f2 := hA5.f 2
  have f3 := hA5.f 3
  obtain ⟨k0, k1, k2, k3, hAp, hBp⟩ := hA5.put4 S.none
  dsimp only [S.none] at a0 a1 a2 a3 d0 d1 d2 d3 k0 k1 k2 k3 hBp
  go_region
  go_wp2
  all_goals
    refine bodyPost_ret (results_super rfl _ _ rfl hAp.drew) rfl ?_
    exact ⟨ret_de HS.out HE.out, (hBw5.trans hBp).drew⟩

set_option maxHeartbeats 1000000 in
theorem decode_right (b : ByteArray) (w : World) (hs : b.size = 512) (h : RightP (decS b)) (hu : sector (decS b) = b.extract 0 256) : Calls Try.prog 11 #[.string b] w fun e w' => e = .returned (.tuple #[(decV b).val, .int .i64 (decE b)]) ∧ Below w.heap.size w w' := by
  have hok : decOk b := ⟨hs, h, hu⟩
  have HS := decV_yes hok
  have HE := Lib.hid (decE_yes hok)
  have hq : ((b.size : Int) != 512) = false := by simp; omega
  have T1 := Lib.hid (fun W => stake_any b 4 4 W (by omega) (by omega) (by omega) (by omega))
  have T2 := Lib.hid (fun W => stake_any b 8 6 W (by omega) (by omega) (by omega) (by omega))
  have T3 := Lib.hid (fun W => stake_any b 14 4 W (by omega) (by omega) (by omega) (by omega))
  have T4 := Lib.hid (fun W => stake_any b 18 6 W (by omega) (by omega) (by omega) (by omega))
  have hE := fun W => encode_any (decS b) W
  rw [encE_yes h] at hE
  have hsz := enc_size h
  have hhd := enc_head h
  obtain ⟨E, hEe⟩ : ∃ E, encS (decS b) = E := ⟨_, rfl⟩
  simp only [hEe] at hE hsz hhd
  clear hEe
  rw [← hhd] at hu
  have hcmp := beq_yes hu
  have r1 : (256 : Int) ≤ (E.size : Int) := by omega
  have r2 : (256 : Int) ≤ (b.size : Int) := by omega
  have r3 : 256 ≤ E.size := by omega
  have r4 : 256 ≤ b.size := by omega
  unfold S.val decS at hE
  unfold decS at HS
  have l1 := takeN_lt b 4 4
  have l3 := takeN_lt b 14 4
  have e4 : (256 : Nat) ^ 4 = 4294967296 := by decide
  rw [e4] at l1 l3
  obtain ⟨x1, hx1⟩ : ∃ x, takeN b 4 4 = x := ⟨_, rfl⟩
  obtain ⟨x2, hx2⟩ : ∃ x, takeN b 8 6 = x := ⟨_, rfl⟩
  obtain ⟨x3, hx3⟩ : ∃ x, takeN b 14 4 = x := ⟨_, rfl⟩
  obtain ⟨x4, hx4⟩ : ∃ x, takeN b 18 6 = x := ⟨_, rfl⟩
  simp only [hx1, hx2, hx3, hx4] at T1 T2 T3 T4 hE l1 l3 HS
  have v1 : IntKind.i64.wrap (x1 : Int) = x1 := by rw [IntKind.wrap_i64]; omega
  have v3 : IntKind.i64.wrap (x3 : Int) = x3 := by rw [IntKind.wrap_i64]; omega
  have HEE := Lib.hid hE
  have HV := Lib.hid HS
  clear HS hok h hu hhd hsz hx1 hx2 hx3 hx4 hs l1 l3 hE
  go_enter Try.func11, Try.ntmps11
  go_wp2_with (first
    | (go_at_call 22; with_reducible refine Calls.mono (T1.out _) ?_; rintro e w1 ⟨rfl, hB1⟩)
    | (go_at_call 22; with_reducible refine Calls.mono (T2.out _) ?_; rintro e w2 ⟨rfl, hB2⟩)
    | (go_at_call 22; with_reducible refine Calls.mono (T3.out _) ?_; rintro e w3 ⟨rfl, hB3⟩)
    | (go_at_call 22; with_reducible refine Calls.mono (T4.out _) ?_; rintro e w4 ⟨rfl, hB4⟩)
    | (go_at_call 9; with_reducible refine Calls.mono (HEE.out _) ?_; rintro e w5 ⟨rfl, hB5⟩))
  have hBw4 : Below w.heap.size w w4 := (Below.refl w.heap.size w).alloc (Nat.le_refl _) _ |> fun h => below_th (below_th (below_th (below_th h hB1) hB2) hB3) hB4
  have hA5 : At w5 w.heap.size S.none := (((((At.new w S.none).th hB1).th hB2).th hB3).th hB4).th (below_th ((Below.refl _ _).alloc (Nat.le_refl _) _) hB5)
  have hD5 : At w5 w4.heap.size ⟨x1, x2, x3, x4⟩ := (At.new w4 _).th hB5
  have hBw5 : Below w.heap.size w w5 := below_th (hBw4.alloc hBw4.size _) hB5
  obtain ⟨a0, a1, a2, a3⟩ := hA5.c
  obtain ⟨d0, d1, d2, d3⟩ := hD5.c
  have f0 := hA5.f 0
  have f1 := hA5.f 1
  have f2 := hA5.f 2
  have f3 := hA5.f 3
  obtain ⟨k0, k1, k2, k3, hAp, hBp⟩ := hA5.put4 ⟨x1, x2, x3, x4⟩
  dsimp only [S.none] at a0 a1 a2 a3 d0 d1 d2 d3 k0 k1 k2 k3 hBp
  go_region
  go_wp2
  all_goals
    refine bodyPost_ret (results_super rfl _ _ rfl hAp.drew) rfl ?_
    exact ⟨ret_de HV.out HE.out, (hBw5.trans hBp).drew⟩

theorem decode_any (b : ByteArray) (w : World) (hs : b.size ≤ 281474976710656) : Calls Try.prog 11 #[.string b] w fun e w' => e = .returned (.tuple #[(decV b).val, .int .i64 (decE b)]) ∧ Below w.heap.size w w' := by
  by_cases h1 : b.size = 512
  · by_cases h2 : RightP (decS b)
    · by_cases h3 : sector (decS b) = b.extract 0 256
      · exact decode_right b w h1 h2 h3
      · exact decode_unlike b w h1 h2 h3
    · exact decode_wrong b w h1 h2
  · exact decode_size b w hs h1

end
end Go.Proofs.Ytmknjnmbdnlkpaa.Super
