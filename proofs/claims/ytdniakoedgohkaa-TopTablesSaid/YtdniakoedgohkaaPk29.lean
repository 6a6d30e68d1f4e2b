/- Several texts in one, each under its own heading. -/
import Derived.Test.YtdniakoedgohkaaPk28
import Derived.Test.YtdniakoedgohkaaPk25
import Derived.Deep.RegionHeld3
import Derived.BigQuiet
import Derived.Deep.QuietTactic
/- Decode of the program's package root. -/
namespace Go.Proofs.Ytdniakoedgohkaa.Root
open Go.RowKit
attribute [local go_sem] Oper.semAt_some
set_option linter.unusedVariables false
set_option linter.unusedSimpArgs false
/-- what Decode leaves -/
def DecPost (s : ByteArray) (w : World) (e : Ending) (w' : World) : Prop := ∃ vd vc, e = .returned (.tuple #[(decV s).val vd vc, .int .i64 (decE s)]) ∧ Nums w' vd (decV s).dats ∧ Nums w' vc (decV s).cps ∧ Below w.heap.size w w'
theorem dec_end {s : ByteArray} {w W : World} {r : Q} {d c : Value} {n : Int} (h : decV s = r) (h2 : decE s = n) (h3 : Nums W d r.dats) (h4 : Nums W c r.cps) (hB : Below w.heap.size w W) : DecPost s w (.returned (.tuple #[r.val d c, .int .i64 n])) W :=
  ⟨d, c, by rw [h, h2], by rw [h]; exact h3, by rw [h]; exact h4, hB⟩
theorem results_root {fn : Func} {r e : Tmp} (h : fn.results = #[.cell r 25, .tmp e]) (tmps : Array Value) (w : World) {b : Nat} {n : Q} {vd vc : Value} (hp : tmps.getD r undef = .pointer (some ⟨b, 0, none⟩)) (hA : QAt w b n vd vc) :
    (results fn tmps).run Try.prog w = .ok (.tuple #[n.val vd vc, tmps.getD e undef]) w := by
  obtain ⟨c0, c1, c2, c3⟩ := hA.c
  rw [Array.getD_eq_getD_getElem?] at hp
  simp [results, h, hp, go_sem, c0, c1, c2, c3]
  rfl
/-- a root is laid over another one, part by part -/
theorem QAt.put4 {W : World} {b : Nat} {q : Q} {vd vc : Value} (h : QAt W b q vd vc) (t : Q) (d c : Value) :
    (W.setCell ⟨b, 0, none⟩ (.int .u64 t.cp)).cell? ⟨b, 0, none⟩ = some (.int .u64 t.cp) ∧
    ((W.setCell ⟨b, 0, none⟩ (.int .u64 t.cp)).setCell ⟨b, 1, none⟩ (.int .u64 t.tick)).cell? ⟨b, 1, none⟩ = some (.int .u64 t.tick) ∧
    (((W.setCell ⟨b, 0, none⟩ (.int .u64 t.cp)).setCell ⟨b, 1, none⟩ (.int .u64 t.tick)).setCell ⟨b, 2, none⟩ d).cell? ⟨b, 2, none⟩ = some d ∧
    ((((W.setCell ⟨b, 0, none⟩ (.int .u64 t.cp)).setCell ⟨b, 1, none⟩ (.int .u64 t.tick)).setCell ⟨b, 2, none⟩ d).setCell ⟨b, 3, none⟩ c).cell? ⟨b, 3, none⟩ = some c ∧
    QAt ((((W.setCell ⟨b, 0, none⟩ (.int .u64 t.cp)).setCell ⟨b, 1, none⟩ (.int .u64 t.tick)).setCell ⟨b, 2, none⟩ d).setCell ⟨b, 3, none⟩ c) b t d c ∧
    Below b W ((((W.setCell ⟨b, 0, none⟩ (.int .u64 t.cp)).setCell ⟨b, 1, none⟩ (.int .u64 t.tick)).setCell ⟨b, 2, none⟩ d).setCell ⟨b, 3, none⟩ c) := by
  unfold QAt at h
  have h0 := heap_setCell_same W b 0 _ _ (.int .u64 t.cp) h
  have h1 := heap_setCell_same _ b 1 _ _ (.int .u64 t.tick) h0
  have h2 := heap_setCell_same _ b 2 _ _ d h1
  have h3 := heap_setCell_same _ b 3 _ _ c h2
  refine ⟨by simp only [World.cell?, h0]; rfl, by simp only [World.cell?, h1]; rfl, by simp only [World.cell?, h2]; rfl, by simp only [World.cell?, h3]; rfl, h3, ?_⟩
  exact ((((Below.refl b W).setCell (p := ⟨b, 0, none⟩) (Nat.le_refl _) _).setCell (p := ⟨b, 1, none⟩) (Nat.le_refl _) _).setCell (p := ⟨b, 2, none⟩) (Nat.le_refl _) _).setCell (p := ⟨b, 3, none⟩) (Nat.le_refl _) _
theorem put4_other (W : World) (b : Nat) (u0 u1 u2 u3 : Value) (j : Nat) (hj : j ≠ b) : ((((W.setCell ⟨b, 0, none⟩ u0).setCell ⟨b, 1, none⟩ u1).setCell ⟨b, 2, none⟩ u2).setCell ⟨b, 3, none⟩ u3).heap[j]? = W.heap[j]? :=
  (Below.heap_setCell _ _ _ _ hj).trans ((Below.heap_setCell _ _ _ _ hj).trans ((Below.heap_setCell _ _ _ _ hj).trans (Below.heap_setCell _ _ _ _ hj)))
theorem beqL_yes {A B : ByteArray} (h : A = B) : (A.toList == B.toList) = true ∧ (A.toList != B.toList) = false := by rw [h]; simp
theorem beqL_no {A B : ByteArray} (h : ¬ A = B) : (A.toList == B.toList) = false ∧ (A.toList != B.toList) = true := by
  have : (A.toList == B.toList) = false := by
    rw [beq_eq_false_iff_ne]
    intro e
    exact h (by
      rw [ByteArray.toList_eq, ByteArray.toList_eq] at e
      cases A; cases B
      congr 1
      exact Array.toList_inj.1 e)
  exact ⟨this, by simp only [bne, this]; rfl⟩
theorem rd_ok (s : ByteArray) : QOk (rd s) := ⟨by
    have h := takeN_lt s 0 6
    rw [show (256 : Nat) ^ 6 = 281474976710656 by decide] at h
    show takeN s 0 6 < _; omega, by
    have h := takeN_lt s 6 6
    rw [show (256 : Nat) ^ 6 = 281474976710656 by decide] at h
    show takeN s 6 6 < _; omega, nAt_small s _ _, nAt_small s _ _⟩
section
set_option maxRecDepth 100000
set_option maxHeartbeats 2000000
theorem decode_size (s : ByteArray) (w : World) (hs : s.size ≤ 281474976710656) (h : ¬ s.size = 508) : Calls Try.prog 11 #[.string s] w (DecPost s w) := by
  have hno : ¬ DecP s := fun hh => h hh.1
  have HS := Lib.hid (decV_no hno)
  have HE := Lib.hid (decE_no hno)
  have hq : ((s.size : Int) != 508) = true := by simp; omega
  clear hno h
  go_enter Try.func11, Try.ntmps11
  go_wp2
  refine bodyPost_ret (results_root rfl _ _ rfl (QAt.new w Q.zero (.slice none 0 0) (.slice none 0 0))) rfl ?_
  exact dec_end HS.out HE.out (Nums.nil _) (Nums.nil _) (below_new w _)
theorem decode_counts (s : ByteArray) (w : World) (hs : s.size = 508) (h : ¬ ((1 ≤ sb s 12 ∧ sb s 12 ≤ 60) ∧ 1 ≤ sb s 13 ∧ sb s 13 ≤ 12)) : Calls Try.prog 11 #[.string s] w (DecPost s w) := by
  have hno : ¬ DecP s := fun hh => h (by
    have h2 := hh.2.1.1.2.2.2
    unfold rd at h2
    dsimp only at h2
    rw [nAt_length, nAt_length] at h2
    exact h2)
  have HS := Lib.hid (decV_no hno)
  have HE := Lib.hid (decE_no hno)
  have hq : ((s.size : Int) != 508) = false := by simp; omega
  have T1 := Lib.hid (fun W => rtake s 12 1 W (by omega) (by omega) (by omega) (by omega))
  have T2 := Lib.hid (fun W => rtake s 13 1 W (by omega) (by omega) (by omega) (by omega))
  rw [sb_take] at T1 T2
  have l1 := sb_lt s 12
  have l2 := sb_lt s 13
  obtain ⟨n, hn⟩ : ∃ n, sb s 12 = n := ⟨_, rfl⟩
  obtain ⟨m, hm⟩ : ∃ m, sb s 13 = m := ⟨_, rfl⟩
  rw [hn] at T1 l1 h
  rw [hm] at T2 l2 h
  have v1 : IntKind.i64.wrap (n : Int) = n := by rw [IntKind.wrap_i64]; omega
  have v2 : IntKind.i64.wrap (m : Int) = m := by rw [IntKind.wrap_i64]; omega
  have HC1 := Lib.hid (fun W => isCount_any (n : Int) 60 W)
  have HC2 := Lib.hid (fun W => isCount_any (m : Int) 12 W)
  clear hno hs hn hm
  by_cases k1 : 1 ≤ n ∧ n ≤ 60
  · have k2 : ¬ (1 ≤ m ∧ m ≤ 12) := fun hh => h ⟨k1, hh⟩
    rw [decide_eq_true (show (1 : Int) ≤ (n : Int) ∧ (n : Int) ≤ 60 by omega)] at HC1
    rw [decide_eq_false (show ¬ ((1 : Int) ≤ (m : Int) ∧ (m : Int) ≤ 12) by omega)] at HC2
    clear h k1 k2 l1 l2
    go_enter Try.func11, Try.ntmps11
    go_wp2_with (first
      | (go_at_call 33; (with_reducible refine Calls.mono (T1.out _) ?_); rintro e w1 ⟨rfl, hB1⟩)
      | (go_at_call 33; (with_reducible refine Calls.mono (T2.out _) ?_); rintro e w2 ⟨rfl, hB2⟩; have hA := ((QAt.new w Q.zero (.slice none 0 0) (.slice none 0 0)).th hB1).th hB2; obtain ⟨a0, a1, a2, a3⟩ := hA.c; have f0 := hA.f 0; have f1 := hA.f 1; have f2 := hA.f 2; have f3 := hA.f 3)
      | (go_at_call 34; with_reducible refine Calls.mono (HC1.out _) ?_; rintro e w' ⟨rfl, rfl⟩)
      | (go_at_call 34; with_reducible refine Calls.mono (HC2.out _) ?_; rintro e w' ⟨rfl, rfl⟩))
    obtain ⟨k0, k1, k2, k3, hAp, hBp⟩ := hA.put4 Q.zero (.slice none 0 0) (.slice none 0 0)
    refine bodyPost_ret (results_root rfl _ _ rfl hAp) rfl ?_
    exact dec_end HS.out HE.out (Nums.nil _) (Nums.nil _) ((below_th (below_th (below_new w _) hB1) hB2).trans hBp)
  · rw [decide_eq_false (show ¬ ((1 : Int) ≤ (n : Int) ∧ (n : Int) ≤ 60) by omega)] at HC1
    clear h k1 l1 l2 HC2
    go_enter Try.func11, Try.ntmps11
    go_wp2_with (first
      | (go_at_call 33; (with_reducible refine Calls.mono (T1.out _) ?_); rintro e w1 ⟨rfl, hB1⟩)
      | (go_at_call 33; (with_reducible refine Calls.mono (T2.out _) ?_); rintro e w2 ⟨rfl, hB2⟩; have hA := ((QAt.new w Q.zero (.slice none 0 0) (.slice none 0 0)).th hB1).th hB2; obtain ⟨a0, a1, a2, a3⟩ := hA.c; have f0 := hA.f 0; have f1 := hA.f 1; have f2 := hA.f 2; have f3 := hA.f 3)
      | (go_at_call 34; with_reducible refine Calls.mono (HC1.out _) ?_; rintro e w' ⟨rfl, rfl⟩))
    obtain ⟨k0, k1, k2, k3, hAp, hBp⟩ := hA.put4 Q.zero (.slice none 0 0) (.slice none 0 0)
    refine bodyPost_ret (results_root rfl _ _ rfl hAp) rfl ?_
    exact dec_end HS.out HE.out (Nums.nil _) (Nums.nil _) ((below_th (below_th (below_new w _) hB1) hB2).trans hBp)
theorem decode_main (s : ByteArray) (w : World) (hs : s.size = 508) (h : (1 ≤ sb s 12 ∧ sb s 12 ≤ 60) ∧ 1 ≤ sb s 13 ∧ sb s 13 ≤ 12) : Calls Try.prog 11 #[.string s] w (DecPost s w) := by
  have hq : ((s.size : Int) != 508) = false := by simp; omega
  have T1 := Lib.hid (fun W => rtake s 12 1 W (by omega) (by omega) (by omega) (by omega))
  have T2 := Lib.hid (fun W => rtake s 13 1 W (by omega) (by omega) (by omega) (by omega))
  have T3 := Lib.hid (fun W => rtake s 0 6 W (by omega) (by omega) (by omega) (by omega))
  have T4 := Lib.hid (fun W => rtake s 6 6 W (by omega) (by omega) (by omega) (by omega))
  rw [sb_take] at T1 T2
  have hEnc := fun d c W (h1 : Nums W d (rd s).dats) (h2 : Nums W c (rd s).cps) => encode_any (rd s) d c W h1 h2 (rd_ok s)
  have hV : DecP s → decV s = rd s := decV_yes
  have hD : DecP s ↔ encE (rd s) = 0 ∧ encS (rd s) = s := by
    constructor
    · intro hd
      exact ⟨encE_yes hd.2.1, (encS_yes hd.2.1).trans hd.2.2⟩
    · rintro ⟨h1, h2⟩
      have hr : RightP (rd s) := Classical.byContradiction fun hn => by rw [encE_no hn] at h1; cases h1
      exact ⟨hs, hr, by rw [← encS_yes hr]; exact h2⟩
  unfold rd at hEnc hV hD
  obtain ⟨n, hn⟩ : ∃ n, sb s 12 = n := ⟨_, rfl⟩
  obtain ⟨m, hm⟩ : ∃ m, sb s 13 = m := ⟨_, rfl⟩
  rw [hn] at T1 h
  rw [hm] at T2 h
  simp only [hn, hm] at hEnc hV hD
  have PL1 := Lib.hid (fun W => places_any s 14 n W hs h.1.1 (by omega))
  have hPL2 := fun W => places_any s (14 + 4 * n) m W hs h.2.1 (by omega)
  have ea : ((14 + 4 * n : Nat) : Int) = 14 + 4 * (n : Int) := by omega
  rw [ea] at hPL2
  have PL2 := Lib.hid hPL2
  unfold PlPost at PL1 PL2
  have e1 := nAt_length s n 14
  have e2 := nAt_length s m (14 + 4 * n)
  obtain ⟨x3, hx3⟩ : ∃ x, takeN s 0 6 = x := ⟨_, rfl⟩
  obtain ⟨x4, hx4⟩ : ∃ x, takeN s 6 6 = x := ⟨_, rfl⟩
  obtain ⟨D, hDD⟩ : ∃ D, nAt s 14 n = D := ⟨_, rfl⟩
  obtain ⟨C, hCC⟩ : ∃ C, nAt s (14 + 4 * n) m = C := ⟨_, rfl⟩
  simp only [hx3, hx4, hDD, hCC] at T3 T4 PL1 PL2 hEnc hV hD e1 e2
  obtain ⟨E, hE⟩ : ∃ E, encS ⟨x3, x4, D, C⟩ = E := ⟨_, rfl⟩
  obtain ⟨er, her⟩ : ∃ er, encE ⟨x3, x4, D, C⟩ = er := ⟨_, rfl⟩
  have hEr : er = 0 ∨ er = 153 := by
    rw [← her]
    by_cases hr : RightP ⟨x3, x4, D, C⟩
    · exact .inl (encE_yes hr)
    · exact .inr (encE_no hr)
  simp only [hE, her] at hEnc hD
  have v1 : IntKind.i64.wrap (n : Int) = n := by rw [IntKind.wrap_i64]; omega
  have v2 : IntKind.i64.wrap (m : Int) = m := by rw [IntKind.wrap_i64]; omega
  have v3 : IntKind.i64.wrap ((n : Int) * 4) = 4 * (n : Int) := by rw [IntKind.wrap_i64]; omega
  have v4 : IntKind.i64.wrap (14 + 4 * (n : Int)) = 14 + 4 * (n : Int) := by rw [IntKind.wrap_i64]; omega
  have HC1 := Lib.hid (fun W => isCount_any (n : Int) 60 W)
  have HC2 := Lib.hid (fun W => isCount_any (m : Int) 12 W)
  rw [decide_eq_true (show (1 : Int) ≤ (n : Int) ∧ (n : Int) ≤ 60 by omega)] at HC1
  rw [decide_eq_true (show (1 : Int) ≤ (m : Int) ∧ (m : Int) ≤ 12 by omega)] at HC2
  unfold Q.val Ans at hEnc
  have HENC := Lib.hid hEnc
  have HYES : Hid (er = 0 ∧ E = s → ∀ w' d c, Nums w' d D → Nums w' c C → Below w.heap.size w w' → DecPost s w (.returned (.tuple #[Q.val ⟨x3, x4, D, C⟩ d c, .int .i64 0])) w') := fun hh w' d c h1 h2 h3 => dec_end (hV (hD.2 hh)) (decE_yes (hD.2 hh)) h1 h2 h3
  have HNO : Hid (¬ (er = 0 ∧ E = s) → ∀ w', Below w.heap.size w w' → DecPost s w (.returned (.tuple #[Q.zero.val (.slice none 0 0) (.slice none 0 0), .int .i64 153])) w') := fun hh w' h3 => dec_end (decV_no (fun hd => hh (hD.1 hd))) (decE_no (fun hd => hh (hD.1 hd))) (Nums.nil _) (Nums.nil _) h3
  clear hEnc hV hD hn hm hx3 hx4 hDD hCC hE her hPL2 ea hs h
  go_enter Try.func11, Try.ntmps11
  go_wp2_with (first
    | (go_at_call 33; (with_reducible refine Calls.mono (T1.out _) ?_); rintro e w1 ⟨rfl, hB1⟩)
    | (go_at_call 33; (with_reducible refine Calls.mono (T2.out _) ?_); rintro e w2 ⟨rfl, hB2⟩)
    | (go_at_call 34; with_reducible refine Calls.mono (HC1.out _) ?_; rintro e w' ⟨rfl, rfl⟩)
    | (go_at_call 34; with_reducible refine Calls.mono (HC2.out _) ?_; rintro e w' ⟨rfl, rfl⟩)
    | (go_at_call 33; (with_reducible refine Calls.mono (T3.out _) ?_); rintro e w3 ⟨rfl, hB3⟩)
    | (go_at_call 33; (with_reducible refine Calls.mono (T4.out _) ?_); rintro e w4 ⟨rfl, hB4⟩)
    | (go_at_call 35; (with_reducible refine Calls.mono (PL1.out _) ?_); rintro e w5 ⟨b5, rfl, hn5, hb5, hB5⟩; have HN5 := Lib.hid hn5; clear hn5)
    | (go_at_call 35; (with_reducible refine Calls.mono (PL2.out _) ?_); rintro e w6 ⟨b6, rfl, hn6, hb6, hB6⟩; have HN6 := Lib.hid hn6; clear hn6))
  have hZ : (w.alloc (boxQ Q.zero (.slice none 0 0) (.slice none 0 0))).heap.size = w.heap.size + 1 := World.size_alloc ..
  have hw6 : Below w.heap.size w w6 := below_th (below_th (below_th (below_th (below_th (below_th (below_new w _) hB1) hB2) hB3) hB4) hB5) hB6
  have hA6 : QAt w6 w.heap.size Q.zero (.slice none 0 0) (.slice none 0 0) := ((((((QAt.new w Q.zero (.slice none 0 0) (.slice none 0 0)).th hB1).th hB2).th hB3).th hB4).th hB5).th hB6
  have hn5 : Nums w6 (.slice (some ⟨b5, 0, none⟩) n n) D := HN5.out.below hB6
  have hn6 : Nums w6 (.slice (some ⟨b6, 0, none⟩) m m) C := HN6.out
  have hgt5 : b5 ≠ w.heap.size := by
    have h1 := hB1.size; have h2 := hB2.size; have h3 := hB3.size; have h4 := hB4.size
    rw [World.size_alloc] at h1
    omega
  have hgt6 : b6 ≠ w.heap.size := by
    have h1 := hB1.size; have h2 := hB2.size; have h3 := hB3.size; have h4 := hB4.size; have h5 := hB5.size
    rw [World.size_alloc] at h1
    omega
  have hal := below_new w6 (boxQ ⟨x3, x4, D, C⟩ (.slice (some ⟨b5, 0, none⟩) n n) (.slice (some ⟨b6, 0, none⟩) m m))
  have hR7 := QAt.new w6 ⟨x3, x4, D, C⟩ (.slice (some ⟨b5, 0, none⟩) n n) (.slice (some ⟨b6, 0, none⟩) m m)
  have hm5 := hn5.below hal
  have hm6 := hn6.below hal
  have hA7 := hA6.th hal
  have hw7 := below_th hw6 hal
  unfold boxQ at hal hR7 hm5 hm6 hA7 hw7
  dsimp only at hal hR7 hm5 hm6 hA7 hw7
  have hgt7 : w6.heap.size ≠ w.heap.size := by
    have h1 := hB1.size; have h2 := hB2.size; have h3 := hB3.size; have h4 := hB4.size; have h5 := hB5.size; have h6 := hB6.size
    rw [World.size_alloc] at h1
    omega
  have HEN8 := Lib.hid (HENC.out _ _ _ hm5 hm6)
  obtain ⟨W7, hW7⟩ : ∃ W7, w6.alloc (.cells #[.int .u64 (x3 : Int), .int .u64 (x4 : Int), .slice (some ⟨b5, 0, none⟩) n n, .slice (some ⟨b6, 0, none⟩) m m] 25) = W7 := ⟨_, rfl⟩
  simp only [hW7] at HEN8 hal hR7 hm5 hm6 hA7 hw7 ⊢
  clear HN5 HN6 HENC hn5 hn6 hA6 hw6 PL1 PL2 T1 T2 T3 T4 HC1 HC2
  refine Calls.mono HEN8.out ?_
  rintro e w8 ⟨rfl, hB8⟩
  have hA8 := hA7.th hB8
  have hR8 := hR7.th hB8
  have hw8 := below_th hw7 hB8
  have hp5 := hm5.below hB8
  have hp6 := hm6.below hB8
  obtain ⟨a0, a1, a2, a3⟩ := hA8.c
  obtain ⟨r0, r1, r2, r3⟩ := hR8.c
  have f0 := hA8.f 0
  have f1 := hA8.f 1
  have f2 := hA8.f 2
  have f3 := hA8.f 3
  by_cases h0 : er = 0
  · have g0 : ((er : Int) != 0) = false := by simp [h0]
    by_cases hes : E = s
    · obtain ⟨g1, g2⟩ := beqL_yes hes
      have HY := Lib.hid (HYES.out ⟨h0, hes⟩)
      obtain ⟨k0, k1, k2, k3, hAp, hBp⟩ := hA8.put4 ⟨x3, x4, D, C⟩ (.slice (some ⟨b5, 0, none⟩) n n) (.slice (some ⟨b6, 0, none⟩) m m)
      have hq5 : Nums _ (.slice (some ⟨b5, 0, none⟩) n n) D := hp5.keep fun g o k c he _ => put4_other w8 w.heap.size (.int .u64 x3) (.int .u64 x4) (.slice (some ⟨b5, 0, none⟩) n n) (.slice (some ⟨b6, 0, none⟩) m m) g (by cases he; exact hgt5)
      have hq6 : Nums _ (.slice (some ⟨b6, 0, none⟩) m m) C := hp6.keep fun g o k c he _ => put4_other w8 w.heap.size (.int .u64 x3) (.int .u64 x4) (.slice (some ⟨b5, 0, none⟩) n n) (.slice (some ⟨b6, 0, none⟩) m m) g (by cases he; exact hgt6)
      have HF := Lib.hid (HY.out _ _ _ hq5 hq6 (hw8.trans hBp))
      have HAp := Lib.hid hAp
      clear hq5 hq6 hBp hp5 hp6 hA8 hR8 hw8 hm5 hm6 hA7 hR7 hw7 hal hB8 HEN8 HYES HNO HY h0 hes hEr hAp
      go_wp2
      refine bodyPost_ret (results_root rfl _ _ rfl HAp.out) rfl ?_
      exact HF.out
    · obtain ⟨g1, g2⟩ := beqL_no hes
      have HY := Lib.hid (HNO.out (fun hh => hes hh.2))
      obtain ⟨k0, k1, k2, k3, hAp, hBp⟩ := hA8.put4 Q.zero (.slice none 0 0) (.slice none 0 0)
      have HF := Lib.hid (HY.out _ (hw8.trans hBp))
      have HAp := Lib.hid hAp
      clear hBp hp5 hp6 hA8 hR8 hw8 hm5 hm6 hA7 hR7 hw7 hal hB8 HEN8 HYES HNO HY h0 hes hEr hAp
      go_wp2
      refine bodyPost_ret (results_root rfl _ _ rfl HAp.out) rfl ?_
      exact HF.out
  · have g0 : ((er : Int) != 0) = true := by simp [h0]
    have HY := Lib.hid (HNO.out (fun hh => h0 hh.1))
    obtain ⟨k0, k1, k2, k3, hAp, hBp⟩ := hA8.put4 Q.zero (.slice none 0 0) (.slice none 0 0)
    have HF := Lib.hid (HY.out _ (hw8.trans hBp))
    have HAp := Lib.hid hAp
    clear hBp hp5 hp6 hA8 hR8 hw8 hm5 hm6 hA7 hR7 hw7 hal hB8 HEN8 HYES HNO HY h0 hEr hAp
    go_wp2
    refine bodyPost_ret (results_root rfl _ _ rfl HAp.out) rfl ?_
    exact HF.out
theorem decode_any (s : ByteArray) (w : World) (hs : s.size ≤ 281474976710656) : Calls Try.prog 11 #[.string s] w (DecPost s w) := by
  by_cases h1 : s.size = 508
  · by_cases h2 : (1 ≤ sb s 12 ∧ sb s 12 ≤ 60) ∧ 1 ≤ sb s 13 ∧ sb s 13 ≤ 12
    · exact decode_main s w h1 h2
    · exact decode_counts s w h1 h2
  · exact decode_size s w hs h1
end
end Go.Proofs.Ytdniakoedgohkaa.Root
/- Same of the document: are two roots the same? -/
namespace Go.Proofs.Ytdniakoedgohkaa.Root
open Go.RowKit
attribute [local go_sem] Oper.semAt_some
set_option linter.unusedVariables false

section
set_option maxRecDepth 100000
set_option maxHeartbeats 4000000
theorem same_any (a b : Q) (d c e f : Value) (w : World) (h1 : Nums w d a.dats) (h2 : Nums w c a.cps) (h3 : Nums w e b.dats) (h4 : Nums w f b.cps) : Calls Try.prog 15 #[a.val d c, b.val e f] w (Ans w (.bool (decide (a = b)))) := by
  obtain ⟨hA1, hA2⟩ := boxes w a b d c e f
  have hB : Below w.heap.size w ((w.alloc (boxQ a d c)).alloc (boxQ b e f)) := (below_new w _).alloc (by simp) _
  obtain ⟨cp, ti, D, C⟩ := a
  obtain ⟨cp2, ti2, D2, C2⟩ := b
  dsimp only at h1 h2 h3 h4
  have HEQ : Hid (cp = cp2 → ti = ti2 → D.length = D2.length → C.length = C2.length → (∀ j, j < D.length → nu D j = nu D2 j) → (∀ j, j < C.length → nu C j = nu C2 j) → decide ((⟨cp, ti, D, C⟩ : Q) = ⟨cp2, ti2, D2, C2⟩) = true) := fun k1 k2 k3 k4 k5 k6 => decide_eq_true (by rw [k1, k2, nu_ext k3 k5, nu_ext k4 k6])
  have HNE : Hid (¬ (cp = cp2 ∧ ti = ti2 ∧ D.length = D2.length ∧ C.length = C2.length) → decide ((⟨cp, ti, D, C⟩ : Q) = ⟨cp2, ti2, D2, C2⟩) = false) := fun k => decide_eq_false fun h => k (by cases h; exact ⟨rfl, rfl, rfl, rfl⟩)
  have HND : Hid (∀ j, ¬ nu D j = nu D2 j → decide ((⟨cp, ti, D, C⟩ : Q) = ⟨cp2, ti2, D2, C2⟩) = false) := fun j k => decide_eq_false fun h => k (by cases h; rfl)
  have HNC : Hid (∀ j, ¬ nu C j = nu C2 j → decide ((⟨cp, ti, D, C⟩ : Q) = ⟨cp2, ti2, D2, C2⟩) = false) := fun j k => decide_eq_false fun h => k (by cases h; rfl)
  obtain ⟨x, hx⟩ : ∃ x, decide ((⟨cp, ti, D, C⟩ : Q) = ⟨cp2, ti2, D2, C2⟩) = x := ⟨_, rfl⟩
  rw [hx] at HEQ HNE HND HNC ⊢
  clear hx
  have h1' := h1.below hB
  have h2' := h2.below hB
  have h3' := h3.below hB
  have h4' := h4.below hB
  obtain ⟨ad, cd, rfl, m1, m2⟩ := h1.parts
  obtain ⟨ac, cc, rfl, m3, m4⟩ := h2.parts
  obtain ⟨ae, ce, rfl, m5, m6⟩ := h3.parts
  obtain ⟨af, cf, rfl, m7, m8⟩ := h4.parts
  clear h1 h2 h3 h4
  obtain ⟨ND, hND⟩ : ∃ n, D.length = n := ⟨_, rfl⟩
  obtain ⟨NC, hNC⟩ : ∃ n, C.length = n := ⟨_, rfl⟩
  obtain ⟨NE, hNE⟩ : ∃ n, D2.length = n := ⟨_, rfl⟩
  obtain ⟨NF, hNF⟩ : ∃ n, C2.length = n := ⟨_, rfl⟩
  simp only [hND, hNC, hNE, hNF] at HNE HEQ m1 m3 m5 m7 h1' h2' h3' h4' hA1 hA2 hB ⊢
  have KD := Lib.hid hND
  have KC := Lib.hid hNC
  have KE := Lib.hid hNE
  have KF := Lib.hid hNF
  clear hND hNC hNE hNF
  obtain ⟨W1, hW1⟩ : ∃ W1, (w.alloc (boxQ ⟨cp, ti, D, C⟩ (.slice ad ND cd) (.slice ac NC cc))).alloc (boxQ ⟨cp2, ti2, D2, C2⟩ (.slice ae NE ce) (.slice af NF cf)) = W1 := ⟨_, rfl⟩
  rw [hW1] at hA1 hA2 hB h1' h2' h3' h4'
  have HA1 := Lib.hid hA1
  have HA2 := Lib.hid hA2
  have HB := Lib.hid hB
  have H1 := Lib.hid h1'
  have H2 := Lib.hid h2'
  have H3 := Lib.hid h3'
  have H4 := Lib.hid h4'
  obtain ⟨g0, g1, g2, g3⟩ := hA1.c
  obtain ⟨k0, k1, k2, k3⟩ := hA2.c
  dsimp only at g0 g1 k0 k1
  clear hA1 hA2 hB h1' h2' h3' h4'
  unfold boxQ at hW1
  unfold Q.val
  dsimp only at hW1 ⊢
  by_cases e1 : cp = cp2
  · subst e1
    have q1 : ((cp : Int) != (cp : Int)) = false := by simp
    by_cases e2 : ti = ti2
    · subst e2
      have q2 : ((ti : Int) != (ti : Int)) = false := by simp
      by_cases e3 : ND = NE
      · subst e3
        have q3 : ((ND : Int) != (ND : Int)) = false := by simp
        by_cases e4 : NC = NF
        · subst e4
          have q4 : ((NC : Int) != (NC : Int)) = false := by simp
          go_enter Try.func15, Try.ntmps15
          go_wp2
          go_loopw [5] (fun i wr => ∃ k : Nat, k ≤ ND ∧ i = .int .i64 (k : Int) ∧ Hid (∀ j, j < k → nu D j = nu D2 j) ∧ Hid (Below W1.heap.size W1 wr)) (fun i _ => ND - (intOf i).toNat)
          case atStart => exact ⟨0, by omega, rfl, (fun j hj => by omega), Below.refl _ _⟩
          case round =>
            obtain ⟨k, hk, rfl, HU5, HBr⟩ := hrel
            obtain ⟨y0, y1, y2, y3⟩ := (HA1.out.th HBr.out).c
            obtain ⟨z0, z1, z2, z3⟩ := (HA2.out.th HBr.out).c
            dsimp only at y0 y1 z0 z1
            by_cases hlt : k < ND
            · have hlti : (k : Int) < (ND : Int) := by omega
              have hk1 := Lib.hid (Nat.succ_le_of_lt hlt)
              obtain ⟨b1, o1, rfl, c1⟩ := (H1.out.below HBr.out).at KD.out (k := k) hlt
              obtain ⟨b2, o2, rfl, c2⟩ := (H3.out.below HBr.out).at KE.out (k := k) hlt
              obtain ⟨xa, hxa⟩ : ∃ x, nu D k = x := ⟨_, rfl⟩
              obtain ⟨xb, hxb⟩ : ∃ x, nu D2 k = x := ⟨_, rfl⟩
              rw [hxa] at c1
              rw [hxb] at c2
              by_cases hx : xa = xb
              · subst hx
                have HXX := Lib.hid (hxa.trans hxb.symm)
                have hq1 : ((xa : Int) != (xa : Int)) = false := by simp
                clear hxa hxb
                go_wp2
                go_quiet (fail)
                go_wp2
                go_roundw
                case rel => exact ⟨k + 1, hk1.out, by go_num, (fun j hj => (by rcases Nat.lt_succ_iff_lt_or_eq.1 hj with h | h; exact HU5.out j h; rw [h]; exact HXX.out)), below_drewN HBr.out _⟩
                case measure => have := hk1.out; simp [intOf]; omega
              · have HX := Lib.hid (HND.out k (by rw [hxa, hxb]; exact hx))
                have hq1 : ((xa : Int) != (xb : Int)) = true := by simp; omega
                have hq2 : (xa != xb) = true := by simp [hx]
                have hq3 : ¬ (xa : Int) = (xb : Int) := by omega
                clear hxa hxb hx
                go_wp2
                go_quiet (fail)
                go_wp2
                go_ret
                exact ⟨by rw [HX.out]; rfl, below_drewN (HB.out.trans (HBr.out.mono HB.out.size)) _⟩
            · have hlti : ¬ (k : Int) < (ND : Int) := by omega
              obtain rfl : k = ND := by omega
              have KEEP := HBr
              go_wp2
              go_loopw [6] (fun i wr => ∃ k : Nat, k ≤ NC ∧ i = .int .i64 (k : Int) ∧ Hid (∀ j, j < k → nu C j = nu C2 j) ∧ Hid (Below W1.heap.size W1 wr)) (fun i _ => NC - (intOf i).toNat)
              case atStart => exact ⟨0, by omega, rfl, (fun j hj => by omega), HBr.out⟩
              case round =>
                obtain ⟨k, hk, rfl, HU6, HBr⟩ := hrel
                obtain ⟨y0, y1, y2, y3⟩ := (HA1.out.th HBr.out).c
                obtain ⟨z0, z1, z2, z3⟩ := (HA2.out.th HBr.out).c
                dsimp only at y0 y1 z0 z1
                by_cases hlt : k < NC
                · have hlti : (k : Int) < (NC : Int) := by omega
                  have hk1 := Lib.hid (Nat.succ_le_of_lt hlt)
                  obtain ⟨b1, o1, rfl, c1⟩ := (H2.out.below HBr.out).at KC.out (k := k) hlt
                  obtain ⟨b2, o2, rfl, c2⟩ := (H4.out.below HBr.out).at KF.out (k := k) hlt
                  obtain ⟨xa, hxa⟩ : ∃ x, nu C k = x := ⟨_, rfl⟩
                  obtain ⟨xb, hxb⟩ : ∃ x, nu C2 k = x := ⟨_, rfl⟩
                  rw [hxa] at c1
                  rw [hxb] at c2
                  by_cases hx : xa = xb
                  · subst hx
                    have HXX := Lib.hid (hxa.trans hxb.symm)
                    have hq1 : ((xa : Int) != (xa : Int)) = false := by simp
                    clear hxa hxb
                    go_wp2
                    go_quiet (fail)
                    go_wp2
                    go_roundw
                    case rel => exact ⟨k + 1, hk1.out, by go_num, (fun j hj => (by rcases Nat.lt_succ_iff_lt_or_eq.1 hj with h | h; exact HU6.out j h; rw [h]; exact HXX.out)), below_drewN HBr.out _⟩
                    case measure => have := hk1.out; simp [intOf]; omega
                  · have HX := Lib.hid (HNC.out k (by rw [hxa, hxb]; exact hx))
                    have hq1 : ((xa : Int) != (xb : Int)) = true := by simp; omega
                    have hq2 : (xa != xb) = true := by simp [hx]
                    have hq3 : ¬ (xa : Int) = (xb : Int) := by omega
                    clear hxa hxb hx
                    go_wp2
                    go_quiet (fail)
                    go_wp2
                    go_ret
                    exact ⟨by rw [HX.out]; rfl, below_drewN (HB.out.trans (HBr.out.mono HB.out.size)) _⟩
                · have hlti : ¬ (k : Int) < (NC : Int) := by omega
                  obtain rfl : k = NC := by omega
                  have HX := Lib.hid (HEQ.out (by first | rfl | trivial) (by first | rfl | trivial) (by first | rfl | trivial) (by first | rfl | trivial) HU5.out HU6.out)
                  go_wp2
                  go_ret
                  exact ⟨by rw [HX.out]; rfl, HB.out.trans (HBr.out.mono HB.out.size)⟩
        · have q4 : ((NC : Int) != (NF : Int)) = true := by simp; omega
          have HX := Lib.hid (HNE.out (fun h => e4 h.2.2.2))
          have q4b : ¬ (NC : Int) = (NF : Int) := by omega
          clear e4
          go_enter Try.func15, Try.ntmps15
          go_wp2
          go_ret
          exact ⟨by rw [HX.out]; rfl, HB.out⟩
      · have q3 : ((ND : Int) != (NE : Int)) = true := by simp; omega
        have HX := Lib.hid (HNE.out (fun h => e3 h.2.2.1))
        have q3b : ¬ (ND : Int) = (NE : Int) := by omega
        clear e3
        go_enter Try.func15, Try.ntmps15
        go_wp2
        go_ret
        exact ⟨by rw [HX.out]; rfl, HB.out⟩
    · have q2 : ((ti : Int) != (ti2 : Int)) = true := by simp; omega
      have HX := Lib.hid (HNE.out (fun h => e2 h.2.1))
      have q2b : ¬ (ti : Int) = (ti2 : Int) := by omega
      clear e2
      go_enter Try.func15, Try.ntmps15
      go_wp2
      go_ret
      exact ⟨by rw [HX.out]; rfl, HB.out⟩
  · have q1 : ((cp : Int) != (cp2 : Int)) = true := by simp; omega
    have HX := Lib.hid (HNE.out (fun h => e1 h.1))
    have q1b : ¬ (cp : Int) = (cp2 : Int) := by omega
    clear e1
    go_enter Try.func15, Try.ntmps15
    go_wp2
    go_ret
    exact ⟨by rw [HX.out]; rfl, HB.out⟩
end
end Go.Proofs.Ytdniakoedgohkaa.Root
/- What the laws on roots show first. -/
namespace Go.Proofs.Ytdniakoedgohkaa.Root
open Go.RowKit
attribute [local go_sem] Oper.semAt_some
set_option linter.unusedVariables false
set_option linter.unusedSimpArgs false
def F0 : Q := ⟨2, 3, [17], [18]⟩
def F1 : Q := ⟨2, 0, [17], [17]⟩
theorem f0_right : RightP F0 := by decide
theorem f1_wrong : ¬ RightP F1 := by decide
theorem nums_one {W : World} {b : Nat} {x : Nat} (h : W.heap[b]? = some (.cells #[.int .u32 (x : Int)] 35 (0, 0))) : Nums W (.slice (some ⟨b, 0, none⟩) 1 1) [x] := by
  refine ⟨_, 1, rfl, Nat.le_refl _, ⟨by unfold maxLen; decide, fun e => by cases e⟩, rfl, fun _ => ⟨b, 0, rfl, fun j u hj => ?_⟩⟩
  rcases j with _ | j
  · cases hj
    simp only [World.cell?, h]
    rfl
  · simp at hj
theorem results_root1 {fn : Func} {r : Tmp} (h : fn.results = #[.cell r 25]) (tmps : Array Value) (w : World) {b : Nat} {n : Q} {vd vc : Value} (hp : tmps.getD r undef = .pointer (some ⟨b, 0, none⟩)) (hA : QAt w b n vd vc) :
    (results fn tmps).run Try.prog w = .ok (n.val vd vc) w := by
  obtain ⟨c0, c1, c2, c3⟩ := hA.c
  rw [Array.getD_eq_getD_getElem?] at hp
  simp [results, h, hp, go_sem, c0, c1, c2, c3]
  rfl
theorem f1_ok : QOk F1 := ⟨by decide, by decide, fun x h => by simp [F1] at h; omega, fun x h => by simp [F1] at h; omega⟩
def FirstPost (w : World) (e : Ending) (w' : World) : Prop := ∃ b1 b2, e = .returned (F0.val (.slice (some ⟨b1, 0, none⟩) 1 1) (.slice (some ⟨b2, 0, none⟩) 1 1)) ∧ Nums w' (.slice (some ⟨b1, 0, none⟩) 1 1) F0.dats ∧ Nums w' (.slice (some ⟨b2, 0, none⟩) 1 1) F0.cps ∧ Below w.heap.size w w'
section
set_option maxRecDepth 100000
set_option maxHeartbeats 2000000
theorem first_any (w : World) : Calls Try.prog 26 #[] w (FirstPost w) := by
  obtain ⟨W1, hW1⟩ : ∃ W, w.alloc (.cells #[.int .u64 2, .int .u64 3, .slice (some ⟨w.heap.size + 1, 0, none⟩) 1 1, .slice (some ⟨w.heap.size + 1 + 1, 0, none⟩) 1 1] 25) = W := ⟨_, rfl⟩
  have hs1 : W1.heap.size = w.heap.size + 1 := by rw [← hW1]; exact World.size_alloc ..
  obtain ⟨W2, hW2⟩ : ∃ W, W1.alloc (.cells #[.int .u32 17] 35) = W := ⟨_, rfl⟩
  have hs2 : W2.heap.size = w.heap.size + 1 + 1 := by rw [← hW2, World.size_alloc, hs1]
  obtain ⟨W3, hW3⟩ : ∃ W, W2.alloc (.cells #[.int .u32 18] 35) = W := ⟨_, rfl⟩
  have hB2 : Below W1.heap.size W1 W2 := by rw [← hW2]; exact below_new _ _
  have hB3 : Below W2.heap.size W2 W3 := by rw [← hW3]; exact below_new _ _
  have hB1 : Below w.heap.size w W1 := by rw [← hW1]; exact below_new _ _
  have HA : Hid (QAt W3 w.heap.size F0 (.slice (some ⟨w.heap.size + 1, 0, none⟩) 1 1) (.slice (some ⟨w.heap.size + 1 + 1, 0, none⟩) 1 1)) := ((show QAt W1 w.heap.size F0 (.slice (some ⟨w.heap.size + 1, 0, none⟩) 1 1) (.slice (some ⟨w.heap.size + 1 + 1, 0, none⟩) 1 1) by rw [← hW1]; exact QAt.new w F0 _ _).th hB2).th hB3
  have n1 : W3.heap[w.heap.size + 1]? = some (.cells #[.int .u32 ((17 : Nat) : Int)] 35 (0, 0)) := by
    refine (hB3.block _ (by omega)).trans ?_
    rw [← hW2, ← hs1]
    exact World.alloc_heap_new W1 _
  have n2 : W3.heap[w.heap.size + 1 + 1]? = some (.cells #[.int .u32 ((18 : Nat) : Int)] 35 (0, 0)) := by
    rw [← hW3, ← hs2]
    exact World.alloc_heap_new W2 _
  have HF : Hid (FirstPost w (.returned (F0.val (.slice (some ⟨w.heap.size + 1, 0, none⟩) 1 1) (.slice (some ⟨w.heap.size + 1 + 1, 0, none⟩) 1 1))) W3) := ⟨_, _, rfl, nums_one (x := 17) n1, nums_one (x := 18) n2, below_th (below_th hB1 hB2) hB3⟩
  clear n1 n2 hB1 hB2 hB3 hs1 hs2
  go_enter Try.func26, Try.ntmps26
  subst hW3 hW2 hW1
  go_wp2
  refine bodyPost_ret (results_root1 rfl _ _ rfl HA.out) rfl ?_
  exact HF.out
theorem shown_any (w : World) : Calls Try.prog 8 #[] w (Ans w (.bool true)) := by
  have hd := dec_rot f0_right
  have HF := Lib.hid first_any
  have hE := fun d c W (h1 : Nums W d F0.dats) (h2 : Nums W c F0.cps) => encode_any F0 d c W h1 h2 f0_right.ok
  rw [encS_yes f0_right, encE_yes f0_right] at hE
  have hE1 := fun d c W (h1 : Nums W d F1.dats) (h2 : Nums W c F1.cps) => encode_any F1 d c W h1 h2 f1_ok
  rw [encS_no f1_wrong, encE_no f1_wrong] at hE1
  have hsz := rotB_size f0_right.1
  have hD := fun W => decode_any (rotB F0) W (by omega)
  unfold DecPost at hD
  rw [hd.2, decE_yes hd.1] at hD
  obtain ⟨s, hss⟩ : ∃ s, rotB F0 = s := ⟨_, rfl⟩
  rw [hss] at hE hsz hD
  have hq : ((s.size : Int) == 508) = true := by simp; omega
  have hS := fun d c e f W h1 h2 h3 h4 => same_any F0 F0 d c e f W h1 h2 h3 h4
  rw [decide_eq_true (rfl : F0 = F0)] at hS
  unfold Q.val at hE hE1 hD hS
  unfold Ans at hE hE1 hS
  unfold F1 at hE1
  unfold FirstPost Q.val at HF
  dsimp only at hE1
  have HE := Lib.hid hE
  have HE1 := Lib.hid hE1
  have HD := Lib.hid hD
  have HS := Lib.hid hS
  clear hE hE1 hD hS hss hsz hd
  have HN1 := Lib.hid (fun (W : World) => nums_one (x := 17) (World.alloc_heap_new W (.cells #[.int .u32 ((17 : Nat) : Int)] 35)))
  go_enter Try.func8, Try.ntmps8
  go_wp2_with (first
    | (go_at_call 26; (with_reducible refine Calls.mono (HF.out _) ?_); rintro e w1 ⟨b1, b2, rfl, hn1, hn2, hB1⟩)
    | (go_at_call 9; (with_reducible refine Calls.mono (HE.out _ _ _ hn1 hn2) ?_); rintro e w2 ⟨rfl, hB2⟩)
    | (go_at_call 11; (with_reducible refine Calls.mono (HD.out _) ?_); rintro e w3 ⟨vd, vc, rfl, hd, hc, hB3⟩; obtain ⟨xa, xc, rfl, _, _⟩ := hd.parts; obtain ⟨ya, yc, rfl, _, _⟩ := hc.parts))
  have hb1 := below_new w3 (boxQ F0 (.slice xa F0.dats.length xc) (.slice ya F0.cps.length yc))
  have hA1 := QAt.new w3 F0 (.slice xa F0.dats.length xc) (.slice ya F0.cps.length yc)
  have hd1 := hd.below hb1
  have hc1 := hc.below hb1
  have hz1 : (w3.alloc (boxQ F0 (.slice xa F0.dats.length xc) (.slice ya F0.cps.length yc))).heap.size = w3.heap.size + 1 := World.size_alloc ..
  unfold boxQ at hb1 hA1 hd1 hc1 hz1
  obtain ⟨w4, hw4⟩ : ∃ w4, w3.alloc (.cells #[.int .u64 (F0.cp : Int), .int .u64 (F0.tick : Int), .slice xa F0.dats.length xc, .slice ya F0.cps.length yc] 25) = w4 := ⟨_, rfl⟩
  rw [hw4] at hb1 hA1 hd1 hc1 hz1 ⊢
  obtain ⟨q, hqq⟩ : ∃ q, w3.heap.size = q := ⟨_, rfl⟩
  have hBw4 : Below w.heap.size w w4 := below_th (below_th (below_th hB1 hB2) hB3) hb1
  simp only [hqq] at hA1 hz1 ⊢
  have n1 := HN1.out w4
  have hb2 := below_new w4 (.cells #[.int .u32 17] 35)
  have n2 := HN1.out (w4.alloc (.cells #[.int .u32 17] 35))
  have hb3 := below_new (w4.alloc (.cells #[.int .u32 17] 35)) (.cells #[.int .u32 17] 35)
  have n1' := n1.below hb3
  rw [World.size_alloc] at n2
  rw [hz1] at n1' n2
  have hEN := HE1.out _ _ _ n1' n2
  have hb23 := below_th hb2 hb3
  have hBw5 := below_th hBw4 hb23
  have hA2 := hA1.th hb23
  have hd2 := hd1.below hb23
  have hc2 := hc1.below hb23
  obtain ⟨w5, hw5⟩ : ∃ w5, (w4.alloc (.cells #[.int .u32 17] 35)).alloc (.cells #[.int .u32 17] 35) = w5 := ⟨_, rfl⟩
  rw [hw5] at hEN hBw5 hA2 hd2 hc2 ⊢
  clear n1 n2 n1' hb2 hb3 hb23 hA1 hd1 hc1 hb1 hz1 hBw4 hw4 hw5 HN1 HE1 hqq hd hc
  refine Calls.mono hEN ?_
  rintro e w6 ⟨rfl, hB6⟩
  clear hEN
  have hA6 := hA2.th hB6
  have HD6 := Lib.hid (hd2.below hB6)
  have HC6 := Lib.hid (hc2.below hB6)
  have HBw := Lib.hid (below_th hBw5 hB6)
  have HC : Hid (∀ W, Below w6.heap.size w6 W → W.cell? ⟨q, 0, none⟩ = some (.int .u64 (F0.cp : Int)) ∧ W.cell? ⟨q, 1, none⟩ = some (.int .u64 (F0.tick : Int)) ∧ W.cell? ⟨q, 2, none⟩ = some (.slice xa F0.dats.length xc) ∧ W.cell? ⟨q, 3, none⟩ = some (.slice ya F0.cps.length yc)) := fun W hW => (hA6.th hW).c
  obtain ⟨c0, c1, c2, c3⟩ := hA6.c
  have hD1 : Below w6.heap.size w6 w6.drew := (Below.refl _ _).drew
  clear hA6 hA2 hd2 hc2 hBw5 HE HD hB1 hB2 hB3 hB6 hn1 hn2
  go_wp2
  go_region_held3 (fun w' => (w'.cell? ⟨q, 0, none⟩ = some (.int .u64 (F0.cp : Int)) ∧ w'.cell? ⟨q, 1, none⟩ = some (.int .u64 (F0.tick : Int)) ∧ w'.cell? ⟨q, 2, none⟩ = some (.slice xa F0.dats.length xc) ∧ w'.cell? ⟨q, 3, none⟩ = some (.slice ya F0.cps.length yc))) (first | exact HC.out _ hD1 | exact HC.out _ (by assumption)) (first
    | (go_at_call 26; (with_reducible refine Calls.mono (HF.out _) ?_); rintro e x1 ⟨d1, d2, rfl, hm1, hm2, hBn⟩; have hx1 := below_th hD1 hBn)
    | (go_at_call 15; (with_reducible refine Calls.mono (HS.out _ _ _ _ _ (HD6.out.below hx1) (HC6.out.below hx1) hm1 hm2) ?_); rintro e x2 ⟨rfl, hBm⟩; have hx2 := below_th hx1 hBm))
  go_wp2
  go_ret
  exact ⟨rfl, below_th HBw.out (by assumption)⟩
end
end Go.Proofs.Ytdniakoedgohkaa.Root
