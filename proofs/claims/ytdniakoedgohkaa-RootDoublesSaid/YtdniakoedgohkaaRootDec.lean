/- Decode of the program's package root. -/
import Derived.Test.YtdniakoedgohkaaRootEnc
namespace Go.Proofs.Ytdniakoedgohkaa.Root
open Go.RowKit
attribute [local go_sem] Oper.semAt_some
set_option linter.unusedVariables false
set_option linter.unusedSimpArgs false
/-- what Decode leaves -/
def DecPost (s : ByteArray) (w : World) (e : Ending) (w' : World) : Prop := ∃ vd vc, e = .returned (.tuple #[(decV s).val vd vc, .int .i64 (decE s)]) ∧ Nums w' vd (decV s).dats ∧ Nums w' vc (decV s).cps ∧ Below w.heap.size w w'
theorem dec_end {s : ByteArray} {w W : World} {r : Q} {d c : Value} {n : Int} (h : decV s = r) (h2 : decE s = n) (h3 : Nums W d r.dats) (h4 : Nums W c r.cps) (hB : Below w.heap.size w W) : DecPost s w (.returned (.tuple #[r.val d c, .int .i64 n])) W :=
  ⟨d, c, by rw [h, h2], by rw [h]; exact h3, by rw [h]; exact h4, hB⟩
theorem results_root {fn : Func} {r e : Tmp} (h : fn.results = #[.cell r 25, .tmp e]) (tmps : Array Value) (w : World) {b : Nat} {n : Q} {vd vc : Value} (hp : tmps.getD r undef = .pointer (some ⟨b, 0, none⟩)) (hA : QAt w b n vd vc) :
    (results fn tmps).run Try.prog w = .ok (.tuple #[n.val vd vc, tmps.getD e undef]) w := by
  obtain ⟨c0, c1, c2, c3⟩ := hA.c
  rw [Array.getD_eq_getD_getElem?] at hp
  simp [results, h, hp, go_sem, c0, c1, c2, c3]
  rfl
/-- a root is laid over another one, part by part -/
theorem QAt.put4 {W : World} {b : Nat} {q : Q} {vd vc : Value} (h : QAt W b q vd vc) (t : Q) (d c : Value) :
    (W.setCell ⟨b, 0, none⟩ (.int .u64 t.cp)).cell? ⟨b, 0, none⟩ = some (.int .u64 t.cp) ∧
    ((W.setCell ⟨b, 0, none⟩ (.int .u64 t.cp)).setCell ⟨b, 1, none⟩ (.int .u64 t.tick)).cell? ⟨b, 1, none⟩ = some (.int .u64 t.tick) ∧
    (((W.setCell ⟨b, 0, none⟩ (.int .u64 t.cp)).setCell ⟨b, 1, none⟩ (.int .u64 t.tick)).setCell ⟨b, 2, none⟩ d).cell? ⟨b, 2, none⟩ = some d ∧
    ((((W.setCell ⟨b, 0, none⟩ (.int .u64 t.cp)).setCell ⟨b, 1, none⟩ (.int .u64 t.tick)).setCell ⟨b, 2, none⟩ d).setCell ⟨b, 3, none⟩ c).cell? ⟨b, 3, none⟩ = some c ∧
    QAt ((((W.setCell ⟨b, 0, none⟩ (.int .u64 t.cp)).setCell ⟨b, 1, none⟩ (.int .u64 t.tick)).setCell ⟨b, 2, none⟩ d).setCell ⟨b, 3, none⟩ c) b t d c ∧
    Below b W ((((W.setCell ⟨b, 0, none⟩ (.int .u64 t.cp)).setCell ⟨b, 1, none⟩ (.int .u64 t.tick)).setCell ⟨b, 2, none⟩ d).setCell ⟨b, 3, none⟩ c) := by
  unfold QAt at h
  have h0 := heap_setCell_same W b 0 _ _ (.int .u64 t.cp) h
  have h1 := heap_setCell_same _ b 1 _ _ (.int .u64 t.tick) h0
  have h2 := heap_setCell_same _ b 2 _ _ d h1
  have h3 := heap_setCell_same _ b 3 _ _ c h2
  refine ⟨by simp only [World.cell?, h0]; rfl, by simp only [World.cell?, h1]; rfl, by simp only [World.cell?, h2]; rfl, by simp only [World.cell?, h3]; rfl, h3, ?_⟩
  exact ((((Below.refl b W).setCell (p := ⟨b, 0, none⟩) (Nat.le_refl _) _).setCell (p := ⟨b, 1, none⟩) (Nat.le_refl _) _).setCell (p := ⟨b, 2, none⟩) (Nat.le_refl _) _).setCell (p := ⟨b, 3, none⟩) (Nat.le_refl _) _
theorem put4_other (W : World) (b : Nat) (u0 u1 u2 u3 : Value) (j : Nat) (hj : j ≠ b) : ((((W.setCell ⟨b, 0, none⟩ u0).setCell ⟨b, 1, none⟩ u1).setCell ⟨b, 2, none⟩ u2).setCell ⟨b, 3, none⟩ u3).heap[j]? = W.heap[j]? :=
  (Below.heap_setCell _ _ _ _ hj).trans ((Below.heap_setCell _ _ _ _ hj).trans ((Below.heap_setCell _ _ _ _ hj).trans (Below.heap_setCell _ _ _ _ hj)))
theorem beqL_yes {A B : ByteArray} (h : A = B) : (A.toList == B.toList) = true ∧ (A.toList != B.toList) = false := by rw [h]; simp
theorem beqL_no {A B : ByteArray} (h : ¬ A = B) : (A.toList == B.toList) = false ∧ (A.toList != B.toList) = true := by
  have : (A.toList == B.toList) = false := by
    rw [beq_eq_false_iff_ne]
    intro e
    exact h (by
      rw [ByteArray.toList_eq, ByteArray.toList_eq] at e
      cases A; cases B
      congr 1
      exact Array.toList_inj.1 e)
  exact ⟨this, by simp only [bne, this]; rfl⟩
theorem rd_ok (s : ByteArray) : QOk (rd s) := ⟨by
    have h := takeN_lt s 0 6
    rw [show (256 : Nat) ^ 6 = 281474976710656 by decide] at h
    show takeN s 0 6 < _; omega, by
    have h := takeN_lt s 6 6
    rw [show (256 : Nat) ^ 6 = 281474976710656 by decide] at h
    show takeN s 6 6 < _; omega, nAt_small s _ _, nAt_small s _ _⟩
section
set_option maxRecDepth 100000
set_option maxHeartbeats 2000000
theorem decode_size (s : ByteArray) (w : World) (hs : s.size ≤ 281474976710656) (h : ¬ s.size = 508) : Calls Try.prog 11 #[.string s] w (DecPost s w) := by
  have hno : ¬ DecP s := fun hh => h hh.1
  have HS := Lib.hid (decV_no hno)
  have HE := Lib.hid (decE_no hno)
  have hq : ((s.size : Int) != 508) = true := by simp; omega
  clear hno h
  go_enter Try.func11, Try.ntmps11
  go_wp2
  refine bodyPost_ret (results_root rfl _ _ rfl (QAt.new w Q.zero (.slice none 0 0) (.slice none 0 0))) rfl ?_
  exact dec_end HS.out HE.out (Nums.nil _) (Nums.nil _) (below_new w _)
theorem decode_counts (s : ByteArray) (w : World) (hs : s.size = 508) (h : ¬ ((1 ≤ sb s 12 ∧ sb s 12 ≤ 60) ∧ 1 ≤ sb s 13 ∧ sb s 13 ≤ 12)) : Calls Try.prog 11 #[.string s] w (DecPost s w) := by
  have hno : ¬ DecP s := fun hh => h (by
    have h2 := hh.2.1.1.2.2.2
    unfold rd at h2
    dsimp only at h2
    rw [nAt_length, nAt_length] at h2
    exact h2)
  have HS := Lib.hid (decV_no hno)
  have HE := Lib.hid (decE_no hno)
  have hq : ((s.size : Int) != 508) = false := by simp; omega
  have T1 := Lib.hid (fun W => rtake s 12 1 W (by omega) (by omega) (by omega) (by omega))
  have T2 := Lib.hid (fun W => rtake s 13 1 W (by omega) (by omega) (by omega) (by omega))
  rw [sb_take] at T1 T2
  have l1 := sb_lt s 12
  have l2 := sb_lt s 13
  obtain ⟨n, hn⟩ : ∃ n, sb s 12 = n := ⟨_, rfl⟩
  obtain ⟨m, hm⟩ : ∃ m, sb s 13 = m := ⟨_, rfl⟩
  rw [hn] at T1 l1 h
  rw [hm] at T2 l2 h
  have v1 : IntKind.i64.wrap (n : Int) = n := by rw [IntKind.wrap_i64]; omega
  have v2 : IntKind.i64.wrap (m : Int) = m := by rw [IntKind.wrap_i64]; omega
  have HC1 := Lib.hid (fun W => isCount_any (n : Int) 60 W)
  have HC2 := Lib.hid (fun W => isCount_any (m : Int) 12 W)
  clear hno hs hn hm
  by_cases k1 : 1 ≤ n ∧ n ≤ 60
  · have k2 : ¬ (1 ≤ m ∧ m ≤ 12) := fun hh => h ⟨k1, hh⟩
    rw [decide_eq_true (show (1 : Int) ≤ (n : Int) ∧ (n : Int) ≤ 60 by omega)] at HC1
    rw [decide_eq_false (show ¬ ((1 : Int) ≤ (m : Int) ∧ (m : Int) ≤ 12) by omega)] at HC2
    clear h k1 k2 l1 l2
    go_enter Try.func11, Try.ntmps11
    go_wp2_with (first
      | (go_at_call 33; (with_reducible refine Calls.mono (T1.out _) ?_); rintro e w1 ⟨rfl, hB1⟩)
      | (go_at_call 33; (with_reducible refine Calls.mono (T2.out _) ?_); rintro e w2 ⟨rfl, hB2⟩; have hA := ((QAt.new w Q.zero (.slice none 0 0) (.slice none 0 0)).th hB1).th hB2; obtain ⟨a0, a1, a2, a3⟩ := hA.c; have f0 := hA.f 0; have f1 := hA.f 1; have f2 := hA.f 2; have f3 := hA.f 3)
      | (go_at_call 34; with_reducible refine Calls.mono (HC1.out _) ?_; rintro e w' ⟨rfl, rfl⟩)
      | (go_at_call 34; with_reducible refine Calls.mono (HC2.out _) ?_; rintro e w' ⟨rfl, rfl⟩))
    obtain ⟨k0, k1, k2, k3, hAp, hBp⟩ := hA.put4 Q.zero (.slice none 0 0) (.slice none 0 0)
    refine bodyPost_ret (results_root rfl _ _ rfl hAp) rfl ?_
    exact dec_end HS.out HE.out (Nums.nil _) (Nums.nil _) ((below_th (below_th (below_new w _) hB1) hB2).trans hBp)
  · rw [decide_eq_false (show ¬ ((1 : Int) ≤ (n : Int) ∧ (n : Int) ≤ 60) by omega)] at HC1
    clear h k1 l1 l2 HC2
    go_enter Try.func11, Try.ntmps11
    go_wp2_with (first
      | (go_at_call 33; (with_reducible refine Calls.mono (T1.out _) ?_); rintro e w1 ⟨rfl, hB1⟩)
      | (go_at_call 33; (with_reducible refine Calls.mono (T2.out _) ?_); rintro e w2 ⟨rfl, hB2⟩; have hA := ((QAt.new w Q.zero (.slice none 0 0) (.slice none 0 0)).th hB1).th hB2; obtain ⟨a0, a1, a2, a3⟩ := hA.c; have f0 := hA.f 0; have f1 := hA.f 1; have f2 := hA.f 2; have f3 := hA.f 3)
      | (go_at_call 34; with_reducible refine Calls.mono (HC1.out _) ?_; rintro e w' ⟨rfl, rfl⟩))
    obtain ⟨k0, k1, k2, k3, hAp, hBp⟩ := hA.put4 Q.zero (.slice none 0 0) (.slice none 0 0)
    refine bodyPost_ret (results_root rfl _ _ rfl hAp) rfl ?_
    exact dec_end HS.out HE.out (Nums.nil _) (Nums.nil _) ((below_th (below_th (below_new w _) hB1) hB2).trans hBp)
theorem decode_main (s : ByteArray) (w : World) (hs : s.size = 508) (h : (1 ≤ sb s 12 ∧ sb s 12 ≤ 60) ∧ 1 ≤ sb s 13 ∧ sb s 13 ≤ 12) : Calls Try.prog 11 #[.string s] w (DecPost s w) := by
  have hq : ((s.size : Int) != 508) = false := by simp; omega
  have T1 := Lib.hid (fun W => rtake s 12 1 W (by omega) (by omega) (by omega) (by omega))
  have T2 := Lib.hid (fun W => rtake s 13 1 W (by omega) (by omega) (by omega) (by omega))
  have T3 := Lib.hid (fun W => rtake s 0 6 W (by omega) (by omega) (by omega) (by omega))
  have T4 := Lib.hid (fun W => rtake s 6 6 W (by omega) (by omega) (by omega) (by omega))
  rw [sb_take] at T1 T2
  have hEnc := fun d c W (h1 : Nums W d (rd s).dats) (h2 : Nums W c (rd s).cps) => encode_any (rd s) d c W h1 h2 (rd_ok s)
  have hV : DecP s → decV s = rd s := decV_yes
  have hD : DecP s ↔ encE (rd s) = 0 ∧ encS (rd s) = s := by
    constructor
    · intro hd
      exact ⟨encE_yes hd.2.1, (encS_yes hd.2.1).trans hd.2.2⟩
    · rintro ⟨h1, h2⟩
      have hr : RightP (rd s) := Classical.byContradiction fun hn => by rw [encE_no hn] at h1; cases h1
      exact ⟨hs, hr, by rw [← encS_yes hr]; exact h2⟩
  unfold rd at hEnc hV hD
  obtain ⟨n, hn⟩ : ∃ n, sb s 12 = n := ⟨_, rfl⟩
  obtain ⟨m, hm⟩ : ∃ m, sb s 13 = m := ⟨_, rfl⟩
  rw [hn] at T1 h
  rw [hm] at T2 h
  simp only [hn, hm] at hEnc hV hD
  have PL1 := Lib.hid (fun W => places_any s 14 n W hs h.1.1 (by omega))
  have hPL2 := fun W => places_any s (14 + 4 * n) m W hs h.2.1 (by omega)
  have ea : ((14 + 4 * n : Nat) : Int) = 14 + 4 * (n : Int) := by omega
  rw [ea] at hPL2
  have PL2 := Lib.hid hPL2
  unfold PlPost at PL1 PL2
  have e1 := nAt_length s n 14
  have e2 := nAt_length s m (14 + 4 * n)
  obtain ⟨x3, hx3⟩ : ∃ x, takeN s 0 6 = x := ⟨_, rfl⟩
  obtain ⟨x4, hx4⟩ : ∃ x, takeN s 6 6 = x := ⟨_, rfl⟩
  obtain ⟨D, hDD⟩ : ∃ D, nAt s 14 n = D := ⟨_, rfl⟩
  obtain ⟨C, hCC⟩ : ∃ C, nAt s (14 + 4 * n) m = C := ⟨_, rfl⟩
  simp only [hx3, hx4, hDD, hCC] at T3 T4 PL1 PL2 hEnc hV hD e1 e2
  obtain ⟨E, hE⟩ : ∃ E, encS ⟨x3, x4, D, C⟩ = E := ⟨_, rfl⟩
  obtain ⟨er, her⟩ : ∃ er, encE ⟨x3, x4, D, C⟩ = er := ⟨_, rfl⟩
  have hEr : er = 0 ∨ er = 153 := by
    rw [← her]
    by_cases hr : RightP ⟨x3, x4, D, C⟩
    · exact .inl (encE_yes hr)
    · exact .inr (encE_no hr)
  simp only [hE, her] at hEnc hD
  have v1 : IntKind.i64.wrap (n : Int) = n := by rw [IntKind.wrap_i64]; omega
  have v2 : IntKind.i64.wrap (m : Int) = m := by rw [IntKind.wrap_i64]; omega
  have v3 : IntKind.i64.wrap ((n : Int) * 4) = 4 * (n : Int) := by rw [IntKind.wrap_i64]; omega
  have v4 : IntKind.i64.wrap (14 + 4 * (n : Int)) = 14 + 4 * (n : Int) := by rw [IntKind.wrap_i64]; omega
  have HC1 := Lib.hid (fun W => isCount_any (n : Int) 60 W)
  have HC2 := Lib.hid (fun W => isCount_any (m : Int) 12 W)
  rw [decide_eq_true (show (1 : Int) ≤ (n : Int) ∧ (n : Int) ≤ 60 by omega)] at HC1
  rw [decide_eq_true (show (1 : Int) ≤ (m : Int) ∧ (m : Int) ≤ 12 by omega)] at HC2
  unfold Q.val Ans at hEnc
  have HENC := Lib.hid hEnc
  have HYES : Hid (er = 0 ∧ E = s → ∀ w' d c, Nums w' d D → Nums w' c C → Below w.heap.size w w' → DecPost s w (.returned (.tuple #[Q.val ⟨x3, x4, D, C⟩ d c, .int .i64 0])) w') := fun hh w' d c h1 h2 h3 => dec_end (hV (hD.2 hh)) (decE_yes (hD.2 hh)) h1 h2 h3
  have HNO : Hid (¬ (er = 0 ∧ E = s) → ∀ w', Below w.heap.size w w' → DecPost s w (.returned (.tuple #[Q.zero.val (.slice none 0 0) (.slice none 0 0), .int .i64 153])) w') := fun hh w' h3 => dec_end (decV_no (fun hd => hh (hD.1 hd))) (decE_no (fun hd => hh (hD.1 hd))) (Nums.nil _) (Nums.nil _) h3
  clear hEnc hV hD hn hm hx3 hx4 hDD hCC hE her hPL2 ea hs h
  go_enter Try.func11, Try.ntmps11
  go_wp2_with (first
    | (go_at_call 33; (with_reducible refine Calls.mono (T1.out _) ?_); rintro e w1 ⟨rfl, hB1⟩)
    | (go_at_call 33; (with_reducible refine Calls.mono (T2.out _) ?_); rintro e w2 ⟨rfl, hB2⟩)
    | (go_at_call 34; with_reducible refine Calls.mono (HC1.out _) ?_; rintro e w' ⟨rfl, rfl⟩)
    | (go_at_call 34; with_reducible refine Calls.mono (HC2.out _) ?_; rintro e w' ⟨rfl, rfl⟩)
    | (go_at_call 33; (with_reducible refine Calls.mono (T3.out _) ?_); rintro e w3 ⟨rfl, hB3⟩)
    | (go_at_call 33; (with_reducible refine Calls.mono (T4.out _) ?_); rintro e w4 ⟨rfl, hB4⟩)
    | (go_at_call 35; (with_reducible refine Calls.mono (PL1.out _) ?_); rintro e w5 ⟨b5, rfl, hn5, hb5, hB5⟩; have HN5 := Lib.hid hn5; clear hn5)
    | (go_at_call 35; (with_reducible refine Calls.mono (PL2.out _) ?_); rintro e w6 ⟨b6, rfl, hn6, hb6, hB6⟩; have HN6 := Lib.hid hn6; clear hn6))
  have hZ : (w.alloc (boxQ Q.zero (.slice none 0 0) (.slice none 0 0))).heap.size = w.heap.size + 1 := World.size_alloc ..
  have hw6 : Below w.heap.size w w6 := below_th (below_th (below_th (below_th (below_th (below_th (below_new w _) hB1) hB2) hB3) hB4) hB5) hB6
  have hA6 : QAt w6 w.heap.size Q.zero (.slice none 0 0) (.slice none 0 0) := ((((((QAt.new w Q.zero (.slice none 0 0) (.slice none 0 0)).th hB1).th hB2).th hB3).th hB4).th hB5).th hB6
  have hn5 : Nums w6 (.slice (some ⟨b5, 0, none⟩) n n) D := HN5.out.below hB6
  have hn6 : Nums w6 (.slice (some ⟨b6, 0, none⟩) m m) C := HN6.out
  have hgt5 : b5 ≠ w.heap.size := by
    have h1 := hB1.size; have h2 := hB2.size; have h3 := hB3.size; have h4 := hB4.size
    rw [World.size_alloc] at h1
    omega
  have hgt6 : b6 ≠ w.heap.size := by
    have h1 := hB1.size; have h2 := hB2.size; have h3 := hB3.size; have h4 := hB4.size; have h5 := hB5.size
    rw [World.size_alloc] at h1
    omega
  have hal := below_new w6 (boxQ ⟨x3, x4, D, C⟩ (.slice (some ⟨b5, 0, none⟩) n n) (.slice (some ⟨b6, 0, none⟩) m m))
  have hR7 := QAt.new w6 ⟨x3, x4, D, C⟩ (.slice (some ⟨b5, 0, none⟩) n n) (.slice (some ⟨b6, 0, none⟩) m m)
  have hm5 := hn5.below hal
  have hm6 := hn6.below hal
  have hA7 := hA6.th hal
  have hw7 := below_th hw6 hal
  unfold boxQ at hal hR7 hm5 hm6 hA7 hw7
  dsimp only at hal hR7 hm5 hm6 hA7 hw7
  have hgt7 : w6.heap.size ≠ w.heap.size := by
    have h1 := hB1.size; have h2 := hB2.size; have h3 := hB3.size; have h4 := hB4.size; have h5 := hB5.size; have h6 := hB6.size
    rw [World.size_alloc] at h1
    omega
  have HEN8 := Lib.hid (HENC.out _ _ _ hm5 hm6)
  obtain ⟨W7, hW7⟩ : ∃ W7, w6.alloc (.cells #[.int .u64 (x3 : Int), .int .u64 (x4 : Int), .slice (some ⟨b5, 0, none⟩) n n, .slice (some ⟨b6, 0, none⟩) m m] 25) = W7 := ⟨_, rfl⟩
  simp only [hW7] at HEN8 hal hR7 hm5 hm6 hA7 hw7 ⊢
  clear HN5 HN6 HENC hn5 hn6 hA6 hw6 PL1 PL2 T1 T2 T3 T4 HC1 HC2
  refine Calls.mono HEN8.out ?_
  rintro e w8 ⟨rfl, hB8⟩
  have hA8 := hA7.th hB8
  have hR8 := hR7.th hB8
  have hw8 := below_th hw7 hB8
  have hp5 := hm5.below hB8
  have hp6 := hm6.below hB8
  obtain ⟨a0, a1, a2, a3⟩ := hA8.c
  obtain ⟨r0, r1, r2, r3⟩ := hR8.c
  have f0 := hA8.f 0
  have f1 := hA8.f 1
  have f2 := hA8.f 2
  have f3 := hA8.f 3
  by_cases h0 : er = 0
  · have g0 : ((er : Int) != 0) = false := by simp [h0]
    by_cases hes : E = s
    · obtain ⟨g1, g2⟩ := beqL_yes hes
      have HY := Lib.hid (HYES.out ⟨h0, hes⟩)
      obtain ⟨k0, k1, k2, k3, hAp, hBp⟩ := hA8.put4 ⟨x3, x4, D, C⟩ (.slice (some ⟨b5, 0, none⟩) n n) (.slice (some ⟨b6, 0, none⟩) m m)
      have hq5 : Nums _ (.slice (some ⟨b5, 0, none⟩) n n) D := hp5.keep fun g o k c he _ => put4_other w8 w.heap.size (.int .u64 x3) (.int .u64 x4) (.slice (some ⟨b5, 0, none⟩) n n) (.slice (some ⟨b6, 0, none⟩) m m) g (by cases he; exact hgt5)
      have hq6 : Nums _ (.slice (some ⟨b6, 0, none⟩) m m) C := hp6.keep fun g o k c he _ => put4_other w8 w.heap.size (.int .u64 x3) (.int .u64 x4) (.slice (some ⟨b5, 0, none⟩) n n) (.slice (some ⟨b6, 0, none⟩) m m) g (by cases he; exact hgt6)
      have HF := Lib.hid (HY.out _ _ _ hq5 hq6 (hw8.trans hBp))
      have HAp := Lib.hid hAp
      clear hq5 hq6 hBp hp5 hp6 hA8 hR8 hw8 hm5 hm6 hA7 hR7 hw7 hal hB8 HEN8 HYES HNO HY h0 hes hEr hAp
      go_wp2
      refine bodyPost_ret (results_root rfl _ _ rfl HAp.out) rfl ?_
      exact HF.out
    · obtain ⟨g1, g2⟩ := beqL_no hes
      have HY := Lib.hid (HNO.out (fun hh => hes hh.2))
      obtain ⟨k0, k1, k2, k3, hAp, hBp⟩ := hA8.put4 Q.zero (.slice none 0 0) (.slice none 0 0)
      have HF := Lib.hid (HY.out _ (hw8.trans hBp))
      have HAp := Lib.hid hAp
      clear hBp hp5 hp6 hA8 hR8 hw8 hm5 hm6 hA7 hR7 hw7 hal hB8 HEN8 HYES HNO HY h0 hes hEr hAp
      go_wp2
      refine bodyPost_ret (results_root rfl _ _ rfl HAp.out) rfl ?_
      exact HF.out
  · have g0 : ((er : Int) != 0) = true := by simp [h0]
    have HY := Lib.hid (HNO.out (fun hh => h0 hh.1))
    obtain ⟨k0, k1, k2, k3, hAp, hBp⟩ := hA8.put4 Q.zero (.slice none 0 0) (.slice none 0 0)
    have HF := Lib.hid (HY.out _ (hw8.trans hBp))
    have HAp := Lib.hid hAp
    clear hBp hp5 hp6 hA8 hR8 hw8 hm5 hm6 hA7 hR7 hw7 hal hB8 HEN8 HYES HNO HY h0 hEr hAp
    go_wp2
    refine bodyPost_ret (results_root rfl _ _ rfl HAp.out) rfl ?_
    exact HF.out
theorem decode_any (s : ByteArray) (w : World) (hs : s.size ≤ 281474976710656) : Calls Try.prog 11 #[.string s] w (DecPost s w) := by
  by_cases h1 : s.size = 508
  · by_cases h2 : (1 ≤ sb s 12 ∧ sb s 12 ≤ 60) ∧ 1 ≤ sb s 13 ∧ sb s 13 ≤ 12
    · exact decode_main s w h1 h2
    · exact decode_counts s w h1 h2
  · exact decode_size s w hs h1
end
end Go.Proofs.Ytdniakoedgohkaa.Root
