/- Several texts in one, each under its own heading. -/
import Derived.Test.YtdniakoedgohkaaPk09
import Derived.Test.YtdniakoedgohkaaPk04
/- Right of the program; the place where a number stands. -/
namespace Go.Proofs.Ytdniakoedgohkaa.Cps
open Go.RowKit
attribute [local go_sem] Oper.semAt_some
set_option linter.unusedVariables false
set_option linter.unusedSimpArgs false

def fineB (c : C) : Bool := decide (fineP c)
section
set_option maxRecDepth 100000
set_option maxHeartbeats 2000000
theorem isWrong_any (c : C) (w : World) : Calls Try.prog 72 #[c.val] w (Ans w (.bool (!fineB c))) := by
  obtain ⟨n, ti, sn, ro⟩ := c
  have HB := below_new w (boxO ⟨n, ti, sn, ro⟩)
  unfold C.val
  unfold boxO at HB
  dsimp only at HB ⊢
  have go : ∀ (x : Bool), Hid (fineB ⟨n, ti, sn, ro⟩ = !x) → Calls Try.prog 72 #[.agg #[.int .u64 n, .int .u64 ti, .bool sn, .string ro]] w (Ans w (.bool x)) → Calls Try.prog 72 #[.agg #[.int .u64 n, .int .u64 ti, .bool sn, .string ro]] w (Ans w (.bool (!fineB ⟨n, ti, sn, ro⟩))) := fun x hb hc => by rw [hb.out, Bool.not_not]; exact hc
  by_cases h1 : n < 281474976710656
  · have g1 : ¬ (281474976710656 : Int) ≤ n := by omega
    have g1' : decide ((281474976710656 : Int) ≤ (n : Int)) = false := decide_eq_false g1
    by_cases h2 : ti < 281474976710656
    · have g2 : ¬ (281474976710656 : Int) ≤ ti := by omega
      have g2' : decide ((281474976710656 : Int) ≤ (ti : Int)) = false := decide_eq_false g2
      by_cases h3 : ro.size = 42
      · refine go false (decide_eq_true ⟨h1, h2, h3⟩) ?_
        have g3 : ((ro.size : Int) == 42) = true := by rw [h3]; rfl
        have g3' : ((ro.size : Int) != 42) = false := by rw [h3]; rfl
        clear go h1 h2 h3
        go_enter Try.func72, Try.ntmps72
        go_wp2
        go_ret
        exact ⟨rfl, HB⟩
      · refine go true (decide_eq_false fun h => h3 h.2.2) ?_
        have g3 : (ro.size == 42) = false := by simp [h3]
        have g3' : ((ro.size : Int) != 42) = true := by simp; omega
        clear go h1 h2 h3
        go_enter Try.func72, Try.ntmps72
        go_wp2
        go_ret
        exact ⟨rfl, HB⟩
    · refine go true (decide_eq_false fun h => h2 h.2.1) ?_
      have g2 : (281474976710656 : Int) ≤ ti := by omega
      have g2' : decide ((281474976710656 : Int) ≤ (ti : Int)) = true := decide_eq_true g2
      clear go h1 h2
      go_enter Try.func72, Try.ntmps72
      go_wp2
      go_ret
      exact ⟨rfl, HB⟩
  · refine go true (decide_eq_false fun h => h1 h.1) ?_
    have g1 : (281474976710656 : Int) ≤ n := by omega
    have g1' : decide ((281474976710656 : Int) ≤ (n : Int)) = true := decide_eq_true g1
    clear go h1
    go_enter Try.func72, Try.ntmps72
    go_wp2
    go_ret
    exact ⟨rfl, HB⟩

theorem right_any (v : Value) (L : List C) (w : World) (hL : Chs w v L) : Calls Try.prog 48 #[v] w (Ans w (.bool (rightB L))) := by
  have go : ∀ (x : Bool), Hid (rightB L = x) → Calls Try.prog 48 #[v] w (Ans w (.bool x)) → Calls Try.prog 48 #[v] w (Ans w (.bool (rightB L))) := fun x hb hc => by rw [hb.out]; exact hc
  obtain ⟨a, cap, rfl, hn, hm⟩ := hL.parts
  by_cases h1 : L.length ≤ 108
  · have HYes : Hid ((∀ j, j < L.length → stepP L j) → rightB L = true) := fun h => decide_eq_true ⟨h1, h⟩
    have HNo : Hid (∀ k, k < L.length → ¬ stepP L k → rightB L = false) := fun k hk hh => decide_eq_false fun h => hh (h.2 k hk)
    have HX := Lib.hid (fun s W => isWrong_any s W)
    unfold C.val at HX
    have HL := Lib.hid hL
    obtain ⟨N, hN⟩ : ∃ N, L.length = N := ⟨_, rfl⟩
    rw [hN] at HL HYes HNo hn h1 ⊢
    have HN := Lib.hid hN
    have g1 : ¬ (108 : Int) < N := by omega
    clear go hL hN
    obtain ⟨W0, rfl⟩ : ∃ W0 : World, W0 = w := ⟨_, rfl⟩
    go_enter Try.func48, Try.ntmps48
    go_wp2
    go_loopw [3, 5, 11] (fun p _ i wr => ∃ k : Nat, k ≤ N ∧ i = .int .i64 (k : Int) ∧ p = .int .u64 (prev L k) ∧ Hid (∀ j, j < k → stepP L j) ∧ Below W0.heap.size W0 wr) (fun _ _ i _ => N - (intOf i).toNat)
    case atStart => exact ⟨0, by omega, rfl, rfl, fun j hj => by omega, Below.refl _ _⟩
    case round =>
      obtain ⟨k, hk, rfl, rfl, HW, hB⟩ := hrel
      by_cases hlt : k < N
      · obtain ⟨b, off, cap2, e2, c0, c1, c2, c3⟩ := ((HL.out).below hB).at (k := k) (by rw [HN.out]; exact hlt)
        cases e2
        have hNO := HNo.out k hlt
        have hX := HX.out (ck L k)
        have hA := At.new wr (ck L k)
        have hB1 := below_al hB (boxO (ck L k))
        have hSU : stepP L k → Hid (∀ j, j < k + 1 → stepP L j) := fun hh j hj => by
          rcases Nat.lt_succ_iff_lt_or_eq.1 hj with h | h
          · exact HW.out j h
          · rw [h]; exact hh
        have hP : prev L (k + 1) = (ck L k).cp := rfl
        have hst : stepP L k ↔ prev L k < (ck L k).cp ∧ fineB (ck L k) = true := ⟨fun h => ⟨h.1, decide_eq_true h.2⟩, fun h => ⟨h.1, of_decide_eq_true h.2⟩⟩
        obtain ⟨p, hp⟩ : ∃ p, prev L k = p := ⟨_, rfl⟩
        obtain ⟨s, hs⟩ : ∃ s, ck L k = s := ⟨_, rfl⟩
        rw [hp] at hst
        rw [hs] at c0 c1 c2 c3 hX hA hB1 hP hst
        obtain ⟨d0, d1, d2, d3⟩ := hA.c
        have HB1 := Lib.hid hB1
        have HA := Lib.hid hA
        have HX1 := Lib.hid hX
        have HP := Lib.hid hP
        rw [hp]
        clear hs hA hB hB1 hX hP hp
        obtain ⟨n, ti, sn, ro⟩ := s
        unfold boxO at HB1 HA
        dsimp only at c0 c1 c2 c3 d0 d1 d2 d3 HA HB1 HX1 hst HP
        by_cases h2 : p < n
        · have g2 : ¬ (n : Int) ≤ (p : Int) := by omega
          have g2' : decide ((n : Int) ≤ (p : Int)) = false := decide_eq_false g2
          cases h3 : fineB ⟨n, ti, sn, ro⟩ with
          | true =>
            rw [h3] at HX1
            have HS := hSU (hst.2 ⟨h2, h3⟩)
            clear hNO hSU h2 h3 hst
            go_wp2_with (go_at_call 72; refine (HX1.out _).mono ?_; rintro e w' ⟨rfl, hB2⟩; obtain ⟨z0, z1, z2, z3⟩ := (HA.out.th hB2).c; dsimp only at z0 z1 z2 z3)
            go_roundw
            case rel => exact ⟨k + 1, by omega, by go_num, by rw [HP.out], HS, below_th HB1.out hB2⟩
            case measure => simp [intOf]; omega
          | false =>
            rw [h3] at HX1
            have HF := Lib.hid (hNO (fun h => by have := (hst.1 h).2; rw [h3] at this; cases this))
            clear hNO hSU h2 h3 hst
            go_wp2_with (go_at_call 72; refine (HX1.out _).mono ?_; rintro e w' ⟨rfl, hB2⟩; obtain ⟨z0, z1, z2, z3⟩ := (HA.out.th hB2).c; dsimp only at z0 z1 z2 z3)
            go_ret
            exact ⟨by rw [HF.out]; rfl, below_th HB1.out hB2⟩
        · have g2 : (n : Int) ≤ (p : Int) := by omega
          have g2' : decide ((n : Int) ≤ (p : Int)) = true := decide_eq_true g2
          have HF := Lib.hid (hNO (fun h => h2 (hst.1 h).1))
          clear hNO hSU h2 hst
          go_wp2
          go_ret
          exact ⟨by rw [HF.out]; rfl, HB1.out⟩
      · obtain rfl : N = k := by omega
        have HF := Lib.hid (HYes.out HW.out)
        go_wp2
        go_ret
        exact ⟨by rw [HF.out]; rfl, hB⟩
  · refine go false (decide_eq_false fun h => h1 h.1) ?_
    have g1 : (108 : Int) < (L.length : Int) := by omega
    obtain ⟨N, hN⟩ : ∃ N, L.length = N := ⟨_, rfl⟩
    rw [hN] at g1 hn ⊢
    clear go hL h1 hN
    go_enter Try.func48, Try.ntmps48
    go_wp2
    go_ret
    exact ⟨rfl, Below.refl _ _⟩
end
end Go.Proofs.Ytdniakoedgohkaa.Cps
/- A checkpoint whose root is not another one's memory; where a number stands; Find of the program. -/
namespace Go.Proofs.Ytdniakoedgohkaa.Cps
open Go.RowKit
attribute [local go_sem] Oper.semAt_some
set_option linter.unusedVariables false
set_option linter.unusedSimpArgs false

theorem At.put4k {W : World} {b : Nat} {s : C} (h : At W b s) (t : C) :
    (W.setCell ⟨b, 0, none⟩ (.int .u64 t.cp)).cell? ⟨b, 0, none⟩ = some (.int .u64 t.cp) ∧
    ((W.setCell ⟨b, 0, none⟩ (.int .u64 t.cp)).setCell ⟨b, 1, none⟩ (.int .u64 t.tick)).cell? ⟨b, 1, none⟩ = some (.int .u64 t.tick) ∧
    (((W.setCell ⟨b, 0, none⟩ (.int .u64 t.cp)).setCell ⟨b, 1, none⟩ (.int .u64 t.tick)).setCell ⟨b, 2, none⟩ (.bool t.snap)).cell? ⟨b, 2, none⟩ = some (.bool t.snap) ∧
    ((((W.setCell ⟨b, 0, none⟩ (.int .u64 t.cp)).setCell ⟨b, 1, none⟩ (.int .u64 t.tick)).setCell ⟨b, 2, none⟩ (.bool t.snap)).setCell ⟨b, 3, none⟩ (.string t.root)).cell? ⟨b, 3, none⟩ = some (.string t.root) := by
  unfold At at h
  have h0 := heap_setCell_same W b 0 _ _ (.int .u64 t.cp) h
  have h1 := heap_setCell_same _ b 1 _ _ (.int .u64 t.tick) h0
  have h2 := heap_setCell_same _ b 2 _ _ (.bool t.snap) h1
  have h3 := heap_setCell_same _ b 3 _ _ (.string t.root) h2
  exact ⟨by simp only [World.cell?, h0]; rfl, by simp only [World.cell?, h1]; rfl, by simp only [World.cell?, h2]; rfl, by simp only [World.cell?, h3]; rfl⟩
def boxZ : Obj := .cells #[.int .u64 0, .int .u64 0, .bool false, .string ⟨#[]⟩] 85
theorem At.newZ (w : World) : At (w.alloc boxZ) w.heap.size C.zero := At.new w C.zero
theorem At.cZ {W : World} {b : Nat} (h : At W b C.zero) : W.cell? ⟨b, 0, none⟩ = some (.int .u64 0) ∧ W.cell? ⟨b, 1, none⟩ = some (.int .u64 0) ∧ W.cell? ⟨b, 2, none⟩ = some (.bool false) ∧ W.cell? ⟨b, 3, none⟩ = some (.string ⟨#[]⟩) := h.c
theorem At.putZ {W : World} {b : Nat} {s : C} (h : At W b s) :
    (W.setCell ⟨b, 0, none⟩ (.int .u64 0)).cell? ⟨b, 0, none⟩ = some (.int .u64 0) ∧
    ((W.setCell ⟨b, 0, none⟩ (.int .u64 0)).setCell ⟨b, 1, none⟩ (.int .u64 0)).cell? ⟨b, 1, none⟩ = some (.int .u64 0) ∧
    (((W.setCell ⟨b, 0, none⟩ (.int .u64 0)).setCell ⟨b, 1, none⟩ (.int .u64 0)).setCell ⟨b, 2, none⟩ (.bool false)).cell? ⟨b, 2, none⟩ = some (.bool false) ∧
    ((((W.setCell ⟨b, 0, none⟩ (.int .u64 0)).setCell ⟨b, 1, none⟩ (.int .u64 0)).setCell ⟨b, 2, none⟩ (.bool false)).setCell ⟨b, 3, none⟩ (.string ⟨#[]⟩)).cell? ⟨b, 3, none⟩ = some (.string ⟨#[]⟩) ∧
    At ((((W.setCell ⟨b, 0, none⟩ (.int .u64 0)).setCell ⟨b, 1, none⟩ (.int .u64 0)).setCell ⟨b, 2, none⟩ (.bool false)).setCell ⟨b, 3, none⟩ (.string ⟨#[]⟩)) b C.zero ∧
    Below b W ((((W.setCell ⟨b, 0, none⟩ (.int .u64 0)).setCell ⟨b, 1, none⟩ (.int .u64 0)).setCell ⟨b, 2, none⟩ (.bool false)).setCell ⟨b, 3, none⟩ (.string ⟨#[]⟩)) :=
  ⟨(h.put4k C.zero).1, (h.put4k C.zero).2.1, (h.put4k C.zero).2.2.1, (h.put4k C.zero).2.2.2, (h.put4 C.zero).1, (h.put4 C.zero).2⟩
theorem results_c {fn : Func} {r : Tmp} (h : fn.results = #[.cell r 85]) (tmps : Array Value) (w : World) {b : Nat} {s : C} (hp : tmps.getD r undef = .pointer (some ⟨b, 0, none⟩)) (hA : At w b s) :
    (results fn tmps).run Try.prog w = .ok s.val w := by
  obtain ⟨c0, c1, c2, c3⟩ := hA.c
  rw [Array.getD_eq_getD_getElem?] at hp
  simp [results, h, hp, go_sem, c0, c1, c2, c3]
  rfl
theorem results_ce {fn : Func} {r e : Tmp} (h : fn.results = #[.cell r 85, .tmp e]) (tmps : Array Value) (w : World) {b : Nat} {s : C} (hp : tmps.getD r undef = .pointer (some ⟨b, 0, none⟩)) (hA : At w b s) :
    (results fn tmps).run Try.prog w = .ok (.tuple #[s.val, tmps.getD e undef]) w := by
  obtain ⟨c0, c1, c2, c3⟩ := hA.c
  rw [Array.getD_eq_getD_getElem?] at hp
  simp [results, h, hp, go_sem, c0, c1, c2, c3]
  rfl
/-- what stands stays -/
theorem Reads.th {W W' : World} {b o : Nat} {c : C} (h : Reads W b o c) (hB : Below W.heap.size W W') : Reads W' b o c := by
  have hl := World.block_lt_of_cell? _ _ h.1
  exact ⟨(hB.cell (p := ⟨b, o, none⟩) hl).trans h.1, (hB.cell (p := ⟨b, o + 1, none⟩) hl).trans h.2.1, (hB.cell (p := ⟨b, o + 2, none⟩) hl).trans h.2.2.1, (hB.cell (p := ⟨b, o + 3, none⟩) hl).trans h.2.2.2⟩

section
set_option maxRecDepth 100000
set_option maxHeartbeats 2000000
theorem own_any (c : C) (w : World) (hs : c.root.size ≤ 281474976710656) : Calls Try.prog 100 #[c.val] w (Ans w c.val) := by
  have HC := Lib.hid (fun W => clone_any c.root W hs)
  have hA := At.new w c
  have HA := Lib.hid hA
  have HZ := Lib.hid (At.newZ (w.alloc (boxO c)))
  have HB0 := Lib.hid (below_al (below_new w (boxO c)) boxZ)
  have hb1 : (w.alloc (boxO c)).heap.size = w.heap.size + 1 := by simp
  rw [hb1] at HZ
  have HA1 : Hid (At ((w.alloc (boxO c)).alloc boxZ) w.heap.size c) := (HA.out).th (below_new _ _)
  obtain ⟨c0, c1, c2, c3⟩ := HA1.out.c
  clear hA hb1 hs
  obtain ⟨n, ti, sn, ro⟩ := c
  unfold C.val
  unfold boxO boxZ at HZ HB0 HA1 c0 c1 c2 c3
  unfold boxO at HA
  dsimp only at HC HZ HB0 HA HA1 c0 c1 c2 c3 ⊢
  obtain ⟨W0, rfl⟩ : ∃ W0 : World, W0 = w := ⟨_, rfl⟩
  go_enter Try.func100, Try.ntmps100
  go_wp2_with (go_at_call 63; (with_reducible refine Calls.mono (HC.out _) ?_); rintro e w2 ⟨rfl, hB2⟩; have hA2 := HA1.out.th hB2; obtain ⟨a0, a1, a2, a3⟩ := hA2.c; have f3 := hA2.f 3; obtain ⟨hA3, hB3⟩ := hA2.put_root ro; obtain ⟨d0, d1, d2, d3⟩ := hA3.c; have hZ3 := (HZ.out.th hB2).of_heap (W' := w2.setCell ⟨W0.heap.size, 3, none⟩ (.string ro)) (Below.heap_setCell _ _ _ _ (by show W0.heap.size + 1 ≠ W0.heap.size; omega)); obtain ⟨z0, z1, z2, z3⟩ := hZ3.cZ; have g0 := hZ3.f 0; have g1 := hZ3.f 1; have g2 := hZ3.f 2; have g3 := hZ3.f 3; obtain ⟨k0, k1, k2, k3⟩ := hZ3.put4k ⟨n, ti, sn, ro⟩; obtain ⟨hP4, hB4⟩ := hZ3.put4 ⟨n, ti, sn, ro⟩; dsimp only at a0 a1 a2 a3 d0 d1 d2 d3 k0 k1 k2 k3 hB4; have HP4 := Lib.hid hP4; have HB4 := Lib.hid hB4; have HB3 := Lib.hid hB3; clear hA2 hA3 hP4 hB3 hB4)
  refine bodyPost_ret (results_c rfl _ _ rfl HP4.out) rfl ?_
  exact ⟨rfl, (below_th HB0.out hB2).trans (HB3.out.trans (HB4.out.mono (by omega)))⟩
end
end Go.Proofs.Ytdniakoedgohkaa.Cps
/- Where a number stands, and what is found, of the program. -/
namespace Go.Proofs.Ytdniakoedgohkaa.Cps
open Go.RowKit
attribute [local go_sem] Oper.semAt_some
set_option linter.unusedVariables false
set_option linter.unusedSimpArgs false

def idxI (L : List C) (cp : Nat) : Int := if at_ L cp < L.length then (at_ L cp : Int) else -1
section
set_option maxRecDepth 100000
set_option maxHeartbeats 2000000
end
end Go.Proofs.Ytdniakoedgohkaa.Cps
