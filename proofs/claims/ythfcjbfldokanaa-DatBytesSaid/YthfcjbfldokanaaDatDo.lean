/- What stands at a number; Begin, Move, End of the program. -/
import Derived.Test.YthfcjbfldokanaaDatWith
namespace Go.Proofs.Ythfcjbfldokanaa.Dat
open Go.RowKit
attribute [local go_sem] Oper.semAt_some
set_option linter.unusedVariables false

theorem putAt_lt {L : List T} {i : Nat} (h : i < L.length) (t : T) : putAt L i t = L.set i t := if_pos h
theorem At.put3k {W : World} {b : Nat} {s : T} (h : At W b s) (t : T) :
    (W.setCell ⟨b, 0, none⟩ (.int .u32 t.phys)).cell? ⟨b, 0, none⟩ = some (.int .u32 t.phys) ∧
    ((W.setCell ⟨b, 0, none⟩ (.int .u32 t.phys)).setCell ⟨b, 1, none⟩ (.int .u64 t.start)).cell? ⟨b, 1, none⟩ = some (.int .u64 t.start) ∧
    (((W.setCell ⟨b, 0, none⟩ (.int .u32 t.phys)).setCell ⟨b, 1, none⟩ (.int .u64 t.start)).setCell ⟨b, 2, none⟩ (.int .u64 t.fin)).cell? ⟨b, 2, none⟩ = some (.int .u64 t.fin) := by
  unfold At at h
  have h0 := heap_setCell_same W b 0 _ _ (.int .u32 t.phys) h
  have h1 := heap_setCell_same _ b 1 _ _ (.int .u64 t.start) h0
  have h2 := heap_setCell_same _ b 2 _ _ (.int .u64 t.fin) h1
  exact ⟨by simp only [World.cell?, h0]; rfl, by simp only [World.cell?, h1]; rfl, by simp only [World.cell?, h2]; rfl⟩
/-- a free place is laid -/
def boxZ : Obj := .cells #[.int .u32 0, .int .u64 0, .int .u64 0] 40
theorem At.newZ (w : World) : At (w.alloc boxZ) w.heap.size T.zero := At.new w T.zero
theorem At.putZ {W : World} {b : Nat} {s : T} (h : At W b s) :
    (W.setCell ⟨b, 0, none⟩ (.int .u32 0)).cell? ⟨b, 0, none⟩ = some (.int .u32 0) ∧
    ((W.setCell ⟨b, 0, none⟩ (.int .u32 0)).setCell ⟨b, 1, none⟩ (.int .u64 0)).cell? ⟨b, 1, none⟩ = some (.int .u64 0) ∧
    (((W.setCell ⟨b, 0, none⟩ (.int .u32 0)).setCell ⟨b, 1, none⟩ (.int .u64 0)).setCell ⟨b, 2, none⟩ (.int .u64 0)).cell? ⟨b, 2, none⟩ = some (.int .u64 0) ∧
    At (((W.setCell ⟨b, 0, none⟩ (.int .u32 0)).setCell ⟨b, 1, none⟩ (.int .u64 0)).setCell ⟨b, 2, none⟩ (.int .u64 0)) b T.zero ∧
    Below b W (((W.setCell ⟨b, 0, none⟩ (.int .u32 0)).setCell ⟨b, 1, none⟩ (.int .u64 0)).setCell ⟨b, 2, none⟩ (.int .u64 0)) :=
  ⟨(h.put3k T.zero).1, (h.put3k T.zero).2.1, (h.put3k T.zero).2.2, (h.put3 T.zero).1, (h.put3 T.zero).2⟩
theorem At.cZ {W : World} {b : Nat} (h : At W b T.zero) : W.cell? ⟨b, 0, none⟩ = some (.int .u32 0) ∧ W.cell? ⟨b, 1, none⟩ = some (.int .u64 0) ∧ W.cell? ⟨b, 2, none⟩ = some (.int .u64 0) := h.c
theorem results_tr {fn : Func} {r e : Tmp} (h : fn.results = #[.cell r 40, .tmp e]) (tmps : Array Value) (w : World) {b : Nat} {s : T} (hp : tmps.getD r undef = .pointer (some ⟨b, 0, none⟩)) (hA : At w b s) :
    (results fn tmps).run Try.prog w = .ok (.tuple #[s.val, tmps.getD e undef]) w := by
  obtain ⟨c0, c1, c2⟩ := hA.c
  rw [Array.getD_eq_getD_getElem?] at hp
  simp [results, h, hp, go_sem, c0, c1, c2]
  rfl
/-- what Begin, Move, End leave -/
def BegPost (L : List T) (ph cp : Nat) (w : World) (e : Ending) (w' : World) : Prop := ∃ v, e = .returned (.tuple #[v, .int .u32 (begI L ph cp), .int .i64 (begE L ph cp)]) ∧ Trs w' v (begV L ph cp) ∧ Below w.heap.size w w'
def TabPost (M : List T) (n : Int) (w : World) (e : Ending) (w' : World) : Prop := ∃ v, e = .returned (.tuple #[v, .int .i64 n]) ∧ Trs w' v M ∧ Below w.heap.size w w'
theorem beg_no {L : List T} {ph cp : Nat} {w w' : World} {n : Int} (h : ¬ begOk L ph cp) (hn : n = begE L ph cp) (hB : Below w.heap.size w w') : BegPost L ph cp w (.returned (.tuple #[.slice none 0 0, .int .u32 0, .int .i64 n])) w' := by
  refine ⟨_, by rw [hn]; unfold begI; rw [if_neg h]; rfl, ?_, hB⟩
  unfold begV
  rw [if_neg h]
  exact Trs.nil w'
theorem beg_yes {L : List T} {ph cp : Nat} {w w' : World} {v : Value} {i : Nat} (h : begOk L ph cp) (hi : i = low L) (hL : Trs w' v (putAt L i ⟨ph, cp, 0⟩)) (hB : Below w.heap.size w w') : BegPost L ph cp w (.returned (.tuple #[v, .int .u32 i, .int .i64 0])) w' := by
  refine ⟨v, by rw [hi, begE_ok.2 h]; unfold begI; rw [if_pos h], ?_, hB⟩
  unfold begV
  rw [if_pos h, ← hi]
  exact hL
theorem tab_no {w w' : World} {n : Int} (M : List T) (hM : M = []) (hB : Below w.heap.size w w') : TabPost M n w (.returned (.tuple #[.slice none 0 0, .int .i64 n])) w' := ⟨_, rfl, by rw [hM]; exact Trs.nil w', hB⟩
theorem movV_no {L : List T} {i ph : Nat} (h : ¬ movOk L i ph) : movV L i ph = [] := if_neg h
theorem movE_ok {L : List T} {i ph : Nat} : movE L i ph = 0 ↔ movOk L i ph := by
  unfold movE movOk
  by_cases h1 : RightP L
  · by_cases h2 : hasP L i
    · by_cases h3 : standsP (movT L i ph) <;> simp [h1, h2, h3]
    · simp [h1, h2]
  · simp [h1]
theorem endV_no {L : List T} {i cp : Nat} (h : ¬ endOk L i cp) : endV L i cp = [] := if_neg h
theorem endE_ok {L : List T} {i cp : Nat} : endE L i cp = 0 ↔ endOk L i cp := by
  unfold endE endOk
  by_cases h1 : RightP L
  · by_cases h2 : hasP L i ∧ (tr L i).fin = 0
    · by_cases h3 : ¬ cp = 0 ∧ oneP (endT L i cp)
      · rw [if_pos h1, if_pos h2, if_pos h3]; exact ⟨fun _ => ⟨h1, h2.1, h2.2, h3.1, h3.2⟩, fun _ => rfl⟩
      · rw [if_pos h1, if_pos h2, if_neg h3]; exact ⟨fun h => (by cases h), fun h => absurd ⟨h.2.2.2.1, h.2.2.2.2⟩ h3⟩
    · rw [if_pos h1, if_neg h2]; exact ⟨fun h => (by cases h), fun h => absurd ⟨h.2.1, h.2.2.1⟩ h2⟩
  · rw [if_neg h1]; exact ⟨fun h => (by cases h), fun h => absurd h.1 h1⟩
section
set_option maxRecDepth 100000
set_option maxHeartbeats 2000000
theorem find_any (v : Value) (L : List T) (i : Nat) (w : World) (hL : Trs w v L) (hi : i < 4294967296) : Calls Try.prog 35 #[v, .int .u32 i] w (Ans w (.tuple #[(findT L i).val, .int .i64 (findE L i)])) := by
  obtain ⟨a, cap, rfl, hn, hm⟩ := hL.parts
  have hA := At.newZ w
  have hnew := below_new w boxZ
  have hR := fun W (h : Below w.heap.size w W) => right_any _ L W (hL.below h)
  have hAA := Lib.hid (fun W (h : Below (w.alloc boxZ).heap.size (w.alloc boxZ) W) => hA.th h)
  have HB0 := Lib.hid hnew
  have hw1 : IntKind.i64.wrap (i : Int) = (i : Int) := by rw [IntKind.wrap_i64]; omega
  by_cases hr : RightP L
  · rw [rightB_yes hr] at hR
    by_cases hv : i < L.length
    · obtain ⟨b, off, cap2, e2, _⟩ := hL.at (k := 0) (by omega)
      cases e2
      have hC := fun W (h : Below w.heap.size w W) => (hL.below h).get rfl hv
      have hf := isFree_any (tr L i)
      obtain ⟨N, hN⟩ : ∃ N, L.length = N := ⟨_, rfl⟩
      have hv' : ¬ (N : Int) ≤ (i : Int) := by omega
      have hv2 : i < N := by omega
      have hN9 : N ≤ 1860 := by have := hr.1.2; omega
      by_cases hz : tr L i = T.zero
      · rw [show freeB (tr L i) = true from decide_eq_true hz] at hf
        have hT : findT L i = T.zero := if_neg (fun h => h.2.2 hz)
        have hE : findE L i = 82 := by unfold findE; rw [if_pos hr, if_neg (fun h => h.2 hz)]
        have HF := Lib.hid (show ∀ W, Below w.heap.size w W → Ans w (.tuple #[(findT L i).val, .int .i64 (findE L i)]) (.returned (.tuple #[T.zero.val, .int .i64 82])) W from fun W h => ⟨by rw [hT, hE], h⟩)
        have HR := Lib.hid hR
        unfold T.val at hf
        have HFR := Lib.hid hf
        have HC := Lib.hid hC
        clear hR hf hC hL hr hz hT hE hA hv hnew
        rw [hN] at HR hn ⊢
        clear hN
        unfold boxZ at HB0 hAA
        go_enter Try.func35, Try.ntmps35
        go_wp2_with (first
          | (go_at_call 15; (with_reducible refine Calls.mono (HR.out _ HB0.out) ?_); rintro e w1 ⟨rfl, hB1⟩; obtain ⟨c0, c1, c2⟩ := HC.out _ (below_th HB0.out hB1))
          | (go_at_call 37; (with_reducible refine Calls.mono (HFR.out _) ?_); rintro e w2 ⟨rfl, hB2⟩; have hA2 := hAA.out _ (below_th hB1 hB2); obtain ⟨k0, k1, k2, hAp, hBp⟩ := hA2.putZ; obtain ⟨a0, a1, a2⟩ := hA2.cZ; have f0 := hA2.f 0; have f1 := hA2.f 1; have f2 := hA2.f 2; have HAp := Lib.hid hAp; have HBp := Lib.hid hBp; clear hAp hBp hA2))
        refine bodyPost_ret (results_tr rfl _ _ rfl HAp.out) rfl ?_
        exact HF.out _ ((below_th HB0.out (below_th hB1 hB2)).trans HBp.out)
      · rw [show freeB (tr L i) = false from decide_eq_false hz] at hf
        have hT : findT L i = tr L i := if_pos ⟨hr, hv, hz⟩
        have hE : findE L i = 0 := by unfold findE; rw [if_pos hr, if_pos ⟨hv, hz⟩]
        rw [hT, hE]
        have HR := Lib.hid hR
        unfold T.val at hf
        have HFR := Lib.hid hf
        have HC := Lib.hid hC
        clear hR hf hC hL hr hz hT hE hA hv hnew
        rw [hN] at HR hn ⊢
        clear hN
        obtain ⟨y, hy⟩ : ∃ y, tr L i = y := ⟨_, rfl⟩
        rw [hy] at HFR HC ⊢
        clear hy
        unfold boxZ at HB0 hAA
        go_enter Try.func35, Try.ntmps35
        go_wp2_with (first
          | (go_at_call 15; (with_reducible refine Calls.mono (HR.out _ HB0.out) ?_); rintro e w1 ⟨rfl, hB1⟩; obtain ⟨c0, c1, c2⟩ := HC.out _ (below_th HB0.out hB1))
          | (go_at_call 37; (with_reducible refine Calls.mono (HFR.out _) ?_); rintro e w2 ⟨rfl, hB2⟩; obtain ⟨d0, d1, d2⟩ := HC.out _ (below_th HB0.out (below_th hB1 hB2)); have hA2 := hAA.out _ (below_th hB1 hB2); obtain ⟨k0, k1, k2⟩ := hA2.put3k y; obtain ⟨a0, a1, a2⟩ := hA2.cZ; have f0 := hA2.f 0; have f1 := hA2.f 1; have f2 := hA2.f 2; obtain ⟨hAp, hBp⟩ := hA2.put3 y; have HAp := Lib.hid hAp; have HBp := Lib.hid hBp; clear hAp hBp hA2))
        refine bodyPost_ret (results_tr rfl _ _ rfl HAp.out) rfl ?_
        exact ⟨rfl, (below_th HB0.out (below_th hB1 hB2)).trans HBp.out⟩
    · have hT : findT L i = T.zero := if_neg (fun h => hv h.2.1)
      have hE : findE L i = 82 := by unfold findE; rw [if_pos hr, if_neg (fun h => hv h.1)]
      have HF := Lib.hid (show ∀ W, Below w.heap.size w W → Ans w (.tuple #[(findT L i).val, .int .i64 (findE L i)]) (.returned (.tuple #[T.zero.val, .int .i64 82])) W from fun W h => ⟨by rw [hT, hE], h⟩)
      obtain ⟨N, hN⟩ : ∃ N, L.length = N := ⟨_, rfl⟩
      have hv' : (N : Int) ≤ (i : Int) := by omega
      have HR := Lib.hid hR
      clear hR hL hr hT hE hA hv hnew
      rw [hN] at HR hn ⊢
      clear hN
      unfold boxZ at HB0 hAA
      go_enter Try.func35, Try.ntmps35
      go_wp2_with (first
        | (go_at_call 15; (with_reducible refine Calls.mono (HR.out _ HB0.out) ?_); rintro e w1 ⟨rfl, hB1⟩; have hA2 := hAA.out _ hB1; obtain ⟨k0, k1, k2, hAp, hBp⟩ := hA2.putZ; obtain ⟨a0, a1, a2⟩ := hA2.cZ; have f0 := hA2.f 0; have f1 := hA2.f 1; have f2 := hA2.f 2; have HAp := Lib.hid hAp; have HBp := Lib.hid hBp; clear hAp hBp hA2))
      refine bodyPost_ret (results_tr rfl _ _ rfl HAp.out) rfl ?_
      exact HF.out _ ((below_th HB0.out hB1).trans HBp.out)
  · rw [rightB_no hr] at hR
    have hT : findT L i = T.zero := if_neg (fun h => hr h.1)
    have hE : findE L i = 80 := by unfold findE; rw [if_neg hr]
    have HF := Lib.hid (show ∀ W, Below w.heap.size w W → Ans w (.tuple #[(findT L i).val, .int .i64 (findE L i)]) (.returned (.tuple #[T.zero.val, .int .i64 80])) W from fun W h => ⟨by rw [hT, hE], h⟩)
    have HR := Lib.hid hR
    clear hR hL hr hT hE hA hnew
    obtain ⟨N, hN⟩ : ∃ N, L.length = N := ⟨_, rfl⟩
    rw [hN] at HR hn ⊢
    clear hN
    unfold boxZ at HB0 hAA
    go_enter Try.func35, Try.ntmps35
    go_wp2_with (first
      | (go_at_call 15; (with_reducible refine Calls.mono (HR.out _ HB0.out) ?_); rintro e w1 ⟨rfl, hB1⟩; have hA2 := hAA.out _ hB1; obtain ⟨k0, k1, k2, hAp, hBp⟩ := hA2.putZ; obtain ⟨a0, a1, a2⟩ := hA2.cZ; have f0 := hA2.f 0; have f1 := hA2.f 1; have f2 := hA2.f 2; have HAp := Lib.hid hAp; have HBp := Lib.hid hBp; clear hAp hBp hA2))
    refine bodyPost_ret (results_tr rfl _ _ rfl HAp.out) rfl ?_
    exact HF.out _ ((below_th HB0.out hB1).trans HBp.out)
theorem begin_any (v : Value) (L : List T) (ph cp : Nat) (w : World) (hL : Trs w v L) : Calls Try.prog 11 #[v, .int .u32 ph, .int .u64 cp] w (BegPost L ph cp w) := by
  have hR := right_any v L w hL
  have HNo := Lib.hid (fun (w' : World) (n : Int) => beg_no (L := L) (ph := ph) (cp := cp) (w := w) (w' := w') (n := n))
  obtain ⟨a, cap, rfl, hn, hm⟩ := hL.parts
  obtain ⟨N, hN⟩ : ∃ N, L.length = N := ⟨_, rfl⟩
  by_cases hr : RightP L
  · rw [rightB_yes hr] at hR
    have hlo := low_le hr.1.1
    have hLow := fun W (h : Below w.heap.size w W) => lowest_any _ L W (hL.below h) hr
    have hWi := fun W (h : Below w.heap.size w W) => with_any _ L (low L) ⟨ph, cp, 0⟩ W (hL.below h) hr.1.1 (by have := hr.1; omega) hlo.2
    have hSt := fun W => stands_any ⟨ph, cp, 0⟩ W
    have hbE : begE L ph cp = if low L = 1860 then 81 else if standsP ⟨ph, cp, 0⟩ then 0 else 80 := if_pos hr
    have hbO : begOk L ph cp ↔ ¬ low L = 1860 ∧ standsP ⟨ph, cp, 0⟩ := ⟨fun h => h.2, fun h => ⟨hr, h⟩⟩
    have HYes := Lib.hid (fun (W : World) (v : Value) (i : Nat) (h0 : begOk L ph cp) (hi : i = low L) (h1 : Trs W v (putAt L i ⟨ph, cp, 0⟩)) (h2 : Below w.heap.size w W) => beg_yes h0 hi h1 h2)
    obtain ⟨i, hi⟩ : ∃ i, low L = i := ⟨_, rfl⟩
    rw [hi] at hlo hLow hWi hbE hbO
    have hi9 : i ≤ 1860 := by have := hr.1.2; omega
    rw [hN] at hR hLow hWi hn ⊢
    have HR := Lib.hid hR
    have HLow := Lib.hid hLow
    have HWi := Lib.hid hWi
    unfold T.val at hSt hWi
    have HI := Lib.hid hi
    by_cases h18 : i = 1860
    · have hq : ((i : Int) == 1860) = true := by simp [h18]
      have HF := Lib.hid (fun W h => HNo.out W 81 (fun hh => (hbO.1 hh).1 h18) (by rw [hbE, if_pos h18]) h)
      clear hR hLow hWi hL hr hlo hbE hbO hi hN HNo hSt h18
      go_enter Try.func11, Try.ntmps11
      go_wp2_with (first
        | (go_at_call 15; (with_reducible refine Calls.mono HR.out ?_); rintro e w1 ⟨rfl, hB1⟩)
        | (go_at_call 30; (with_reducible refine Calls.mono (HLow.out _ hB1) ?_); rintro e w2 ⟨rfl, hB2⟩))
      go_returns
      exact HF.out _ (below_th hB1 hB2)
    · have hq : ((i : Int) == 1860) = false := by simp; omega
      have hw1 : IntKind.u32.wrap (i : Int) = (i : Int) := by rw [IntKind.wrap_u32]; omega
      have HA := Lib.hid (fun (W : World) => At.new W ⟨ph, cp, 0⟩)
      have HBn := Lib.hid (fun (W : World) => below_new W (boxO ⟨ph, cp, 0⟩))
      by_cases hs : standsP ⟨ph, cp, 0⟩
      · rw [show standsB ⟨ph, cp, 0⟩ = true from decide_eq_true hs] at hSt
        have HOk := Lib.hid (hbO.2 ⟨h18, hs⟩)
        have HSt := Lib.hid hSt
        clear hR hLow hWi hL hr hlo hbE hbO hi hN HNo hSt h18 hs
        unfold boxO at HA HBn
        unfold T.val at HWi
        dsimp only at HA HBn HSt HWi
        go_enter Try.func11, Try.ntmps11
        go_wp2_with (first
          | (go_at_call 15; (with_reducible refine Calls.mono HR.out ?_); rintro e w1 ⟨rfl, hB1⟩)
          | (go_at_call 30; (with_reducible refine Calls.mono (HLow.out _ hB1) ?_); rintro e w2 ⟨rfl, hB2⟩; have hA2 := HA.out w2; obtain ⟨c0, c1, c2⟩ := hA2.c; dsimp only at c0 c1 c2; have HA2 := Lib.hid hA2; clear hA2)
          | (go_at_call 31; (with_reducible refine Calls.mono (HSt.out _) ?_); rintro e w3 ⟨rfl, hB3⟩; have hA3 := (HA2.out).th hB3; obtain ⟨d0, d1, d2⟩ := hA3.c; dsimp only at d0 d1 d2; clear hA3; have HB3 := Lib.hid (below_th (below_th hB1 hB2) (below_th (HBn.out w2) hB3)))
          | (go_at_call 32; (with_reducible refine Calls.mono (HWi.out _ HB3.out) ?_); rintro e w4 ⟨v4, rfl, hT4, hB4⟩))
        go_returns
        exact HYes.out _ _ _ HOk.out HI.out.symm hT4 (below_th HB3.out hB4)
      · rw [show standsB ⟨ph, cp, 0⟩ = false from decide_eq_false hs] at hSt
        have HF := Lib.hid (fun W h => HNo.out W 80 (fun hh => hs (hbO.1 hh).2) (by rw [hbE, if_neg h18, if_neg hs]) h)
        have HSt := Lib.hid hSt
        clear hR hLow hWi hL hr hlo hbE hbO hi hN HNo hSt h18 hs
        unfold boxO at HA HBn
        dsimp only at HA HBn HSt
        go_enter Try.func11, Try.ntmps11
        go_wp2_with (first
          | (go_at_call 15; (with_reducible refine Calls.mono HR.out ?_); rintro e w1 ⟨rfl, hB1⟩)
          | (go_at_call 30; (with_reducible refine Calls.mono (HLow.out _ hB1) ?_); rintro e w2 ⟨rfl, hB2⟩; have hA2 := HA.out w2; obtain ⟨c0, c1, c2⟩ := hA2.c; dsimp only at c0 c1 c2; have HA2 := Lib.hid hA2; clear hA2)
          | (go_at_call 31; (with_reducible refine Calls.mono (HSt.out _) ?_); rintro e w3 ⟨rfl, hB3⟩; have HB3 := Lib.hid (below_th (below_th hB1 hB2) (below_th (HBn.out w2) hB3))))
        go_returns
        exact HF.out _ HB3.out
  · rw [rightB_no hr] at hR
    have HF := Lib.hid (fun W h => HNo.out W 80 (fun hh => hr hh.1) (by unfold begE; rw [if_neg hr]) h)
    rw [hN] at hR hn ⊢
    have HR := Lib.hid hR
    clear hR hL hr hN HNo
    go_enter Try.func11, Try.ntmps11
    go_wp2_with (go_at_call 15; (with_reducible refine Calls.mono HR.out ?_); rintro e w1 ⟨rfl, hB1⟩)
    go_returns
    exact HF.out _ hB1
end
end Go.Proofs.Ythfcjbfldokanaa.Dat
