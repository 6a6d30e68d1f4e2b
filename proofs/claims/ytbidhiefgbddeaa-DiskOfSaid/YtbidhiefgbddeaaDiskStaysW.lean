/- The walk of DiskStays: it answers true. -/
import Derived.Test.YtbidhiefgbddeaaDiskDoesW
namespace Go.Proofs.Ytbidhiefgbddeaa.Disk
open Go.RowKit Go.Shelf
set_option linter.unusedVariables false

section
set_option maxRecDepth 100000
set_option maxHeartbeats 4000000
theorem all_stay (k : Nat) : stays 18446744073709551615 k := by
  unfold stays
  have h : k % 64 < 64 := Nat.mod_lt _ (by omega)
  generalize k % 64 = m at *
  revert m
  decide
/-- the loop over the script: what lies there behind k calls -/
def ScrI (w : World) (p q : Nat) (k : Nat) (wr : World) : Prop := ∃ d, Pair w.heap.size wr p q d ∧ d.ops ≤ k ∧ d.B.length = 128 ∧ Below w.heap.size w wr
theorem below_trans' {B : Nat} {w u v : World} (h : Below B w u) (k : Below u.heap.size u v) (hB : B ≤ u.heap.size) : Below B w v := h.trans (k.mono hB)
theorem DiskStays_walk (v : Value) (L : List Op) (a1 t1 : Int) (w : World) (hL : Lies w v L.length 6 (L.flatMap opCells)) (wL : ∀ o ∈ L, OpOk o) (w1 : 0 ≤ a1 ∧ a1 ≤ 18446744073709551615) (wt1 : I64 t1) :
    Calls Try.prog 5 #[v, .agg #[.int .u64 a1, .int .i64 t1]] w fun e w' => e = .returned (.bool true) ∧ Below w.heap.size w w' := by
  obtain ⟨a, cap, rfl, HL, hnc, hm⟩ := hL.parts
  obtain ⟨N, hN⟩ : ∃ N, L.length = N := ⟨_, rfl⟩
  rw [hN] at HL hnc ⊢
  have HNn := Lib.hid hN
  have WL := Lib.hid wL
  obtain ⟨kp, rfl⟩ := Int.eq_ofNat_of_zero_le w1.1
  have hkb : kp < 18446744073709551616 := by have := w1.2; omega
  have hn1 : ∀ W, Calls Try.prog 10 #[.int .i64 128] W (NewPost 128 W) := fun W => new_yes 128 W (by decide)
  have hn2 : ∀ W, Calls Try.prog 11 #[.int .i64 128] W (R.NewPost 128 W) := fun W => R.new_yes_r 128 W (by decide)
  have HN1 := Lib.hid hn1
  have HN2 := Lib.hid hn2
  obtain ⟨W0, hW0⟩ : ∃ W0, w.alloc (.cells #[.int .u64 (kp : Int), .int .i64 t1] 35) = W0 := ⟨_, rfl⟩
  have hB0 : Below w.heap.size w W0 := by rw [← hW0]; exact (Below.refl _ w).alloc (Nat.le_refl _) _
  have hs0 : W0.heap.size = w.heap.size + 1 := by rw [← hW0]; simp
  have hf0 : W0.heap[w.heap.size]? = some (.cells #[.int .u64 (kp : Int), .int .i64 t1] 35 (0, 0)) := by rw [← hW0]; exact heap_alloc_new w _
  have HL0 : Hid (Lies W0 (.slice a N cap) N 6 (L.flatMap opCells)) := HL.out.below hB0
  clear hL hn1 hn2 hN wL
  go_enter Try.func5, Try.ntmps5
  go_wp2_with (first
    | (go_at_call 9; refine (shown_any _).mono ?_; rintro e wa ⟨rfl, hB1⟩)
    | (go_at_call 10; refine (HN1.out _).mono ?_; rintro e wb ⟨p, rfl, hd0, hp0, hB2⟩)
    | (go_at_call 11; refine (HN2.out _).mono ?_; rintro e wc ⟨q, rfl, hr0, hq0, hB3⟩))
  have hBw : Below W0.heap.size W0 wc := below_th (below_th hB1 hB2) hB3
  have hP0 : ScrI W0 p q 0 wc := ⟨_, Pair.start hd0 hr0 hB3 hB1.size hB2.size, by simp [D.of], by simp [D.of], hBw⟩
  have HP0 := Lib.hid hP0
  clear hBw hP0 hd0 hr0 hB1 hB2 hB3 hp0 hq0
  go_loopw [10, 11] (fun i _ wr => ∃ k : Nat, k ≤ N ∧ k ≤ 100 ∧ i = .int .i64 k ∧ ScrI W0 p q k wr) (fun i _ _ => N - (intOf i).toNat)
  case atStart => exact ⟨0, Nat.zero_le _, Nat.zero_le _, rfl, HP0.out⟩
  case round =>
    obtain ⟨k, hk, hk2, rfl, d, hP, hops, hlen, hB⟩ := hrel
    by_cases hlt : k < N ∧ k < 100
    · obtain ⟨hl1, hl2⟩ := hlt
      obtain ⟨x, hx⟩ : ∃ x, L[k]? = some x := ⟨_, List.getElem?_eq_getElem (by rw [HNn.out]; exact hl1)⟩
      have hxok := WL.out x (List.mem_of_getElem? hx)
      obtain ⟨b, off, rfl, c0, c1, c2, c3, c4, c5⟩ := op_at HNn.out (HL0.out.below hB) hx
      have hBs := hB.size
      have hpk := fun W => pick_fn x.k 6 (by omega) (by omega) hxok.k W
      obtain ⟨W1, hW1⟩ : ∃ W1, wr.alloc (opObj x) = W1 := ⟨_, rfl⟩
      have hB1 : Below wr.heap.size wr W1 := by rw [← hW1]; exact (Below.refl _ wr).alloc (Nat.le_refl _) _
      have hob : W1.heap[wr.heap.size]? = some (opObj x) := by rw [← hW1]; exact heap_alloc_new wr _
      obtain ⟨e0, e1, e2, e3, e4, e5⟩ := op_cells hob
      have hP1 := hP.below hB1
      have hs1 : W0.heap.size ≤ W1.heap.size := Nat.le_trans hBs hB1.size
      have hD := does_any W0.heap.size p q d x W1 hP1 hs1 hxok (by omega)
      have hBW1 : Below W0.heap.size W0 W1 := hB.trans (hB1.mono hBs)
      rw [show wr.alloc (opObj x) = wr.alloc (.cells #[.int .i64 x.k, .int .i64 x.a, .int .i64 x.n, .int .u8 x.c, .int .u64 x.p, .int .i64 x.t] 37) from rfl] at hW1
      obtain ⟨m, hm6⟩ : ∃ m, pickN x.k 6 = m := ⟨_, rfl⟩
      rw [hm6] at hpk
      have HPK := Lib.hid hpk
      have HM := Lib.hid hm6
      unfold opArg at hD
      by_cases h5 : m = 5
      · have hq : ((m : Int) == 5) = true := by rw [h5]; rfl
        have hq2 : ((m : Int) != 5) = false := by rw [h5]; rfl
        have hnx : ScrI W0 p q (k + 1) W1 := ⟨d, hP1, by omega, hlen, hBW1⟩
        have HNX := Lib.hid hnx
        clear hnx h5 hpk hm6 hx hP hP1 hD hob
        go_wp2_with (go_at_call 21; refine (HPK.out _).mono ?_; rintro e w1 ⟨rfl, rfl⟩)
        go_roundw
        case rel => exact ⟨k + 1, by omega, by omega, by go_num, HNX.out⟩
        case measure => simp [intOf]; omega
      · have hq : ((m : Int) == 5) = false := by simp; omega
        have hq2 : ((m : Int) != 5) = true := by simp; omega
        have H5 := Lib.hid h5
        clear h5 hpk hm6 hx hP hP1 hob
        go_wp2_with (first
          | (go_at_call 21; refine (HPK.out _).mono ?_; rintro e w1 ⟨rfl, rfl⟩)
          | (go_at_call 12; refine hD.mono ?_; rintro e w4 ⟨p4, q4, d4, rfl, hP4, hB4, hops4, hlen4, hpq⟩))
        obtain ⟨rfl, rfl⟩ := hpq (by rw [HM.out]; exact H5.out)
        have hnx : ScrI W0 p4 q4 (k + 1) w4 := ⟨d4, hP4, by omega, by omega, hBW1.trans hB4⟩
        go_roundw
        case rel => exact ⟨k + 1, by omega, by omega, by go_num, hnx⟩
        case measure => simp [intOf]; omega
    · obtain ⟨F0, G0, hd0, _, _, hF0, _⟩ := hP.mem
      have hd := hd0.tight
      obtain ⟨F, hFd⟩ : ∃ F : Nat → Prop, (fun k => F0 k ∧ k < wr.heap.size) = F := ⟨_, rfl⟩
      rw [hFd] at hd
      have hFl : ∀ k, F k → W0.heap.size ≤ k ∧ k < wr.heap.size := fun k hk => by rw [← hFd] at hk; exact ⟨(hF0 k hk.1).1, hk.2⟩
      have hct := cutAt_d (-1) hd (by omega) (by omega)
      obtain ⟨d1, hd1⟩ : ∃ d1, d.cutAt (-1) = d1 := ⟨_, rfl⟩
      rw [hd1] at hct
      have hop1 : d1.ops ≤ 1000 := by rw [← hd1]; show d.ops ≤ 1000; omega
      have hoff : ¬ d1.off := by rw [← hd1]; simp [D.off, D.cutAt]
      have hl1 : d1.B.length = 128 := by rw [← hd1]; exact hlen
      have hok1 : d1.Ok := by rw [← hd1]; exact hd.ok.cutAt (by omega) (by omega)
      obtain ⟨l, hl⟩ : ∃ l, d1.now = l := ⟨_, rfl⟩
      have hll : l.length = 128 := by rw [← hl, D.now_length, hl1]
      have hls : ∀ s ∈ l, s.size = 512 := by rw [← hl]; exact hok1.now_sizes
      have hC : ∀ W, IsDisk W p F d1 → Calls Try.prog 23 #[.pointer (some ⟨p, 0, none⟩), .agg #[.int .u64 18446744073709551615, .int .i64 (-1)]] W (Fell (d1.crashed 18446744073709551615 (-1)) W) := fun W h => crash_d 18446744073709551615 (-1) (by omega) h (by omega)
      have hAn : (d1.crashed 18446744073709551615 (-1)).now = l := by rw [← hl]; exact crash_all d1.B d1.L _ all_stay
      obtain ⟨dA, hdA⟩ : ∃ dA, d1.crashed 18446744073709551615 (-1) = dA := ⟨_, rfl⟩
      rw [hdA] at hC hAn
      have hI1 : ∀ W pa G, IsDisk W pa G dA → Calls Try.prog 16 #[.pointer (some ⟨pa, 0, none⟩)] W (Texts l W) := fun W pa G h => by rw [← hAn]; exact image_d h
      have hI2 : ∀ W, IsDisk W p F d1 → Calls Try.prog 16 #[.pointer (some ⟨p, 0, none⟩)] W (Texts l W) := fun W h => by rw [← hl]; exact image_d h
      obtain ⟨d2, hd2⟩ : ∃ d2, d1.flushed = d2 := ⟨_, rfl⟩
      have hFh : ∀ W, IsDisk W p F d1 → Calls Try.prog 24 #[.pointer (some ⟨p, 0, none⟩)] W fun e w' => e = .returned (.int .i64 0) ∧ Left p F d2 W w' := fun W h => by rw [← hd2]; exact flush_ok h hoff (by omega)
      have hop2 : d2.ops ≤ 2000 := by rw [← hd2]; show d1.ops + 1 ≤ 2000; omega
      have hC2 : ∀ W F', IsDisk W p F' d2 → Calls Try.prog 23 #[.pointer (some ⟨p, 0, none⟩), .agg #[.int .u64 (kp : Int), .int .i64 t1]] W (Fell (d2.crashed kp t1) W) := fun W F' h => crash_d kp t1 hkb h (by omega)
      have hLn : (d2.crashed kp t1).now = l := by rw [← hd2, ← hl]; rfl
      have hLo0 : (d2.crashed kp t1).L.length = 0 := rfl
      have hLop : (d2.crashed kp t1).ops = 0 := rfl
      obtain ⟨dL, hdL⟩ : ∃ dL, d2.crashed kp t1 = dL := ⟨_, rfl⟩
      rw [hdL] at hC2 hLn hLo0 hLop
      have hI3 : ∀ W pa G, IsDisk W pa G dL → Calls Try.prog 16 #[.pointer (some ⟨pa, 0, none⟩)] W (Texts l W) := fun W pa G h => by rw [← hLn]; exact image_d h
      have hLo : ∀ W pa G, IsDisk W pa G dL → Calls Try.prog 14 #[.pointer (some ⟨pa, 0, none⟩)] W fun e w' => e = .returned (.int .i64 0) ∧ W = w' := fun W pa G h => by have := loose_d h; rw [hLo0] at this; exact this
      have hOp : ∀ W pa G, IsDisk W pa G dL → Calls Try.prog 13 #[.pointer (some ⟨pa, 0, none⟩)] W fun e w' => e = .returned (.int .i64 0) ∧ W = w' := fun W pa G h => by have := ops_d h; rw [hLop] at this; exact this
      have hSm : ∀ va vb W, Lies W va l.length 1 (strs l) → Lies W vb l.length 1 (strs l) → Calls Try.prog 15 #[va, vb] W fun e w' => e = .returned (.bool true) ∧ Below W.heap.size W w' := fun va vb W h1 h2 => R.same_any l va vb W h1 h2 (fun s hs => by have := hls s hs; omega)
      have HC := Lib.hid hC
      have HI1 := Lib.hid hI1
      have HI2 := Lib.hid hI2
      have HFH := Lib.hid hFh
      have HC2 := Lib.hid hC2
      have HI3 := Lib.hid hI3
      have HLo := Lib.hid hLo
      have HOp := Lib.hid hOp
      have HSm := Lib.hid hSm
      have HLL := Lib.hid hll
      have HFl := Lib.hid hFl
      have HB := Lib.hid hB
      have hbw : W0.heap.size ≤ wr.heap.size := hB.size
      have hfr : ∀ W : World, W.heap[w.heap.size]? = wr.heap[w.heap.size]? → W.cell? ⟨w.heap.size, 0, none⟩ = some (.int .u64 (kp : Int)) ∧ W.cell? ⟨w.heap.size, 1, none⟩ = some (.int .i64 t1) := fun W hW => by
        have := hW.trans ((hB.block w.heap.size (by omega)).trans hf0)
        constructor <;> (simp only [World.cell?, this]; rfl)
      have HFR := Lib.hid hfr
      have hnF : ¬ F w.heap.size := fun hh => by have := (hFl _ hh).1; omega
      have HNF := Lib.hid hnF
      have hwl : w.heap.size < wr.heap.size := by omega
      clear hP hd hFd hFl hd1 hop1 hoff hl1 hok1 hl hll hls hC hAn hdA hI1 hI2 hd2 hFh hop2 hC2 hLn hLo0 hLop hdL hI3 hLo hOp hSm hB hfr hd0 hF0 hf0 hlen hnF
      by_cases hk1 : k < N
      all_goals
        first
          | (have hk3 : ¬ k < 100 := fun hh => hlt ⟨hk1, hh⟩)
          | skip
        clear hlt
        go_wp2_with (first
          | (go_at_call 13; ((with_reducible refine Calls.mono (HOp.out _ _ _ hL14) ?_); rintro e w16 ⟨rfl, rfl⟩))
          | (go_at_call 14; ((with_reducible refine Calls.mono (HLo.out _ _ _ hL14) ?_); rintro e w15 ⟨rfl, rfl⟩))
          | (go_at_call 15; ((with_reducible refine Calls.mono (HSm.out _ _ _ hS13 hS10) ?_); rintro e w14 ⟨rfl, hB14⟩; have hL14 := (hL12.out.below hB13).below hB14))
          | (go_at_call 16; ((with_reducible refine Calls.mono (HI3.out _ _ _ hL12.out) ?_); rintro e w13 ⟨g13, rfl, hr13, _, hB13⟩; have hS13 := lies_row hr13 (by rw [HLL.out]; omega); have hS10 := lies_row (hr12.of_heap (hB13.block _ hr12.lt)) (by rw [HLL.out]; omega)))
          | (go_at_call 23; ((with_reducible refine Calls.mono (HC2.out _ _ hd11) ?_); rintro e w12 ⟨pl, rfl, hL12, _, hB12⟩; have hr12 := hr11.of_heap (hB12.block _ hr11.lt)))
          | (go_at_call 24; ((with_reducible refine Calls.mono (HFH.out _ hd10) ?_); rintro e w11 ⟨rfl, F11, hd11, ho11, _⟩; have hr11 := hr10.of_heap (ho11.block _ hr10.lt (fun hh => by have := (HFl.out _ hh).2; omega)); obtain ⟨x0, x1⟩ := HFR.out w11 ((ho11.block _ (by omega) HNF.out).trans hq10)))
          | (go_at_call 16; ((with_reducible refine Calls.mono (HI2.out _ hd9) ?_); rintro e w10 ⟨g10, rfl, hr10, hg10, hB10⟩; have hd10 := hd9.below hB10; have hs10 := hB10.size; have hq10 := (hB10.block _ (by omega)).trans hq9))
          | (go_at_call 15; ((with_reducible refine Calls.mono (HSm.out _ _ _ hS7 hS8) ?_); rintro e w9 ⟨rfl, hB9⟩; have hd9 := hd8.below hB9; have hs9 := hB9.size; have hq9 := (hB9.block _ (by omega)).trans hq8))
          | (go_at_call 16; ((with_reducible refine Calls.mono (HI2.out _ hd7) ?_); rintro e w8 ⟨g8, rfl, hr8, _, hB8⟩; have hd8 := hd7.below hB8; have hs8 := hB8.size; have hq8 := (hB8.block _ (by omega)).trans hq7; have hS8 := lies_row hr8 (by rw [HLL.out]; omega); have hS7 := lies_row (hr7.of_heap (hB8.block _ hr7.lt)) (by rw [HLL.out]; omega)))
          | (go_at_call 16; ((with_reducible refine Calls.mono (HI1.out _ _ _ hA6.out) ?_); rintro e w7 ⟨g7, rfl, hr7, _, hB7⟩; have hd7 := hd6.below hB7; have hs7 := hB7.size; have hq7 := (hB7.block _ (by omega)).trans hq6))
          | (go_at_call 23; ((with_reducible refine Calls.mono (HC.out _ hd5) ?_); rintro e w6 ⟨pa, rfl, hA6, _, hB6⟩; have hd6 := hd5.below hB6; have hs6 := hB6.size; have hq6 := (hB6.block _ (by omega)).trans hq5))
          | (go_at_call 22; ((with_reducible refine Calls.mono hct ?_); rintro e w5 ⟨rfl, hd5, ho5⟩; have hs5 := ho5.size; have hq5 := ho5.block _ hwl HNF.out)))
        go_ret
        have b5 : Below W0.heap.size W0 w5 := HB.out.trans (ho5.below hbw (fun k hk => (HFl.out k hk).1))
        have b10 : Below W0.heap.size W0 w10 := below_th (below_th (below_th (below_th (below_th b5 hB6) hB7) hB8) hB9) hB10
        have b11 : Below W0.heap.size W0 w11 := b10.trans (ho11.below b10.size (fun k hk => (HFl.out k hk).1))
        have b14 : Below W0.heap.size W0 w14 := below_th (below_th (below_th b11 hB12) hB13) hB14
        exact ⟨rfl, hB0.trans (b14.mono hB0.size)⟩
end
end Go.Proofs.Ytbidhiefgbddeaa.Disk
