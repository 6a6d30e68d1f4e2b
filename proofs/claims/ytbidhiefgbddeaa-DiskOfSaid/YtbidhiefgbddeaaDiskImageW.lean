/- The walk of DiskImage: it answers true. -/
import Derived.Test.YtbidhiefgbddeaaDiskStaysW
namespace Go.Proofs.Ytbidhiefgbddeaa.Disk
open Go.RowKit Go.Shelf
set_option linter.unusedVariables false

section
set_option maxRecDepth 100000
set_option maxHeartbeats 4000000
theorem fit_full (s : ByteArray) (h : s.size = 512) : fit s = s := by
  unfold fit
  rw [h]
  apply ByteArray.ext
  apply Array.toList_inj.1
  simp [zeros]
theorem fit_all (l : List ByteArray) (h : ∀ s ∈ l, s.size = 512) : l.map fit = l := by
  conv => rhs; rw [← List.map_id l]
  exact List.map_congr_left (fun s hs => by rw [fit_full s (h s hs)]; rfl)
theorem DiskImage_walk (v : Value) (L : List Op) (a1 : Int) (w : World) (hL : Lies w v L.length 6 (L.flatMap opCells)) (wL : ∀ o ∈ L, OpOk o) (w1 : (Lit.int .i64 a1).wf = true) :
    Calls Try.prog 8 #[v, .int .i64 a1] w fun e w' => e = .returned (.bool true) ∧ Below w.heap.size w w' := by
  obtain ⟨a, cap, rfl, HL, hnc, hm⟩ := hL.parts
  obtain ⟨N, hN⟩ : ∃ N, L.length = N := ⟨_, rfl⟩
  rw [hN] at HL hnc ⊢
  have HNn := Lib.hid hN
  have WL := Lib.hid wL
  have hpa := fun W => pick_fn a1 128 (by omega) (by omega) (i64_wf w1) W
  obtain ⟨at0, hat0⟩ : ∃ at0, pickN a1 128 = at0 := ⟨_, rfl⟩
  have hatl : at0 < 128 := by rw [← hat0]; exact pickN_lt _ _ (by omega)
  rw [hat0] at hpa
  have hn1 : ∀ W, Calls Try.prog 10 #[.int .i64 128] W (NewPost 128 W) := fun W => new_yes 128 W (by decide)
  have hn2 : ∀ W, Calls Try.prog 11 #[.int .i64 128] W (R.NewPost 128 W) := fun W => R.new_yes_r 128 W (by decide)
  have HN1 := Lib.hid hn1
  have HN2 := Lib.hid hn2
  have HPA := Lib.hid hpa
  obtain ⟨W0, rfl⟩ : ∃ W0 : World, W0 = w := ⟨_, rfl⟩
  have HL0 := HL
  clear hL hn1 hn2 hN wL hpa hat0 w1
  go_enter Try.func8, Try.ntmps8
  go_wp2_with (first
    | (go_at_call 9; refine (shown_any _).mono ?_; rintro e wa ⟨rfl, hB1⟩)
    | (go_at_call 10; refine (HN1.out _).mono ?_; rintro e wb ⟨p, rfl, hd0, hp0, hB2⟩)
    | (go_at_call 11; refine (HN2.out _).mono ?_; rintro e wc ⟨q, rfl, hr0, hq0, hB3⟩))
  have hBw : Below W0.heap.size W0 wc := below_th (below_th hB1 hB2) hB3
  have hP0 : ScrI W0 p q 0 wc := ⟨_, Pair.start hd0 hr0 hB3 hB1.size hB2.size, by simp [D.of], by simp [D.of], hBw⟩
  have HP0 := Lib.hid hP0
  clear hBw hP0 hd0 hr0 hB1 hB2 hB3 hp0 hq0
  go_loopw [10] (fun i wr => ∃ k : Nat, k ≤ N ∧ k ≤ 60 ∧ i = .int .i64 k ∧ ScrI W0 p q k wr) (fun i _ => N - (intOf i).toNat)
  case atStart => exact ⟨0, Nat.zero_le _, Nat.zero_le _, rfl, HP0.out⟩
  case round =>
    obtain ⟨k, hk, hk2, rfl, d, hP, hops, hlen, hB⟩ := hrel
    by_cases hlt : k < N ∧ k < 60
    · obtain ⟨hl1, hl2⟩ := hlt
      obtain ⟨x, hx⟩ : ∃ x, L[k]? = some x := ⟨_, List.getElem?_eq_getElem (by rw [HNn.out]; exact hl1)⟩
      have hxok := WL.out x (List.mem_of_getElem? hx)
      obtain ⟨b, off, rfl, c0, c1, c2, c3, c4, c5⟩ := op_at HNn.out (HL0.out.below hB) hx
      have hBs := hB.size
      have hpk := fun W => pick_fn x.k 6 (by omega) (by omega) hxok.k W
      have hD := does_any W0.heap.size p q d x wr hP hBs hxok (by omega)
      obtain ⟨m, hm6⟩ : ∃ m, pickN x.k 6 = m := ⟨_, rfl⟩
      rw [hm6] at hpk
      have HPK := Lib.hid hpk
      have HM := Lib.hid hm6
      unfold opArg at hD
      by_cases h5 : m = 5
      · have hq : ((m : Int) == 5) = true := by rw [h5]; rfl
        have hq2 : ((m : Int) != 5) = false := by rw [h5]; rfl
        have hnx : ScrI W0 p q (k + 1) wr := ⟨d, hP, by omega, hlen, hB⟩
        have HNX := Lib.hid hnx
        clear hnx h5 hpk hm6 hx hP hD
        go_wp2_with (go_at_call 21; refine (HPK.out _).mono ?_; rintro e w1 ⟨rfl, rfl⟩)
        go_roundw
        case rel => exact ⟨k + 1, by omega, by omega, by go_num, HNX.out⟩
        case measure => simp [intOf]; omega
      · have hq : ((m : Int) == 5) = false := by simp; omega
        have hq2 : ((m : Int) != 5) = true := by simp; omega
        have H5 := Lib.hid h5
        clear h5 hpk hm6 hx hP
        go_wp2_with (first
          | (go_at_call 21; refine (HPK.out _).mono ?_; rintro e w1 ⟨rfl, rfl⟩)
          | (go_at_call 12; refine hD.mono ?_; rintro e w4 ⟨p4, q4, d4, rfl, hP4, hB4, hops4, hlen4, hpq⟩))
        obtain ⟨rfl, rfl⟩ := hpq (by rw [HM.out]; exact H5.out)
        have hnx : ScrI W0 p4 q4 (k + 1) w4 := ⟨d4, hP4, by omega, by omega, hB.trans hB4⟩
        go_roundw
        case rel => exact ⟨k + 1, by omega, by omega, by go_num, hnx⟩
        case measure => simp [intOf]; omega
    · obtain ⟨F0, G0, hd0, _, _, hF0, _⟩ := hP.mem
      have hd := hd0.tight
      obtain ⟨F, hFd⟩ : ∃ F : Nat → Prop, (fun k => F0 k ∧ k < wr.heap.size) = F := ⟨_, rfl⟩
      rw [hFd] at hd
      have hFl : ∀ k, F k → W0.heap.size ≤ k ∧ k < wr.heap.size := fun k hk => by rw [← hFd] at hk; exact ⟨(hF0 k hk.1).1, hk.2⟩
      obtain ⟨l, hl⟩ : ∃ l, d.now = l := ⟨_, rfl⟩
      have hll : l.length = 128 := by rw [← hl, D.now_length, hlen]
      have hls : ∀ s ∈ l, s.size = 512 := by rw [← hl]; exact hd.ok.now_sizes
      have hI2 : ∀ W, IsDisk W p F d → Calls Try.prog 16 #[.pointer (some ⟨p, 0, none⟩)] W (Texts l W) := fun W h => by rw [← hl]; exact image_d h
      have hOf : ∀ va W, Lies W va l.length 1 (strs l) → Calls Try.prog 19 #[va] W (Made (D.of l) W) := fun va W h => by
        have := of_yes l va W h (by rw [hll]; decide) (fun s hs => by have := hls s hs; omega)
        unfold OfPost at this
        rw [fit_all l hls] at this
        exact this
      obtain ⟨s9, hs9⟩ : ∃ s, fullS 9 512 = s := ⟨_, rfl⟩
      have hFu : ∀ W, Calls Try.prog 27 #[.int .u8 9, .int .i64 512] W fun e w' => e = .returned (.string s9) ∧ Below W.heap.size W w' := fun W => by rw [← hs9]; exact full_any 9 512 W (by omega) (by omega)
      have hs512 : s9.size = 512 := by rw [← hs9, fullS_size]; decide
      have hW : ∀ pc G W, IsDisk W pc G (D.of l) → Calls Try.prog 26 #[.pointer (some ⟨pc, 0, none⟩), .int .i64 at0, .string s9] W fun e w' => e = .returned (.int .i64 0) ∧ Left pc G ((D.of l).written at0 s9) W w' := fun pc G W h => write_ok at0 s9 h (by simp [D.off, D.of]) (by show at0 < l.length; omega) hs512 (by simp [D.of])
      have hI1 : ∀ W pa G, IsDisk W pa G (D.of l) → Calls Try.prog 16 #[.pointer (some ⟨pa, 0, none⟩)] W (Texts l W) := fun W pa G h => image_d h
      have hLo1 : ((D.of l).written at0 s9).L.length = 1 := rfl
      have hLop : ((D.of l).written at0 s9).ops = 1 := rfl
      obtain ⟨d2, hd2⟩ : ∃ d2, (D.of l).written at0 s9 = d2 := ⟨_, rfl⟩
      obtain ⟨d1, hd1⟩ : ∃ d1, D.of l = d1 := ⟨_, rfl⟩
      rw [hd2] at hLo1 hLop hW
      rw [hd1] at hW hI1 hOf
      have hLo : ∀ W pa G, IsDisk W pa G d2 → Calls Try.prog 14 #[.pointer (some ⟨pa, 0, none⟩)] W fun e w' => e = .returned (.int .i64 1) ∧ W = w' := fun W pa G h => by have := loose_d h; rw [hLo1] at this; exact this
      have hOp : ∀ W pa G, IsDisk W pa G d2 → Calls Try.prog 13 #[.pointer (some ⟨pa, 0, none⟩)] W fun e w' => e = .returned (.int .i64 1) ∧ W = w' := fun W pa G h => by have := ops_d h; rw [hLop] at this; exact this
      have hSm : ∀ va vb W, Lies W va l.length 1 (strs l) → Lies W vb l.length 1 (strs l) → Calls Try.prog 15 #[va, vb] W fun e w' => e = .returned (.bool true) ∧ Below W.heap.size W w' := fun va vb W h1 h2 => R.same_any l va vb W h1 h2 (fun s hs => by have := hls s hs; omega)
      have HI1 := Lib.hid hI1
      have HI2 := Lib.hid hI2
      have HOF := Lib.hid hOf
      have HFU := Lib.hid hFu
      have HW := Lib.hid hW
      have HLo := Lib.hid hLo
      have HOp := Lib.hid hOp
      have HSm := Lib.hid hSm
      have HLL := Lib.hid hll
      have HFl := Lib.hid hFl
      have HB := Lib.hid hB
      have hbw : W0.heap.size ≤ wr.heap.size := hB.size
      clear hP hFd hFl hl hll hls hI1 hI2 hOf hFu hW hLo hOp hSm hLo1 hLop hd2 hd1 hs9 hs512 hB hd0 hF0 hlen
      by_cases hk1 : k < N
      all_goals
        first
          | (have hk3 : ¬ k < 60 := fun hh => hlt ⟨hk1, hh⟩)
          | skip
        clear hlt
        go_wp2_with (first
          | (go_at_call 21; ((with_reducible refine Calls.mono (HPA.out _) ?_); rintro e w1 ⟨rfl, rfl⟩))
          | (go_at_call 13; ((with_reducible refine Calls.mono (HOp.out _ _ _ hC14) ?_); rintro e w16 ⟨rfl, rfl⟩))
          | (go_at_call 14; ((with_reducible refine Calls.mono (HLo.out _ _ _ hC14) ?_); rintro e w15 ⟨rfl, rfl⟩))
          | (go_at_call 15; ((with_reducible refine Calls.mono (HSm.out _ _ _ hS13 hS10) ?_); rintro e w14 ⟨rfl, hB14⟩; have hC14 := (hC12.below hB13).below hB14))
          | (go_at_call 16; ((with_reducible refine Calls.mono (HI2.out _ hd12) ?_); rintro e w13 ⟨g13, rfl, hr13, _, hB13⟩; have hS13 := lies_row hr13 (by rw [HLL.out]; omega); have hS10 := lies_row (hr12.of_heap (hB13.block _ hr12.lt)) (by rw [HLL.out]; omega)))
          | (go_at_call 26; ((with_reducible refine Calls.mono (HW.out _ _ _ hcf) ?_); rintro e w12 ⟨rfl, F12, hC12, ho12, _⟩; have hr12 := hrf.of_heap (ho12.block _ hrf.lt (fun hh => by omega)); have hd12 := hdf.only ho12 (fun k hk hh => by have := (HFl.out k hk).2; omega)))
          | (go_at_call 27; ((with_reducible refine Calls.mono (HFU.out _) ?_); rintro e wf ⟨rfl, hBf⟩; have hcf := hc9.below hBf; have hrf := hr9.of_heap (hBf.block _ hr9.lt); have hdf := hd9.below hBf; have hsf := hBf.size))
          | (go_at_call 15; ((with_reducible refine Calls.mono (HSm.out _ _ _ hS8 hS5) ?_); rintro e w9 ⟨rfl, hB9⟩; have hc9 := hc8.below hB9; have hd9 := hd8.below hB9; have hr9 := hr8.of_heap (hB9.block _ hr8.lt); have hs9 := hB9.size))
          | (go_at_call 16; ((with_reducible refine Calls.mono (HI1.out _ _ _ hc7.out) ?_); rintro e w8 ⟨g8, rfl, hr8', _, hB8⟩; have hc8 := hc7.out.below hB8; have hd8 := hd7.below hB8; have hr8 := hr7.of_heap (hB8.block _ hr7.lt); have hs8 := hB8.size; have hS8 := lies_row hr8' (by rw [HLL.out]; omega); have hS5 := lies_row hr8 (by rw [HLL.out]; omega)))
          | (go_at_call 19; ((with_reducible refine Calls.mono (HOF.out _ _ hS6) ?_); rintro e w7 ⟨pc, rfl, hc7, hpc7, hB7⟩; have hd7 := hd6.below hB7; have hr7 := hr6.of_heap (hB7.block _ hr6.lt); have hs7 := hB7.size; have hg6l := hr6.lt))
          | (go_at_call 16; ((with_reducible refine Calls.mono (HI2.out _ hd) ?_); rintro e w6 ⟨g6, rfl, hr6, _, hB6⟩; have hd6 := hd.below hB6; have hs6 := hB6.size; have hS6 := lies_row hr6 (by rw [HLL.out]; omega))))
        go_ret
        have b9 : Below W0.heap.size W0 wf := below_th (below_th (below_th (below_th (below_trans' HB.out hB6 hbw) hB7) hB8) hB9) hBf
        have b12 : Below W0.heap.size W0 w12 := b9.trans (ho12.below b9.size (fun k hk => by omega))
        exact ⟨rfl, below_th (below_th b12 hB13) hB14⟩
end
end Go.Proofs.Ytbidhiefgbddeaa.Disk
