/- The walk of DiskLast: it answers true. -/
import Derived.Test.YtbidhiefgbddeaaDiskImageW
namespace Go.Proofs.Ytbidhiefgbddeaa.Disk
open Go.RowKit Go.Shelf
set_option linter.unusedVariables false

section
set_option maxRecDepth 100000
set_option maxHeartbeats 4000000
theorem DiskLast_walk (v : Value) (L : List Op) (a1 a2 a3 t3 : Int) (w : World) (hL : Lies w v L.length 6 (L.flatMap opCells)) (wL : ∀ o ∈ L, OpOk o) (w1 : (Lit.int .i64 a1).wf = true) (w2 : (Lit.int .i64 a2).wf = true) (w3 : 0 ≤ a3 ∧ a3 ≤ 18446744073709551615) (wt3 : I64 t3) :
    Calls Try.prog 7 #[v, .int .i64 a1, .int .i64 a2, .agg #[.int .u64 a3, .int .i64 t3]] w fun e w' => e = .returned (.bool true) ∧ Below w.heap.size w w' := by
  obtain ⟨a, cap, rfl, HL, hnc, hm⟩ := hL.parts
  obtain ⟨N, hN⟩ : ∃ N, L.length = N := ⟨_, rfl⟩
  rw [hN] at HL hnc ⊢
  have HNn := Lib.hid hN
  have WL := Lib.hid wL
  obtain ⟨kp, rfl⟩ := Int.eq_ofNat_of_zero_le w3.1
  have hkb : kp < 18446744073709551616 := by have := w3.2; omega
  have hpa := fun W => pick_fn a1 128 (by omega) (by omega) (i64_wf w1) W
  obtain ⟨at0, hat0⟩ : ∃ at0, pickN a1 128 = at0 := ⟨_, rfl⟩
  have hatl : at0 < 128 := by rw [← hat0]; exact pickN_lt _ _ (by omega)
  rw [hat0] at hpa
  have hpb := fun W => pick_fn a2 128 (by omega) (by omega) (i64_wf w2) W
  obtain ⟨ot0, hot0⟩ : ∃ ot0, pickN a2 128 = ot0 := ⟨_, rfl⟩
  have hotl : ot0 < 128 := by rw [← hot0]; exact pickN_lt _ _ (by omega)
  rw [hot0] at hpb
  have hn1 : ∀ W, Calls Try.prog 10 #[.int .i64 128] W (NewPost 128 W) := fun W => new_yes 128 W (by decide)
  have hn2 : ∀ W, Calls Try.prog 11 #[.int .i64 128] W (R.NewPost 128 W) := fun W => R.new_yes_r 128 W (by decide)
  have HN1 := Lib.hid hn1
  have HN2 := Lib.hid hn2
  have HPA := Lib.hid hpa
  have HPB := Lib.hid hpb
  obtain ⟨W0, hW0⟩ : ∃ W0, w.alloc (.cells #[.int .u64 (kp : Int), .int .i64 t3] 35) = W0 := ⟨_, rfl⟩
  have hB0 : Below w.heap.size w W0 := by rw [← hW0]; exact (Below.refl _ w).alloc (Nat.le_refl _) _
  have hs0 : W0.heap.size = w.heap.size + 1 := by rw [← hW0]; simp
  have hf0 : W0.heap[w.heap.size]? = some (.cells #[.int .u64 (kp : Int), .int .i64 t3] 35 (0, 0)) := by rw [← hW0]; exact heap_alloc_new w _
  have HL0 : Hid (Lies W0 (.slice a N cap) N 6 (L.flatMap opCells)) := HL.out.below hB0
  clear hL hn1 hn2 hN wL hpa hat0 w1 hpb hot0 w2
  go_enter Try.func7, Try.ntmps7
  go_wp2_with (first
    | (go_at_call 9; refine (shown_any _).mono ?_; rintro e wa ⟨rfl, hB1⟩)
    | (go_at_call 10; refine (HN1.out _).mono ?_; rintro e wb ⟨p, rfl, hd0, hp0, hB2⟩)
    | (go_at_call 11; refine (HN2.out _).mono ?_; rintro e wc ⟨q, rfl, hr0, hq0, hB3⟩))
  have hBw : Below W0.heap.size W0 wc := below_th (below_th hB1 hB2) hB3
  have hP0 : ScrI W0 p q 0 wc := ⟨_, Pair.start hd0 hr0 hB3 hB1.size hB2.size, by simp [D.of], by simp [D.of], hBw⟩
  have HP0 := Lib.hid hP0
  clear hBw hP0 hd0 hr0 hB1 hB2 hB3 hp0 hq0
  go_loopw [14] (fun i wr => ∃ k : Nat, k ≤ N ∧ k ≤ 60 ∧ i = .int .i64 k ∧ ScrI W0 p q k wr) (fun i _ => N - (intOf i).toNat)
  case atStart => exact ⟨0, Nat.zero_le _, Nat.zero_le _, rfl, HP0.out⟩
  case round =>
    obtain ⟨k, hk, hk2, rfl, d, hP, hops, hlen, hB⟩ := hrel
    by_cases hlt : k < N ∧ k < 60
    · obtain ⟨hl1, hl2⟩ := hlt
      obtain ⟨x, hx⟩ : ∃ x, L[k]? = some x := ⟨_, List.getElem?_eq_getElem (by rw [HNn.out]; exact hl1)⟩
      have hxok := WL.out x (List.mem_of_getElem? hx)
      obtain ⟨b, off, rfl, c0, c1, c2, c3, c4, c5⟩ := op_at HNn.out (HL0.out.below hB) hx
      have hBs := hB.size
      have hpk := fun W => pick_fn x.k 6 (by omega) (by omega) hxok.k W
      have hD := does_any W0.heap.size p q d x wr hP hBs hxok (by omega)
      obtain ⟨m, hm6⟩ : ∃ m, pickN x.k 6 = m := ⟨_, rfl⟩
      rw [hm6] at hpk
      have HPK := Lib.hid hpk
      have HM := Lib.hid hm6
      unfold opArg at hD
      by_cases h5 : m = 5
      · have hq : ((m : Int) == 5) = true := by rw [h5]; rfl
        have hq2 : ((m : Int) != 5) = false := by rw [h5]; rfl
        have hnx : ScrI W0 p q (k + 1) wr := ⟨d, hP, by omega, hlen, hB⟩
        have HNX := Lib.hid hnx
        clear hnx h5 hpk hm6 hx hP hD
        go_wp2_with (go_at_call 21; refine (HPK.out _).mono ?_; rintro e w1 ⟨rfl, rfl⟩)
        go_roundw
        case rel => exact ⟨k + 1, by omega, by omega, by go_num, HNX.out⟩
        case measure => simp [intOf]; omega
      · have hq : ((m : Int) == 5) = false := by simp; omega
        have hq2 : ((m : Int) != 5) = true := by simp; omega
        have H5 := Lib.hid h5
        clear h5 hpk hm6 hx hP
        go_wp2_with (first
          | (go_at_call 21; refine (HPK.out _).mono ?_; rintro e w1 ⟨rfl, rfl⟩)
          | (go_at_call 12; refine hD.mono ?_; rintro e w4 ⟨p4, q4, d4, rfl, hP4, hB4, hops4, hlen4, hpq⟩))
        obtain ⟨rfl, rfl⟩ := hpq (by rw [HM.out]; exact H5.out)
        have hnx : ScrI W0 p4 q4 (k + 1) w4 := ⟨d4, hP4, by omega, by omega, hB.trans hB4⟩
        go_roundw
        case rel => exact ⟨k + 1, by omega, by omega, by go_num, hnx⟩
        case measure => simp [intOf]; omega
    · obtain ⟨F0, G0, hd0, _, _, hF0, _⟩ := hP.mem
      have hd := hd0.tight
      obtain ⟨F, hFd⟩ : ∃ F : Nat → Prop, (fun k => F0 k ∧ k < wr.heap.size) = F := ⟨_, rfl⟩
      rw [hFd] at hd
      have hFl : ∀ k, F k → W0.heap.size ≤ k ∧ k < wr.heap.size := fun k hk => by rw [← hFd] at hk; exact ⟨(hF0 k hk.1).1, hk.2⟩
      -- what stood at the other place
      obtain ⟨was, hwas⟩ : ∃ s, d.now[ot0]? = some s := ⟨_, List.getElem?_eq_getElem (by rw [D.now_length]; omega)⟩
      have hRd1 := fun W h => read_yes (p := p) (F := F) (d := d) (w := W) ot0 was h (by omega) hwas
      obtain ⟨d1, hd1⟩ : ∃ d1, d.cutAt (-1) = d1 := ⟨_, rfl⟩
      have hct : ∀ W, IsDisk W p F d → Calls Try.prog 22 #[.pointer (some ⟨p, 0, none⟩), .int .i64 (-1)] W fun e w' => e = .returned (.tuple #[]) ∧ IsDisk w' p F d1 ∧ Only F W w' := fun W h => by rw [← hd1]; exact cutAt_d (-1) h (by omega) (by omega)
      obtain ⟨s9, hs9⟩ : ∃ s, fullS 9 512 = s := ⟨_, rfl⟩
      have hFu : ∀ W, Calls Try.prog 27 #[.int .u8 9, .int .i64 512] W fun e w' => e = .returned (.string s9) ∧ Below W.heap.size W w' := fun W => by rw [← hs9]; exact full_any 9 512 W (by omega) (by omega)
      have hs512 : s9.size = 512 := by rw [← hs9, fullS_size]; decide
      have hoff : ¬ d1.off := by rw [← hd1]; simp [D.off, D.cutAt]
      have hl1 : d1.B.length = 128 := by rw [← hd1]; exact hlen
      have hop1 : d1.ops ≤ 1000 := by rw [← hd1]; show d.ops ≤ 1000; omega
      have hnow1 : d1.now = d.now := by rw [← hd1]; rfl
      obtain ⟨d2, hd2⟩ : ∃ d2, d1.written at0 s9 = d2 := ⟨_, rfl⟩
      have hW : ∀ W, IsDisk W p F d1 → Calls Try.prog 26 #[.pointer (some ⟨p, 0, none⟩), .int .i64 at0, .string s9] W fun e w' => e = .returned (.int .i64 0) ∧ Left p F d2 W w' := fun W h => by rw [← hd2]; exact write_ok at0 s9 h hoff (by omega) hs512 (by omega)
      have hl2 : d2.B.length = 128 := by rw [← hd2]; exact hl1
      have hop2 : d2.ops ≤ 2000 := by rw [← hd2]; show d1.ops + 1 ≤ 2000; omega
      have hnow2 : d2.now = d.now.set at0 s9 := by rw [← hd2, D.written_now, hnow1]
      have hnl : d.now.length = 128 := by rw [D.now_length, hlen]
      have hRd2 : ∀ W G, IsDisk W p G d2 → Calls Try.prog 25 #[.pointer (some ⟨p, 0, none⟩), .int .i64 at0] W fun e w' => e = .returned (.tuple #[.string s9, .int .i64 0]) ∧ Below W.heap.size W w' := fun W G h => read_yes at0 s9 h (by omega) (by rw [hnow2, List.getElem?_set_self (by omega)])
      obtain ⟨ob, hob⟩ : ∃ s, d2.now[ot0]? = some s := ⟨_, List.getElem?_eq_getElem (by rw [D.now_length]; omega)⟩
      have hRd3 : ∀ W G, IsDisk W p G d2 → Calls Try.prog 25 #[.pointer (some ⟨p, 0, none⟩), .int .i64 ot0] W fun e w' => e = .returned (.tuple #[.string ob, .int .i64 0]) ∧ Below W.heap.size W w' := fun W G h => read_yes ot0 ob h (by omega) hob
      have hobw : ot0 ≠ at0 → ob = was := fun hne => by
        rw [hnow2, List.getElem?_set_ne (fun e => hne e.symm), hwas] at hob
        exact (Option.some.inj hob).symm
      obtain ⟨l, hl⟩ : ∃ l, d2.now = l := ⟨_, rfl⟩
      have hll : l.length = 128 := by rw [← hl, D.now_length, hl2]
      have hok2 : d2.Ok := by rw [← hd2, ← hd1]; exact (hd.ok.cutAt (by omega) (by omega)).written (by show at0 < d.B.length; omega) hs512
      have hls : ∀ s ∈ l, s.size = 512 := by rw [← hl]; exact hok2.now_sizes
      have hI2 : ∀ W G, IsDisk W p G d2 → Calls Try.prog 16 #[.pointer (some ⟨p, 0, none⟩)] W (Texts l W) := fun W G h => by rw [← hl]; exact image_d h
      obtain ⟨d3, hd3⟩ : ∃ d3, d2.crashed kp t3 = d3 := ⟨_, rfl⟩
      have hC : ∀ W G, IsDisk W p G d2 → Calls Try.prog 23 #[.pointer (some ⟨p, 0, none⟩), .agg #[.int .u64 (kp : Int), .int .i64 t3]] W (Fell d3 W) := fun W G h => by rw [← hd3]; exact crash_d kp t3 hkb h (by omega)
      have hok3 : d3.Ok := by rw [← hd3]; exact hok2.crashed kp t3
      have hl3 : d3.B.length = 128 := by rw [← hd3]; show (crash _ _ _ _).length = _; unfold crash; rw [crashTo_length]; exact hl2
      obtain ⟨m3, hm3⟩ : ∃ m, d3.now = m := ⟨_, rfl⟩
      have hm3l : m3.length = 128 := by rw [← hm3, D.now_length, hl3]
      have hm3s : ∀ s ∈ m3, s.size = 512 := by rw [← hm3]; exact hok3.now_sizes
      have hI3 : ∀ W pa G, IsDisk W pa G d3 → Calls Try.prog 16 #[.pointer (some ⟨pa, 0, none⟩)] W (Texts m3 W) := fun W pa G h => by rw [← hm3]; exact image_d h
      have hBl : ∀ W pa G, IsDisk W pa G d3 → Calls Try.prog 18 #[.pointer (some ⟨pa, 0, none⟩)] W fun e w' => e = .returned (.int .i64 128) ∧ W = w' := fun W pa G h => by have := blocks_d h; rw [hl3] at this; exact this
      have hSm : ∀ va vb W, Lies W va l.length 1 (strs l) → Lies W vb l.length 1 (strs l) → Calls Try.prog 15 #[va, vb] W fun e w' => e = .returned (.bool true) ∧ Below W.heap.size W w' := fun va vb W h1 h2 => R.same_any l va vb W h1 h2 (fun s hs => by have := hls s hs; omega)
      have hSm3 : ∀ va vb W, Lies W va m3.length 1 (strs m3) → Lies W vb m3.length 1 (strs m3) → Calls Try.prog 15 #[va, vb] W fun e w' => e = .returned (.bool true) ∧ Below W.heap.size W w' := fun va vb W h1 h2 => R.same_any m3 va vb W h1 h2 (fun s hs => by have := hm3s s hs; omega)
      have HR1 := Lib.hid hRd1
      have HR2 := Lib.hid hRd2
      have HR3 := Lib.hid hRd3
      have HCT := Lib.hid hct
      have HFU := Lib.hid hFu
      have HW := Lib.hid hW
      have HI2 := Lib.hid hI2
      have HI3 := Lib.hid hI3
      have HC := Lib.hid hC
      have HBl := Lib.hid hBl
      have HSm := Lib.hid hSm
      have HSm3 := Lib.hid hSm3
      have HLL := Lib.hid hll
      have HML := Lib.hid hm3l
      have HFl := Lib.hid hFl
      have HOBW := Lib.hid hobw
      have HB := Lib.hid hB
      have hbw : W0.heap.size ≤ wr.heap.size := hB.size
      have hfr : ∀ W : World, W.heap[w.heap.size]? = wr.heap[w.heap.size]? → W.cell? ⟨w.heap.size, 0, none⟩ = some (.int .u64 (kp : Int)) ∧ W.cell? ⟨w.heap.size, 1, none⟩ = some (.int .i64 t3) := fun W hW => by
        have := hW.trans ((hB.block w.heap.size (by omega)).trans hf0)
        constructor <;> (simp only [World.cell?, this]; rfl)
      have HFR := Lib.hid hfr
      have hnF : ¬ F w.heap.size := fun hh => by have := (hFl _ hh).1; omega
      have HNF := Lib.hid hnF
      have hwl : w.heap.size < wr.heap.size := by omega
      have hbo : (((ot0 : Int) == (at0 : Int)) = true ∨ (((ot0 : Int) == (at0 : Int)) = false ∧ ob = was)) := by
        by_cases he : ot0 = at0
        · exact .inl (by rw [he]; simp)
        · exact .inr ⟨by simp; omega, hobw he⟩
      clear hP hFd hFl hd1 hop1 hoff hl1 hnow1 hd2 hl2 hop2 hnow2 hnl hob hobw hl hll hok2 hls hd3 hok3 hl3 hm3 hm3l hm3s hs9 hs512 hwas hRd1 hRd2 hRd3 hct hFu hW hI2 hI3 hC hBl hSm hSm3 hB hfr hd0 hF0 hf0 hlen hnF
      by_cases hk1 : k < N
      all_goals
        first
          | (have hk3 : ¬ k < 60 := fun hh => hlt ⟨hk1, hh⟩)
          | skip
        clear hlt
        rcases hbo with hbo | ⟨hbo, rfl⟩
      all_goals
        go_wp2_with (first
          | (go_at_call 18; ((with_reducible refine Calls.mono (HBl.out _ _ _ hx20) ?_); rintro e w21 ⟨rfl, rfl⟩))
          | (go_at_call 15; ((with_reducible refine Calls.mono (HSm3.out _ _ _ hS18 hS19) ?_); rintro e w20 ⟨rfl, hB20⟩; have hx20 := hx19.below hB20))
          | (go_at_call 16; ((with_reducible refine Calls.mono (HI3.out _ _ _ hy18) ?_); rintro e w19 ⟨g19, rfl, hr19, _, hB19⟩; have hx19 := hx18.below hB19; have hS19 := lies_row hr19 (by rw [HML.out]; omega); have hS18 := lies_row (hr18.of_heap (hB19.block _ hr18.lt)) (by rw [HML.out]; omega)))
          | (go_at_call 16; ((with_reducible refine Calls.mono (HI3.out _ _ _ hx17) ?_); rintro e w18 ⟨g18, rfl, hr18, _, hB18⟩; have hx18 := hx17.below hB18; have hy18 := hy17.below hB18))
          | (go_at_call 15; ((with_reducible refine Calls.mono (HSm.out _ _ _ hS16 hS12) ?_); rintro e w17 ⟨rfl, hB17⟩; have hx17 := hx16.below hB17; have hy17 := hy16.below hB17))
          | (go_at_call 16; ((with_reducible refine Calls.mono (HI2.out _ _ hd15) ?_); rintro e w16 ⟨g16, rfl, hr16, _, hB16⟩; have hx16 := hx15.below hB16; have hy16 := hy15.below hB16; have hS16 := lies_row hr16 (by rw [HLL.out]; omega); have hS12 := lies_row (hr15.of_heap (hB16.block _ hr15.lt)) (by rw [HLL.out]; omega)))
          | (go_at_call 27; ((with_reducible refine Calls.mono (HFU.out _) ?_); have tk := hy14; rintro e w15 ⟨rfl, hB15⟩; have hx15 := hx14.below hB15; have hy15 := hy14.out.below hB15; have hd15 := hd14.below hB15; have hr15 := hr14.of_heap (hB15.block _ hr14.lt)))
          | (go_at_call 23; ((with_reducible refine Calls.mono (HC.out _ _ hd13) ?_); rintro e w14 ⟨py, rfl, hy14, _, hB14⟩; have hx14 := hx13.out.below hB14; have hd14 := hd13.below hB14; have hr14 := hr13.of_heap (hB14.block _ hr13.lt)))
          | (go_at_call 23; ((with_reducible refine Calls.mono (HC.out _ _ hd12) ?_); rintro e w13 ⟨px, rfl, hx13, _, hB13⟩; have hd13 := hd12.below hB13; have hr13 := hr12.of_heap (hB13.block _ hr12.lt); have hq13 := (hB13.block _ (by omega)).trans hq12; obtain ⟨y0, y1⟩ := HFR.out w13 hq13))
          | (go_at_call 16; ((with_reducible refine Calls.mono (HI2.out _ _ hd11) ?_); rintro e w12 ⟨g12, rfl, hr12, _, hB12⟩; have hd12 := hd11.below hB12; have hs12 := hB12.size; have hq12 := (hB12.block _ (by omega)).trans hq11; obtain ⟨z0, z1⟩ := HFR.out w12 hq12))
          | (go_at_call 25; ((with_reducible refine Calls.mono (HR3.out _ _ hd10) ?_); rintro e w11 ⟨rfl, hB11⟩; have hd11 := hd10.below hB11; have hs11 := hB11.size; have hq11 := (hB11.block _ (by omega)).trans hq10))
          | (go_at_call 25; ((with_reducible refine Calls.mono (HR2.out _ _ hd9) ?_); rintro e w10 ⟨rfl, hB10⟩; have hd10 := hd9.below hB10; have hs10 := hB10.size; have hq10 := (hB10.block _ (by omega)).trans hq9))
          | (go_at_call 26; ((with_reducible refine Calls.mono (HW.out _ hd8) ?_); rintro e w9 ⟨rfl, F9, hd9, ho9, _⟩; have hs9 := ho9.size; have hq9 := (ho9.block _ (by omega) HNF.out).trans hq8))
          | (go_at_call 27; ((with_reducible refine Calls.mono (HFU.out _) ?_); rintro e w8 ⟨rfl, hB8⟩; have hd8 := hd7.below hB8; have hs8 := hB8.size; have hq8 := (hB8.block _ (by omega)).trans hq7))
          | (go_at_call 22; ((with_reducible refine Calls.mono (HCT.out _ hd6) ?_); rintro e w7 ⟨rfl, hd7, ho7⟩; have hs7 := ho7.size; have hq7 := (ho7.block _ (by omega) HNF.out).trans hq6))
          | (go_at_call 25; ((with_reducible refine Calls.mono (HR1.out _ hd) ?_); rintro e w6 ⟨rfl, hB6⟩; have hd6 := hd.below hB6; have hs6 := hB6.size; have hq6 := hB6.block _ hwl))
          | (go_at_call 21; ((with_reducible refine Calls.mono (HPA.out _) ?_); rintro e w1 ⟨rfl, rfl⟩))
          | (go_at_call 21; ((with_reducible refine Calls.mono (HPB.out _) ?_); rintro e w1 ⟨rfl, rfl⟩)))
      all_goals
        go_ret
        have b6 : Below W0.heap.size W0 w6 := below_trans' HB.out hB6 hbw
        have b7 : Below W0.heap.size W0 w7 := b6.trans (ho7.below b6.size (fun k hk => (HFl.out k hk).1))
        have b8 := below_th b7 hB8
        have b9 : Below W0.heap.size W0 w9 := b8.trans (ho9.below b8.size (fun k hk => (HFl.out k hk).1))
        have b20 := below_th (below_th (below_th (below_th (below_th (below_th (below_th (below_th (below_th (below_th (below_th b9 hB10) hB11) hB12) hB13) hB14) hB15) hB16) hB17) hB18) hB19) hB20
        exact ⟨rfl, hB0.trans (b20.mono hB0.size)⟩
end
end Go.Proofs.Ytbidhiefgbddeaa.Disk
