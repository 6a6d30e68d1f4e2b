/- What stands ahead of every law on disks (a loose write is lost, and torn), and what the laws call besides: pick, Full. -/
import Derived.Deep.RegionWith
import Derived.Deep.RegionHeld3
import Derived.Test.YtbidhiefgbddeaaDiskCrash
namespace Go.Proofs.Ytbidhiefgbddeaa.Disk
open Go.RowKit Go.Shelf
set_option linter.unusedVariables false

/-- so many bytes, each one more than the one ahead -/
def fullN (c : Int) (k : Nat) : List Int := (List.range k).map fun (i : Nat) => (c + (i : Int)) % 256
theorem fullN_length (c : Int) (k : Nat) : (fullN c k).length = k := by simp [fullN]
theorem fullN_succ (c : Int) (k : Nat) : fullN c (k + 1) = fullN c k ++ [(c + (k : Int)) % 256] := by simp [fullN, List.range_succ]
def fullS (c : Int) (n : Int) : ByteArray := strOfNums (fullN c (min n.toNat 1000))
theorem fullS_size (c n : Int) : (fullS c n).size = min n.toNat 1000 := by rw [fullS, strOfNums_size, fullN_length]
theorem fullS_cut (c : Int) (a b : Nat) (h : a ≤ b) (hb : b ≤ 1000) : (fullS c b).extract 0 a = fullS c a := by
  apply ByteArray.ext
  apply Array.toList_inj.1
  have e1 : min ((b : Int)).toNat 1000 = b := by omega
  have e2 : min ((a : Int)).toNat 1000 = a := by omega
  rw [fullS, fullS, e1, e2, Lib.extract_data, strOfNums_data, strOfNums_data]
  simp only [List.drop_zero, ← List.map_take]
  rw [show a - 0 = a from rfl]
  congr 1
  rw [fullN, ← List.map_take, List.take_range, Nat.min_eq_left h]
  rfl

section
set_option maxRecDepth 100000
def PickPost (n : Nat) (w : World) (e : Ending) (w' : World) : Prop := ∃ k : Nat, k < n ∧ e = .returned (.int .i64 (k : Int)) ∧ w = w'
theorem pick_any (c : Int) (n : Nat) (h0 : 0 < n) (hn : n ≤ 1000) (hc : -9223372036854775808 ≤ c ∧ c ≤ 9223372036854775807) (w : World) :
    Calls Try.prog 21 #[.int .i64 c, .int .i64 n] w (PickPost n w) := by
  obtain ⟨h1, h2⟩ := hc
  have hz : ((n : Int) == 0) = false := by simp; omega
  by_cases h : c < 0
  · have ht : -((c + 1).tmod (n : Int)) = (-(c + 1)) % (n : Int) := by rw [← Int.neg_tmod]; exact Int.tmod_eq_emod_of_nonneg (by omega)
    have hp1 : 0 ≤ (-(c + 1)) % (n : Int) := Int.emod_nonneg _ (by omega)
    have hp2 : (-(c + 1)) % (n : Int) < (n : Int) := Int.emod_lt_of_pos _ (by omega)
    obtain ⟨k, hk⟩ := Int.eq_ofNat_of_zero_le hp1
    have HK := Lib.hid hk
    rw [hk] at hp2
    have HT := Lib.hid ht
    clear hk hp1 ht
    go_enter Try.func21, Try.ntmps21
    go_wp2
    go_ret
    exact ⟨k, by omega, by rw [← HK.out]; first | rfl | (rw [← HT.out]; rfl), rfl⟩
  · have hp1 : 0 ≤ c % (n : Int) := Int.emod_nonneg _ (by omega)
    have hp2 : c % (n : Int) < (n : Int) := Int.emod_lt_of_pos _ (by omega)
    obtain ⟨k, hk⟩ := Int.eq_ofNat_of_zero_le hp1
    rw [hk] at hp2
    have HK := Lib.hid hk
    clear hk hp1
    go_enter Try.func21, Try.ntmps21
    go_wp2
    go_ret
    exact ⟨k, by omega, by rw [← HK.out]; rfl, rfl⟩

set_option maxHeartbeats 1000000 in
theorem full_any (c n : Int) (w : World) (h1 : 0 ≤ c) (h2 : c ≤ 255) : Calls Try.prog 27 #[.int .u8 c, .int .i64 n] w fun e w' => e = .returned (.string (fullS c n)) ∧ Below w.heap.size w w' := by
  obtain ⟨i0, hi, hz0, hz1, hz2⟩ := info_parts infoByte
  obtain ⟨K, hK⟩ : ∃ K, min n.toNat 1000 = K := ⟨_, rfl⟩
  have hS : fullS c n = strOfNums (fullN c K) := by rw [fullS, hK]
  have hlo : ∀ k : Nat, k < K → (k : Int) < n ∧ (k : Int) < 1000 := fun k hk => by omega
  have hend : (K : Int) < n → (1000 : Int) ≤ (K : Int) := fun h => by omega
  have hK2 : K ≤ 1000 := by omega
  have HS := Lib.hid hS
  have HLO := Lib.hid hlo
  have HEN := Lib.hid hend
  clear hK hS hlo hend
  go_enter Try.func27, Try.ntmps27
  go_wp2
  go_loopw [5, 6] (fun v i wr => ∃ k : Nat, k ≤ K ∧ i = .int .i64 k ∧ wr.ownsRow w.heap.size 5 1 v k ((fullN c k).map (Value.int .u8)) ∧ Below w.heap.size w wr) (fun _ i _ => K - (intOf i).toNat)
  case atStart => exact ⟨0, Nat.zero_le _, rfl, World.ownsRow_nil _ _ _ _, Below.refl _ _⟩
  case round =>
    obtain ⟨k, hk, rfl, hown, hB⟩ := hrel
    have hsz := hB.size
    by_cases hlt : k < K
    · obtain ⟨l1, l2⟩ := HLO.out k hlt
      have hby : IntKind.u8.wrap (c + IntKind.u8.wrap (k : Int)) = (c + (k : Int)) % 256 := by rw [IntKind.wrap_u8, IntKind.wrap_u8]; omega
      have hby2 : IntKind.u8.wrap (c + (k : Int) % 256) = (c + (k : Int)) % 256 := by rw [IntKind.wrap_u8]; omega
      go_wp2_with (at_builtin; go_must (refine wpList_append_own _ rfl _ _ 61 rfl w.heap.size 5 i0 (.int .u8 0) 1 1 Try.underlying61 hi hz0 hz1 hz2 rfl (by decide) _ _ _ rfl (hown.alloc _) ⟨wr.heap.size, 0, none⟩ 1 1 [.int .u8 ((c + (k : Int)) % 256)] rfl rfl (cell_one_new _ _ _) (by simp [Value.oneCell']) (by unfold maxLen; omega) (by omega) (by simp; omega) ?_; intro v' w1 hown' hgrow _))
      have HO : Hid (w1.ownsRow w.heap.size 5 1 v' (k + 1) ((fullN c (k + 1)).map (Value.int .u8))) := by
        rw [fullN_succ, List.map_append]
        exact hown'
      obtain ⟨g', cap', rfl⟩ := ownsRow_succ hown'
      have HB : Below w.heap.size w w1 := (hB.alloc hB.size _).grown hgrow (by simp; omega) (fun r e => (hown.lt r e).1)
      clear hown hown' hgrow hby hby2
      go_wp2
      go_roundw
      case rel => exact ⟨k + 1, by omega, by go_num, HO, HB⟩
      case measure => simp [intOf]; omega
    · obtain rfl : k = K := by omega
      have hno : ¬ ((k : Int) < n ∧ (k : Int) < 1000) := fun hh => by have := HEN.out hh.1; omega
      obtain ⟨A, cap, rfl, hcv⟩ : ∃ A cap, u5 = .slice A k cap ∧ ∀ T, (convert 61 9 (.slice A k cap)).run Try.prog wr = T → T = .ok (.string (strOfNums (fullN c k))) wr := by
        rcases hown.2 with ⟨rfl, rfl⟩ | ⟨g, cap, cur, rfl, _⟩
        · refine ⟨none, 0, rfl, fun T hT => ?_⟩
          rw [← hT]
          exact run_convert_bytes_nil (P := Try.prog) wr 61 5 Try.underlying61 Try.underlying5 0 0 9 Try.underlying9
        · refine ⟨some ⟨g, 0, none⟩, cap, rfl, fun T hT => ?_⟩
          rw [← hT]
          exact run_convert_bytes_arg (P := Try.prog) wr 61 5 Try.underlying61 Try.underlying5 g 0 k cap (fullN c k) (fullN_length c k) (fun i hi => by
            rw [Nat.zero_add, hown.cellAt i (by omega)]
            simp [fullN, hi]) 9 Try.underlying9
      have hcv2 := hcv _ rfl
      clear hcv hown
      by_cases hn2 : (k : Int) < n
      · have h3 : ¬ (k : Int) < 1000 := fun hh => hno ⟨hn2, hh⟩
        clear hno
        go_wp2
        go_ret
        exact ⟨by rw [HS.out]; rfl, hB⟩
      · clear hno
        go_wp2
        go_ret
        exact ⟨by rw [HS.out]; rfl, hB⟩

theorem empty_zeros (n : Nat) : (⟨#[]⟩ : ByteArray) ++ zeros n = zeros n := by
  apply ByteArray.ext
  apply Array.toList_inj.1
  simp [zeros]
theorem zblock_eq : zblock = zeros 512 := empty_zeros 512
/-- a new disk, told as data -/
def Made (d : D) (W : World) (e : Ending) (w' : World) : Prop := ∃ p, e = .returned (.tuple #[.pointer (some ⟨p, 0, none⟩), .int .i64 0]) ∧ Hid (IsDisk w' p (fun k => W.heap.size ≤ k) d) ∧ W.heap.size ≤ p ∧ Below W.heap.size W w'
def Fell (d : D) (W : World) (e : Ending) (w' : World) : Prop := ∃ p, e = .returned (.pointer (some ⟨p, 0, none⟩)) ∧ Hid (IsDisk w' p (fun k => W.heap.size ≤ k) d) ∧ W.heap.size ≤ p ∧ Below W.heap.size W w'
theorem new_made (n : Nat) (h : sizeOk n) (W : World) : Calls Try.prog 10 #[.int .i64 n] W (Made (D.of (List.replicate n (zeros 512))) W) := by
  rw [← zblock_eq]; exact new_yes n W h
set_option maxHeartbeats 4000000 in
theorem shown_any (w : World) : Calls Try.prog 9 #[] w fun e w' => e = .returned (.bool true) ∧ Below w.heap.size w w' := by
  have hN : ∀ W, Calls Try.prog 10 #[.int .i64 128] W (Made (D.of (List.replicate 128 (zeros 512))) W) := new_made 128 (by decide)
  have hF : ∀ W, Calls Try.prog 27 #[.int .u8 7, .int .i64 512] W fun e w' => e = .returned (.string (fullS 7 512)) ∧ Below W.heap.size W w' := fun W => full_any 7 512 W (by omega) (by omega)
  have hF2 : ∀ W, Calls Try.prog 27 #[.int .u8 7, .int .i64 256] W fun e w' => e = .returned (.string (fullS 7 256)) ∧ Below W.heap.size W w' := fun W => full_any 7 256 W (by omega) (by omega)
  have hFs : (fullS 7 512).size = 512 := by rw [fullS_size]; decide
  have hcut : (fullS 7 512).extract 0 256 = fullS 7 256 := fullS_cut 7 256 512 (by omega) (by omega)
  have hok : (D.of (List.replicate 128 (zeros 512))).Ok := D.of_ok (by simp) (by simp) (fun s hs => by rw [List.eq_of_mem_replicate hs, zeros_size])
  obtain ⟨f5, hf5⟩ : ∃ s, fullS 7 512 = s := ⟨_, rfl⟩
  obtain ⟨f2, hf2⟩ : ∃ s, fullS 7 256 = s := ⟨_, rfl⟩
  obtain ⟨z, hz⟩ : ∃ s, zeros 512 = s := ⟨_, rfl⟩
  have hzs : z.size = 512 := by rw [← hz, zeros_size]
  obtain ⟨tz, htz⟩ : ∃ s, z.extract 256 z.size = s := ⟨_, rfl⟩
  have hadd := fun W => run_string_add_sum (P := Try.prog) (w := W) f2 tz (by have h1 : f2.size = 256 := (by rw [← hf2, fullS_size]; decide); rw [← htz, h1]; simp; omega)
  rw [hf5] at hF hFs hcut
  rw [hf2] at hF2 hcut
  rw [hz] at hok hN
  have b1 : 256 ≤ z.size := by omega
  have b2 : (256 : Int) ≤ (z.size : Int) := by omega
  have hmk : ∀ W : World, (Instr.makeSlice 61 (.int .i64 512) (.int .i64 512)).run Try.prog W = .ok (.slice (some ⟨W.heap.size, 0, none⟩) 512 512) (W.alloc (.cells (madeCells #[.int .u8 0] 512) 5)) := fun W => run_make_row' (P := Try.prog) 61 5 (.int .u8 0) 1 Try.underlying61 infoByte rfl .i64 .i64 512 (by omega) (by omega) W
  have hcv : ∀ W : World, (convert 61 9 (.slice (some ⟨W.heap.size, 0, none⟩) 512 512)).run Try.prog (W.alloc (.cells (madeCells #[.int .u8 0] 512) 5)) = .ok (.string z) (W.alloc (.cells (madeCells #[.int .u8 0] 512) 5)) := fun W => by rw [← hz]; exact conv_zeros _ _ _ (World.rowIs_made W (.int .u8 0) 512 5) 512
  -- the disk, told as data
  obtain ⟨d0, hd0⟩ : ∃ d, D.of (List.replicate 128 z) = d := ⟨_, rfl⟩
  obtain ⟨d1, hd1⟩ : ∃ d, d0.written 3 f5 = d := ⟨_, rfl⟩
  have hop1 : d1.ops ≤ 1099511627776 := by rw [← hd1, ← hd0]; simp [D.written, D.of]
  have hnoff : ¬ d0.off := by rw [← hd0]; simp [D.off, D.of]
  have hop0 : d0.ops ≤ 1099511627776 := by rw [← hd0]; simp [D.of]
  have hl0 : 3 < d0.B.length := by rw [← hd0]; simp [D.of]
  have hr1 : (d1.crashed 0 (-1)).now[3]? = some z := by rw [← hd1, ← hd0]; rfl
  have hr2 : (d1.crashed 0 0).now[3]? = some (f2 ++ tz) := by
    rw [← hd1, ← hd0, ← hcut, ← htz]; rfl
  have hl1 : 3 < (d1.crashed 0 (-1)).B.length := by rw [← hd1, ← hd0]; show 3 < (crash _ _ _ _).length; unfold crash; rw [crashTo_length]; simp [D.of, D.written]
  have hl2 : 3 < (d1.crashed 0 0).B.length := by rw [← hd1, ← hd0]; show 3 < (crash _ _ _ _).length; unfold crash; rw [crashTo_length]; simp [D.of, D.written]
  have hW : ∀ p F W, IsDisk W p F d0 → Calls Try.prog 26 #[.pointer (some ⟨p, 0, none⟩), .int .i64 3, .string f5] W fun e w' => e = .returned (.int .i64 0) ∧ Left p F d1 W w' := fun p F W h => by
    rw [← hd1]; exact write_ok 3 f5 h hnoff hl0 hFs hop0
  have hC1 : ∀ p F W, IsDisk W p F d1 → Calls Try.prog 23 #[.pointer (some ⟨p, 0, none⟩), .agg #[.int .u64 0, .int .i64 (-1)]] W (Fell (d1.crashed 0 (-1)) W) := fun p F W h => crash_d 0 (-1) (by omega) h hop1
  have hC2 : ∀ p F W, IsDisk W p F d1 → Calls Try.prog 23 #[.pointer (some ⟨p, 0, none⟩), .agg #[.int .u64 0, .int .i64 0]] W (Fell (d1.crashed 0 0) W) := fun p F W h => crash_d 0 0 (by omega) h hop1
  have hR1 : ∀ p F W, IsDisk W p F (d1.crashed 0 (-1)) → Calls Try.prog 25 #[.pointer (some ⟨p, 0, none⟩), .int .i64 3] W fun e w' => e = .returned (.tuple #[.string z, .int .i64 0]) ∧ Below W.heap.size W w' := fun p F W h => read_yes 3 z h hl1 hr1
  have hR2 : ∀ p F W, IsDisk W p F (d1.crashed 0 0) → Calls Try.prog 25 #[.pointer (some ⟨p, 0, none⟩), .int .i64 3] W fun e w' => e = .returned (.tuple #[.string (f2 ++ tz), .int .i64 0]) ∧ Below W.heap.size W w' := fun p F W h => read_yes 3 (f2 ++ tz) h hl2 hr2
  rw [hd0] at hN
  have HN := Lib.hid hN
  have HF := Lib.hid hF
  have HF2 := Lib.hid hF2
  have HW := Lib.hid hW
  have HC1 := Lib.hid hC1
  have HC2 := Lib.hid hC2
  have HR1 := Lib.hid hR1
  have HR2 := Lib.hid hR2
  obtain ⟨dA, hdA⟩ : ∃ d, d1.crashed 0 (-1) = d := ⟨_, rfl⟩
  obtain ⟨dB, hdB⟩ : ∃ d, d1.crashed 0 0 = d := ⟨_, rfl⟩
  rw [hdA] at HC1 HR1
  rw [hdB] at HC2 HR2
  have HTZ := Lib.hid htz
  clear hN hF hF2 hW hC1 hC2 hR1 hR2 hl1 hl2 hr1 hr2 hl0 hop0 hnoff hop1 hd1 hd0 hz hzs hf2 hf5 hcut hFs hok hdA hdB
  go_enter Try.func9, Try.ntmps9
  go_wp2_with (first
    | (go_at_call 25; ((with_reducible refine Calls.mono (HR2.out _ _ _ (hq2.out.below hB5)) ?_); rintro e w6 ⟨rfl, hB6⟩))
    | (go_at_call 25; ((with_reducible refine Calls.mono (HR1.out _ _ _ (hq1.out.below hB4)) ?_); rintro e w5 ⟨rfl, hB5⟩; have hq2 := Lib.hid hq2'.out))
    | (go_at_call 23; ((with_reducible refine Calls.mono (HC2.out _ _ _ (hp2.below hB3)) ?_); rintro e w4 ⟨q2, rfl, hq2', hs4, hB4⟩))
    | (go_at_call 23; ((with_reducible refine Calls.mono (HC1.out _ _ _ hp2) ?_); rintro e w3 ⟨q1, rfl, hq1, hs3, hB3⟩))
    | (go_at_call 26; ((with_reducible refine Calls.mono (HW.out _ _ _ (hp1.out.below hBf)) ?_); rintro e w2 ⟨rfl, F2, hp2, hon2, hF2⟩))
    | (go_at_call 27; ((with_reducible refine Calls.mono (HF.out _) ?_); rintro e wf ⟨rfl, hBf⟩))
    | (go_at_call 10; ((with_reducible refine Calls.mono (HN.out _) ?_); rintro e w1 ⟨p, rfl, hp1, hs1, hB1⟩)))
  have hBw : Below w.heap.size w w6 := by
    have h1 := below_th hB1 hBf
    have h2 : Below w.heap.size w w2 := h1.trans (hon2.below h1.size (fun k hk => hk))
    exact below_th (below_th (below_th (below_th h2 hB3) hB4) hB5) hB6
  clear hB1 hBf hon2 hB3 hB4 hB5 hB6 hq1 hq2 hq2' hp1 hp2 hs1 hs3 hs4 HN HF HW HC1 HC2 HR1 HR2 hmk hcv hF2
  go_region_held3 (fun _ => True) (trivial) ((go_at_call 27; refine (HF2.out _).mono ?_; rintro e w9 ⟨rfl, hB9⟩))
  go_wp2
  go_ret
  exact ⟨rfl, below_th ((hBw.alloc hBw.size _).drew) hB9⟩
end
end Go.Proofs.Ytbidhiefgbddeaa.Disk
