/- PlainReads, walked, with what a write that succeeds leaves to be read. -/
import Derived.Test.YtkipkcmcolomcaaGreatPk36
import Derived.Test.YtkipkcmcolomcaaGreatPk35
import Derived.Test.YtkipkcmcolomcaaGreatPk08
import Derived.Test.YtkipkcmcolomcaaGreatPk02
import Derived.Test.YtkipkcmcolomcaaGreatPk03
namespace Go.Proofs.YtkipkcmcolomcaaGreat.Pln
open Go.RowKit
open Dir (N)
set_option linter.unusedVariables false
set_option linter.unusedSimpArgs false
theorem wr_law {l : List Nd} {path d : ByteArray} {off : Int} {now : Nat} (hd : ¬ d = ⟨#[]⟩) (hc : (doR l (wrC path d off) now).code = 0) :
    0 ≤ off ∧ off + d.size ≤ 200000 ∧ (doV l (wrC path d off) now).length = l.length ∧ (∃ x : Nat, ∀ j, ¬ j = x → nd (doV l (wrC path d off) now) j = nd l j) ∧ ∃ s : ByteArray, s.size ≤ 200000 ∧ doR l (rdC path 0 200000) now = ⟨0, s, [], St.zero⟩ ∧ doR (doV l (wrC path d off) now) (rdC path off d.size) now = ⟨0, d, [], St.zero⟩ ∧ doR (doV l (wrC path d off) now) (rdC path 0 off) now = ⟨0, (s ++ zeros 200000).extract 0 off.toNat, [], St.zero⟩ ∧ doR (doV l (wrC path d off) now) (rdC path (off + d.size) 200000) now = ⟨0, s.extract (min s.size (off.toNat + d.size)) s.size, [], St.zero⟩ := by
  obtain ⟨D, hD⟩ := do_ok hc
  rw [doR_right hD] at hc
  have ho : (wrC path d off).op = 3 := rfl
  obtain ⟨x, hf, h1, h2, h3, e⟩ := write_is hD ho hd hc
  obtain ⟨f1, f2, f3, f4, f5⟩ := write_read hD ho hd hc hf
  have hg := do_good (jof D) (jof_is D) srt hD (wrC path d off) now
  obtain ⟨z1, z2⟩ := file_data hD hf
  have h1' : 0 ≤ off := h1
  have h2' : off + (d.size : Int) ≤ 200000 := h2
  have hr := hg.1
  rw [f3] at hr
  have hv : doV l (wrC path d off) now = (doD (jof D) srt l D (wrC path d off) now).l := by rw [doV_right hD]; rfl
  rw [hv]
  have f2' : (nd (doD (jof D) srt l D (wrC path d off) now).l x).data = stood (nd l x).data off.toNat d := f2
  obtain ⟨p1, p2, p3⟩ := write_parts (nd l x).data d off.toNat z1 (by omega)
  refine ⟨h1, h2, f4, ⟨x, f5⟩, (nd l x).data, z1, ?_, ?_, ?_, ?_⟩
  · rw [rd_is (path := path) hD h3 hf (by omega) (by omega), show ((0 : Int).toNat) = 0 from rfl, readOf_all (by omega)]
  · rw [rd_is (D := D) (x := x) (path := path) hr h3 f1 h1' (by omega), f2', show ((d.size : Int).toNat) = d.size from rfl, p1]
  · rw [rd_is (D := D) (x := x) (path := path) hr h3 f1 (by omega) h1', f2', show ((0 : Int).toNat) = 0 from rfl, p2]
  · rw [rd_is (D := D) (x := x) (path := path) hr h3 f1 (by omega) (by omega), f2', show (off + (d.size : Int)).toNat = off.toNat + d.size by omega, show ((200000 : Int).toNat) = 200000 from rfl, p3]
end Go.Proofs.YtkipkcmcolomcaaGreat.Pln
namespace Go.Proofs.YtkipkcmcolomcaaGreat.Pln
open Go.RowKit
attribute [local go_sem] Oper.semAt_some
set_option linter.unusedVariables false
set_option linter.unusedSimpArgs false
section
set_option maxRecDepth 100000
set_option maxHeartbeats 8000000
theorem reads_nat (v : Value) (l : List Nd) (path : ByteArray) (off : Int) (data : ByteArray) (now : Nat) (w : World) (hL : Nodes w v l) (hk : ∀ n ∈ l, n.Ok ∧ n.data.size ≤ 281474976710656) (wz : path.size ≤ 140737488351232) (wo : -9223372036854775808 ≤ off ∧ off ≤ 9223372036854775807) (wd : data.size ≤ 140737488351232) (wn : now < 18446744073709551616) :
    Calls Tryz.prog 5 #[v, .string path, .int .i64 off, .string data, .int .u64 now] w (Ans w (.bool true)) := by
  have HL := Lib.hid hL
  have hF := fun W (h : Nodes W v l) => few_any v l W h
  by_cases hf : fewP l
  · rw [decide_eq_true hf] at hF
    have HF := Lib.hid hF
    have hA : AbleS l := ableS_few hk hf
    obtain ⟨k, hk'⟩ : ∃ k, min data.size 10000 = k := ⟨_, rfl⟩
    have hkd : k ≤ data.size := by omega
    have hk4 : k ≤ 10000 := by omega
    have hmn : min (data.size : Int) 10000 = (k : Int) := by omega
    obtain ⟨d, hd⟩ : ∃ d, data.extract 0 k = d := ⟨_, rfl⟩
    have hds : d.size = k := by rw [← hd, ByteArray.size_extract]; omega
    have hd4 : d.size ≤ 10000 := by omega
    have hz0 : none0.size = 0 := rfl
    have HR1 := Lib.hid (fun u W (h : Nodes W u l) => do_anyS u l (rdC path 0 200000) now W h hA (by unfold Cl.OkS Cl.Ok rdC; dsimp only; omega) (by show (0 : Nat) ≤ _; omega) wn)
    have HW := Lib.hid (fun u W (h : Nodes W u l) => do_anyS u l (wrC path d off) now W h hA (by unfold Cl.OkS Cl.Ok wrC; dsimp only; omega) (by show d.size ≤ _; omega) wn)
    have hwr := fun h h' => wr_law (l := l) (path := path) (d := d) (off := off) (now := now) h h'
    have herr := fun h => do_err (l := l) (c := wrC path d off) (now := now) h
    have hI := fun (q n : Int) (h : (-9223372036854775808 ≤ q ∧ q ≤ 9223372036854775807) ∧ (-9223372036854775808 ≤ n ∧ n ≤ 9223372036854775807)) u W (hN : Nodes W u (doV l (wrC path d off) now)) => do_anyS u (doV l (wrC path d off) now) (rdC path q n) now W hN (ableS_do hA _ _) (by unfold Cl.OkS Cl.Ok rdC; dsimp only; omega) (by show (0 : Nat) ≤ _; omega) wn
    have hasks := fun (m : List Nd) (q n : Int) => do_asksV (l := m) (c := rdC path q n) (.inl rfl) now
    rw [hasks] at HR1
    simp only [hasks] at hI
    generalize doR l (rdC path 0 200000) now = r1 at HR1 hwr
    generalize doR l (wrC path d off) now = r2 at HW hwr herr
    generalize hm : doV l (wrC path d off) now = m at HW hwr herr hI
    unfold Cl.val rdC at HR1
    unfold Cl.val wrC at HW
    unfold none0 at HR1 HW
    dsimp only at HR1 HW
    obtain ⟨a0, c0, rfl, hcap1, hcap2⟩ := hL.parts
    obtain ⟨ll, hll⟩ : ∃ ll, l.length = ll := ⟨_, rfl⟩
    have HLL := Lib.hid hll
    rw [hll] at HL HF hcap1 hwr ⊢
    clear hf hF hA hL hk hm hasks hz0 hk' hll
    by_cases hc : r2.code = 0
    · have q2 : (r2.code != 0) = false := by simp [hc]
      have q3 : (r2.code == 0) = true := by simp [hc]
      by_cases hde : d = ⟨#[]⟩
      · subst hde
        clear hwr herr hI hc
        go_enter Tryz.func5, Tryz.ntmps5
        go_wp2_with (first
        | (go_at_call 11; (with_reducible refine Calls.mono (shown_any _) ?_); rintro e w1 ⟨rfl, hB1⟩; have HL1 := Lib.hid (HL.out.below hB1); have HB1 := Lib.hid hB1; clear hB1)
        | (go_at_call 20; (with_reducible refine Calls.mono (HF.out _ HL1.out) ?_); rintro e w2 ⟨rfl, hB2⟩; have HL2 := Lib.hid (HL1.out.below hB2); have HB2 := Lib.hid (below_th HB1.out hB2); clear hB2)
        | (go_at_call 14; (with_reducible refine Calls.mono (HR1.out _ _ HL2.out) ?_); intro e w3 hp; obtain ⟨v1, a1, n1, rfl, hL, hu, hB⟩ := hp.open; have HL2 := Lib.hid (HL2.out.below hB); have HB2 := Lib.hid (below_th HB2.out hB); clear hp hL hB hu HR1)
        | (go_at_call 14; (with_reducible refine Calls.mono (HW.out _ _ (HL2.out.below (below_new _ _))) ?_); intro e w4 hp; obtain ⟨v2, a2, n2, rfl, hL, hu, hB⟩ := hp.open; have HL2 := Lib.hid ((HL2.out.below (below_new w3 (rpBox r1 (.slice a1 r1.names.length n1)))).below hB); have HQ1 := Lib.hid ((RpAt.new w3 r1 (.slice a1 r1.names.length n1)).th hB); have HB2 := Lib.hid (below_th (below_th HB2.out (below_new w3 (rpBox r1 (.slice a1 r1.names.length n1)))) hB); have HM := Lib.hid hL; have HL2 := Lib.hid (HL2.out.below (below_new w4 (rpBox r2 (.slice a2 r2.names.length n2)))); have HM := Lib.hid (HM.out.below (below_new w4 (rpBox r2 (.slice a2 r2.names.length n2)))); have HQ1 := Lib.hid (HQ1.out.th (below_new w4 (rpBox r2 (.slice a2 r2.names.length n2)))); have HQ2 := Lib.hid (RpAt.new w4 r2 (.slice a2 r2.names.length n2)); have HB2 := Lib.hid (below_th HB2.out (below_new w4 (rpBox r2 (.slice a2 r2.names.length n2)))); unfold rpBox at HL2 HM HQ1 HQ2; have k10 := HQ1.out.c.1; have k11 := HQ1.out.c.2.1; have k20 := HQ2.out.c.1; have k21 := HQ2.out.c.2.1; clear hp hL hB hu HW))
        go_ret
        exact ⟨rfl, HB2.out⟩
      · obtain ⟨g1, g2, g3, ⟨x, g4⟩, s, g5, rfl, g6, g7, g8⟩ := hwr hde hc
        have HG3 := Lib.hid g3
        have HG4 := Lib.hid g4
        rw [hds] at g2 g6 g8
        have HA := Lib.hid (hI off k (by omega))
        have HBr := Lib.hid (hI 0 off (by omega))
        have HCr := Lib.hid (hI (off + k) 200000 (by omega))
        rw [g6] at HA
        rw [g7] at HBr
        rw [g8] at HCr
        unfold Cl.val rdC at HA HBr HCr
        unfold none0 at HA HBr HCr
        dsimp only at HA HBr HCr
        clear herr hI g3 g4 g6 g7 g8 hwr hc
        have q4 : d.toList.isEmpty = false := by cases hh : d.toList with | nil => exact absurd (bext' (by rw [← Lib.toList_data, hh])) hde | cons a b => rfl
        obtain ⟨o, rfl⟩ : ∃ o : Nat, off = (o : Int) := ⟨off.toNat, by omega⟩
        have hwo : IntKind.i64.wrap ((o : Int) + (k : Int)) = (o : Int) + (k : Int) := by rw [IntKind.wrap_i64] <;> omega
        rw [show ((o : Int).toNat) = o from rfl] at HBr HCr
        obtain ⟨ah, hah⟩ : ∃ ah, (s ++ zeros 200000).extract 0 o = ah := ⟨_, rfl⟩
        obtain ⟨p, hp⟩ : ∃ p, min s.size (o + k) = p := ⟨_, rfl⟩
        rw [hp] at HCr
        obtain ⟨bh, hbh⟩ : ∃ bh, s.extract p s.size = bh := ⟨_, rfl⟩
        rw [hah] at HBr
        rw [hbh] at HCr
        go_enter Tryz.func5, Tryz.ntmps5
        go_wp2_with (first
        | (go_at_call 11; (with_reducible refine Calls.mono (shown_any _) ?_); rintro e w1 ⟨rfl, hB1⟩; have HL1 := Lib.hid (HL.out.below hB1); have HB1 := Lib.hid hB1; clear hB1)
        | (go_at_call 20; (with_reducible refine Calls.mono (HF.out _ HL1.out) ?_); rintro e w2 ⟨rfl, hB2⟩; have HL2 := Lib.hid (HL1.out.below hB2); have HB2 := Lib.hid (below_th HB1.out hB2); clear hB2)
        | (go_at_call 14; (with_reducible refine Calls.mono (HR1.out _ _ HL2.out) ?_); intro e w3 hp; obtain ⟨v1, a1, n1, rfl, hL, hu, hB⟩ := hp.open; have HL2 := Lib.hid (HL2.out.below hB); have HB2 := Lib.hid (below_th HB2.out hB); clear hp hL hB hu HR1)
        | (go_at_call 14; (with_reducible refine Calls.mono (HW.out _ _ (HL2.out.below (below_new _ _))) ?_); intro e w4 hp; obtain ⟨v2, a2, n2, rfl, hL, hu, hB⟩ := hp.open; obtain ⟨b2, k2, rfl, g2a, g2b⟩ := hL.parts; have HL2 := Lib.hid ((HL2.out.below (below_new w3 (rpBox (⟨0, s, [], St.zero⟩ : Rp) (.slice a1 0 n1)))).below hB); have HQ1 := Lib.hid ((RpAt.new w3 (⟨0, s, [], St.zero⟩ : Rp) (.slice a1 0 n1)).th hB); have HB2 := Lib.hid (below_th (below_th HB2.out (below_new w3 (rpBox (⟨0, s, [], St.zero⟩ : Rp) (.slice a1 0 n1)))) hB); have HM := Lib.hid hL; clear hp hL hB hu HW)
        | (go_at_call 14; (with_reducible refine Calls.mono (HA.out _ _ (HM.out.below (below_new _ _))) ?_); intro e w5 hp; obtain ⟨v3, a3, n3, rfl, hL, hu, hB⟩ := hp.open; have HL2 := Lib.hid ((HL2.out.below (below_new w4 (rpBox r2 (.slice a2 r2.names.length n2)))).below hB); have HM := Lib.hid ((HM.out.below (below_new w4 (rpBox r2 (.slice a2 r2.names.length n2)))).below hB); have HQ1 := Lib.hid ((HQ1.out.th (below_new w4 (rpBox r2 (.slice a2 r2.names.length n2)))).th hB); have HQ2 := Lib.hid ((RpAt.new w4 r2 (.slice a2 r2.names.length n2)).th hB); have HB2 := Lib.hid (below_th (below_th HB2.out (below_new w4 (rpBox r2 (.slice a2 r2.names.length n2)))) hB); clear hp hL hB hu HA)
        | (go_at_call 14; (with_reducible refine Calls.mono (HBr.out _ _ (HM.out.below (below_new _ _))) ?_); intro e w6 hp; obtain ⟨v4, a4, n4, rfl, hL, hu, hB⟩ := hp.open; have HL2 := Lib.hid ((HL2.out.below (below_new w5 (rpBox (⟨0, d, [], St.zero⟩ : Rp) (.slice a3 0 n3)))).below hB); have HM := Lib.hid ((HM.out.below (below_new w5 (rpBox (⟨0, d, [], St.zero⟩ : Rp) (.slice a3 0 n3)))).below hB); have HQ1 := Lib.hid ((HQ1.out.th (below_new w5 (rpBox (⟨0, d, [], St.zero⟩ : Rp) (.slice a3 0 n3)))).th hB); have HQ2 := Lib.hid ((HQ2.out.th (below_new w5 (rpBox (⟨0, d, [], St.zero⟩ : Rp) (.slice a3 0 n3)))).th hB); have HQ3 := Lib.hid ((RpAt.new w5 (⟨0, d, [], St.zero⟩ : Rp) (.slice a3 0 n3)).th hB); have HB2 := Lib.hid (below_th (below_th HB2.out (below_new w5 (rpBox (⟨0, d, [], St.zero⟩ : Rp) (.slice a3 0 n3)))) hB); clear hp hL hB hu HBr)
        | (go_at_call 14; (with_reducible refine Calls.mono (HCr.out _ _ (HM.out.below (below_new _ _))) ?_); intro e w7 hp; obtain ⟨v5, a5, n5, rfl, hL, hu, hB⟩ := hp.open; have HL2 := Lib.hid ((HL2.out.below (below_new w6 (rpBox (⟨0, ah, [], St.zero⟩ : Rp) (.slice a4 0 n4)))).below hB); have HM := Lib.hid ((HM.out.below (below_new w6 (rpBox (⟨0, ah, [], St.zero⟩ : Rp) (.slice a4 0 n4)))).below hB); have HQ1 := Lib.hid ((HQ1.out.th (below_new w6 (rpBox (⟨0, ah, [], St.zero⟩ : Rp) (.slice a4 0 n4)))).th hB); have HQ2 := Lib.hid ((HQ2.out.th (below_new w6 (rpBox (⟨0, ah, [], St.zero⟩ : Rp) (.slice a4 0 n4)))).th hB); have HQ3 := Lib.hid ((HQ3.out.th (below_new w6 (rpBox (⟨0, ah, [], St.zero⟩ : Rp) (.slice a4 0 n4)))).th hB); have HQ4 := Lib.hid ((RpAt.new w6 (⟨0, ah, [], St.zero⟩ : Rp) (.slice a4 0 n4)).th hB); have HB2 := Lib.hid (below_th (below_th HB2.out (below_new w6 (rpBox (⟨0, ah, [], St.zero⟩ : Rp) (.slice a4 0 n4)))) hB); have HL2 := Lib.hid (HL2.out.below (below_new w7 (rpBox (⟨0, bh, [], St.zero⟩ : Rp) (.slice a5 0 n5)))); have HM := Lib.hid (HM.out.below (below_new w7 (rpBox (⟨0, bh, [], St.zero⟩ : Rp) (.slice a5 0 n5)))); have HQ1 := Lib.hid (HQ1.out.th (below_new w7 (rpBox (⟨0, bh, [], St.zero⟩ : Rp) (.slice a5 0 n5)))); have HQ2 := Lib.hid (HQ2.out.th (below_new w7 (rpBox (⟨0, bh, [], St.zero⟩ : Rp) (.slice a5 0 n5)))); have HQ3 := Lib.hid (HQ3.out.th (below_new w7 (rpBox (⟨0, bh, [], St.zero⟩ : Rp) (.slice a5 0 n5)))); have HQ4 := Lib.hid (HQ4.out.th (below_new w7 (rpBox (⟨0, bh, [], St.zero⟩ : Rp) (.slice a5 0 n5)))); have HQ5 := Lib.hid (RpAt.new w7 (⟨0, bh, [], St.zero⟩ : Rp) (.slice a5 0 n5)); have HB2 := Lib.hid (below_th HB2.out (below_new w7 (rpBox (⟨0, bh, [], St.zero⟩ : Rp) (.slice a5 0 n5)))); unfold rpBox at HL2 HM HQ1 HQ2 HQ3 HQ4 HQ5; have k10 := HQ1.out.c.1; have k11 := HQ1.out.c.2.1; have k20 := HQ2.out.c.1; have k21 := HQ2.out.c.2.1; have k30 := HQ3.out.c.1; have k31 := HQ3.out.c.2.1; have k40 := HQ4.out.c.1; have k41 := HQ4.out.c.2.1; have k50 := HQ5.out.c.1; have k51 := HQ5.out.c.2.1; clear hp hL hB hu HCr))
        unfold rpBox at HB2
        generalize w7.alloc (Obj.cells #[.int .i64 0, .string bh, .slice a5 0 n5, .int .i64 St.zero.kind, .int .u16 St.zero.mode, .int .u16 St.zero.links, .int .i64 St.zero.size, .int .u64 St.zero.time] 36) = W7 at *
        have HK : Hid (∀ W', Below W7.heap.size W7 W' → W'.cell? ⟨w3.heap.size, 0, none⟩ = some (.int .i64 0) ∧ W'.cell? ⟨w3.heap.size, 1, none⟩ = some (.string s) ∧ W'.cell? ⟨w5.heap.size, 1, none⟩ = some (.string d) ∧ W'.cell? ⟨w6.heap.size, 1, none⟩ = some (.string ah) ∧ W'.cell? ⟨w7.heap.size, 1, none⟩ = some (.string bh)) := fun W' h => ⟨(HQ1.out.th h).c.1, (HQ1.out.th h).c.2.1, (HQ3.out.th h).c.2.1, (HQ4.out.th h).c.2.1, (HQ5.out.th h).c.2.1⟩
        have hself : Below W7.heap.size W7 W7 := Below.refl _ _
        have hself2 : Below W7.heap.size W7 W7.drew := hself.drew
        obtain ⟨r, hr⟩ : ∃ r : Nat, 200000 = r := ⟨_, rfl⟩
        have hmk : ∀ W : World, (Instr.makeSlice 44 (.int .i64 200000) (.int .i64 200000)).run Tryz.prog W = .ok (.slice (some ⟨W.heap.size, 0, none⟩) r r) (W.alloc (.cells (madeCells #[.int .u8 0] r) 5)) := fun W => by
          subst hr
          exact run_make_row' (P := Tryz.prog) 44 5 (.int .u8 0) 1 Tryz.underlying44 infoByte rfl .i64 .i64 200000 (by omega) (by omega) W
        have hcv := fun W : World => conv_zeros _ _ _ (World.rowIs_made W (.int .u8 0) r 5) r
        have hcvd := fun W : World => conv_zeros (W.alloc (.cells (madeCells #[.int .u8 0] r) 5)).drew _ _ (World.rowIs_made W (.int .u8 0) r 5) r
        have hadd := fun W => run_string_add_sum (P := Tryz.prog) (w := W) s (zeros r) (by rw [zeros_size]; omega)
        rw [hr] at hah
        obtain ⟨ax, hax⟩ : ∃ ax, s ++ zeros r = ax := ⟨_, rfl⟩
        rw [hax] at hah hadd
        have hmp : min (s.size : Int) ((o : Int) + (k : Int)) = (p : Int) := by omega
        clear k10 k11 k20 k21 k30 k31 k40 k41 k50 k51
        refine wp_region_noPanic ?_
        refine wp_region_held_drew (S := (fun w' => w'.cell? ⟨w3.heap.size, 1, none⟩ = some (.string s))) (by kernel_rfl) (HK.out _ hself2).2.1 (fun hHeld => ?_)
        refine takeAt (i := 0) 110 (oi := ?oi0_1) (v := ?v0_1) ?lit0_1 ?dst0_1 (by kernel_rfl) (by kernel_rfl) (by kernel_rfl) (fun _ _ _ h => h) (Or.inl ⟨?want0_1, ?yields0_1⟩) (by assumption) ?rest0_1
        case lit0_1 => rfl
        case dst0_1 => rfl
        case want0_1 => rfl
        case yields0_1 => (intro w hSw; (try dsimp only at hSw); go_simp; try (with_reducible rfl))
        simp only [Act.put, List.setIfInBounds_toArray, List.set_cons_zero, List.set_cons_succ]
        refine takeAt (i := 1) 111 (oi := ?oi1_2) (v := ?v1_2) ?lit1_2 ?dst1_2 (by kernel_rfl) (by kernel_rfl) (by kernel_rfl) (fun _ _ _ h => h) (Or.inl ⟨?want1_2, ?yields1_2⟩) (by assumption) ?rest1_2
        case lit1_2 => rfl
        case dst1_2 => rfl
        case want1_2 => rfl
        case yields1_2 => (intro w hSw; (try dsimp only at hSw); go_simp; try (with_reducible rfl))
        simp only [Act.put, List.setIfInBounds_toArray, List.set_cons_zero, List.set_cons_succ]
        refine wpAnyH_ready (rs := [2]) (by kernel_rfl) (by simp) ?_
        refine AllReadyH.cons (o := ?oi2_3) ?lit2_3 (fun K hK => ?rest2_3) AllReadyH.nil
        case lit2_3 => rfl
        go_simp
        refine hK.out _ _ ((HK.out _ (by first | assumption | exact below_al (by assumption) _ | exact (below_al (by assumption) _).drew)).2.1) (fun hHeld => ?_)
        clear hK K
        try simp only [Act.put, List.setIfInBounds_toArray, List.set_cons_zero, List.set_cons_succ]
        refine wpAnyH_ready (rs := [3]) (by kernel_rfl) (by simp) ?_
        refine AllReadyH.cons (o := ?oi3_4) ?lit3_4 (fun K hK => ?rest3_4) AllReadyH.nil
        case lit3_4 => rfl
        go_simp
        refine hK.out _ _ ((HK.out _ (by first | assumption | exact below_al (by assumption) _ | exact (below_al (by assumption) _).drew)).2.1) (fun hHeld => ?_)
        clear hK K
        try simp only [Act.put, List.setIfInBounds_toArray, List.set_cons_zero, List.set_cons_succ]
        refine takeAt (i := 4) 114 (oi := ?oi4_5) (v := ?v4_5) ?lit4_5 ?dst4_5 (by kernel_rfl) (by kernel_rfl) (by kernel_rfl) (fun _ _ _ h => h) (Or.inl ⟨?want4_5, ?yields4_5⟩) (by assumption) ?rest4_5
        case lit4_5 => rfl
        case dst4_5 => rfl
        case want4_5 => rfl
        case yields4_5 => (intro w hSw; (try dsimp only at hSw); go_simp; try (with_reducible rfl))
        simp only [Act.put, List.setIfInBounds_toArray, List.set_cons_zero, List.set_cons_succ]
        refine takeAt (i := 5) 22 (oi := ?oi5_6) (v := ?v5_6) ?lit5_6 ?dst5_6 (by kernel_rfl) (by kernel_rfl) (by kernel_rfl) (fun _ _ _ h => h) (Or.inl ⟨?want5_6, ?yields5_6⟩) (by assumption) ?rest5_6
        case lit5_6 => rfl
        case dst5_6 => rfl
        case want5_6 => rfl
        case yields5_6 => (intro w hSw; (try dsimp only at hSw); go_simp; try (with_reducible rfl))
        simp only [Act.put, List.setIfInBounds_toArray, List.set_cons_zero, List.set_cons_succ]
        refine wpAnyH_done (by kernel_rfl) ?_ _
        try refine NoPanic.normal ?_
        try go_simp
        obtain ⟨ml, hml⟩ : ∃ ml, m.length = ml := ⟨_, rfl⟩
        have HML := Lib.hid hml
        rw [hml] at HM g2a ⊢
        have hee : ll = ml := by rw [← HML.out, HG3.out]
        subst hee
        have HL7 := Lib.hid (HL2.out)
        have HM7 := Lib.hid (HM.out)
        have HKB : Hid (∀ W', Below W7.heap.size W7 W' → Nodes W' (.slice a0 ll c0) l ∧ Nodes W' (.slice b2 ll k2) m ∧ Below w.heap.size w W') := fun W' h => ⟨HL2.out.below h, HM.out.below h, below_th HB2.out h⟩
        have hself3 : Below W7.heap.size W7 (W7.alloc (.cells (madeCells #[.int .u8 0] r) 5)).drew := (below_al hself _).drew
        obtain ⟨y0, y1, y2, y3, y4⟩ := HK.out _ hself3
        have hos : (o : Int) ≤ (ax.size : Int) := by rw [← hax, ByteArray.size_append, zeros_size]; omega
        have HS3 := Lib.hid hself3
        clear HL2 HM HB2 HQ1 HQ2 HQ3 HQ4 HQ5 hml hmk hcv hcvd hadd hself hself2 hself3
        go_wp2
        go_loopw [24, 25] (fun c i wr => ∃ j q : Nat, j ≤ ll ∧ q ≤ 1 ∧ (j ≤ x → q = 0) ∧ c = .int .i64 (q : Int) ∧ i = .int .i64 (j : Int) ∧ Hid (Below W7.heap.size W7 wr)) (fun _ i _ => ll - (intOf i).toNat)
        case atStart => exact ⟨0, 0, by omega, by omega, fun _ => rfl, rfl, rfl, HS3⟩
        case round =>
          obtain ⟨j, q, hj, hq1, hq2, rfl, rfl, HBw⟩ := hrel
          clear y0 y1 y2 y3 y4
          by_cases hlt : j < ll
          · obtain ⟨N1, N2, N3⟩ := HKB.out _ HBw.out
            obtain ⟨gb, go, cp, e1, rA⟩ := N1.at (k := j) (by rw [HLL.out]; exact hlt)
            rw [HLL.out] at e1
            cases e1
            obtain ⟨lb, lo, cp2, e2, rB⟩ := N2.at (k := j) (by rw [HML.out]; exact hlt)
            rw [HML.out] at e2
            cases e2
            have hg4 := HG4.out j
            obtain ⟨A, hA⟩ : ∃ A, nd l j = A := ⟨_, rfl⟩
            obtain ⟨B, hB⟩ : ∃ B, nd m j = B := ⟨_, rfl⟩
            rw [hA] at rA hg4
            rw [hB] at rB hg4
            have hlt2 : (j : Int) < (ll : Int) := by omega
            by_cases he : A = B
            · subst he
              obtain ⟨A0, A1, A2, A3, A4⟩ := A
              obtain ⟨x0, x1, x2, x3, x4⟩ := rA
              obtain ⟨z0, z1, z2, z3, z4⟩ := rB
              dsimp only at x0 x1 x2 x3 x4 z0 z1 z2 z3 z4
              have hne := fun W => neqN ⟨A0, A1, A2, A3, A4⟩ ⟨A0, A1, A2, A3, A4⟩ W
              rw [decide_eq_true rfl] at hne
              unfold Nd.val at hne
              dsimp only at hne
              clear N1 N2 N3 hA hB hg4
              go_wp2
              go_quiet (fail)
              go_wp2
              go_roundw
              case rel => exact ⟨j + 1, q, by omega, hq1, fun h => hq2 (by omega), rfl, by go_num, Lib.hid (below_drewN HBw.out _)⟩
              case measure => simp [intOf]; omega
            · have hjx : j = x := Classical.byContradiction fun h => he (hg4 h).symm
              subst hjx
              obtain rfl : q = 0 := hq2 (by omega)
              have hne := fun W => neqN A B W
              rw [decide_eq_false he] at hne
              obtain ⟨A0, A1, A2, A3, A4⟩ := A
              obtain ⟨B0, B1, B2, B3, B4⟩ := B
              obtain ⟨x0, x1, x2, x3, x4⟩ := rA
              obtain ⟨z0, z1, z2, z3, z4⟩ := rB
              dsimp only at x0 x1 x2 x3 x4 z0 z1 z2 z3 z4
              unfold Nd.val at hne
              dsimp only at hne
              clear N1 N2 N3 hA hB hg4 he
              go_wp2
              go_quiet (fail)
              go_wp2
              go_roundw
              case rel => exact ⟨j + 1, 1, by omega, by omega, fun h => by omega, by go_num, by go_num, Lib.hid (below_drewN HBw.out _)⟩
              case measure => simp [intOf]; omega
          · obtain rfl : j = ll := by omega
            obtain ⟨y0, y1, y2, y3, y4⟩ := HK.out _ HBw.out
            have HE := Lib.hid (HKB.out _ HBw.out).2.2
            have hq3 : (q : Int) ≤ 1 := by omega
            clear HK HKB HBw
            go_wp2
            go_quiet (fail)
            go_wp2
            go_ret
            exact ⟨rfl, below_drewN HE.out _⟩
    · have e := herr hc
      subst e
      have q2 : (r2.code != 0) = true := by simp [hc]
      have q3 : (r2.code == 0) = false := by simp [hc]
      clear herr hwr hc hI
      go_enter Tryz.func5, Tryz.ntmps5
      go_wp2_with (first
        | (go_at_call 11; (with_reducible refine Calls.mono (shown_any _) ?_); rintro e w1 ⟨rfl, hB1⟩; have HL1 := Lib.hid (HL.out.below hB1); have HB1 := Lib.hid hB1; clear hB1)
        | (go_at_call 20; (with_reducible refine Calls.mono (HF.out _ HL1.out) ?_); rintro e w2 ⟨rfl, hB2⟩; have HL2 := Lib.hid (HL1.out.below hB2); have HB2 := Lib.hid (below_th HB1.out hB2); clear hB2)
        | (go_at_call 14; (with_reducible refine Calls.mono (HR1.out _ _ HL2.out) ?_); intro e w3 hp; obtain ⟨v1, a1, n1, rfl, hL, hu, hB⟩ := hp.open; have HL2 := Lib.hid (HL2.out.below hB); have HB2 := Lib.hid (below_th HB2.out hB); clear hp hL hB hu HR1)
        | (go_at_call 14; (with_reducible refine Calls.mono (HW.out _ _ (HL2.out.below (below_new _ _))) ?_); intro e w4 hp; obtain ⟨v2, a2, n2, rfl, hL, hu, hB⟩ := hp.open; have HL2 := Lib.hid ((HL2.out.below (below_new w3 (rpBox r1 (.slice a1 r1.names.length n1)))).below hB); have HQ1 := Lib.hid ((RpAt.new w3 r1 (.slice a1 r1.names.length n1)).th hB); have HB2 := Lib.hid (below_th (below_th HB2.out (below_new w3 (rpBox r1 (.slice a1 r1.names.length n1)))) hB); have HM := Lib.hid hL; have HL2 := Lib.hid (HL2.out.below (below_new w4 (rpBox r2 (.slice a2 r2.names.length n2)))); have HM := Lib.hid (HM.out.below (below_new w4 (rpBox r2 (.slice a2 r2.names.length n2)))); have HQ1 := Lib.hid (HQ1.out.th (below_new w4 (rpBox r2 (.slice a2 r2.names.length n2)))); have HQ2 := Lib.hid (RpAt.new w4 r2 (.slice a2 r2.names.length n2)); have HB2 := Lib.hid (below_th HB2.out (below_new w4 (rpBox r2 (.slice a2 r2.names.length n2)))); unfold rpBox at HL2 HM HQ1 HQ2; have k10 := HQ1.out.c.1; have k11 := HQ1.out.c.2.1; have k20 := HQ2.out.c.1; have k21 := HQ2.out.c.2.1; clear hp hL hB hu HW)
        | (go_at_call 17; (with_reducible refine Calls.mono (same_any _ _ m m _ HM.out HL2.out) ?_); rintro e w6 ⟨rfl, hB6⟩; rw [show decide (m = m) = true from decide_eq_true rfl]))
      go_ret
      exact ⟨rfl, below_th HB2.out hB6⟩
  · rw [decide_eq_false hf] at hF
    have HF := Lib.hid hF
    clear hF hf hL
    go_enter Tryz.func5, Tryz.ntmps5
    go_wp2_with (first
        | (go_at_call 11; (with_reducible refine Calls.mono (shown_any _) ?_); rintro e w1 ⟨rfl, hB1⟩; have HL1 := Lib.hid (HL.out.below hB1); have HB1 := Lib.hid hB1; clear hB1)
        | (go_at_call 20; (with_reducible refine Calls.mono (HF.out _ HL1.out) ?_); rintro e w2 ⟨rfl, hB2⟩; have HL2 := Lib.hid (HL1.out.below hB2); have HB2 := Lib.hid (below_th HB1.out hB2); clear hB2))
    go_ret
    exact ⟨rfl, HB2.out⟩
theorem PlainReads_walk (v : Value) (l : List Nd) (path : ByteArray) (off : Int) (data : ByteArray) (now : Int) (w : World) (hL : Nodes w v l) (hk : ∀ n ∈ l, n.Ok ∧ n.data.size ≤ 281474976710656) (z : path.size ≤ 140737488351232) (ws : (Lit.int .i64 off).wf = true) (zd : data.size ≤ 140737488351232) (wn : (Lit.int .u64 now).wf = true) :
    Calls Tryz.prog 5 #[v, .string path, .int .i64 off, .string data, .int .u64 now] w (Ans w (.bool true)) := by
  have b1 := bounds64 ws
  have b2 := boundsU wn
  obtain ⟨k, rfl⟩ := Int.eq_ofNat_of_zero_le b2.1
  exact reads_nat v l path off data k w hL hk z b1 zd (by omega)
end
end Go.Proofs.YtkipkcmcolomcaaGreat.Pln
