/- One call of a script, on the program's disk and on the reference's: both answer alike, and both are the same disk behind it. -/
import Derived.Test.YtbidhiefgbddeaaDiskPair
namespace Go.Proofs.Ytbidhiefgbddeaa.Disk
open Go.RowKit Go.Shelf
set_option linter.unusedVariables false

/-- which of n things a raw number speaks of -/
def pickN (c : Int) (n : Nat) : Nat := ((if c < 0 then -(c + 1) else c) % (n : Int)).toNat
theorem pickN_lt (c : Int) (n : Nat) (h : 0 < n) : pickN c n < n := by
  unfold pickN
  have h1 := Int.emod_nonneg (if c < 0 then -(c + 1) else c) (show (n : Int) ≠ 0 by omega)
  have h2 := Int.emod_lt_of_pos (if c < 0 then -(c + 1) else c) (show (0 : Int) < n by omega)
  omega
section
set_option maxRecDepth 100000
theorem pick_fn (c : Int) (n : Nat) (h0 : 0 < n) (hn : n ≤ 1000) (hc : I64 c) (w : World) :
    Calls Try.prog 21 #[.int .i64 c, .int .i64 n] w fun e w' => e = .returned (.int .i64 (pickN c n : Nat)) ∧ w = w' := by
  obtain ⟨h1, h2⟩ := hc
  have hz : ((n : Int) == 0) = false := by simp; omega
  have hm0 := Int.emod_nonneg (if c < 0 then -(c + 1) else c) (show (n : Int) ≠ 0 by omega)
  have hpk : ((pickN c n : Nat) : Int) = (if c < 0 then -(c + 1) else c) % (n : Int) := by unfold pickN; omega
  by_cases h : c < 0
  · rw [if_pos h] at hpk
    have ht : -((c + 1).tmod (n : Int)) = ((pickN c n : Nat) : Int) := by rw [hpk, ← Int.neg_tmod]; exact Int.tmod_eq_emod_of_nonneg (by omega)
    have HT := Lib.hid ht
    clear ht hpk hm0
    go_enter Try.func21, Try.ntmps21
    go_wp2
    go_ret
    exact ⟨by rw [← HT.out]; rfl, rfl⟩
  · rw [if_neg h] at hpk
    have HT := Lib.hid hpk
    clear hpk hm0
    go_enter Try.func21, Try.ntmps21
    go_wp2
    go_ret
    exact ⟨by rw [HT.out]; rfl, rfl⟩

def DoesPost (B0 p q : Nat) (d : D) (o : Op) (w : World) (e : Ending) (w' : World) : Prop := ∃ p' q' d', e = .returned (.tuple #[.pointer (some ⟨p', 0, none⟩), .pointer (some ⟨q', 0, none⟩), .bool true]) ∧
  Pair B0 w' p' q' d' ∧ Below B0 w w' ∧ d'.ops ≤ d.ops + 1 ∧ d'.B.length = d.B.length ∧ (pickN o.k 6 ≠ 5 → p' = p ∧ q' = q)
def opArg (o : Op) : Value := .agg #[.int .i64 o.k, .int .i64 o.a, .int .i64 o.n, .int .u8 o.c, .int .u64 o.p, .int .i64 o.t]
def opObj (o : Op) : Obj := .cells #[.int .i64 o.k, .int .i64 o.a, .int .i64 o.n, .int .u8 o.c, .int .u64 o.p, .int .i64 o.t] 37 (0, 0)
/-- the call's box -/
theorem op_cells {W : World} {b : Nat} {o : Op} (h : W.heap[b]? = some (opObj o)) : W.cell? ⟨b, 0, none⟩ = some (.int .i64 o.k) ∧ W.cell? ⟨b, 1, none⟩ = some (.int .i64 o.a) ∧ W.cell? ⟨b, 2, none⟩ = some (.int .i64 o.n) ∧ W.cell? ⟨b, 3, none⟩ = some (.int .u8 o.c) ∧ W.cell? ⟨b, 4, none⟩ = some (.int .u64 o.p) ∧ W.cell? ⟨b, 5, none⟩ = some (.int .i64 o.t) := by
  refine ⟨?_, ?_, ?_, ?_, ?_, ?_⟩ <;> (simp only [World.cell?, h]; rfl)

set_option maxHeartbeats 4000000
theorem does_any (B0 p q : Nat) (d : D) (o : Op) (w : World) (hP : Pair B0 w p q d) (hB0 : B0 ≤ w.heap.size) (ho : OpOk o) (hops : d.ops ≤ 10000) :
    Calls Try.prog 12 #[.pointer (some ⟨p, 0, none⟩), .pointer (some ⟨q, 0, none⟩), opArg o] w (DoesPost B0 p q d o w) := by
  have hpk := fun W => pick_fn o.k 6 (by omega) (by omega) ho.k W
  obtain ⟨m, hm⟩ : ∃ m, pickN o.k 6 = m := ⟨_, rfl⟩
  have hm6 : m < 6 := by rw [← hm]; exact pickN_lt _ _ (by omega)
  rw [hm] at hpk
  obtain ⟨W0, hW0⟩ : ∃ W0, w.alloc (opObj o) = W0 := ⟨_, rfl⟩
  have hBa : Below w.heap.size w W0 := by rw [← hW0]; exact (Below.refl _ w).alloc (Nat.le_refl _) _
  have hob : W0.heap[w.heap.size]? = some (opObj o) := by rw [← hW0]; exact heap_alloc_new w _
  have hs0 : w.heap.size < W0.heap.size := (Array.getElem?_eq_some_iff.1 hob).1
  obtain ⟨c0, c1, c2, c3, c4, c5⟩ := op_cells hob
  obtain ⟨F, G, hd0, hr0, h3, h4w, h5w⟩ := hP.mem
  have hd := hd0.below hBa
  have hr := hr0.below hBa
  have h4 : ∀ k, F k → B0 ≤ k ∧ k < W0.heap.size := fun k hk => ⟨(h4w k hk).1, by have := (h4w k hk).2; omega⟩
  have h5 : ∀ k, G k → B0 ≤ k ∧ k < W0.heap.size := fun k hk => ⟨(h5w k hk).1, by have := (h5w k hk).2; omega⟩
  have hP0 : Hid (Pair B0 W0 p q d) := hP.below hBa
  have hob3 : ∀ W : World, W.heap[w.heap.size]? = W0.heap[w.heap.size]? → W.cell? ⟨w.heap.size, 1, none⟩ = some (.int .i64 o.a) := fun W hB => (op_cells (hB.trans hob)).2.1
  have hnF : ¬ F w.heap.size := fun hh => by have := (h4w _ hh).2; omega
  have hnG : ¬ G w.heap.size := fun hh => by have := (h5w _ hh).2; omega
  have hob2 : ∀ W, Below W0.heap.size W0 W → W.cell? ⟨w.heap.size, 1, none⟩ = some (.int .i64 o.a) ∧ W.cell? ⟨w.heap.size, 4, none⟩ = some (.int .u64 o.p) ∧ W.cell? ⟨w.heap.size, 5, none⟩ = some (.int .i64 o.t) := fun W hB => by
    obtain ⟨_, e1, _, _, e4, e5⟩ := op_cells ((hB.block _ hs0).trans hob)
    exact ⟨e1, e4, e5⟩
  have HOB := Lib.hid hob2
  have HOB3 := Lib.hid hob3
  have HNF := Lib.hid hnF
  have HNG := Lib.hid hnG
  have HPK := Lib.hid hpk
  have HMM := Lib.hid hm
  have HW0 := Lib.hid hW0
  have H3 := Lib.hid h3
  have H4 := Lib.hid h4
  have H5 := Lib.hid h5
  have HOK := Lib.hid ho
  have hBa0 := hBa.mono hB0
  have hB00 : B0 ≤ W0.heap.size := by omega
  have hst : ∀ W1, Below W0.heap.size W0 W1 → ∀ W2, Below W1.heap.size W1 W2 → Below w.heap.size w W2 := fun W1 h1 W2 h2 => hBa.trans ((below_th h1 h2).mono (by omega))
  clear hob2 hpk hm hob h3 h4 h5 ho hP h4w h5w hd0 hr0 hob3 hnF hnG
  unfold opArg
  rw [show w.alloc (opObj o) = w.alloc (.cells #[.int .i64 o.k, .int .i64 o.a, .int .i64 o.n, .int .u8 o.c, .int .u64 o.p, .int .i64 o.t] 37) from rfl] at hW0
  obtain hm2 | hm2 | hm2 | hm2 | hm2 : m = 2 ∨ m = 3 ∨ m = 4 ∨ m = 5 ∨ (m = 0 ∨ m = 1) := by omega
  · subst hm2
    have hRd := read_d o.a hd
    have hRr := fun W h => read_r (w := W) (q := q) (G := G) (d := d) o.a h (by omega)
    have HRR := Lib.hid hRr
    have hd2 := hd
    clear hRr
    go_enter Try.func12, Try.ntmps12
    go_wp2_with (first
      | (go_at_call 21; refine (HPK.out _).mono ?_; rintro e w1 ⟨rfl, rfl⟩)
      | (go_at_call 25; refine hRd.mono ?_; rintro e w2 ⟨rfl, hB2⟩; obtain ⟨x1, _, _⟩ := HOB.out _ hB2)
      | (go_at_call 33; refine (HRR.out _ (hr.below hB2)).mono ?_; rintro e w3 ⟨rfl, rfl⟩))
    go_ret3
    exact ⟨p, q, d, rfl, hP0.out.below hB2, hBa0.trans (hB2.mono hB00), by omega, rfl, fun _ => ⟨rfl, rfl⟩⟩
  · subst hm2
    have hRd := flush_d hd (by omega)
    have hRr := fun W h => flush_r (w := W) (q := q) (G := G) (d := d) h (by omega)
    have HRR := Lib.hid hRr
    clear hRr
    go_enter Try.func12, Try.ntmps12
    go_wp2_with (first
      | (go_at_call 21; refine (HPK.out _).mono ?_; rintro e w1 ⟨rfl, rfl⟩)
      | (go_at_call 24; refine hRd.mono ?_; rintro e w2 ⟨rfl, hL1⟩; obtain ⟨_, _, ho1, _⟩ := id hL1)
      | (go_at_call 34; refine (HRR.out _ (hr.only ho1 H3.out)).mono ?_; rintro e w3 ⟨rfl, hL2⟩))
    go_ret3
    obtain ⟨k1, k2⟩ := Pair.both H3.out H4.out H5.out hB00 hL1 hL2
    exact ⟨p, q, d.flD, rfl, k1, hBa0.trans k2, (D.flD_ops d).1, (D.flD_ops d).2, fun _ => ⟨rfl, rfl⟩⟩
  · subst hm2
    obtain ⟨a1, a2⟩ := HOK.out.a
    have hRd := cutAt_d o.a hd a1 a2
    have hRr := fun W (h : R.IsRef W q G d) => R.cutAt_r o.a h a1 a2
    have HRR := Lib.hid hRr
    clear hRr a1 a2
    go_enter Try.func12, Try.ntmps12
    go_wp2_with (first
      | (go_at_call 21; refine (HPK.out _).mono ?_; rintro e w1 ⟨rfl, rfl⟩)
      | (go_at_call 22; refine hRd.mono ?_; rintro e w2 ⟨rfl, hi1, ho1⟩; have x1 := HOB3.out w2 (ho1.block _ hs0 HNF.out))
      | (go_at_call 35; refine (HRR.out _ (hr.only ho1 H3.out)).mono ?_; rintro e w3 ⟨rfl, hi2, ho2⟩))
    go_ret3
    obtain ⟨k1, k2⟩ := Pair.both H3.out H4.out H5.out hB00 ⟨F, hi1, ho1, fun k hk => .inl hk⟩ ⟨G, hi2, ho2, fun k hk => .inl hk⟩
    exact ⟨p, q, d.cutAt o.a, rfl, k1, hBa0.trans k2, by simp [D.cutAt], rfl, fun _ => ⟨rfl, rfl⟩⟩
  · subst hm2
    obtain ⟨kp, hkp⟩ := Int.eq_ofNat_of_zero_le HOK.out.p.1
    have hkb : kp < 18446744073709551616 := by have := HOK.out.p.2; omega
    have hC1 : ∀ W, Below W0.heap.size W0 W → Calls Try.prog 23 #[.pointer (some ⟨p, 0, none⟩), .agg #[.int .u64 o.p, .int .i64 o.t]] W (CrashPost d kp o.t W) := fun W hB => by
      rw [hkp]; exact crash_d kp o.t hkb (hd.below hB) (by omega)
    have hC2 : ∀ W, Below W0.heap.size W0 W → Calls Try.prog 36 #[.pointer (some ⟨q, 0, none⟩), .agg #[.int .u64 o.p, .int .i64 o.t]] W (R.Fresh (d.crashed kp o.t) W) := fun W hB => by
      rw [hkp]; exact R.crash_r kp o.t hkb (hr.below hB) (by omega)
    have HC1 := Lib.hid hC1
    have HC2 := Lib.hid hC2
    have hBd : Below W0.heap.size W0 W0.drew := (Below.refl _ _).drew
    clear hC1 hC2 hkp
    go_enter Try.func12, Try.ntmps12
    go_wp2_with (go_at_call 21; refine (HPK.out _).mono ?_; rintro e w1 ⟨rfl, rfl⟩)
    go_region_with (first
      | (go_at_call 23; ((with_reducible refine Calls.mono (HC1.out _ hBr) ?_); rintro e wd ⟨p2, rfl, hp2, hpl2, hBx⟩; have hBd2 : Below W0.heap.size W0 wd := below_th hBr hBx))
      | (go_at_call 23; ((with_reducible refine Calls.mono (HC1.out _ hBd) ?_); rintro e wd ⟨p2, rfl, hp2, hpl2, hBx⟩; have hBd2 : Below W0.heap.size W0 wd := below_th hBd hBx; obtain ⟨_, y4, y5⟩ := HOB.out _ hBd2))
      | (go_at_call 36; ((with_reducible refine Calls.mono (HC2.out _ hBd2) ?_); rintro e wr ⟨q2, rfl, hq2, hql2, hBy⟩; have hBr : Below W0.heap.size W0 wr := below_th hBd2 hBy))
      | (go_at_call 36; ((with_reducible refine Calls.mono (HC2.out _ hBd) ?_); rintro e wr ⟨q2, rfl, hq2, hql2, hBy⟩; have hBr : Below W0.heap.size W0 wr := below_th hBd hBy; obtain ⟨_, y4, y5⟩ := HOB.out _ hBr)))
    all_goals
      go_wp2
      go_ret3
    all_goals
      first
        | exact ⟨p2, q2, d.crashed kp o.t, rfl, Pair.start hp2 hq2 hBy hB00 hBx.size, hBa0.trans (hBr.mono hB00), Nat.zero_le _, by show (crash _ _ _ _).length = _; unfold crash; rw [crashTo_length], fun hh => absurd HMM.out hh⟩
        | exact ⟨p2, q2, d.crashed kp o.t, rfl, Pair.start' hq2 hp2 hBx hB00 hBy.size, hBa0.trans (hBd2.mono hB00), Nat.zero_le _, by show (crash _ _ _ _).length = _; unfold crash; rw [crashTo_length], fun hh => absurd HMM.out hh⟩
  · have e2 : ((m : Int) == 2) = false := by simp; omega
    have e3 : ((m : Int) == 3) = false := by simp; omega
    have e4 : ((m : Int) == 4) = false := by simp; omega
    have e5 : ((m : Int) == 5) = false := by simp; omega
    have hFl := fun W => full_any o.c o.n W HOK.out.c.1 HOK.out.c.2
    obtain ⟨s, hs⟩ : ∃ s, fullS o.c o.n = s := ⟨_, rfl⟩
    have hsz : s.size ≤ 281474976710656 := by rw [← hs, fullS_size]; omega
    rw [hs] at hFl
    have hW1 : ∀ F W, IsDisk W p F d → Calls Try.prog 26 #[.pointer (some ⟨p, 0, none⟩), .int .i64 o.a, .string s] W fun e w' => e = .returned (.int .i64 (d.wrE o.a s)) ∧ Left p F (d.wrD o.a s) W w' := fun F W h => write_d o.a s h hsz (by omega)
    have hW2 : ∀ G W, R.IsRef W q G d → Calls Try.prog 37 #[.pointer (some ⟨q, 0, none⟩), .int .i64 o.a, .string s] W fun e w' => e = .returned (.int .i64 (d.wrE o.a s)) ∧ R.Left q G (d.wrD o.a s) W w' := fun G W h => write_r o.a s h hsz (by omega)
    have HW1 := Lib.hid hW1
    have HW2 := Lib.hid hW2
    have HFL := Lib.hid hFl
    have H2 := Lib.hid hm2
    clear hW1 hW2 hFl hs hsz hm2 hm6
    go_enter Try.func12, Try.ntmps12
    go_wp2_with (first
      | (go_at_call 21; refine (HPK.out _).mono ?_; rintro e w1 ⟨rfl, rfl⟩)
      | (go_at_call 27; refine (HFL.out _).mono ?_; rintro e wf ⟨rfl, hBf⟩; have x1 := HOB3.out wf (hBf.block _ hs0)))
    have hdf := (hd.below hBf).below ((Below.refl wf.heap.size wf).drew)
    have hrf := (hr.below hBf).below ((Below.refl wf.heap.size wf).drew)
    have hsf : W0.heap.size ≤ wf.heap.size := hBf.size
    have hbf : w.heap.size < wf.heap.size := by omega
    have hbk : wf.heap[w.heap.size]? = W0.heap[w.heap.size]? := hBf.block _ hs0
    go_region_with (first
      | (go_at_call 26; ((with_reducible refine Calls.mono (HW1.out _ _ (hdf.only hoR (fun k hk hg => H3.out k hk hg))) ?_); rintro e wd ⟨rfl, hL1⟩))
      | (go_at_call 26; ((with_reducible refine Calls.mono (HW1.out _ _ hdf) ?_); rintro e wd ⟨rfl, hL1⟩; obtain ⟨_, _, hoD, _⟩ := id hL1; have y1 := HOB3.out wd ((hoD.block _ hbf HNF.out).trans hbk)))
      | (go_at_call 37; ((with_reducible refine Calls.mono (HW2.out _ _ (hrf.only hoD H3.out)) ?_); rintro e wr ⟨rfl, hL2⟩))
      | (go_at_call 37; ((with_reducible refine Calls.mono (HW2.out _ _ hrf) ?_); rintro e wr ⟨rfl, hL2⟩; obtain ⟨_, _, hoR, _⟩ := id hL2; have y1 := HOB3.out wr ((hoR.block _ hbf HNG.out).trans hbk))))
    all_goals
      go_wp2
      go_ret3
      have H4' : ∀ k, F k → B0 ≤ k ∧ k < wf.drew.heap.size := fun k hk => ⟨(H4.out k hk).1, by have := (H4.out k hk).2; show k < wf.heap.size; omega⟩
      have H5' : ∀ k, G k → B0 ≤ k ∧ k < wf.drew.heap.size := fun k hk => ⟨(H5.out k hk).1, by have := (H5.out k hk).2; show k < wf.heap.size; omega⟩
      have hB0f : B0 ≤ wf.drew.heap.size := by show B0 ≤ wf.heap.size; omega
      have hBff : Below B0 w wf.drew := hBa0.trans ((hBf.mono hB00).drew)
    all_goals
      first
        | (obtain ⟨k1, k2⟩ := Pair.both H3.out H4' H5' hB0f hL1 hL2; exact ⟨p, q, d.wrD o.a s, rfl, k1, hBff.trans k2, (D.wrD_ops d o.a s).1, (D.wrD_ops d o.a s).2, fun _ => ⟨rfl, rfl⟩⟩)
        | (obtain ⟨k1, k2⟩ := Pair.both' H3.out H4' H5' hB0f hL2 hL1; exact ⟨p, q, d.wrD o.a s, rfl, k1, hBff.trans k2, (D.wrD_ops d o.a s).1, (D.wrD_ops d o.a s).2, fun _ => ⟨rfl, rfl⟩⟩)
end
end Go.Proofs.Ytbidhiefgbddeaa.Disk
