/- Several texts in one, each under its own heading. -/
import Derived.Test.YtkipkcmcolomcaaGreatPk32
import Derived.Test.YtkipkcmcolomcaaGreatPk28
import Derived.Test.YtkipkcmcolomcaaGreatPk25
/- do: the call's own work, by what it is. -/
namespace Go.Proofs.YtkipkcmcolomcaaGreat.Pln
open Go.RowKit
open Dir (N nm DirP DirO bytesL)
open Pth (Strs)
attribute [local go_sem] Oper.semAt_some
set_option linter.unusedVariables false
set_option linter.unusedSimpArgs false
section
set_option maxRecDepth 100000
set_option maxHeartbeats 4000000
theorem do_1 (w : World) (q : Nat) (p : Pl) (gv : Value) (c : Cl) (hop : c.op = 1) (hm : IntKind.u16.wrap c.mode = c.mode) (R : Value → World → Prop)
    (hc : Calls Tryz.prog 50 #[.pointer (some ⟨q, 0, none⟩), spV p gv, .agg #[.int .i64 1, .int .u16 c.mode, .int .u16 0, .int .u64 0, .string ⟨#[]⟩]] ((w.alloc (spO p gv)).alloc (clO c)) (fun e w' => ∃ v, e = .returned v ∧ R v w')) :
    Calls Tryz.prog 25 #[.pointer (some ⟨q, 0, none⟩), spV p gv, c.val] w (fun e w' => ∃ v, e = .returned v ∧ R v w') := by
  obtain ⟨p0, p1, p2, p3⟩ := ((SpAt.new w p gv).th (below_new _ (clO c))).c
  have hcl := ClAt.new (w.alloc (spO p gv)) c
  rw [World.size_alloc] at hcl
  obtain ⟨c0, c1, c2, c3, c4, c5, c6⟩ := hcl.c
  have HC := Lib.hid hc
  clear hc hcl
  unfold spO clO at HC p0 p1 p2 p3 c0 c1 c2 c3 c4 c5 c6
  unfold spV at HC
  unfold spV Cl.val
  obtain ⟨pd, pn, pi⟩ := p
  obtain ⟨op, path, to_, data, off, n, mode⟩ := c
  dsimp only at *
  subst hop
  go_enter Tryz.func25, Tryz.ntmps25
  go_wp2_with (go_at_call 50; (with_reducible refine Calls.mono HC.out ?_); rintro e w1 ⟨v, rfl, hR⟩)
  go_ret
  exact ⟨_, rfl, hR⟩
theorem do_2 (w : World) (q : Nat) (p : Pl) (gv : Value) (c : Cl) (hop : c.op = 2) (hm : IntKind.u16.wrap c.mode = c.mode) (R : Value → World → Prop)
    (hc : Calls Tryz.prog 50 #[.pointer (some ⟨q, 0, none⟩), spV p gv, .agg #[.int .i64 2, .int .u16 c.mode, .int .u16 0, .int .u64 0, .string ⟨#[]⟩]] ((w.alloc (spO p gv)).alloc (clO c)) (fun e w' => ∃ v, e = .returned v ∧ R v w')) :
    Calls Tryz.prog 25 #[.pointer (some ⟨q, 0, none⟩), spV p gv, c.val] w (fun e w' => ∃ v, e = .returned v ∧ R v w') := by
  obtain ⟨p0, p1, p2, p3⟩ := ((SpAt.new w p gv).th (below_new _ (clO c))).c
  have hcl := ClAt.new (w.alloc (spO p gv)) c
  rw [World.size_alloc] at hcl
  obtain ⟨c0, c1, c2, c3, c4, c5, c6⟩ := hcl.c
  have HC := Lib.hid hc
  clear hc hcl
  unfold spO clO at HC p0 p1 p2 p3 c0 c1 c2 c3 c4 c5 c6
  unfold spV at HC
  unfold spV Cl.val
  obtain ⟨pd, pn, pi⟩ := p
  obtain ⟨op, path, to_, data, off, n, mode⟩ := c
  dsimp only at *
  subst hop
  go_enter Tryz.func25, Tryz.ntmps25
  go_wp2_with (go_at_call 50; (with_reducible refine Calls.mono HC.out ?_); rintro e w1 ⟨v, rfl, hR⟩)
  go_ret
  exact ⟨_, rfl, hR⟩
theorem do_10 (w : World) (q : Nat) (p : Pl) (gv : Value) (c : Cl) (hop : c.op = 10) (R : Value → World → Prop)
    (hc : Calls Tryz.prog 50 #[.pointer (some ⟨q, 0, none⟩), spV p gv, .agg #[.int .i64 3, .int .u16 511, .int .u16 0, .int .u64 0, .string c.data]] ((w.alloc (spO p gv)).alloc (clO c)) (fun e w' => ∃ v, e = .returned v ∧ R v w')) :
    Calls Tryz.prog 25 #[.pointer (some ⟨q, 0, none⟩), spV p gv, c.val] w (fun e w' => ∃ v, e = .returned v ∧ R v w') := by
  obtain ⟨p0, p1, p2, p3⟩ := ((SpAt.new w p gv).th (below_new _ (clO c))).c
  have hcl := ClAt.new (w.alloc (spO p gv)) c
  rw [World.size_alloc] at hcl
  obtain ⟨c0, c1, c2, c3, c4, c5, c6⟩ := hcl.c
  have HC := Lib.hid hc
  clear hc hcl
  unfold spO clO at HC p0 p1 p2 p3 c0 c1 c2 c3 c4 c5 c6
  unfold spV at HC
  unfold spV Cl.val
  obtain ⟨pd, pn, pi⟩ := p
  obtain ⟨op, path, to_, data, off, n, mode⟩ := c
  dsimp only at *
  subst hop
  go_enter Tryz.func25, Tryz.ntmps25
  go_wp2_with (go_at_call 50; (with_reducible refine Calls.mono HC.out ?_); rintro e w1 ⟨v, rfl, hR⟩)
  go_ret
  exact ⟨_, rfl, hR⟩
theorem do_3 (w : World) (q : Nat) (p : Pl) (gv : Value) (c : Cl) (hop : c.op = 3) (R : Value → World → Prop)
    (hc : Calls Tryz.prog 51 #[.pointer (some ⟨q, 0, none⟩), .int .u32 (p.ino : Int), .int .i64 c.off, .string c.data] ((w.alloc (spO p gv)).alloc (clO c)) (fun e w' => ∃ v, e = .returned v ∧ R v w')) :
    Calls Tryz.prog 25 #[.pointer (some ⟨q, 0, none⟩), spV p gv, c.val] w (fun e w' => ∃ v, e = .returned v ∧ R v w') := by
  obtain ⟨p0, p1, p2, p3⟩ := ((SpAt.new w p gv).th (below_new _ (clO c))).c
  have hcl := ClAt.new (w.alloc (spO p gv)) c
  rw [World.size_alloc] at hcl
  obtain ⟨c0, c1, c2, c3, c4, c5, c6⟩ := hcl.c
  have HC := Lib.hid hc
  clear hc hcl
  unfold spO clO at HC p0 p1 p2 p3 c0 c1 c2 c3 c4 c5 c6
  unfold spV Cl.val
  obtain ⟨pd, pn, pi⟩ := p
  obtain ⟨op, path, to_, data, off, n, mode⟩ := c
  dsimp only at *
  subst hop
  go_enter Tryz.func25, Tryz.ntmps25
  go_wp2_with (go_at_call 51; (with_reducible refine Calls.mono HC.out ?_); rintro e w1 ⟨v, rfl, hR⟩)
  go_ret
  exact ⟨_, rfl, hR⟩
theorem do_5 (w : World) (q : Nat) (p : Pl) (gv : Value) (c : Cl) (hop : c.op = 5) (R : Value → World → Prop)
    (hc : Calls Tryz.prog 52 #[.pointer (some ⟨q, 0, none⟩), .int .u32 (p.ino : Int), .int .i64 c.n] ((w.alloc (spO p gv)).alloc (clO c)) (fun e w' => ∃ v, e = .returned v ∧ R v w')) :
    Calls Tryz.prog 25 #[.pointer (some ⟨q, 0, none⟩), spV p gv, c.val] w (fun e w' => ∃ v, e = .returned v ∧ R v w') := by
  obtain ⟨p0, p1, p2, p3⟩ := ((SpAt.new w p gv).th (below_new _ (clO c))).c
  have hcl := ClAt.new (w.alloc (spO p gv)) c
  rw [World.size_alloc] at hcl
  obtain ⟨c0, c1, c2, c3, c4, c5, c6⟩ := hcl.c
  have HC := Lib.hid hc
  clear hc hcl
  unfold spO clO at HC p0 p1 p2 p3 c0 c1 c2 c3 c4 c5 c6
  unfold spV Cl.val
  obtain ⟨pd, pn, pi⟩ := p
  obtain ⟨op, path, to_, data, off, n, mode⟩ := c
  dsimp only at *
  subst hop
  go_enter Tryz.func25, Tryz.ntmps25
  go_wp2_with (go_at_call 52; (with_reducible refine Calls.mono HC.out ?_); rintro e w1 ⟨v, rfl, hR⟩)
  go_ret
  exact ⟨_, rfl, hR⟩
theorem do_7 (w : World) (q : Nat) (p : Pl) (gv : Value) (c : Cl) (hop : c.op = 7) (R : Value → World → Prop)
    (hc : Calls Tryz.prog 55 #[.pointer (some ⟨q, 0, none⟩), spV p gv] ((w.alloc (spO p gv)).alloc (clO c)) (fun e w' => ∃ v, e = .returned v ∧ R v w')) :
    Calls Tryz.prog 25 #[.pointer (some ⟨q, 0, none⟩), spV p gv, c.val] w (fun e w' => ∃ v, e = .returned v ∧ R v w') := by
  obtain ⟨p0, p1, p2, p3⟩ := ((SpAt.new w p gv).th (below_new _ (clO c))).c
  have hcl := ClAt.new (w.alloc (spO p gv)) c
  rw [World.size_alloc] at hcl
  obtain ⟨c0, c1, c2, c3, c4, c5, c6⟩ := hcl.c
  have HC := Lib.hid hc
  clear hc hcl
  unfold spO clO at HC p0 p1 p2 p3 c0 c1 c2 c3 c4 c5 c6
  unfold spV at HC
  unfold spV Cl.val
  obtain ⟨pd, pn, pi⟩ := p
  obtain ⟨op, path, to_, data, off, n, mode⟩ := c
  dsimp only at *
  subst hop
  go_enter Tryz.func25, Tryz.ntmps25
  go_wp2_with (go_at_call 55; (with_reducible refine Calls.mono HC.out ?_); rintro e w1 ⟨v, rfl, hR⟩)
  go_ret
  exact ⟨_, rfl, hR⟩
theorem do_8 (w : World) (q : Nat) (p : Pl) (gv : Value) (c : Cl) (hop : c.op = 8) (R : Value → World → Prop)
    (hc : Calls Tryz.prog 56 #[.pointer (some ⟨q, 0, none⟩), spV p gv, .string c.to_] ((w.alloc (spO p gv)).alloc (clO c)) (fun e w' => ∃ v, e = .returned v ∧ R v w')) :
    Calls Tryz.prog 25 #[.pointer (some ⟨q, 0, none⟩), spV p gv, c.val] w (fun e w' => ∃ v, e = .returned v ∧ R v w') := by
  obtain ⟨p0, p1, p2, p3⟩ := ((SpAt.new w p gv).th (below_new _ (clO c))).c
  have hcl := ClAt.new (w.alloc (spO p gv)) c
  rw [World.size_alloc] at hcl
  obtain ⟨c0, c1, c2, c3, c4, c5, c6⟩ := hcl.c
  have HC := Lib.hid hc
  clear hc hcl
  unfold spO clO at HC p0 p1 p2 p3 c0 c1 c2 c3 c4 c5 c6
  unfold spV at HC
  unfold spV Cl.val
  obtain ⟨pd, pn, pi⟩ := p
  obtain ⟨op, path, to_, data, off, n, mode⟩ := c
  dsimp only at *
  subst hop
  go_enter Tryz.func25, Tryz.ntmps25
  go_wp2_with (go_at_call 56; (with_reducible refine Calls.mono HC.out ?_); rintro e w1 ⟨v, rfl, hR⟩)
  go_ret
  exact ⟨_, rfl, hR⟩
theorem do_9 (w : World) (q : Nat) (p : Pl) (gv : Value) (c : Cl) (hop : c.op = 9) (R : Value → World → Prop)
    (hc : Calls Tryz.prog 57 #[.pointer (some ⟨q, 0, none⟩), .int .u32 (p.ino : Int), .string c.to_] ((w.alloc (spO p gv)).alloc (clO c)) (fun e w' => ∃ v, e = .returned v ∧ R v w')) :
    Calls Tryz.prog 25 #[.pointer (some ⟨q, 0, none⟩), spV p gv, c.val] w (fun e w' => ∃ v, e = .returned v ∧ R v w') := by
  obtain ⟨p0, p1, p2, p3⟩ := ((SpAt.new w p gv).th (below_new _ (clO c))).c
  have hcl := ClAt.new (w.alloc (spO p gv)) c
  rw [World.size_alloc] at hcl
  obtain ⟨c0, c1, c2, c3, c4, c5, c6⟩ := hcl.c
  have HC := Lib.hid hc
  clear hc hcl
  unfold spO clO at HC p0 p1 p2 p3 c0 c1 c2 c3 c4 c5 c6
  unfold spV Cl.val
  obtain ⟨pd, pn, pi⟩ := p
  obtain ⟨op, path, to_, data, off, n, mode⟩ := c
  dsimp only at *
  subst hop
  go_enter Tryz.func25, Tryz.ntmps25
  go_wp2_with (go_at_call 57; (with_reducible refine Calls.mono HC.out ?_); rintro e w1 ⟨v, rfl, hR⟩)
  go_ret
  exact ⟨_, rfl, hR⟩
theorem do_6 (w : World) (base q g cap now : Nat) (p : Pl) (gv : Value) (c : Cl) (hop : c.op = 6) (l : List Nd) (L : List N) (h : WkAt w base q g cap l now) (hl : l.length ≤ 240) (hi : p.ino < l.length) (hj : p.dir < l.length)
    (hn : p.name.size ≤ 281474976710656) (hs : (nd l p.dir).data.size ≤ 281474976710656) (hD : DirO (nd l p.dir).data (some L)) (hpd : ¬ p.ino = p.dir) (h1 : 1 ≤ (nd l p.ino).links) (h2 : (nd l p.ino).links < 65536) :
    Calls Tryz.prog 25 #[.pointer (some ⟨q, 0, none⟩), spV p gv, c.val] w (WkPost base q g cap ((l.set p.dir (dirN (nd l p.dir) (Dir.dropV L p.name) now)).set p.ino (lessN (nd l p.ino) now)) now (.int .i64 0) w) := by
  have hB := below_al (below_new w (spO p gv)) (clO c)
  have hsp := (SpAt.new w p gv).th (below_new _ (clO c))
  have hcl := ClAt.new (w.alloc (spO p gv)) c
  rw [World.size_alloc] at hcl
  have hK := h.th hB
  have HDR := Lib.hid (drop_call _ base q g cap now p gv l L hK hj hl hn hs hD)
  have e : nd (l.set p.dir (dirN (nd l p.dir) (Dir.dropV L p.name) now)) p.ino = nd l p.ino := by rw [nd_set hj, if_neg hpd]
  have HLO := Lib.hid (fun W (hW : WkAt W base q g cap (l.set p.dir (dirN (nd l p.dir) (Dir.dropV L p.name) now)) now) => lose_call W base q g cap p.ino now _ hW (by rw [List.length_set]; exact hi) (by rw [List.length_set]; exact hl) (by rw [e]; exact h1) (by rw [e]; exact h2))
  rw [e] at HLO
  have HSP : Hid (∀ W, Only (fun i => i = g) ((w.alloc (spO p gv)).alloc (clO c)) W → SpAt W w.heap.size p gv ∧ W.cell? ⟨w.heap.size + 1, 0, none⟩ = some (.int .i64 c.op) ∧ Only (fun i => i = g) w W) := fun W hO => by
    have hg := h.g.2.1
    refine ⟨hsp.of_heap (hO.block _ hsp.lt (by omega)), ?_, (Only.of_below hB).trans hO⟩
    have hlt := (Array.getElem?_eq_some_iff.1 hcl).1
    have : W.heap[w.heap.size + 1]? = _ := (hO.block _ hlt (by omega)).trans hcl
    simp only [World.cell?, this]
    rfl
  obtain ⟨p0, p1, p2, p3⟩ := hsp.c
  obtain ⟨c0, c1, c2, c3, c4, c5, c6⟩ := hcl.c
  unfold SpAt at HSP
  unfold WkPost at HDR HLO ⊢
  clear h hK hsp hB hD hs hn h1 h2 hpd e hj hcl
  generalize l.set p.dir (dirN (nd l p.dir) (Dir.dropV L p.name) now) = m1 at *
  generalize m1.set p.ino (lessN (nd l p.ino) now) = m2 at *
  unfold spO clO at HDR HSP p0 p1 p2 p3 c0 c1 c2 c3 c4 c5 c6
  unfold spV at HDR ⊢
  unfold Cl.val
  obtain ⟨pd, pn, pi⟩ := p
  obtain ⟨op, path, to_, data, off, n, mode⟩ := c
  dsimp only at *
  subst hop
  go_enter Tryz.func25, Tryz.ntmps25
  go_wp2_with (first
    | (go_at_call 53; (with_reducible refine Calls.mono HDR.out ?_); rintro e w1 ⟨rfl, hK1, hO1⟩; have hS := HSP.out _ hO1; obtain ⟨q0, q1, q2, q3⟩ := SpAt.c (p := ⟨pd, pn, pi⟩) hS.1; have hc0 := hS.2.1; have HS2 := Lib.hid hS.2.2; clear hS; dsimp only at q0 q1 q2 q3)
    | (go_at_call 54; (with_reducible refine Calls.mono (HLO.out _ hK1) ?_); rintro e w2 ⟨rfl, hK2, hO2⟩))
  go_ret
  exact ⟨rfl, hK2, HS2.out.trans hO2⟩
theorem do_14 (w : World) (base q g cap now : Nat) (p : Pl) (gv : Value) (c : Cl) (hop : c.op = 14) (l : List Nd) (h : WkAt w base q g cap l now) (hl : l.length ≤ 240) (hi : p.ino < l.length) (h0 : 0 ≤ c.mode) (h1 : c.mode ≤ 4095) :
    Calls Tryz.prog 25 #[.pointer (some ⟨q, 0, none⟩), spV p gv, c.val] w (WkPost base q g cap (l.set p.ino { nd l p.ino with mode := c.mode.toNat }) now (.int .i64 0) w) := by
  have hB := below_al (below_new w (spO p gv)) (clO c)
  have hsp := (SpAt.new w p gv).th (below_new _ (clO c))
  have hcl := ClAt.new (w.alloc (spO p gv)) c
  rw [World.size_alloc] at hcl
  have hK := h.th hB
  obtain ⟨hc1, hc2⟩ := h.cap
  have kc := hK.c.1
  obtain ⟨⟨u, hu⟩, hf, hp, hO⟩ := hK.mode hi c.mode.toNat
  have HP := Lib.hid hp
  have HO := Lib.hid ((Only.of_below (S := fun i => i = g) hB).trans hO)
  obtain ⟨p0, p1, p2, p3⟩ := hsp.c
  obtain ⟨c0, c1, c2, c3, c4, c5, c6⟩ := hcl.c
  have hwr : IntKind.u16.wrap c.mode = c.mode := by rw [IntKind.wrap_u16]; omega
  have hcs : ((c.mode.toNat : Nat) : Int) = c.mode := Int.toNat_of_nonneg h0
  rw [hcs] at HP HO
  unfold WkPost
  clear h hK hsp hB hcl hp hO
  unfold spO clO at HP HO p0 p1 p2 p3 c0 c1 c2 c3 c4 c5 c6 kc hf hu
  unfold spV
  unfold Cl.val
  obtain ⟨pd, pn, pi⟩ := p
  obtain ⟨op, path, to_, data, off, n, mode⟩ := c
  dsimp only at *
  subst hop
  clear hcs
  go_enter Tryz.func25, Tryz.ntmps25
  go_wp2_with (fail)
  go_region
  go_wp2_with (fail)
  go_ret
  exact ⟨rfl, HP.out.drew, HO.out.drew⟩
theorem do_15 (w : World) (base q g cap now : Nat) (p : Pl) (gv : Value) (c : Cl) (hop : c.op = 15) (l : List Nd) (h : WkAt w base q g cap l now) (hl : l.length ≤ 240) (hi : p.ino < l.length) (h0 : 0 ≤ c.n) (h1 : c.n < 281474976710656) :
    Calls Tryz.prog 25 #[.pointer (some ⟨q, 0, none⟩), spV p gv, c.val] w (WkPost base q g cap (l.set p.ino { nd l p.ino with time := c.n.toNat }) now (.int .i64 0) w) := by
  have hB := below_al (below_new w (spO p gv)) (clO c)
  have hsp := (SpAt.new w p gv).th (below_new _ (clO c))
  have hcl := ClAt.new (w.alloc (spO p gv)) c
  rw [World.size_alloc] at hcl
  have hK := h.th hB
  obtain ⟨hc1, hc2⟩ := h.cap
  have kc := hK.c.1
  obtain ⟨⟨u, hu⟩, hf, hp, hO⟩ := hK.time hi c.n.toNat
  have HP := Lib.hid hp
  have HO := Lib.hid ((Only.of_below (S := fun i => i = g) hB).trans hO)
  obtain ⟨p0, p1, p2, p3⟩ := hsp.c
  obtain ⟨c0, c1, c2, c3, c4, c5, c6⟩ := hcl.c
  have hwr : IntKind.u64.wrap c.n = c.n := by rw [IntKind.wrap_u64]; omega
  have hcs : ((c.n.toNat : Nat) : Int) = c.n := Int.toNat_of_nonneg h0
  rw [hcs] at HP HO
  unfold WkPost
  clear h hK hsp hB hcl hp hO
  unfold spO clO at HP HO p0 p1 p2 p3 c0 c1 c2 c3 c4 c5 c6 kc hf hu
  unfold spV
  unfold Cl.val
  obtain ⟨pd, pn, pi⟩ := p
  obtain ⟨op, path, to_, data, off, n, mode⟩ := c
  dsimp only at *
  subst hop
  clear hcs
  go_enter Tryz.func25, Tryz.ntmps25
  go_wp2_with (fail)
  go_region
  go_wp2_with (fail)
  go_ret
  exact ⟨rfl, HP.out.drew, HO.out.drew⟩
end
end Go.Proofs.YtkipkcmcolomcaaGreat.Pln
/- Do: where the call comes to an error ahead of its own work. -/
namespace Go.Proofs.YtkipkcmcolomcaaGreat.Pln
open Go.RowKit
open Dir (N nm DirP DirO Nms)
open Pth (Strs)
attribute [local go_sem] Oper.semAt_some
set_option linter.unusedVariables false
set_option linter.unusedSimpArgs false
theorem results_do {fn : Func} {r t : Tmp} (h : fn.results = #[.tmp t, .cell r 36]) (tmps : Array Value) (w : World) {b : Nat} {p : Rp} {u : Value} (hp : tmps.getD r undef = .pointer (some ⟨b, 0, none⟩)) (hA : RpAt w b p u) :
    (results fn tmps).run Tryz.prog w = .ok (.tuple #[tmps.getD t undef, p.val u]) w := by
  obtain ⟨c0, c1, c2, c3, c4, c5, c6, c7⟩ := hA.c
  rw [Array.getD_eq_getD_getElem?] at hp
  simp [results, h, hp, go_sem, c0, c1, c2, c3, c4, c5, c6, c7]
  rfl
/-- what comes back, behind the reply that is laid -/
theorem do_end {w W : World} {b : Nat} {r0 : Rp} {u0 : Value} {p : Option Addr} {n0 c0 : Nat} (h : RpAt W b r0 u0) (hu : u0 = .slice p n0 c0) (hb : w.heap.size ≤ b) (hB : Below w.heap.size w W) {v : Value} {m : List Nd} (hN : Nodes W v m) (r : Rp) (u : Value) (hU : Nms W u r.names) (hU2 : ∀ g, u.ownBlock = some g → ¬ g = b) :
    RpAt ((((((((W.setCell ⟨b, 0, none⟩ (.int .i64 r.code)).setCell ⟨b, 1, none⟩ (.string r.data)).setCell ⟨b, 2, none⟩ u).setCell ⟨b, 3, none⟩ (.int .i64 r.stat.kind)).setCell ⟨b, 4, none⟩ (.int .u16 r.stat.mode)).setCell ⟨b, 5, none⟩ (.int .u16 r.stat.links)).setCell ⟨b, 6, none⟩ (.int .i64 r.stat.size)).setCell ⟨b, 7, none⟩ (.int .u64 r.stat.time)) b r u ∧
    DoPost w m r (.returned (.tuple #[v, r.val u])) ((((((((W.setCell ⟨b, 0, none⟩ (.int .i64 r.code)).setCell ⟨b, 1, none⟩ (.string r.data)).setCell ⟨b, 2, none⟩ u).setCell ⟨b, 3, none⟩ (.int .i64 r.stat.kind)).setCell ⟨b, 4, none⟩ (.int .u16 r.stat.mode)).setCell ⟨b, 5, none⟩ (.int .u16 r.stat.links)).setCell ⟨b, 6, none⟩ (.int .i64 r.stat.size)).setCell ⟨b, 7, none⟩ (.int .u64 r.stat.time)) := by
  subst hu
  refine ⟨(h.put8 r u).1, v, u, rfl, hN.keep fun g o k c e hk => set8_other _ _ _ (Nodes.off h hN g o k c e hk) _ _ _ _ _ _ _ _, hU.keep fun g o k c e hk => set8_other _ _ _ (hU2 g (by rw [e]; rfl)) _ _ _ _ _ _ _ _, below_set8 hB hb _ _ _ _ _ _ _ _⟩
section
set_option maxRecDepth 100000
set_option maxHeartbeats 4000000
theorem do_no (v : Value) (l : List Nd) (c : Cl) (now : Nat) (w : World) (h : Nodes w v l) (hl : l.length ≤ 240) (hs : ∀ n ∈ l, n.data.size ≤ 281474976710656) (n : Int) (hn : ¬ n = 0)
    (ha : ∀ W, Below w.heap.size w W → Calls Tryz.prog 21 #[v, c.val, .int .u64 now] W (fun e w' => ∃ q a n0 c0, e = .returned (.tuple #[spV q (.slice a n0 c0), .int .i64 n]) ∧ Below W.heap.size W w')) :
    Calls Tryz.prog 14 #[v, c.val, .int .u64 now] w (DoPost w l (rpE n)) := by
  have HA := Lib.hid ha
  have HOW := Lib.hid (fun W (hB : Below w.heap.size w W) => own_any v l W (h.below hB) hl hs)
  have hB0 := below_al (below_new w (clO c)) rpZ
  have hcl := (ClAt.new w c).th (below_new _ rpZ)
  have hrp := RpAt.newZ (w.alloc (clO c))
  rw [World.size_alloc] at hrp
  have HW : Hid (∀ W, Below ((w.alloc (clO c)).alloc rpZ).heap.size ((w.alloc (clO c)).alloc rpZ) W → ClAt W w.heap.size c ∧ RpAt W (w.heap.size + 1) (rpE 0) (.slice none 0 0) ∧ Below w.heap.size w W) := fun W hO => ⟨hcl.th hO, hrp.th hO, below_th hB0 hO⟩
  have hself : Below ((w.alloc (clO c)).alloc rpZ).heap.size ((w.alloc (clO c)).alloc rpZ) ((w.alloc (clO c)).alloc rpZ) := Below.refl _ _
  have hz := HW.out _ hself
  obtain ⟨c0, c1, c2, c3, c4, c5, c6⟩ := hz.1.c
  have HB := Lib.hid hz.2.2
  have hne : (n != 0) = true := by simpa using hn
  clear hz hrp hcl hB0 h ha
  unfold spV at HA
  unfold clO rpZ at *
  unfold Cl.val at *
  obtain ⟨op, path, to_, data, off, cn, mode⟩ := c
  dsimp only at *
  go_enter Tryz.func14, Tryz.ntmps14
  go_wp2_with (first
    | (go_at_call 21; (with_reducible refine Calls.mono (HA.out _ HB.out) ?_); rintro e w1 ⟨⟨qd, qn, qi⟩, a1, n1, k1, rfl, hB1⟩; have HB1 := Lib.hid (below_al hB1 (.cells #[.int .u32 qd, .string qn, .int .u32 qi, .slice a1 n1 k1] 57)); clear hB1)
    | (go_at_call 22; (with_reducible refine Calls.mono (HOW.out _ (HW.out _ HB1.out).2.2) ?_); rintro e w2 ⟨v2, rfl, hown, hB2⟩; obtain ⟨hz1, hz2, hz3⟩ := HW.out _ (below_th HB1.out hB2); obtain ⟨r0, r1, r2, r3, r4, r5, r6, r7⟩ := hz2.c; have f0 := hz2.f 0; have f1 := hz2.f 1; have f2 := hz2.f 2; have f3 := hz2.f 3; have f4 := hz2.f 4; have f5 := hz2.f 5; have f6 := hz2.f 6; have f7 := hz2.f 7; have HE := Lib.hid (do_end (w := w) hz2 rfl (by omega) hz3 (Nodes.own hown) (rpE n) (.slice none 0 0) (Nms.nil _) (fun g e => by cases e)); clear hz1 hz2 hz3 hown hB2))
  refine bodyPost_ret (results_do rfl _ _ rfl HE.out.1) rfl ?_
  exact HE.out.2
end
end Go.Proofs.YtkipkcmcolomcaaGreat.Pln
