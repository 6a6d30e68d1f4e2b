/- Several texts in one, each under its own heading. -/
import Derived.Test.YtkipkcmcolomcaaGreatPk33
import Derived.Test.YtkipkcmcolomcaaGreatPk24
/- Do: a call that but asks. -/
namespace Go.Proofs.YtkipkcmcolomcaaGreat.Pln
open Go.RowKit
open Dir (N nm DirP DirO Nms)
open Pth (Strs)
attribute [local go_sem] Oper.semAt_some
set_option linter.unusedVariables false
set_option linter.unusedSimpArgs false
section
set_option maxRecDepth 100000
set_option maxHeartbeats 4000000
theorem do_asked (v : Value) (l : List Nd) (c : Cl) (now : Nat) (w : World) (h : Nodes w v l) (hl : l.length ≤ 240) (hs : ∀ n ∈ l, n.data.size ≤ 281474976710656) (r : Pl) (hi : r.ino < l.length) (rp : Rp)
    (hop : c.op = 4 ∨ c.op = 11 ∨ c.op = 12 ∨ c.op = 13)
    (ha : ∀ W, Below w.heap.size w W → Calls Tryz.prog 21 #[v, c.val, .int .u64 now] W (fun e w' => ∃ a n0 c0, e = .returned (.tuple #[spV r (.slice a n0 c0), .int .i64 0]) ∧ Below W.heap.size W w'))
    (ht : ∀ W, Calls Tryz.prog 23 #[(nd l r.ino).val, c.val] W (TellPost rp W)) :
    Calls Tryz.prog 14 #[v, c.val, .int .u64 now] w (DoPost w l rp) := by
  have HA := Lib.hid ha
  have HT := Lib.hid ht
  have HAS := Lib.hid (fun W => asks_any c.op W)
  rw [decide_eq_true hop] at HAS
  have HOW := Lib.hid (fun W (hB : Below w.heap.size w W) => own_any v l W (h.below hB) hl hs)
  obtain ⟨nb, noff, ncap, hv, _⟩ := h.at hi
  have hcap := h.parts
  obtain ⟨_, _, hce, hc1, hc2⟩ := hcap
  rw [hv] at hce
  injection hce with hce1 _ hce
  subst hce1
  subst hce
  have hnb : nb < w.heap.size := Nodes.lt (L := l) (by rw [← hv]; exact h) (by omega)
  have hN2 : ∀ W, Below w.heap.size w W → Nodes W (.slice (some ⟨nb, noff, none⟩) l.length ncap) l := fun W hB => by rw [← hv]; exact h.below hB
  have HND := Lib.hid (fun W (hB : Below w.heap.size w W) => (hN2 W hB).get rfl hi)
  have hB0 := below_al (below_new w (clO c)) rpZ
  have hcl := (ClAt.new w c).th (below_new _ rpZ)
  have hrp := RpAt.newZ (w.alloc (clO c))
  rw [World.size_alloc] at hrp
  have HW : Hid (∀ W, Below ((w.alloc (clO c)).alloc rpZ).heap.size ((w.alloc (clO c)).alloc rpZ) W → ClAt W w.heap.size c ∧ RpAt W (w.heap.size + 1) (rpE 0) (.slice none 0 0) ∧ Below w.heap.size w W) := fun W hO => ⟨hcl.th hO, hrp.th hO, below_th hB0 hO⟩
  have hself : Below ((w.alloc (clO c)).alloc rpZ).heap.size ((w.alloc (clO c)).alloc rpZ) ((w.alloc (clO c)).alloc rpZ) := Below.refl _ _
  have hz := HW.out _ hself
  obtain ⟨c0, c1, c2, c3, c4, c5, c6⟩ := hz.1.c
  have HB := Lib.hid hz.2.2
  clear hz hrp hcl hB0 h ha ht hN2 hop
  generalize nd l r.ino = nn at *
  unfold TellPost at HT
  unfold Reads at HND
  unfold spV at HA
  unfold clO rpZ at *
  unfold Cl.val Nd.val Rp.val at *
  obtain ⟨op, path, to_, data, off, cn, mode⟩ := c
  obtain ⟨nk, nm, nl, nt, ndt⟩ := nn
  obtain ⟨rd, rn, ri⟩ := r
  obtain ⟨pc, pd, pn, ⟨sk, sm, sl, ss, st⟩⟩ := rp
  dsimp only at *
  subst hv
  go_enter Tryz.func14, Tryz.ntmps14
  go_wp2_with (first
    | (go_at_call 21; (with_reducible refine Calls.mono (HA.out _ HB.out) ?_); rintro e w1 ⟨a1, n1, k1, rfl, hB1⟩; have HB1 := Lib.hid (below_al hB1 (.cells #[.int .u32 rd, .string rn, .int .u32 ri, .slice a1 n1 k1] 57)); have hsp := SpAt.new w1 ⟨rd, rn, ri⟩ (.slice a1 n1 k1); have HSP := Lib.hid hsp; obtain ⟨s0, s1, s2, s3⟩ := hsp.c; unfold spO at HSP s0 s1 s2 s3; dsimp only at HSP s0 s1 s2 s3; obtain ⟨c0, c1, c2, c3, c4, c5, c6⟩ := (HW.out _ HB1.out).1.c; dsimp only at c0 c1 c2 c3 c4 c5 c6; have HB1L := (HW.out _ hB1).2.1.lt; clear hB1 hsp)
    | (go_at_call 19; (with_reducible refine Calls.mono (HAS.out _) ?_); rintro e w2 ⟨rfl, hB2⟩; have HB2 := Lib.hid hB2; clear hB2))
  have hself1 : Below w2.heap.size w2 w2.drew := (Below.refl _ w2).drew
  have HBW : Hid (∀ W, Below w2.heap.size w2 W → Below ((w.alloc (.cells #[.int .i64 op, .string path, .string to_, .string data, .int .i64 off, .int .i64 cn, .int .i64 mode] 28)).alloc (.cells #[.int .i64 0, .string ⟨#[]⟩, .slice none 0 0, .int .i64 0, .int .u16 0, .int .u16 0, .int .i64 0, .int .u64 0] 36)).heap.size ((w.alloc (.cells #[.int .i64 op, .string path, .string to_, .string data, .int .i64 off, .int .i64 cn, .int .i64 mode] 28)).alloc (.cells #[.int .i64 0, .string ⟨#[]⟩, .slice none 0 0, .int .i64 0, .int .u16 0, .int .u16 0, .int .i64 0, .int .u64 0] 36)) W) := fun W hW => below_th HB1.out (below_th HB2.out hW)
  have HBWW : Hid (∀ W, Below w2.heap.size w2 W → Below w.heap.size w W) := fun W hW => (HW.out _ (HBW.out _ hW)).2.2
  have HSZ : Hid (∀ W, Below w2.heap.size w2 W → w.heap.size + 1 < W.heap.size) := fun W hW => (HW.out _ (HBW.out _ hW)).2.1.lt
  have HSS : Hid (∀ W, Below w2.heap.size w2 W → ∀ W' : World, (∀ k, k ≠ w.heap.size + 1 → W'.heap[k]? = W.heap[k]?) → W'.cell? ⟨w1.heap.size, 2, none⟩ = some (.int .u32 ri) ∧ W'.cell? ⟨w.heap.size, 0, none⟩ = some (.int .i64 op) ∧ W'.cell? ⟨w.heap.size, 1, none⟩ = some (.string path) ∧ W'.cell? ⟨w.heap.size, 2, none⟩ = some (.string to_) ∧ W'.cell? ⟨w.heap.size, 3, none⟩ = some (.string data) ∧ W'.cell? ⟨w.heap.size, 4, none⟩ = some (.int .i64 off) ∧ W'.cell? ⟨w.heap.size, 5, none⟩ = some (.int .i64 cn) ∧ W'.cell? ⟨w.heap.size, 6, none⟩ = some (.int .i64 mode) ∧ W'.cell? ⟨nb, noff + ri * 5, none⟩ = some (.int .i64 nk) ∧ W'.cell? ⟨nb, noff + ri * 5 + 1, none⟩ = some (.int .u16 nm) ∧ W'.cell? ⟨nb, noff + ri * 5 + 2, none⟩ = some (.int .u16 nl) ∧ W'.cell? ⟨nb, noff + ri * 5 + 3, none⟩ = some (.int .u64 nt) ∧ W'.cell? ⟨nb, noff + ri * 5 + 4, none⟩ = some (.string ndt)) := fun W hW W' hk => by
    have hsp := (show SpAt _ w1.heap.size ⟨rd, rn, ri⟩ (.slice a1 n1 k1) from HSP.out).th (below_th HB2.out hW)
    have hcl := (HW.out _ (HBW.out _ hW)).1
    have hnd := HND.out W (HBWW.out _ hW)
    have hlt : w.heap.size + 1 < w1.heap.size := by
      have := HB1L
      omega
    have t1 := hk w1.heap.size (by omega)
    have t2 := hk w.heap.size (by omega)
    have t3 := hk nb (by omega)
    obtain ⟨_, _, x2, _⟩ := hsp.c
    obtain ⟨y0, y1, y2, y3, y4, y5, y6⟩ := hcl.c
    obtain ⟨z0, z1, z2, z3, z4⟩ := hnd
    dsimp only at x2 y0 y1 y2 y3 y4 y5 y6 z0 z1 z2 z3 z4
    simp only [World.cell?] at x2 y0 y1 y2 y3 y4 y5 y6 z0 z1 z2 z3 z4 ⊢
    rw [t1, t2, t3]
    exact ⟨x2, y0, y1, y2, y3, y4, y5, y6, z0, z1, z2, z3, z4⟩
  have HS0 : Hid (∀ W', Below w2.heap.size w2 W' → W'.cell? ⟨w1.heap.size, 2, none⟩ = some (.int .u32 ri) ∧ W'.cell? ⟨w.heap.size, 0, none⟩ = some (.int .i64 op) ∧ W'.cell? ⟨w.heap.size, 1, none⟩ = some (.string path) ∧ W'.cell? ⟨w.heap.size, 2, none⟩ = some (.string to_) ∧ W'.cell? ⟨w.heap.size, 3, none⟩ = some (.string data) ∧ W'.cell? ⟨w.heap.size, 4, none⟩ = some (.int .i64 off) ∧ W'.cell? ⟨w.heap.size, 5, none⟩ = some (.int .i64 cn) ∧ W'.cell? ⟨w.heap.size, 6, none⟩ = some (.int .i64 mode) ∧ W'.cell? ⟨nb, noff + ri * 5, none⟩ = some (.int .i64 nk) ∧ W'.cell? ⟨nb, noff + ri * 5 + 1, none⟩ = some (.int .u16 nm) ∧ W'.cell? ⟨nb, noff + ri * 5 + 2, none⟩ = some (.int .u16 nl) ∧ W'.cell? ⟨nb, noff + ri * 5 + 3, none⟩ = some (.int .u64 nt) ∧ W'.cell? ⟨nb, noff + ri * 5 + 4, none⟩ = some (.string ndt)) := fun W hW => HSS.out W hW W (fun _ _ => rfl)
  clear s0 s1 s2 s3 c0 c1 c2 c3 c4 c5 c6 HAS HA HB
  go_region_held3 (fun W' => W'.cell? ⟨w1.heap.size, 2, none⟩ = some (.int .u32 ri) ∧ W'.cell? ⟨w.heap.size, 0, none⟩ = some (.int .i64 op) ∧ W'.cell? ⟨w.heap.size, 1, none⟩ = some (.string path) ∧ W'.cell? ⟨w.heap.size, 2, none⟩ = some (.string to_) ∧ W'.cell? ⟨w.heap.size, 3, none⟩ = some (.string data) ∧ W'.cell? ⟨w.heap.size, 4, none⟩ = some (.int .i64 off) ∧ W'.cell? ⟨w.heap.size, 5, none⟩ = some (.int .i64 cn) ∧ W'.cell? ⟨w.heap.size, 6, none⟩ = some (.int .i64 mode) ∧ W'.cell? ⟨nb, noff + ri * 5, none⟩ = some (.int .i64 nk) ∧ W'.cell? ⟨nb, noff + ri * 5 + 1, none⟩ = some (.int .u16 nm) ∧ W'.cell? ⟨nb, noff + ri * 5 + 2, none⟩ = some (.int .u16 nl) ∧ W'.cell? ⟨nb, noff + ri * 5 + 3, none⟩ = some (.int .u64 nt) ∧ W'.cell? ⟨nb, noff + ri * 5 + 4, none⟩ = some (.string ndt)) (with_reducible first | exact HS0.out _ hself1 | exact HS8 | exact HS0.out _ hb3 | exact HS0.out _ hb4) (first
    | (go_at_call 22; (with_reducible refine Calls.mono (HOW.out w2.drew (HBWW.out _ hself1)) ?_); rintro e w3 ⟨v3, rfl, hown3, hB3⟩; have hb3 := below_th hself1 hB3)
    | (go_at_call 23; (with_reducible refine Calls.mono (HT.out w2.drew) ?_); rintro e w4 ⟨u4, rfl, hN4, hB4, hnew4⟩; obtain ⟨ua, uc, rfl, _, _⟩ := hN4.parts; have hb4 := below_th hself1 hB4)
    | (go_at_call 23; (with_reducible refine Calls.mono (HT.out w3) ?_); rintro e w4 ⟨u4, rfl, hN4, hB4, hnew4⟩; obtain ⟨ua, uc, rfl, _, _⟩ := hN4.parts; have hb4 := below_th hb3 hB4; have hsz := HSZ.out _ hb3; obtain ⟨hz1, hz2, hz3⟩ := HW.out _ (HBW.out _ hb4); obtain ⟨r0, r1, r2, r3, r4, r5, r6, r7⟩ := hz2.c; have f0 := hz2.f 0; have f1 := hz2.f 1; have f2 := hz2.f 2; have f3 := hz2.f 3; have f4 := hz2.f 4; have f5 := hz2.f 5; have f6 := hz2.f 6; have f7 := hz2.f 7; have HS8 := HSS.out _ hb4 ((((((((w4.setCell ⟨w.heap.size + 1, 0, none⟩ (.int .i64 pc)).setCell ⟨w.heap.size + 1, 1, none⟩ (.string pd)).setCell ⟨w.heap.size + 1, 2, none⟩ (.slice ua pn.length uc)).setCell ⟨w.heap.size + 1, 3, none⟩ (.int .i64 sk)).setCell ⟨w.heap.size + 1, 4, none⟩ (.int .u16 sm)).setCell ⟨w.heap.size + 1, 5, none⟩ (.int .u16 sl)).setCell ⟨w.heap.size + 1, 6, none⟩ (.int .i64 ss)).setCell ⟨w.heap.size + 1, 7, none⟩ (.int .u64 st)) (fun k hk => set8_other _ _ _ hk _ _ _ _ _ _ _ _); have HE := Lib.hid (do_end (w := w) hz2 rfl (by omega) hz3 ((Nodes.own hown3).below hB4) ⟨pc, pd, pn, ⟨sk, sm, sl, ss, st⟩⟩ (.slice ua pn.length uc) hN4 (fun g e => (by have := hnew4 g e; omega))); clear hz1 hz2 hz3)
    | (go_at_call 22; (with_reducible refine Calls.mono (HOW.out w4 (HBWW.out _ hb4)) ?_); rintro e w3 ⟨v3, rfl, hown3, hB3⟩; have hb3 := below_th hb4 hB3; have hsz := HSZ.out _ hself1; obtain ⟨hz1, hz2, hz3⟩ := HW.out _ (HBW.out _ hb3); obtain ⟨r0, r1, r2, r3, r4, r5, r6, r7⟩ := hz2.c; have f0 := hz2.f 0; have f1 := hz2.f 1; have f2 := hz2.f 2; have f3 := hz2.f 3; have f4 := hz2.f 4; have f5 := hz2.f 5; have f6 := hz2.f 6; have f7 := hz2.f 7; have HS8 := HSS.out _ hb3 ((((((((w3.setCell ⟨w.heap.size + 1, 0, none⟩ (.int .i64 pc)).setCell ⟨w.heap.size + 1, 1, none⟩ (.string pd)).setCell ⟨w.heap.size + 1, 2, none⟩ (.slice ua pn.length uc)).setCell ⟨w.heap.size + 1, 3, none⟩ (.int .i64 sk)).setCell ⟨w.heap.size + 1, 4, none⟩ (.int .u16 sm)).setCell ⟨w.heap.size + 1, 5, none⟩ (.int .u16 sl)).setCell ⟨w.heap.size + 1, 6, none⟩ (.int .i64 ss)).setCell ⟨w.heap.size + 1, 7, none⟩ (.int .u64 st)) (fun k hk => set8_other _ _ _ hk _ _ _ _ _ _ _ _); have HE := Lib.hid (do_end (w := w) hz2 rfl (by omega) hz3 (Nodes.own hown3) ⟨pc, pd, pn, ⟨sk, sm, sl, ss, st⟩⟩ (.slice ua pn.length uc) (hN4.below hB3) (fun g e => (by have := hnew4 g e; omega))); clear hz1 hz2 hz3))
  all_goals
    clear HSS HS0 HBW HBWW HSZ HOW HT HND HW HSP hself1
    go_wp2
    refine bodyPost_ret (results_do rfl _ _ rfl HE.out.1) rfl ?_
    exact HE.out.2
end
end Go.Proofs.YtkipkcmcolomcaaGreat.Pln
/- Do: a call with work of its own. -/
namespace Go.Proofs.YtkipkcmcolomcaaGreat.Pln
open Go.RowKit
open Dir (N nm DirP DirO Nms)
open Pth (Strs)
attribute [local go_sem] Oper.semAt_some
set_option linter.unusedVariables false
set_option linter.unusedSimpArgs false
theorem RpAt.of_only {W W' : World} {b g q : Nat} {r : Rp} {u : Value} (h : RpAt W b r u) (hO : Only (fun i => i = g ∨ i = q) W W') (h1 : ¬ b = g) (h2 : ¬ b = q) : RpAt W' b r u := (hO.block b h.lt (fun e => e.elim h1 h2)).trans h
/-- what the call's own work leaves -/
def DwPost (base q g now : Nat) (o : Except Int (List Nd)) (w : World) (e : Ending) (w' : World) : Prop := match o with
  | .error n => e = .returned (.int .i64 n) ∧ Only (fun i => i = g ∨ i = q) w w'
  | .ok m => e = .returned (.int .i64 0) ∧ (∃ g' cap', WkAt w' base q g' cap' m now) ∧ Only (fun i => i = g ∨ i = q) w w'
section
set_option maxRecDepth 100000
set_option maxHeartbeats 4000000
theorem do_work_no (D : List (List N)) (v : Value) (l : List Nd) (c : Cl) (now : Nat) (w : World) (h : Nodes w v l) (h3 : 3 ≤ l.length) (hl : l.length ≤ 240) (hs : ∀ n ∈ l, n.data.size ≤ 281474976710656) (r : Pl)
    (hop : ¬ (c.op = 4 ∨ c.op = 11 ∨ c.op = 12 ∨ c.op = 13)) (n : Int) (hn : ¬ n = 0)
    (ha : ∀ W, Below w.heap.size w W → Calls Tryz.prog 21 #[v, c.val, .int .u64 now] W (fun e w' => ∃ a n0 c0, e = .returned (.tuple #[spV r (.slice a n0 c0), .int .i64 0]) ∧ (∃ gg B, rowS w' B (.slice a n0 c0) gg ∧ Gone D gg r) ∧ Below W.heap.size W w'))
    (hd : ∀ W base q g cap a n0 c0, base ≤ W.heap.size → WkAt W base q g cap l now → (∃ gg B, rowS W B (.slice a n0 c0) gg ∧ Gone D gg r) → Calls Tryz.prog 25 #[.pointer (some ⟨q, 0, none⟩), spV r (.slice a n0 c0), c.val] W (DwPost base q g now (.error n) W)) :
    Calls Tryz.prog 14 #[v, c.val, .int .u64 now] w (DoPost w l (rpE n)) := by
  have HA := Lib.hid ha
  have HD := Lib.hid hd
  have HAS := Lib.hid (fun W => asks_any c.op W)
  rw [decide_eq_false hop] at HAS
  have HOW := Lib.hid (fun W (hB : Below w.heap.size w W) => own_any v l W (h.below hB) hl hs)
  have hne : (n != 0) = true := by simpa using hn
  have HCL := Lib.hid (fun W (hB : Below w.heap.size w W) => cloneN_any v l W (h.below hB) (by omega))
  have hB0 := below_al (below_new w (clO c)) rpZ
  have hcl := (ClAt.new w c).th (below_new _ rpZ)
  have hrp := RpAt.newZ (w.alloc (clO c))
  rw [World.size_alloc] at hrp
  have HW : Hid (∀ W, Below ((w.alloc (clO c)).alloc rpZ).heap.size ((w.alloc (clO c)).alloc rpZ) W → ClAt W w.heap.size c ∧ RpAt W (w.heap.size + 1) (rpE 0) (.slice none 0 0) ∧ Below w.heap.size w W) := fun W hO => ⟨hcl.th hO, hrp.th hO, below_th hB0 hO⟩
  have hself : Below ((w.alloc (clO c)).alloc rpZ).heap.size ((w.alloc (clO c)).alloc rpZ) ((w.alloc (clO c)).alloc rpZ) := Below.refl _ _
  have hz := HW.out _ hself
  obtain ⟨c0, c1, c2, c3, c4, c5, c6⟩ := hz.1.c
  have HB := Lib.hid hz.2.2
  -- behind the clone: the work in a box
  have HWK : Hid (∀ (W : World) base g cap, W.ownsRow base 46 5 (.slice (some ⟨g, 0, none⟩) l.length cap) l.length (cellsL l) → WkAt (W.alloc (.cells #[.slice (some ⟨g, 0, none⟩) l.length cap, .int .u64 now] 63)) base W.heap.size g cap l now) := fun W base g cap ho =>
    ⟨World.alloc_heap_new W _, own_th ho (below_new _ _)⟩
  obtain ⟨N, hN⟩ : ∃ N, l.length = N := ⟨_, rfl⟩
  have h3N : 3 ≤ N := by omega
  clear hz hrp hcl hB0 h ha hd hop hs h3
  rw [hN] at HCL HWK hl
  unfold DwPost at HD
  dsimp only at HD
  unfold spV at HA HD
  unfold clO rpZ at *
  unfold Cl.val at *
  obtain ⟨op, path, to_, data, off, cn, mode⟩ := c
  obtain ⟨rd, rn, ri⟩ := r
  dsimp only at *
  go_enter Tryz.func14, Tryz.ntmps14
  go_wp2_with (first
    | (go_at_call 21; (with_reducible refine Calls.mono (HA.out _ HB.out) ?_); rintro e w1 ⟨a1, n1, k1, rfl, hX1, hB1⟩; have HB1 := Lib.hid (below_al hB1 (.cells #[.int .u32 rd, .string rn, .int .u32 ri, .slice a1 n1 k1] 57)); have hsp := SpAt.new w1 ⟨rd, rn, ri⟩ (.slice a1 n1 k1); have HSP := Lib.hid hsp; obtain ⟨s0, s1, s2, s3⟩ := hsp.c; unfold spO at HSP s0 s1 s2 s3; dsimp only at HSP s0 s1 s2 s3; obtain ⟨c0, c1, c2, c3, c4, c5, c6⟩ := (HW.out _ HB1.out).1.c; dsimp only at c0 c1 c2 c3 c4 c5 c6; have HX1 := Lib.hid hX1; clear hB1 hsp hX1)
    | (go_at_call 19; (with_reducible refine Calls.mono (HAS.out _) ?_); rintro e w2 ⟨rfl, hB2⟩; have HB2 := Lib.hid (below_th HB1.out hB2); have hsp := (show SpAt _ w1.heap.size ⟨rd, rn, ri⟩ (.slice a1 n1 k1) from HSP.out).th hB2; have HSP2 := Lib.hid hsp; have HR2 := Lib.hid (below_th (below_new w1 (.cells #[.int .u32 rd, .string rn, .int .u32 ri, .slice a1 n1 k1] 57)) hB2); clear hsp hB2)
    | (go_at_call 24; (with_reducible refine Calls.mono (HCL.out _ (HW.out _ HB2.out).2.2) ?_); rintro e w3 ⟨v3, rfl, hown3, hB3⟩; obtain ⟨g, cap, rfl, hgb, _, _⟩ := own_open hown3 (by omega); have HK3 := Lib.hid (HWK.out w3 _ g cap hown3); have HB4 := Lib.hid (below_al hB3 (.cells #[.slice (some ⟨g, 0, none⟩) N cap, .int .u64 now] 63)); have hsp := HSP2.out.th HB4.out; have HSP4 := Lib.hid hsp; obtain ⟨s0, s1, s2, s3⟩ := hsp.c; dsimp only at s0 s1 s2 s3; obtain ⟨c0, c1, c2, c3, c4, c5, c6⟩ := (HW.out _ (below_th HB2.out HB4.out)).1.c; dsimp only at c0 c1 c2 c3 c4 c5 c6; have HB3L := Lib.hid hB3.size; clear hsp hown3 hB3)
    | (go_at_call 25; (with_reducible refine Calls.mono (HD.out _ w2.heap.size w3.heap.size g cap a1 n1 k1 (by have := HB4.out.size; omega) HK3.out (HX1.out.elim fun gg hx => hx.elim fun B hy => ⟨gg, B, (hy.1.below HR2.out).below HB4.out, hy.2⟩)) ?_); rintro e w5 ⟨rfl, hO5⟩; have hq := HB4.out.size; have hO5' : Below w.heap.size w w5 := ((HW.out _ (below_th HB2.out HB4.out)).2.2).trans ((hO5.below (n := w2.heap.size) (by omega) (fun k hk => hk.elim (fun e => by omega) (fun e => by have := HB3L.out; omega))).mono (by have := (HW.out _ HB2.out).2.2.size; omega)); have hrp5 := (HW.out _ (below_th HB2.out HB4.out)).2.1.of_only hO5 (by have := (HW.out _ HB2.out).2.1.lt; omega) (by have := (HW.out _ HB2.out).2.1.lt; have := HB3L.out; omega); have HRP5 := Lib.hid hrp5; have HO5 := Lib.hid hO5'; clear hO5 hO5' hrp5)
    | (go_at_call 22; (with_reducible refine Calls.mono (HOW.out _ HO5.out) ?_); rintro e w6 ⟨v6, rfl, hown6, hB6⟩; have hz2 := HRP5.out.th hB6; obtain ⟨r0, r1, r2, r3, r4, r5, r6, r7⟩ := hz2.c; have f0 := hz2.f 0; have f1 := hz2.f 1; have f2 := hz2.f 2; have f3 := hz2.f 3; have f4 := hz2.f 4; have f5 := hz2.f 5; have f6 := hz2.f 6; have f7 := hz2.f 7; have HE := Lib.hid (do_end (w := w) hz2 rfl (by omega) (below_th HO5.out hB6) (Nodes.own hown6) (rpE n) (.slice none 0 0) (Nms.nil _) (fun g e => by cases e)); clear hz2 hown6 hB6))
  refine bodyPost_ret (results_do rfl _ _ rfl HE.out.1) rfl ?_
  exact HE.out.2
theorem do_work_ok (D : List (List N)) (v : Value) (l : List Nd) (c : Cl) (now : Nat) (w : World) (h : Nodes w v l) (h3 : 3 ≤ l.length) (hl : l.length ≤ 240) (hs : ∀ n ∈ l, n.data.size ≤ 281474976710656) (r : Pl)
    (hop : ¬ (c.op = 4 ∨ c.op = 11 ∨ c.op = 12 ∨ c.op = 13)) (m : List Nd) (hm : m.length ≤ 240) (hms : ∀ n ∈ m, n.data.size ≤ 281474976710656)
    (ha : ∀ W, Below w.heap.size w W → Calls Tryz.prog 21 #[v, c.val, .int .u64 now] W (fun e w' => ∃ a n0 c0, e = .returned (.tuple #[spV r (.slice a n0 c0), .int .i64 0]) ∧ (∃ gg B, rowS w' B (.slice a n0 c0) gg ∧ Gone D gg r) ∧ Below W.heap.size W w'))
    (hd : ∀ W base q g cap a n0 c0, base ≤ W.heap.size → WkAt W base q g cap l now → (∃ gg B, rowS W B (.slice a n0 c0) gg ∧ Gone D gg r) → Calls Tryz.prog 25 #[.pointer (some ⟨q, 0, none⟩), spV r (.slice a n0 c0), c.val] W (DwPost base q g now (.ok m) W)) :
    Calls Tryz.prog 14 #[v, c.val, .int .u64 now] w (DoPost w m (rpE 0)) := by
  have HA := Lib.hid ha
  have HD := Lib.hid hd
  have HAS := Lib.hid (fun W => asks_any c.op W)
  rw [decide_eq_false hop] at HAS
  have HOW := Lib.hid (fun W u (hB : Nodes W u m) => own_any u m W hB hm hms)
  have HCL := Lib.hid (fun W (hB : Below w.heap.size w W) => cloneN_any v l W (h.below hB) (by omega))
  have hB0 := below_al (below_new w (clO c)) rpZ
  have hcl := (ClAt.new w c).th (below_new _ rpZ)
  have hrp := RpAt.newZ (w.alloc (clO c))
  rw [World.size_alloc] at hrp
  have HW : Hid (∀ W, Below ((w.alloc (clO c)).alloc rpZ).heap.size ((w.alloc (clO c)).alloc rpZ) W → ClAt W w.heap.size c ∧ RpAt W (w.heap.size + 1) (rpE 0) (.slice none 0 0) ∧ Below w.heap.size w W) := fun W hO => ⟨hcl.th hO, hrp.th hO, below_th hB0 hO⟩
  have hself : Below ((w.alloc (clO c)).alloc rpZ).heap.size ((w.alloc (clO c)).alloc rpZ) ((w.alloc (clO c)).alloc rpZ) := Below.refl _ _
  have hz := HW.out _ hself
  obtain ⟨c0, c1, c2, c3, c4, c5, c6⟩ := hz.1.c
  have HB := Lib.hid hz.2.2
  -- behind the clone: the work in a box
  have HWK : Hid (∀ (W : World) base g cap, W.ownsRow base 46 5 (.slice (some ⟨g, 0, none⟩) l.length cap) l.length (cellsL l) → WkAt (W.alloc (.cells #[.slice (some ⟨g, 0, none⟩) l.length cap, .int .u64 now] 63)) base W.heap.size g cap l now) := fun W base g cap ho =>
    ⟨World.alloc_heap_new W _, own_th ho (below_new _ _)⟩
  obtain ⟨N, hN⟩ : ∃ N, l.length = N := ⟨_, rfl⟩
  have h3N : 3 ≤ N := by omega
  clear hz hrp hcl hB0 h ha hd hop hs h3
  rw [hN] at HCL HWK hl
  unfold DwPost at HD
  dsimp only at HD
  unfold spV at HA HD
  unfold clO rpZ at *
  unfold Cl.val at *
  obtain ⟨op, path, to_, data, off, cn, mode⟩ := c
  obtain ⟨rd, rn, ri⟩ := r
  dsimp only at *
  go_enter Tryz.func14, Tryz.ntmps14
  go_wp2_with (first
    | (go_at_call 21; (with_reducible refine Calls.mono (HA.out _ HB.out) ?_); rintro e w1 ⟨a1, n1, k1, rfl, hX1, hB1⟩; have HB1 := Lib.hid (below_al hB1 (.cells #[.int .u32 rd, .string rn, .int .u32 ri, .slice a1 n1 k1] 57)); have hsp := SpAt.new w1 ⟨rd, rn, ri⟩ (.slice a1 n1 k1); have HSP := Lib.hid hsp; obtain ⟨s0, s1, s2, s3⟩ := hsp.c; unfold spO at HSP s0 s1 s2 s3; dsimp only at HSP s0 s1 s2 s3; obtain ⟨c0, c1, c2, c3, c4, c5, c6⟩ := (HW.out _ HB1.out).1.c; dsimp only at c0 c1 c2 c3 c4 c5 c6; have HX1 := Lib.hid hX1; clear hB1 hsp hX1)
    | (go_at_call 19; (with_reducible refine Calls.mono (HAS.out _) ?_); rintro e w2 ⟨rfl, hB2⟩; have HB2 := Lib.hid (below_th HB1.out hB2); have hsp := (show SpAt _ w1.heap.size ⟨rd, rn, ri⟩ (.slice a1 n1 k1) from HSP.out).th hB2; have HSP2 := Lib.hid hsp; have HR2 := Lib.hid (below_th (below_new w1 (.cells #[.int .u32 rd, .string rn, .int .u32 ri, .slice a1 n1 k1] 57)) hB2); clear hsp hB2)
    | (go_at_call 24; (with_reducible refine Calls.mono (HCL.out _ (HW.out _ HB2.out).2.2) ?_); rintro e w3 ⟨v3, rfl, hown3, hB3⟩; obtain ⟨g, cap, rfl, hgb, _, _⟩ := own_open hown3 (by omega); have HK3 := Lib.hid (HWK.out w3 _ g cap hown3); have HB4 := Lib.hid (below_al hB3 (.cells #[.slice (some ⟨g, 0, none⟩) N cap, .int .u64 now] 63)); have hsp := HSP2.out.th HB4.out; have HSP4 := Lib.hid hsp; obtain ⟨s0, s1, s2, s3⟩ := hsp.c; dsimp only at s0 s1 s2 s3; obtain ⟨c0, c1, c2, c3, c4, c5, c6⟩ := (HW.out _ (below_th HB2.out HB4.out)).1.c; dsimp only at c0 c1 c2 c3 c4 c5 c6; have HB3L := Lib.hid hB3.size; clear hsp hown3 hB3)
    | (go_at_call 25; (with_reducible refine Calls.mono (HD.out _ w2.heap.size w3.heap.size g cap a1 n1 k1 (by have := HB4.out.size; omega) HK3.out (HX1.out.elim fun gg hx => hx.elim fun B hy => ⟨gg, B, (hy.1.below HR2.out).below HB4.out, hy.2⟩)) ?_); rintro e w5 ⟨rfl, ⟨g5, cap5, hK5⟩, hO5⟩; obtain ⟨x0, x1⟩ := hK5.c; have HK5 := Lib.hid hK5; clear hK5; have hq := HB4.out.size; have hO5' : Below w.heap.size w w5 := ((HW.out _ (below_th HB2.out HB4.out)).2.2).trans ((hO5.below (n := w2.heap.size) (by omega) (fun k hk => hk.elim (fun e => by omega) (fun e => by have := HB3L.out; omega))).mono (by have := (HW.out _ HB2.out).2.2.size; omega)); have hrp5 := (HW.out _ (below_th HB2.out HB4.out)).2.1.of_only hO5 (by have := (HW.out _ HB2.out).2.1.lt; omega) (by have := (HW.out _ HB2.out).2.1.lt; have := HB3L.out; omega); have HRP5 := Lib.hid hrp5; have HO5 := Lib.hid hO5'; clear hO5 hO5' hrp5)
    | (go_at_call 22; (with_reducible refine Calls.mono (HOW.out _ _ HK5.out.nodes) ?_); rintro e w6 ⟨v6, rfl, hown6, hB6⟩; have hz2 := HRP5.out.th hB6; obtain ⟨r0, r1, r2, r3, r4, r5, r6, r7⟩ := hz2.c; have f0 := hz2.f 0; have f1 := hz2.f 1; have f2 := hz2.f 2; have f3 := hz2.f 3; have f4 := hz2.f 4; have f5 := hz2.f 5; have f6 := hz2.f 6; have f7 := hz2.f 7; have HE := Lib.hid (do_end (w := w) hz2 rfl (by omega) (below_th HO5.out hB6) (Nodes.own hown6) (rpE 0) (.slice none 0 0) (Nms.nil _) (fun g e => by cases e)); clear hz2 hown6 hB6))
  refine bodyPost_ret (results_do rfl _ _ rfl HE.out.1) rfl ?_
  exact HE.out.2
end
end Go.Proofs.YtkipkcmcolomcaaGreat.Pln
/- The call's own work, by what it is: a new file. -/
namespace Go.Proofs.YtkipkcmcolomcaaGreat.Pln
open Go.RowKit
open Dir (N nm DirP DirO addE addV bytesL)
open Pth (Strs)
set_option linter.unusedVariables false
set_option linter.unusedSimpArgs false
theorem do_of {W : World} {q base g now : Nat} {o : Except Int (List Nd)} {r : Pl} {gv : Value} {c : Cl} (h : Calls Tryz.prog 25 #[.pointer (some ⟨q, 0, none⟩), spV r gv, c.val] W (fun e w' => ∃ v, e = .returned v ∧ DwPost base q g now o W (.returned v) w')) :
    Calls Tryz.prog 25 #[.pointer (some ⟨q, 0, none⟩), spV r gv, c.val] W (DwPost base q g now o W) :=
  Calls.mono h fun e w' h => by
    obtain ⟨v, rfl, hp⟩ := h
    exact hp
theorem only2 {W W2 w' : World} {g q : Nat} (hB : Below W.heap.size W W2) (h : Only (fun i => i = g) W2 w') : Only (fun i => i = g ∨ i = q) W w' := (Only.of_below hB).trans (h.mono fun _ _ e => .inl e)
theorem set_app (l : List Nd) (i : Nat) (X Z : Nd) (h : i < l.length) : l.set i X ++ [Z] = (l ++ [Z]).set i X := by
  rw [List.set_append]
  simp [h]
theorem nodeO_val (c : Cl) (hm : c.op = 10 ∨ 0 ≤ c.mode) : (nodeO c).val = .agg #[.int .i64 (if c.op = 10 then 3 else if c.op = 2 then 2 else 1), .int .u16 (if c.op = 10 then 511 else c.mode), .int .u16 0, .int .u64 0, .string (if c.op = 10 then c.data else ⟨#[]⟩)] := by
  unfold nodeO
  by_cases h : c.op = 10
  · simp [h, Nd.val]
  · have h0 : 0 ≤ c.mode := hm.resolve_left h
    by_cases h2 : c.op = 2
    · simp [h, h2, Nd.val, Int.toNat_of_nonneg h0]
    · simp [h, h2, Nd.val, Int.toNat_of_nonneg h0]
theorem make_work {l : List Nd} {D : List (List N)} (hR : RightD l D) (W W0 : World) (hW0 : Below W.heap.size W W0) (base q g cap now : Nat) (r : Pl) (gv : Value) (n : Nd) (hb : base ≤ W.heap.size) (h : WkAt W base q g cap l now) {f : Bool} (hp : placeP l D f r) (h0 : r.ino = 0) :
    Calls Tryz.prog 50 #[.pointer (some ⟨q, 0, none⟩), spV r gv, n.val] W0 (fun e w' => ∃ v, e = .returned v ∧ DwPost base q g now (makeO l D r n now) W (.returned v) w') := by
  have hk := h.th hW0
  have hlo := hR.low
  have hhi := hR.high
  have hdk := none_dir hR hp h0
  have hdl : r.dir < l.length := (hR.big (zero_kind (n := nd l r.dir) (by rw [hdk]; decide))).2
  have hD : DirO (nd l r.dir).data (some (ds D r.dir)) := hR.dir r.dir hdl hdk
  have hds : (nd l r.dir).data.size ≤ 281474976710656 := by have := hD.2.2; omega
  have hnm : r.name.size ≤ 281474976710656 := by
    rcases hp.1 with e | e
    · rw [e] at h0; exact absurd h0 (by decide)
    · have := e.2.1.2.1; omega
  have hfl := fresh_le hlo
  have hfr : ¬ fresh l = r.dir := fun e => by
    have hz := fresh_zero hlo
    rw [e] at hz
    rw [hz] at hdk
    exact absurd hdk (by decide)
  have hb0 : base ≤ W0.heap.size := Nat.le_trans hb hW0.size
  unfold makeO
  by_cases h1 : 240 ≤ fresh l
  · rw [if_pos h1]
    refine Calls.mono (create_many W0 base q g cap now r gv n l hk hlo hhi (by omega)) fun e w' hx => ?_
    obtain ⟨rfl, hx⟩ := hx
    exact ⟨_, rfl, rfl, Only.of_below (below_th hW0 hx)⟩
  rw [if_neg h1]
  by_cases h2 : addE (ds D r.dir) r.name (fresh l) = 0
  · rw [if_neg (fun e => e h2)]
    have hadd : addV (ds D r.dir) r.name (fresh l) = bytesL (ds D r.dir ++ [⟨r.name, fresh l⟩]) := if_pos h2
    by_cases h3 : fresh l = l.length
    · refine Calls.mono (create_new W0 base q g cap now r gv n l (ds D r.dir) hb0 hk hlo (by omega) h3 hdl hnm hds hD h2) fun e w' hx => ?_
      obtain ⟨rfl, ⟨g', cap', hK⟩, hO⟩ := hx
      refine ⟨_, rfl, rfl, ⟨g', cap', ?_⟩, (Only.of_below hW0).trans hO⟩
      have : (l.set r.dir (dirN (nd l r.dir) (addV (ds D r.dir) r.name (fresh l)) now) ++ [Nd.zero]).set l.length ⟨n.kind, n.mode, 1, now, n.data⟩ = madeL l D r n now := by
        unfold madeL
        rw [hadd, if_pos h3, set_app _ _ _ _ hdl, h3]
        exact List.set_comm _ _ (by omega)
      rw [← this]
      exact hK
    · refine Calls.mono (create_old W0 base q g cap now r gv n l (ds D r.dir) hk hlo hhi (by omega) hdl hnm hds hD h2 (by omega)) fun e w' hx => ?_
      obtain ⟨rfl, hK, hO⟩ := hx
      refine ⟨_, rfl, rfl, ⟨g, cap, ?_⟩, only2 hW0 hO⟩
      have : (l.set r.dir (dirN (nd l r.dir) (addV (ds D r.dir) r.name (fresh l)) now)).set (fresh l) ⟨n.kind, n.mode, 1, now, n.data⟩ = madeL l D r n now := by
        unfold madeL
        rw [hadd, if_neg h3]
        exact List.set_comm _ _ (fun e => hfr e.symm)
      rw [← this]
      exact hK
  · rw [if_pos h2]
    refine Calls.mono (create_err W0 base q g cap now r gv n l (ds D r.dir) hk hlo hhi (by omega) hdl hnm hds hD h2) fun e w' hx => ?_
    obtain ⟨rfl, hx⟩ := hx
    exact ⟨_, rfl, rfl, only2 hW0 hx⟩
theorem dw_make {l : List Nd} {D : List (List N)} (hR : RightD l D) (W : World) (base q g cap now : Nat) (r : Pl) (gv : Value) (c : Cl) (hop : c.op = 1 ∨ c.op = 2 ∨ c.op = 10) (hf : fitsP c) (hb : base ≤ W.heap.size) (h : WkAt W base q g cap l now) {f : Bool} (hp : placeP l D f r) (h0 : r.ino = 0) :
    Calls Tryz.prog 25 #[.pointer (some ⟨q, 0, none⟩), spV r gv, c.val] W (DwPost base q g now (makeO l D r (nodeO c) now) W) := by
  have hB := below_al (below_new W (spO r gv)) (clO c)
  have hw := make_work hR W _ hB base q g cap now r gv (nodeO c) hb h hp h0
  have hm : c.op = 10 ∨ (0 ≤ c.mode ∧ c.mode ≤ 4095) := by
    rcases hop with e | e | e
    · unfold fitsP at hf; rw [if_pos (.inl e)] at hf; exact .inr hf
    · unfold fitsP at hf; rw [if_pos (.inr (.inl e))] at hf; exact .inr hf
    · exact .inl e
  rw [nodeO_val c (hm.imp (fun e => e) (fun e => e.1))] at hw
  have hwr : (c.op = 10 ∨ (0 ≤ c.mode ∧ c.mode ≤ 4095)) → ¬ c.op = 10 → IntKind.u16.wrap c.mode = c.mode := fun e e2 => by
    have := e.resolve_left e2
    rw [IntKind.wrap_u16]; omega
  apply do_of
  rcases hop with e | e | e
  · have e1 : ¬ c.op = 10 := by omega
    have e2 : ¬ c.op = 2 := by omega
    rw [if_neg e1, if_neg e2, if_neg e1, if_neg e1] at hw
    exact do_1 W q r gv c e (hwr hm e1) _ hw
  · have e1 : ¬ c.op = 10 := by omega
    rw [if_neg e1, if_pos e, if_neg e1, if_neg e1] at hw
    exact do_2 W q r gv c e (hwr hm e1) _ hw
  · rw [if_pos e, if_pos e, if_pos e] at hw
    exact do_10 W q r gv c e _ hw
end Go.Proofs.YtkipkcmcolomcaaGreat.Pln
/- The call's own work, by what it is: data, names, numbers. -/
namespace Go.Proofs.YtkipkcmcolomcaaGreat.Pln
open Go.RowKit
open Dir (N nm DirP DirO addE addV bytesL)
open Pth (Strs)
set_option linter.unusedVariables false
set_option linter.unusedSimpArgs false
theorem sizB_list (s : ByteArray) (o : Nat) : (sizB s o).data.toList = (s.data.toList ++ List.replicate (o - s.size) 0).take o := by
  unfold sizB zeros
  have hl : s.data.toList.length = s.size := Array.length_toList
  simp [ByteArray.data_append, ByteArray.data_extract, List.take_append]
theorem sizB_is (s : ByteArray) (o : Nat) : sizB s o = (s ++ zeros (o - s.size)).extract 0 o := by
  apply bext'
  rw [sizB_list, elist, alist, zlist, List.drop_zero, Nat.sub_zero]
theorem sizB_cut (s : ByteArray) (o : Nat) : sizB s o = (stood s o ⟨#[]⟩).extract 0 o := by
  apply bext'
  rw [sizB_list, cut_list]
theorem wriB_is (s d : ByteArray) (o : Nat) (hs : s.size ≤ 200000) : wriB s o d = stood s o d := by
  unfold wriB stood
  rw [sizB_is, ByteArray.append_assoc]
  congr 2
  by_cases h : o + d.size ≤ s.size
  · rw [show min (o + d.size) s.size = o + d.size by omega, show o + d.size + min 200000 (s.size - (o + d.size)) = s.size by omega]
  · have h1 : ∀ a b, s.size ≤ a → (s.extract a b).data.toList = [] := fun a b ha => by
      rw [elist, List.drop_of_length_le (by rw [slist]; exact ha), List.take_nil]
    apply bext'
    rw [h1 _ _ (by omega), h1 _ _ (by omega)]
theorem dw_write {l : List Nd} {D : List (List N)} (hR : RightD l D) (W : World) (base q g cap now : Nat) (r : Pl) (gv : Value) (c : Cl) (hop : c.op = 3) (hf : fitsP c) (hc : c.Ok) (hcd : c.data.size ≤ 281474976710656) (h : WkAt W base q g cap l now) (hi : r.ino < l.length) (hk : ¬ (nd l r.ino).kind = 2) (hz : (nd l r.ino).data.size ≤ 200000) :
    Calls Tryz.prog 25 #[.pointer (some ⟨q, 0, none⟩), spV r gv, c.val] W (DwPost base q g now (wriO l r.ino c now) W) := by
  have hB := below_al (below_new W (spO r gv)) (clO c)
  have h0 : 0 ≤ c.off := by
    unfold fitsP at hf
    rw [if_neg (by omega), if_neg (by omega), if_pos hop] at hf
    exact hf
  have hhi := hR.high
  have ho := hc.2.1
  obtain ⟨o, hoo⟩ := Int.eq_ofNat_of_zero_le h0
  apply do_of
  refine do_3 W q r gv c hop _ ?_
  rw [hoo]
  unfold wriO
  rw [hoo]
  by_cases h1 : 200000 < (o : Int) + c.data.size
  · rw [if_pos h1]
    refine Calls.mono (write_big _ q r.ino o c.data (by omega) hcd (by omega)) fun e w' hx => ?_
    obtain ⟨rfl, hx⟩ := hx
    exact ⟨_, rfl, rfl, Only.of_below (below_th hB hx)⟩
  rw [if_neg h1]
  by_cases h2 : c.data = ⟨#[]⟩
  · rw [if_pos h2, h2]
    refine Calls.mono (write_none _ q r.ino o (by omega)) fun e w' hx => ?_
    obtain ⟨rfl, hx⟩ := hx
    exact ⟨_, rfl, rfl, ⟨g, cap, (h.th hB).th hx⟩, Only.of_below (below_th hB hx)⟩
  · rw [if_neg h2]
    refine Calls.mono (write_call _ base q g cap r.ino now o c.data l (h.th hB) hi hhi (by omega) (by omega) h2) fun e w' hx => ?_
    obtain ⟨rfl, hK, hO⟩ := hx
    refine ⟨_, rfl, rfl, ⟨g, cap, ?_⟩, only2 hB hO⟩
    rw [wriB_is _ _ _ hz] at hK
    exact hK
theorem dw_trunc {l : List Nd} {D : List (List N)} (hR : RightD l D) (W : World) (base q g cap now : Nat) (r : Pl) (gv : Value) (c : Cl) (hop : c.op = 5) (hf : fitsP c) (h : WkAt W base q g cap l now) (hi : r.ino < l.length) (hz : (nd l r.ino).data.size ≤ 200000) :
    Calls Tryz.prog 25 #[.pointer (some ⟨q, 0, none⟩), spV r gv, c.val] W (DwPost base q g now (truO l r.ino c now) W) := by
  have hB := below_al (below_new W (spO r gv)) (clO c)
  have h0 : 0 ≤ c.n := by
    unfold fitsP at hf
    rw [if_neg (by omega), if_neg (by omega), if_neg (by omega), if_pos hop] at hf
    exact hf
  have hhi := hR.high
  apply do_of
  refine do_5 W q r gv c hop _ ?_
  unfold truO
  by_cases h1 : 200000 < c.n
  · rw [if_pos h1]
    refine Calls.mono (trunc_big _ q r.ino c.n h1) fun e w' hx => ?_
    obtain ⟨rfl, hx⟩ := hx
    exact ⟨_, rfl, rfl, Only.of_below (below_th hB hx)⟩
  · rw [if_neg h1]
    refine Calls.mono (trunc_call _ base q g cap r.ino now c.n l (h.th hB) hi hhi h0 (by omega) (by omega)) fun e w' hx => ?_
    obtain ⟨rfl, hK, hO⟩ := hx
    refine ⟨_, rfl, rfl, ⟨g, cap, ?_⟩, only2 hB hO⟩
    rw [sizB_cut] at hK
    exact hK
theorem dw_unlink {l : List Nd} {D : List (List N)} (hR : RightD l D) (W : World) (base q g cap now : Nat) (r : Pl) (gv : Value) (c : Cl) (hop : c.op = 6) (h : WkAt W base q g cap l now) {f : Bool} (hp : placeP l D f r) (h0 : ¬ r.ino = 0) (hk : ¬ (nd l r.ino).kind = 2) (hd : ¬ r.dir = 0) :
    Calls Tryz.prog 25 #[.pointer (some ⟨q, 0, none⟩), spV r gv, c.val] W (DwPost base q g now (.ok (dropD l D r now).1) W) := by
  obtain ⟨f0, f1, f2, f3⟩ := place_named hp h0 hd
  have hdl := (named_dir hR hp h0 hd).1
  have hpb := place_big hR hp h0
  have hD : DirO (nd l r.dir).data (some (ds D r.dir)) := hR.dir r.dir hdl f0
  have hone := (hR.one r.ino hpb.2.2).resolve_left hpb.1
  have hne : ¬ r.ino = r.dir := fun e => hk (by rw [e]; exact f0)
  refine Calls.mono (do_6 W base q g cap now r gv c hop l (ds D r.dir) h hR.high hpb.2.2 hdl (by have := f3.2.1; omega) (by have := hD.2.2; omega) hD hne hone.2.2.1 (by have := hone.2.2.2.1; omega)) fun e w' hx => ?_
  obtain ⟨rfl, hK, hO⟩ := hx
  refine ⟨rfl, ⟨g, cap, ?_⟩, hO.mono fun _ _ e => .inl e⟩
  rw [out_drop hp h0 hd] at hK
  unfold dropD
  rw [List.set_comm _ _ (fun e => hne e)]
  exact hK
theorem dw_rmdir {l : List Nd} {D : List (List N)} (hR : RightD l D) (W : World) (base q g cap now : Nat) (r : Pl) (gv : Value) (c : Cl) (hop : c.op = 7) (h : WkAt W base q g cap l now) {f : Bool} (hp : placeP l D f r) (h0 : ¬ r.ino = 0) :
    Calls Tryz.prog 25 #[.pointer (some ⟨q, 0, none⟩), spV r gv, c.val] W (DwPost base q g now (rmdO l D r now) W) := by
  have hB := below_al (below_new W (spO r gv)) (clO c)
  have hpb := place_big hR hp h0
  have hroot := root_ino hR hp
  apply do_of
  refine do_7 W q r gv c hop _ ?_
  unfold rmdO
  by_cases hd : r.dir = 0
  · rw [if_pos hd]
    refine Calls.mono (rmdir_root _ q r gv (hroot.2 hd)) fun e w' hx => ?_
    obtain ⟨rfl, hx⟩ := hx
    exact ⟨_, rfl, rfl, Only.of_below (below_th hB hx)⟩
  rw [if_neg hd]
  have hp2 : ¬ r.ino = 2 := fun e => hd (hroot.1 e)
  by_cases h1 : (nd l r.ino).data = ⟨#[]⟩
  · rw [if_neg (fun e => e h1)]
    obtain ⟨f0, f1, f2, f3⟩ := place_named hp h0 hd
    have hdl := (named_dir hR hp h0 hd).1
    have hD : DirO (nd l r.dir).data (some (ds D r.dir)) := hR.dir r.dir hdl f0
    have hone := (hR.one r.ino hpb.2.2).resolve_left hpb.1
    have hne : ¬ r.ino = r.dir := fun e => by
      have := empty_leaf hR hpb.2.2 h1
      rw [e] at this
      rw [this] at f1
      exact absurd f1 (Nat.not_lt_zero _)
    refine Calls.mono (rmdir_call _ base q g cap now r gv l (ds D r.dir) (h.th hB) hR.high hp2 hpb.2.2 hdl h1 (by have := f3.2.1; omega) (by have := hD.2.2; omega) hD hne hone.2.2.1 (by have := hone.2.2.2.1; omega)) fun e w' hx => ?_
    obtain ⟨rfl, hK, hO⟩ := hx
    refine ⟨_, rfl, rfl, ⟨g, cap, ?_⟩, only2 hB hO⟩
    rw [out_drop hp h0 hd] at hK
    unfold dropD
    rw [List.set_comm _ _ (fun e => hne e)]
    exact hK
  · rw [if_pos h1]
    refine Calls.mono (rmdir_full _ base q g cap now r gv l (h.th hB) hR.high hp2 hpb.2.2 h1) fun e w' hx => ?_
    obtain ⟨rfl, hx⟩ := hx
    exact ⟨_, rfl, rfl, Only.of_below (below_th hB hx)⟩
theorem dw_of_mt {W W0 w' : World} {base q g cap now : Nat} {o : Except Int (List Nd)} {e : Ending} (hB : Below W.heap.size W W0) (h : MtPost base q g cap now o W0 e w') : ∃ v, e = .returned v ∧ DwPost base q g now o W (.returned v) w' := by
  cases o with
  | error n =>
    obtain ⟨rfl, hx⟩ := h
    exact ⟨_, rfl, rfl, only2 hB hx⟩
  | ok m =>
    obtain ⟨rfl, hK, hx⟩ := h
    exact ⟨_, rfl, rfl, ⟨g, cap, hK⟩, only2 hB hx⟩
theorem dw_ren {l : List Nd} {D : List (List N)} (hR : RightD l D) (W : World) (base q g cap now : Nat) (r : Pl) (gv : Value) (gg : List ByteArray) (c : Cl) (hop : c.op = 8) (h : WkAt W base q g cap l now) {f : Bool} (hp : placeP l D f r) (h0 : ¬ r.ino = 0) (hG : Gone D gg r) (hS : Strs W gv gg) (ht : c.to_.size ≤ 281474976710656) :
    Calls Tryz.prog 25 #[.pointer (some ⟨q, 0, none⟩), spV r gv, c.val] W (DwPost base q g now (renO l D r c.to_ now) W) := by
  have hB := below_al (below_new W (spO r gv)) (clO c)
  apply do_of
  refine do_8 W q r gv c hop _ ?_
  exact Calls.mono (rename_call hR _ base q g cap now r gv gg c.to_ (h.th hB) hp h0 hG (hS.below hB) ht) fun e w' hx => dw_of_mt hB hx
theorem dw_link {l : List Nd} {D : List (List N)} (hR : RightD l D) (W : World) (base q g cap now : Nat) (r : Pl) (gv : Value) (c : Cl) (hop : c.op = 9) (h : WkAt W base q g cap l now) (hi : r.ino < l.length) (hk : ¬ (nd l r.ino).kind = 2) (hl : (nd l r.ino).links ≤ 1000) (ht : c.to_.size ≤ 281474976710656) :
    Calls Tryz.prog 25 #[.pointer (some ⟨q, 0, none⟩), spV r gv, c.val] W (DwPost base q g now (linksO l D r.ino c.to_ now) W) := by
  have hB := below_al (below_new W (spO r gv)) (clO c)
  apply do_of
  refine do_9 W q r gv c hop _ ?_
  exact Calls.mono (link_call hR _ base q g cap now r.ino c.to_ (h.th hB) hi hk ht hl) fun e w' hx => dw_of_mt hB hx
theorem dw_set {l : List Nd} (W : World) (base q g cap now : Nat) (r : Pl) (gv : Value) (c : Cl) (hop : c.op = 14 ∨ c.op = 15) (hf : fitsP c) (h : WkAt W base q g cap l now) (hl : l.length ≤ 240) (hi : r.ino < l.length) :
    Calls Tryz.prog 25 #[.pointer (some ⟨q, 0, none⟩), spV r gv, c.val] W (DwPost base q g now (.ok (l.set r.ino (if c.op = 15 then { nd l r.ino with time := c.n.toNat } else { nd l r.ino with mode := c.mode.toNat }))) W) := by
  unfold fitsP at hf
  rcases hop with e | e
  · rw [if_pos (.inr (.inr e))] at hf
    rw [if_neg (by omega)]
    refine Calls.mono (do_14 W base q g cap now r gv c e l h hl hi hf.1 hf.2) fun e w' hx => ?_
    obtain ⟨rfl, hK, hO⟩ := hx
    exact ⟨rfl, ⟨g, cap, hK⟩, hO.mono fun _ _ e => .inl e⟩
  · rw [if_neg (by omega), if_neg (by omega), if_neg (by omega), if_neg (by omega), if_neg (by omega), if_pos e] at hf
    rw [if_pos e]
    refine Calls.mono (do_15 W base q g cap now r gv c e l h hl hi hf.1 hf.2) fun e w' hx => ?_
    obtain ⟨rfl, hK, hO⟩ := hx
    exact ⟨rfl, ⟨g, cap, hK⟩, hO.mono fun _ _ e => .inl e⟩
end Go.Proofs.YtkipkcmcolomcaaGreat.Pln
