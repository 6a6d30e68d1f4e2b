/- Several texts in one, each under its own heading. -/
import Derived.Test.YtkipkcmcolomcaaGreatPk24
import Derived.Test.YtkipkcmcolomcaaGreatPk21
import Derived.Test.YtkipkcmcolomcaaGreatPk17
import Derived.Test.YtkipkcmcolomcaaGreatPk09
import Derived.Test.YtkipkcmcolomcaaGreatPk08
/- told: what a call that asks answers. -/
namespace Go.Proofs.YtkipkcmcolomcaaGreat.Pln
open Go.RowKit
open Dir (N nm DirP DirO SortP Nms ListNew)
attribute [local go_sem] Oper.semAt_some
set_option linter.unusedVariables false
set_option linter.unusedSimpArgs false
/-- what is answered, its names in new memory -/
def TellPost (r : Rp) (w : World) (e : Ending) (w' : World) : Prop := ∃ u, e = .returned (r.val u) ∧ Nms w' u r.names ∧ Below w.heap.size w w' ∧ ∀ g, u.ownBlock = some g → w.heap.size ≤ g
def rpZ : Obj := .cells #[.int .i64 0, .string ⟨#[]⟩, .slice none 0 0, .int .i64 0, .int .u16 0, .int .u16 0, .int .i64 0, .int .u64 0] 36
theorem RpAt.newZ (w : World) : RpAt (w.alloc rpZ) w.heap.size (rpE 0) (.slice none 0 0) := World.alloc_heap_new w _
theorem RpAt.below8 {W : World} {b n : Nat} {r0 : Rp} {u0 : Value} {w : World} (h : RpAt W b r0 u0) (hB : Below n w W) (hb : n ≤ b) (r : Rp) (u : Value) : RpAt ((((((((W.setCell ⟨b, 0, none⟩ (.int .i64 r.code)).setCell ⟨b, 1, none⟩ (.string r.data)).setCell ⟨b, 2, none⟩ u).setCell ⟨b, 3, none⟩ (.int .i64 r.stat.kind)).setCell ⟨b, 4, none⟩ (.int .u16 r.stat.mode)).setCell ⟨b, 5, none⟩ (.int .u16 r.stat.links)).setCell ⟨b, 6, none⟩ (.int .i64 r.stat.size)).setCell ⟨b, 7, none⟩ (.int .u64 r.stat.time)) b r u ∧
    Below n w ((((((((W.setCell ⟨b, 0, none⟩ (.int .i64 r.code)).setCell ⟨b, 1, none⟩ (.string r.data)).setCell ⟨b, 2, none⟩ u).setCell ⟨b, 3, none⟩ (.int .i64 r.stat.kind)).setCell ⟨b, 4, none⟩ (.int .u16 r.stat.mode)).setCell ⟨b, 5, none⟩ (.int .u16 r.stat.links)).setCell ⟨b, 6, none⟩ (.int .i64 r.stat.size)).setCell ⟨b, 7, none⟩ (.int .u64 r.stat.time)) := ⟨(h.put8 r u).1, below_set8 hB hb _ _ _ _ _ _ _ _⟩
theorem set8_other (W : World) (b k : Nat) (h : k ≠ b) (u0 u1 u2 u3 u4 u5 u6 u7 : Value) : ((((((((W.setCell ⟨b, 0, none⟩ u0).setCell ⟨b, 1, none⟩ u1).setCell ⟨b, 2, none⟩ u2).setCell ⟨b, 3, none⟩ u3).setCell ⟨b, 4, none⟩ u4).setCell ⟨b, 5, none⟩ u5).setCell ⟨b, 6, none⟩ u6).setCell ⟨b, 7, none⟩ u7).heap[k]? = W.heap[k]? := by
  rw [Below.heap_setCell _ _ _ _ h, Below.heap_setCell _ _ _ _ h, Below.heap_setCell _ _ _ _ h, Below.heap_setCell _ _ _ _ h, Below.heap_setCell _ _ _ _ h, Below.heap_setCell _ _ _ _ h, Below.heap_setCell _ _ _ _ h, Below.heap_setCell _ _ _ _ h]
section
set_option maxRecDepth 100000
set_option maxHeartbeats 4000000
theorem told_4 (w : World) (n : Nd) (c : Cl) (hop : c.op = 4) (h0 : 0 ≤ c.off) (h1 : 0 ≤ c.n) (hc : c.Ok) (hs : n.data.size ≤ 281474976710656) :
    Calls Tryz.prog 23 #[n.val, c.val] w (TellPost ⟨0, readOf n.data c.off.toNat c.n.toNat, [], St.zero⟩ w) := by
  have hB0 := below_al (below_new w (boxO n)) (clO c)
  have hat := (At.new w n).th (below_new _ (clO c))
  have hcl := ClAt.new (w.alloc (boxO n)) c
  rw [World.size_alloc] at hcl
  have hrp := RpAt.newZ ((w.alloc (boxO n)).alloc (clO c))
  rw [World.size_alloc, World.size_alloc] at hrp
  have hB := below_al hB0 rpZ
  have HW : Hid (∀ W, Below (((w.alloc (boxO n)).alloc (clO c)).alloc rpZ).heap.size (((w.alloc (boxO n)).alloc (clO c)).alloc rpZ) W → At W w.heap.size n ∧ ClAt W (w.heap.size + 1) c ∧ RpAt W (w.heap.size + 1 + 1) (rpE 0) (.slice none 0 0) ∧ Below w.heap.size w W) := fun W hO =>
    ⟨(hat.th (below_new _ rpZ)).th hO, (hcl.th (below_new _ rpZ)).th hO, hrp.th hO, below_th hB hO⟩
  have hself : Below (((w.alloc (boxO n)).alloc (clO c)).alloc rpZ).heap.size (((w.alloc (boxO n)).alloc (clO c)).alloc rpZ) (((w.alloc (boxO n)).alloc (clO c)).alloc rpZ) := Below.refl _ _
  have hz := HW.out _ hself
  obtain ⟨n0, n1, n2, n3, n4⟩ := hz.1.c
  obtain ⟨c0, c1, c2, c3, c4, c5, c6⟩ := hz.2.1.c
  obtain ⟨r0, r1, r2, r3, r4, r5, r6, r7⟩ := hz.2.2.1.c
  have rf := hz.2.2.1.f
  clear hz hat hcl hrp hB0 hB
  have HP := Lib.hid (fun W => piece_any n.data c.off.toNat c.n.toNat W hs (by have := hc.2.1; omega) (by have := hc.2.2.1; omega))
  rw [Int.toNat_of_nonneg h0, Int.toNat_of_nonneg h1] at HP
  have hrd : n.data.extract (min c.off.toNat n.data.size) (min c.off.toNat n.data.size + min c.n.toNat (n.data.size - min c.off.toNat n.data.size)) = readOf n.data c.off.toNat c.n.toNat := rfl
  rw [hrd] at HP
  have hrs : (readOf n.data c.off.toNat c.n.toNat).size ≤ 281474976710656 := by unfold readOf; rw [ByteArray.size_extract]; omega
  have HCL := Lib.hid (fun W => Pth.clone_any (readOf n.data c.off.toNat c.n.toNat) W hrs)
  unfold Nam.Ans at HCL
  generalize readOf n.data c.off.toNat c.n.toNat = rd at *
  clear hrd hrs hs h0 h1 hc
  unfold boxO clO rpZ at *
  unfold Nd.val Cl.val TellPost
  obtain ⟨nk, nm, nl, nt, ndt⟩ := n
  obtain ⟨op, path, to_, data, off, cn, mode⟩ := c
  dsimp only at *
  subst hop
  go_enter Tryz.func23, Tryz.ntmps23
  go_wp2_with (first
    | (go_at_call 48; (with_reducible refine Calls.mono (HP.out _) ?_); rintro e w0 ⟨rfl, rfl⟩)
    | (go_at_call 47; (with_reducible refine Calls.mono (HCL.out _) ?_); rintro e w1 ⟨rfl, hB1⟩; have hzz := HW.out _ hB1; obtain ⟨r0, r1, r2, r3, r4, r5, r6, r7⟩ := hzz.2.2.1.c; have f0 := hzz.2.2.1.f 0; have f1 := hzz.2.2.1.f 1; have f2 := hzz.2.2.1.f 2; have f3 := hzz.2.2.1.f 3; have f4 := hzz.2.2.1.f 4; have f5 := hzz.2.2.1.f 5; have f6 := hzz.2.2.1.f 6; have f7 := hzz.2.2.1.f 7; have HZ := Lib.hid (hzz.2.2.1.below8 hzz.2.2.2 (by omega) ⟨0, rd, [], St.zero⟩ (.slice none 0 0)); clear hzz))
  refine bodyPost_ret (results_rp rfl _ _ rfl HZ.out.1) rfl ?_
  exact ⟨_, rfl, Dir.Nms.nil _, HZ.out.2, fun g e => by cases e⟩
theorem told_11 (w : World) (n : Nd) (c : Cl) (hop : c.op = 11) (hs : n.data.size ≤ 281474976710656) :
    Calls Tryz.prog 23 #[n.val, c.val] w (TellPost ⟨0, n.data, [], St.zero⟩ w) := by
  have hB0 := below_al (below_new w (boxO n)) (clO c)
  have hat := (At.new w n).th (below_new _ (clO c))
  have hcl := ClAt.new (w.alloc (boxO n)) c
  rw [World.size_alloc] at hcl
  have hrp := RpAt.newZ ((w.alloc (boxO n)).alloc (clO c))
  rw [World.size_alloc, World.size_alloc] at hrp
  have hB := below_al hB0 rpZ
  have HW : Hid (∀ W, Below (((w.alloc (boxO n)).alloc (clO c)).alloc rpZ).heap.size (((w.alloc (boxO n)).alloc (clO c)).alloc rpZ) W → At W w.heap.size n ∧ ClAt W (w.heap.size + 1) c ∧ RpAt W (w.heap.size + 1 + 1) (rpE 0) (.slice none 0 0) ∧ Below w.heap.size w W) := fun W hO =>
    ⟨(hat.th (below_new _ rpZ)).th hO, (hcl.th (below_new _ rpZ)).th hO, hrp.th hO, below_th hB hO⟩
  have hself : Below (((w.alloc (boxO n)).alloc (clO c)).alloc rpZ).heap.size (((w.alloc (boxO n)).alloc (clO c)).alloc rpZ) (((w.alloc (boxO n)).alloc (clO c)).alloc rpZ) := Below.refl _ _
  have hz := HW.out _ hself
  obtain ⟨n0, n1, n2, n3, n4⟩ := hz.1.c
  obtain ⟨c0, c1, c2, c3, c4, c5, c6⟩ := hz.2.1.c
  obtain ⟨r0, r1, r2, r3, r4, r5, r6, r7⟩ := hz.2.2.1.c
  have rf := hz.2.2.1.f
  clear hz hat hcl hrp hB0 hB
  have HCL := Lib.hid (fun W => Pth.clone_any n.data W hs)
  unfold Nam.Ans at HCL
  clear hs
  unfold boxO clO rpZ at *
  unfold Nd.val Cl.val TellPost
  obtain ⟨nk, nm, nl, nt, ndt⟩ := n
  obtain ⟨op, path, to_, data, off, cn, mode⟩ := c
  dsimp only at *
  subst hop
  go_enter Tryz.func23, Tryz.ntmps23
  go_wp2_with (first
    | (go_at_call 47; (with_reducible refine Calls.mono (HCL.out _) ?_); rintro e w1 ⟨rfl, hB1⟩; have hzz := HW.out _ hB1; obtain ⟨r0, r1, r2, r3, r4, r5, r6, r7⟩ := hzz.2.2.1.c; have f0 := hzz.2.2.1.f 0; have f1 := hzz.2.2.1.f 1; have f2 := hzz.2.2.1.f 2; have f3 := hzz.2.2.1.f 3; have f4 := hzz.2.2.1.f 4; have f5 := hzz.2.2.1.f 5; have f6 := hzz.2.2.1.f 6; have f7 := hzz.2.2.1.f 7; have HZ := Lib.hid (hzz.2.2.1.below8 hzz.2.2.2 (by omega) ⟨0, ndt, [], St.zero⟩ (.slice none 0 0)); clear hzz))
  refine bodyPost_ret (results_rp rfl _ _ rfl HZ.out.1) rfl ?_
  exact ⟨_, rfl, Dir.Nms.nil _, HZ.out.2, fun g e => by cases e⟩
theorem told_12 (w : World) (n : Nd) (c : Cl) (hop : c.op = 12) :
    Calls Tryz.prog 23 #[n.val, c.val] w (TellPost ⟨0, ⟨#[]⟩, [], ⟨n.kind, n.mode, n.links, n.data.size, n.time⟩⟩ w) := by
  have hB0 := below_al (below_new w (boxO n)) (clO c)
  have hat := (At.new w n).th (below_new _ (clO c))
  have hcl := ClAt.new (w.alloc (boxO n)) c
  rw [World.size_alloc] at hcl
  have hrp := RpAt.newZ ((w.alloc (boxO n)).alloc (clO c))
  rw [World.size_alloc, World.size_alloc] at hrp
  have hB := below_al hB0 rpZ
  have HW : Hid (∀ W, Below (((w.alloc (boxO n)).alloc (clO c)).alloc rpZ).heap.size (((w.alloc (boxO n)).alloc (clO c)).alloc rpZ) W → At W w.heap.size n ∧ ClAt W (w.heap.size + 1) c ∧ RpAt W (w.heap.size + 1 + 1) (rpE 0) (.slice none 0 0) ∧ Below w.heap.size w W) := fun W hO =>
    ⟨(hat.th (below_new _ rpZ)).th hO, (hcl.th (below_new _ rpZ)).th hO, hrp.th hO, below_th hB hO⟩
  have hself : Below (((w.alloc (boxO n)).alloc (clO c)).alloc rpZ).heap.size (((w.alloc (boxO n)).alloc (clO c)).alloc rpZ) (((w.alloc (boxO n)).alloc (clO c)).alloc rpZ) := Below.refl _ _
  have hz := HW.out _ hself
  obtain ⟨n0, n1, n2, n3, n4⟩ := hz.1.c
  obtain ⟨c0, c1, c2, c3, c4, c5, c6⟩ := hz.2.1.c
  obtain ⟨r0, r1, r2, r3, r4, r5, r6, r7⟩ := hz.2.2.1.c
  have rf := hz.2.2.1.f
  clear hz hat hcl hrp hB0 hB
  have hzz := HW.out _ hself
  have hNW := RpAt.new ((w.alloc (boxO n)).alloc (clO c)) ⟨0, ⟨#[]⟩, [], ⟨n.kind, n.mode, n.links, n.data.size, n.time⟩⟩ (.slice none 0 0)
  rw [World.size_alloc, World.size_alloc] at hNW
  have HZ := Lib.hid (And.intro hNW (below_al (below_al (below_new w (boxO n)) (clO c)) (rpBox ⟨0, ⟨#[]⟩, [], ⟨n.kind, n.mode, n.links, n.data.size, n.time⟩⟩ (.slice none 0 0))))
  unfold rpBox at HZ
  clear hzz hNW
  have f0 := rf 0
  have f1 := rf 1
  have f2 := rf 2
  have f3 := rf 3
  have f4 := rf 4
  have f5 := rf 5
  have f6 := rf 6
  have f7 := rf 7
  unfold boxO clO rpZ at *
  unfold Nd.val Cl.val TellPost
  obtain ⟨nk, nm, nl, nt, ndt⟩ := n
  obtain ⟨op, path, to_, data, off, cn, mode⟩ := c
  dsimp only at *
  subst hop
  go_enter Tryz.func23, Tryz.ntmps23
  go_wp2_with (fail)
  refine bodyPost_ret (results_rp rfl _ _ rfl HZ.out.1) rfl ?_
  exact ⟨_, rfl, Dir.Nms.nil _, HZ.out.2, fun g e => by cases e⟩
theorem told_13 (w : World) (n : Nd) (c : Cl) (L : List N) (hop : c.op = 13) (hD : DirP n.data L) :
    Calls Tryz.prog 23 #[n.val, c.val] w (TellPost ⟨0, ⟨#[]⟩, srt L, St.zero⟩ w) := by
  have hB0 := below_al (below_new w (boxO n)) (clO c)
  have hat := (At.new w n).th (below_new _ (clO c))
  have hcl := ClAt.new (w.alloc (boxO n)) c
  rw [World.size_alloc] at hcl
  have hrp := RpAt.newZ ((w.alloc (boxO n)).alloc (clO c))
  rw [World.size_alloc, World.size_alloc] at hrp
  have hB := below_al hB0 rpZ
  have HW : Hid (∀ W, Below (((w.alloc (boxO n)).alloc (clO c)).alloc rpZ).heap.size (((w.alloc (boxO n)).alloc (clO c)).alloc rpZ) W → At W w.heap.size n ∧ ClAt W (w.heap.size + 1) c ∧ RpAt W (w.heap.size + 1 + 1) (rpE 0) (.slice none 0 0) ∧ Below w.heap.size w W) := fun W hO =>
    ⟨(hat.th (below_new _ rpZ)).th hO, (hcl.th (below_new _ rpZ)).th hO, hrp.th hO, below_th hB hO⟩
  have hself : Below (((w.alloc (boxO n)).alloc (clO c)).alloc rpZ).heap.size (((w.alloc (boxO n)).alloc (clO c)).alloc rpZ) (((w.alloc (boxO n)).alloc (clO c)).alloc rpZ) := Below.refl _ _
  have hz := HW.out _ hself
  obtain ⟨n0, n1, n2, n3, n4⟩ := hz.1.c
  obtain ⟨c0, c1, c2, c3, c4, c5, c6⟩ := hz.2.1.c
  obtain ⟨r0, r1, r2, r3, r4, r5, r6, r7⟩ := hz.2.2.1.c
  have rf := hz.2.2.1.f
  clear hz hat hcl hrp hB0 hB
  have HLI := Lib.hid (fun W => Dir.list_new n.data (some L) W (by have := hD.2.2; omega) hD)
  have HU : Hid (∀ M, SortP L M → M = srt L) := fun M h => h.unique (srt_up hD.1)
  unfold Dir.ListNew at HLI
  dsimp only at HLI
  clear hD
  unfold boxO clO rpZ at *
  unfold Nd.val Cl.val TellPost
  obtain ⟨nk, nm, nl, nt, ndt⟩ := n
  obtain ⟨op, path, to_, data, off, cn, mode⟩ := c
  dsimp only at *
  subst hop
  go_enter Tryz.func23, Tryz.ntmps23
  go_wp2_with (first
    | (go_at_call 49; (with_reducible refine Calls.mono (HLI.out _) ?_); rintro e w1 ⟨u1, M, rfl, hM, hN1, hB1, hnew⟩; have hMs := HU.out M hM; subst hMs; obtain ⟨ua, uc, rfl, _, _⟩ := hN1.parts; have hzz := HW.out _ hB1; obtain ⟨r0, r1, r2, r3, r4, r5, r6, r7⟩ := hzz.2.2.1.c; have f0 := hzz.2.2.1.f 0; have f1 := hzz.2.2.1.f 1; have f2 := hzz.2.2.1.f 2; have f3 := hzz.2.2.1.f 3; have f4 := hzz.2.2.1.f 4; have f5 := hzz.2.2.1.f 5; have f6 := hzz.2.2.1.f 6; have f7 := hzz.2.2.1.f 7; have HZ := Lib.hid (hzz.2.2.1.below8 hzz.2.2.2 (by omega) ⟨0, ⟨#[]⟩, srt L, St.zero⟩ (.slice ua (srt L).length uc)); have HNW := Lib.hid (And.intro hN1 hnew); clear hzz hN1 hnew))
  refine bodyPost_ret (results_rp rfl _ _ rfl HZ.out.1) rfl ?_
  refine ⟨_, rfl, HNW.out.1.keep (fun g o k c e hk => ?_), HZ.out.2, fun g e => ?_⟩
  · have h1 := HNW.out.2 g (by rw [e]; rfl)
    rw [World.size_alloc, World.size_alloc, World.size_alloc] at h1
    exact set8_other _ _ _ (by omega) _ _ _ _ _ _ _ _
  · have h1 := HNW.out.2 g e
    rw [World.size_alloc, World.size_alloc, World.size_alloc] at h1
    omega
end
end Go.Proofs.YtkipkcmcolomcaaGreat.Pln
/- The work of a call in memory: files in a row of their own, and the time. -/
namespace Go.Proofs.YtkipkcmcolomcaaGreat.Pln
open Go.RowKit
attribute [local go_sem] Oper.semAt_some
set_option linter.unusedVariables false
set_option linter.unusedSimpArgs false
theorem own_th {w w' : World} {base n sz : Nat} {t : TypeId} {v : Value} {xs : List Value} (h : w.ownsRow base t sz v n xs) (hB : Below w.heap.size w w') : w'.ownsRow base t sz v n xs :=
  h.kept (show w.grownBy w' none from ⟨hB.os, hB.tape, hB.output, hB.size, fun k hk _ => hB.block k hk⟩) (by cases hv : v.ownBlock <;> simp)
/-- the work lies at block q: its files at block g, and the time -/
structure WkAt (W : World) (base q g cap : Nat) (l : List Nd) (now : Nat) : Prop where
  box : W.heap[q]? = some (.cells #[.slice (some ⟨g, 0, none⟩) l.length cap, .int .u64 now] 63 (0, 0))
  row : W.ownsRow base 46 5 (.slice (some ⟨g, 0, none⟩) l.length cap) l.length (cellsL l)
theorem WkAt.lt {W : World} {base q g cap now : Nat} {l : List Nd} (h : WkAt W base q g cap l now) : q < W.heap.size := (Array.getElem?_eq_some_iff.1 h.box).1
theorem WkAt.g {W : World} {base q g cap now : Nat} {l : List Nd} (h : WkAt W base q g cap l now) : (∃ cur, W.heap[g]? = some (.cells cur 46 (0, 0))) ∧ g < W.heap.size ∧ base ≤ g := by
  rcases h.row.2 with ⟨hv, _⟩ | ⟨g', cap', cur, hv, hb, hg, hn, hm, hs, ht⟩
  · cases hv
  · injection hv with e1 e2 e3
    injection e1 with e1
    injection e1 with e1 _ _
    subst e1
    exact ⟨⟨cur, hg⟩, (Array.getElem?_eq_some_iff.1 hg).1, hb⟩
theorem WkAt.ne {W : World} {base q g cap now : Nat} {l : List Nd} (h : WkAt W base q g cap l now) : ¬ q = g := fun e => by
  obtain ⟨cur, hg⟩ := h.g.1
  rw [← e, h.box] at hg
  injection hg with hg
  injection hg with _ h1 _
  exact absurd h1 (by decide)
theorem WkAt.cap {W : World} {base q g cap now : Nat} {l : List Nd} (h : WkAt W base q g cap l now) : l.length ≤ cap ∧ cap ≤ 9223372036854775807 := by
  obtain ⟨a, cap', hv, h1, h2⟩ := (Nodes.own h.row).parts
  cases hv
  exact ⟨h1, h2⟩
theorem WkAt.c {W : World} {base q g cap now : Nat} {l : List Nd} (h : WkAt W base q g cap l now) : W.cell? ⟨q, 0, none⟩ = some (.slice (some ⟨g, 0, none⟩) l.length cap) ∧ W.cell? ⟨q, 1, none⟩ = some (.int .u64 now) := by
  have hb := h.box
  simp only [World.cell?, hb]
  exact ⟨rfl, rfl⟩
theorem WkAt.th {W W' : World} {base q g cap now : Nat} {l : List Nd} (h : WkAt W base q g cap l now) (hB : Below W.heap.size W W') : WkAt W' base q g cap l now :=
  ⟨(hB.block q h.lt).trans h.box, own_th h.row hB⟩
theorem WkAt.nodes {W : World} {base q g cap now : Nat} {l : List Nd} (h : WkAt W base q g cap l now) : Nodes W (.slice (some ⟨g, 0, none⟩) l.length cap) l := Nodes.own h.row
theorem WkAt.at {W : World} {base q g cap now : Nat} {l : List Nd} (h : WkAt W base q g cap l now) {i : Nat} (hi : i < l.length) : Reads W g (i * 5) (nd l i) := by
  have := h.nodes.get rfl hi
  rwa [Nat.zero_add] at this
theorem WkAt.put {W W' : World} {base q g cap now : Nat} {l l' : List Nd} (h : WkAt W base q g cap l now) (hr : W'.ownsRow base 46 5 (.slice (some ⟨g, 0, none⟩) l.length cap) l.length (cellsL l')) (hl : l'.length = l.length) (hO : ∀ k, ¬ k = g → W'.heap[k]? = W.heap[k]?) : WkAt W' base q g cap l' now := by
  refine ⟨?_, by rw [hl]; exact hr⟩
  rw [hl, hO q h.ne]
  exact h.box
theorem only_set (W : World) (g j : Nat) (u : Value) : Only (fun i => i = g) W (W.setCell ⟨g, j, none⟩ u) := (Only.refl (fun i => i = g) W).setCell (p := ⟨g, j, none⟩) (.inr rfl) u
theorem WkAt.drew {W : World} {base q g cap now : Nat} {l : List Nd} (h : WkAt W base q g cap l now) : WkAt W.drew base q g cap l now := ⟨h.box, World.ownsRow.drew h.row⟩
/-- one part of one file is laid over -/
theorem WkAt.mode {W : World} {base q g cap now : Nat} {l : List Nd} (h : WkAt W base q g cap l now) {i : Nat} (hi : i < l.length) (s : Nat) :
    (∃ u, W.cell? ⟨g, i * 5 + 1, none⟩ = some u) ∧ W.frozen? ⟨g, i * 5 + 1, none⟩ = false ∧ WkAt (W.setCell ⟨g, i * 5 + 1, none⟩ (.int .u16 s)) base q g cap (l.set i { nd l i with mode := s }) now ∧ Only (fun i => i = g) W (W.setCell ⟨g, i * 5 + 1, none⟩ (.int .u16 s)) := by
  obtain ⟨h1, h2, h3, _⟩ := own_mode rfl h.row hi s
  exact ⟨h1, h2, h.put h3 List.length_set fun k hk => Below.heap_setCell _ _ _ _ hk, only_set _ _ _ _⟩
theorem WkAt.links {W : World} {base q g cap now : Nat} {l : List Nd} (h : WkAt W base q g cap l now) {i : Nat} (hi : i < l.length) (s : Nat) :
    (∃ u, W.cell? ⟨g, i * 5 + 2, none⟩ = some u) ∧ W.frozen? ⟨g, i * 5 + 2, none⟩ = false ∧ WkAt (W.setCell ⟨g, i * 5 + 2, none⟩ (.int .u16 s)) base q g cap (l.set i { nd l i with links := s }) now ∧ Only (fun i => i = g) W (W.setCell ⟨g, i * 5 + 2, none⟩ (.int .u16 s)) := by
  obtain ⟨h1, h2, h3, _⟩ := own_links rfl h.row hi s
  exact ⟨h1, h2, h.put h3 List.length_set fun k hk => Below.heap_setCell _ _ _ _ hk, only_set _ _ _ _⟩
theorem WkAt.time {W : World} {base q g cap now : Nat} {l : List Nd} (h : WkAt W base q g cap l now) {i : Nat} (hi : i < l.length) (s : Nat) :
    (∃ u, W.cell? ⟨g, i * 5 + 3, none⟩ = some u) ∧ W.frozen? ⟨g, i * 5 + 3, none⟩ = false ∧ WkAt (W.setCell ⟨g, i * 5 + 3, none⟩ (.int .u64 s)) base q g cap (l.set i { nd l i with time := s }) now ∧ Only (fun i => i = g) W (W.setCell ⟨g, i * 5 + 3, none⟩ (.int .u64 s)) := by
  obtain ⟨h1, h2, h3, _⟩ := own_time rfl h.row hi s
  exact ⟨h1, h2, h.put h3 List.length_set fun k hk => Below.heap_setCell _ _ _ _ hk, only_set _ _ _ _⟩
theorem WkAt.data {W : World} {base q g cap now : Nat} {l : List Nd} (h : WkAt W base q g cap l now) {i : Nat} (hi : i < l.length) (s : ByteArray) :
    (∃ u, W.cell? ⟨g, i * 5 + 4, none⟩ = some u) ∧ W.frozen? ⟨g, i * 5 + 4, none⟩ = false ∧ WkAt (W.setCell ⟨g, i * 5 + 4, none⟩ (.string s)) base q g cap (l.set i { nd l i with data := s }) now ∧ Only (fun i => i = g) W (W.setCell ⟨g, i * 5 + 4, none⟩ (.string s)) := by
  obtain ⟨h1, h2, h3, _⟩ := own_data rfl h.row hi s
  exact ⟨h1, h2, h.put h3 List.length_set fun k hk => Below.heap_setCell _ _ _ _ hk, only_set _ _ _ _⟩
/-- what a piece of work leaves: the files anew, and new blocks -/
def WkPost (base q g cap : Nat) (l : List Nd) (now : Nat) (v : Value) (w : World) (e : Ending) (w' : World) : Prop := e = .returned v ∧ WkAt w' base q g cap l now ∧ Only (fun i => i = g) w w'
section
set_option maxRecDepth 100000
set_option maxHeartbeats 4000000
theorem lose1_any (w : World) (base q g cap i now : Nat) (l : List Nd) (h : WkAt w base q g cap l now) (hi : i < l.length) (h1 : 1 ≤ (nd l i).links) (h2 : (nd l i).links < 65536) :
    Calls Tryz.prog 95 #[.pointer (some ⟨g, i * 5, none⟩)] w (WkPost base q g cap (l.set i { nd l i with links := (nd l i).links - 1 }) now (.tuple #[]) w) := by
  obtain ⟨c0, c1, c2, c3, c4⟩ := h.at hi
  obtain ⟨_, f2, hp, hO⟩ := h.links hi ((nd l i).links - 1)
  have hsub : IntKind.u16.wrap (((nd l i).links : Int) - 1) = (((nd l i).links - 1 : Nat) : Int) := by rw [IntKind.wrap_u16]; omega
  have HP := Lib.hid hp
  have HO := Lib.hid hO
  unfold WkPost
  generalize (nd l i).links - 1 = y at *
  go_enter Tryz.func95, Tryz.ntmps95
  go_wp2_with (fail)
  go_end0
  exact ⟨rfl, HP.out, HO.out⟩
theorem link1_any (w : World) (base q g cap i now : Nat) (l : List Nd) (h : WkAt w base q g cap l now) (hi : i < l.length) (h2 : (nd l i).links < 65535) :
    Calls Tryz.prog 98 #[.pointer (some ⟨g, i * 5, none⟩)] w (WkPost base q g cap (l.set i { nd l i with links := (nd l i).links + 1 }) now (.tuple #[]) w) := by
  obtain ⟨c0, c1, c2, c3, c4⟩ := h.at hi
  obtain ⟨_, f2, hp, hO⟩ := h.links hi ((nd l i).links + 1)
  have hsub : IntKind.u16.wrap (((nd l i).links : Int) + 1) = (((nd l i).links + 1 : Nat) : Int) := by rw [IntKind.wrap_u16]; omega
  have HP := Lib.hid hp
  have HO := Lib.hid hO
  unfold WkPost
  generalize (nd l i).links + 1 = y at *
  go_enter Tryz.func98, Tryz.ntmps98
  go_wp2_with (fail)
  go_end0
  exact ⟨rfl, HP.out, HO.out⟩
/-- a function that is there is gone into -/
theorem enters_put1 : ∀ (xs : Array Value) (W : World), Sem.run Tryz.prog (callFunc 121 xs) W = .ok (.enter 121 xs) W := fun _ _ => by kernel_rfl
theorem enters_drop1 : ∀ (xs : Array Value) (W : World), Sem.run Tryz.prog (callFunc 93 xs) W = .ok (.enter 93 xs) W := fun _ _ => by kernel_rfl
theorem enters_hand1 : ∀ (xs : Array Value) (W : World), Sem.run Tryz.prog (callFunc 126 xs) W = .ok (.enter 126 xs) W := fun _ _ => by kernel_rfl
theorem enters_lose1 : ∀ (xs : Array Value) (W : World), Sem.run Tryz.prog (callFunc 95 xs) W = .ok (.enter 95 xs) W := fun _ _ => by kernel_rfl
theorem enters_link1 : ∀ (xs : Array Value) (W : World), Sem.run Tryz.prog (callFunc 98 xs) W = .ok (.enter 98 xs) W := fun _ _ => by kernel_rfl
theorem enters_write1 : ∀ (xs : Array Value) (W : World), Sem.run Tryz.prog (callFunc 90 xs) W = .ok (.enter 90 xs) W := fun _ _ => by kernel_rfl
theorem enters_trunc1 : ∀ (xs : Array Value) (W : World), Sem.run Tryz.prog (callFunc 92 xs) W = .ok (.enter 92 xs) W := fun _ _ => by kernel_rfl
theorem change_any (K : Nat) (hK : ∀ (xs : Array Value) (W : World), Sem.run Tryz.prog (callFunc K xs) W = .ok (.enter K xs) W) (cs : Array Value) (E : World → Prop) (w : World) (base q g cap i now : Nat) (l : List Nd) (m : Nd) (h : WkAt w base q g cap l now) (hi : i < l.length) (hl : l.length ≤ 240)
    (hc : Calls Tryz.prog K (#[.pointer (some ⟨g, i * 5, none⟩)] ++ cs) w (fun e w' => e = .returned (.tuple #[]) ∧ WkAt w' base q g cap (l.set i m) now ∧ E w')) :
    Calls Tryz.prog 89 #[.pointer (some ⟨q, 0, none⟩), .int .u32 i, .func (.func K) #[] cs] w (fun e w' => e = .returned (.tuple #[]) ∧ ∃ w1, E w1 ∧ WkAt w' base q g cap (l.set i { m with time := now }) now ∧ Only (fun i => i = g) w1 w') := by
  obtain ⟨q0, q1⟩ := h.c
  obtain ⟨hc1, hc2⟩ := h.cap
  go_enter Tryz.func89, Tryz.ntmps89
  go_wp2_with ((with_reducible refine Calls.mono hc ?_); rintro e w1 ⟨rfl, h1, hE⟩; have hi1 : i < (l.set i m).length := (by rw [List.length_set]; exact hi); obtain ⟨q0, q1⟩ := h1.c; obtain ⟨u, u1⟩ := (h1.time hi1 now).1; obtain ⟨_, f2, hp, hO⟩ := h1.time hi1 now; have hm : nd (l.set i m) i = m := (by simp [nd, hi]); rw [hm, List.set_set] at hp; rw [List.length_set] at q0; have HP := Lib.hid hp; have HO := Lib.hid hO; clear hp hO h1 h)
  go_region
  go_end0
  exact ⟨rfl, w1, hE, HP.out.drew, HO.out.drew⟩
end
end Go.Proofs.YtkipkcmcolomcaaGreat.Pln
/- own: files that share no memory with others; slices.Clone of nodes. -/
namespace Go.Proofs.YtkipkcmcolomcaaGreat.Pln
open Go.RowKit
attribute [local go_sem] Oper.semAt_some
set_option linter.unusedVariables false
set_option linter.unusedSimpArgs false
theorem eqlNl (a : Option Addr) (n c : Nat) (w : World) : (binOp .eql 25 (.slice a n c) (.slice none 0 0)).run Tryz.prog w = .ok (.bool a.isNone) w :=
  Lib.run_eql_slice_nil w _ _ a n c 0 0 Tryz.underlying25
section
set_option maxRecDepth 100000
set_option maxHeartbeats 4000000
theorem cloneN_any (v : Value) (L : List Nd) (w : World) (hL : Nodes w v L) (h2 : L.length ≤ 4096) :
    Calls Tryz.prog 24 #[v] w fun e w' => ∃ v', e = .returned v' ∧ w'.ownsRow w.heap.size 46 5 v' L.length (cellsL L) ∧ Below w.heap.size w w' := by
  obtain ⟨i0, hi, hz0, hz1, hz2⟩ := info_parts infoNd
  obtain ⟨a, cap, rfl, hcap1, hcap2⟩ := hL.parts
  obtain ⟨N, hN⟩ : ∃ N, L.length = N := ⟨_, rfl⟩
  cases a with
  | none =>
    have hc0 : cap = 0 := Lies.none_cap hL
    subst hc0
    have hl0 : L = [] := List.eq_nil_of_length_eq_zero (by omega)
    subst hl0
    have hq := eqlNl none 0 0
    clear hL hN
    go_enter Tryz.func24, Tryz.ntmps24
    go_wp2
    go_ret
    exact ⟨_, rfl, World.ownsRow_nil _ _ _ _, Below.refl _ _⟩
  | some ad =>
    have HC := Lib.hid (fun W (hB : Below w.heap.size w W) => (hL.below hB).news)
    have HV := Lib.hid (cellsL_length L)
    have HO := Lib.hid (cellsL_one L)
    rw [hN] at HV h2 hcap1 ⊢
    obtain ⟨xs, hxs⟩ : ∃ xs, cellsL L = xs := ⟨_, rfl⟩
    simp only [hxs] at HC HV HO ⊢
    clear hL hN hxs
    obtain ⟨W0, rfl⟩ : ∃ W0 : World, W0 = w := ⟨_, rfl⟩
    go_enter Tryz.func24, Tryz.ntmps24
    have hq := eqlNl (some ad) N cap
    have hmade : (W0.alloc (.cells #[] 46)).ownsRow W0.heap.size 46 5 (.slice (some ⟨W0.heap.size, 0, none⟩) 0 0) 0 [] := World.ownsRow_made W0 #[] 0 (Nat.le_refl _) (Nat.zero_le _) (by simp)
    go_wp2_with (at_builtin; refine wpList_append_own _ rfl _ _ 25 rfl W0.heap.size 46 i0 (.agg #[.int .i64 0, .int .u16 0, .int .u16 0, .int .u64 0, .string ⟨#[]⟩]) 5 40 Tryz.underlying25 hi hz0 hz1 hz2 rfl (by decide) (.slice (some ⟨W0.heap.size, 0, none⟩) 0 0) 0 [] rfl hmade ad N cap xs rfl HV.out (HC.out _ (below_new _ _)) HO.out (by unfold maxLen; omega) (by omega) (by simp) ?_; intro v1 w1 hown1 hgrow _; simp only [Nat.zero_add, List.nil_append] at hown1; have HW := Lib.hid hown1; have HG := Lib.hid (((Below.refl W0.heap.size W0).alloc (Nat.le_refl _) (.cells #[] 46)).grown hgrow (by simp) (fun k hk => by simp [Value.ownBlock] at hk; omega)); clear hown1 hgrow)
    go_ret
    exact ⟨v1, by simp, HW.out, HG.out⟩
theorem own_one {W : World} {base g cap N : Nat} {L : List Nd} (hN : L.length = N) (h : W.ownsRow base 46 5 (.slice (some ⟨g, 0, none⟩) N cap) N (cellsL L)) {k : Nat} (hk : k < N) :
    W.cell? ⟨g, k * 5 + 4, none⟩ = some (.string (nd L k).data) ∧ base ≤ g ∧ ∀ W', Below W.heap.size W W' → W'.frozen? ⟨g, k * 5 + 4, none⟩ = false ∧ W'.cell? ⟨g, k * 5 + 4, none⟩ = some (.string (nd L k).data) ∧ (W'.setCell ⟨g, k * 5 + 4, none⟩ (.string (nd L k).data)).ownsRow base 46 5 (.slice (some ⟨g, 0, none⟩) N cap) N (cellsL L) := by
  obtain ⟨_, _, hv, hb, _⟩ := own_open h (by omega)
  have hc := ((Nodes.own (L := L) (by rw [hN]; exact h)).get hN hk).2.2.2.2
  rw [Nat.zero_add] at hc
  injection hv with e1 _ _
  injection e1 with e1
  injection e1 with e1 _ _
  subst e1
  refine ⟨hc, hb, fun W' hB => ?_⟩
  have h' := own_th h hB
  obtain ⟨_, f2, h3, _⟩ := own_data hN h' hk (nd L k).data
  have hs : L.set k { nd L k with data := (nd L k).data } = L := by
    have : ({ nd L k with data := (nd L k).data } : Nd) = nd L k := rfl
    rw [this]
    refine List.ext_getElem (by rw [List.length_set]) fun i h1 h2 => ?_
    rw [List.getElem_set]
    split
    · rename_i e
      subst e
      simp [nd, hN, hk]
    · rfl
  rw [hs] at h3
  have hc' := ((Nodes.own (L := L) (by rw [hN]; exact h')).get hN hk).2.2.2.2
  rw [Nat.zero_add] at hc'
  exact ⟨f2, hc', h3⟩
theorem own_any (v : Value) (L : List Nd) (w : World) (hL : Nodes w v L) (h2 : L.length ≤ 240) (hs : ∀ n ∈ L, n.data.size ≤ 281474976710656) :
    Calls Tryz.prog 22 #[v] w fun e w' => ∃ v', e = .returned v' ∧ w'.ownsRow w.heap.size 46 5 v' L.length (cellsL L) ∧ Below w.heap.size w w' := by
  have HCL := Lib.hid (cloneN_any v L w hL (by omega))
  have HST := Lib.hid (fun k (hk : k < L.length) W => Pth.clone_any (nd L k).data W (hs _ (by have := nd_get hk; exact List.mem_of_getElem? this)))
  unfold Nam.Ans at HST
  obtain ⟨N, hN⟩ : ∃ N, L.length = N := ⟨_, rfl⟩
  rw [hN] at HCL HST h2 ⊢
  have HO := Lib.hid (fun (W : World) g cap (h : W.ownsRow w.heap.size 46 5 (.slice (some ⟨g, 0, none⟩) N cap) N (cellsL L)) k (hk : k < N) => own_one hN h hk)
  obtain ⟨xs, hxs⟩ : ∃ xs, cellsL L = xs := ⟨_, rfl⟩
  simp only [hxs] at HCL HO ⊢
  clear hL hxs hs hN
  obtain ⟨W0, rfl⟩ : ∃ W0 : World, W0 = w := ⟨_, rfl⟩
  go_enter Tryz.func22, Tryz.ntmps22
  go_wp2_with (go_at_call 24; (with_reducible refine Calls.mono HCL.out ?_); rintro e w1 ⟨v1, rfl, hown, hB1⟩; obtain ⟨a1, cp1, rfl, hlc⟩ := lies_own hown; have HOW := Lib.hid hown; have HB1 := Lib.hid hB1; clear hown hB1)
  go_loopw [9] (fun i wr => ∃ k : Nat, k ≤ N ∧ i = .int .i64 (k : Int) ∧ Hid (wr.ownsRow W0.heap.size 46 5 (.slice a1 N cp1) N xs) ∧ Below W0.heap.size W0 wr) (fun i _ => N - (intOf i).toNat)
  case atStart => exact ⟨0, by omega, rfl, HOW, HB1.out⟩
  case round =>
    obtain ⟨k, hk, rfl, HR, hB⟩ := hrel
    by_cases hlt : k < N
    · obtain ⟨g, cp2, hv, hg, _, _⟩ := own_open HR.out (by omega)
      injection hv with e1 _ e3
      subst e1
      subst e3
      have hO := HO.out wr g cp1 HR.out k hlt
      obtain ⟨hc, hbg, hst⟩ := hO
      have HS := Lib.hid hst
      have HSk := Lib.hid (fun W => HST.out k hlt W)
      have HBk := Lib.hid hB
      clear hst HST HO
      generalize (nd L k).data = sd at *
      go_wp2_with (go_at_call 47; (with_reducible refine Calls.mono (HSk.out _) ?_); rintro e w2 ⟨rfl, hB2⟩; obtain ⟨f2, c2, ho2⟩ := HS.out _ hB2; have HO2 := Lib.hid ho2; clear ho2)
      go_roundw
      case rel => exact ⟨k + 1, by omega, by go_num, HO2, (below_th HBk.out hB2).setCell (p := ⟨g, k * 5 + 4, none⟩) hbg _⟩
      case measure => simp [intOf]; omega
    · obtain rfl : k = N := by omega
      have HBq := Lib.hid hB
      clear HO HST HCL
      go_wp2
      go_ret
      exact ⟨_, rfl, HR.out, HBq.out⟩
end
end Go.Proofs.YtkipkcmcolomcaaGreat.Pln
