/- Several texts in one, each under its own heading. -/
import Derived.Test.YtkipkcmcolomcaaGreatPk29
/- The work's smaller pieces: so many bytes, data from a place on, a name less, a name more, a name another file's, a file with a name less. -/
namespace Go.Proofs.YtkipkcmcolomcaaGreat.Pln
open Go.RowKit
open Dir (N nm DirP DirO findV findE findVo findEo addE addV dropV setE setV addEo addVo dropVo setEo setVo)
open Pth (Strs)
attribute [local go_sem] Oper.semAt_some
set_option linter.unusedVariables false
set_option linter.unusedSimpArgs false
section
set_option maxRecDepth 100000
set_option maxHeartbeats 4000000
theorem drop_call (w : World) (base q g cap now : Nat) (p : Pl) (gv : Value) (l : List Nd) (L : List N) (h : WkAt w base q g cap l now) (hi : p.dir < l.length) (hl : l.length ≤ 240) (hn : p.name.size ≤ 281474976710656) (hs : (nd l p.dir).data.size ≤ 281474976710656)
    (hD : DirO (nd l p.dir).data (some L)) :
    Calls Tryz.prog 53 #[.pointer (some ⟨q, 0, none⟩), spV p gv] w (WkPost base q g cap (l.set p.dir (dirN (nd l p.dir) (dropV L p.name) now)) now (.tuple #[]) w) := by
  have hB := below_new w (spO p gv)
  have hsp := SpAt.new w p gv
  have hch := change_any 93 enters_drop1 #[.pointer (some ⟨w.heap.size, 0, none⟩)] (fun w' => Only (fun i => i = g) (w.alloc (spO p gv)) w') (w.alloc (spO p gv)) base q g cap p.dir now l _ (h.th hB) hi hl
    (drop1_any (w.alloc (spO p gv)) base q g cap p.dir now w.heap.size p gv l L (h.th hB) hi hn hs hD hsp)
  have HCH := Lib.hid hch
  have HW := Lib.hid (Only.of_below (S := fun i => i = g) hB)
  have hmf : ∀ (fn : Fn) (first cap : Array Value) (w : World), (Instr.makeFunc fn first cap).run Tryz.prog w = .ok (.func fn first cap) w := fun _ _ _ _ => rfl
  obtain ⟨q0, q1, q2, q3⟩ := hsp.c
  unfold WkPost
  unfold spO at HCH HW q0 q1 q2 q3
  unfold spV
  clear hB hsp hch h hi hn hs hD
  obtain ⟨pd, pn, pi⟩ := p
  dsimp only at HCH HW q0 q1 q2 q3 ⊢
  go_enter Tryz.func53, Tryz.ntmps53
  go_wp2_with (go_at_call 89; (with_reducible refine Calls.mono HCH.out ?_); rintro e w1 ⟨rfl, w2, hO1, hK, hO2⟩)
  go_end0
  exact ⟨rfl, hK, (HW.out.trans hO1).trans hO2⟩
theorem hand_call (w : World) (base q g cap now x : Nat) (p : Pl) (gv : Value) (l : List Nd) (L : List N) (h : WkAt w base q g cap l now) (hi : p.dir < l.length) (hl : l.length ≤ 240) (hn : p.name.size ≤ 281474976710656) (hs : (nd l p.dir).data.size ≤ 281474976710656)
    (hx : x < 4294967296) (hD : DirO (nd l p.dir).data (some L)) :
    Calls Tryz.prog 97 #[.pointer (some ⟨q, 0, none⟩), spV p gv, .int .u32 (x : Int)] w (WkPost base q g cap (l.set p.dir (dirN (nd l p.dir) (setV L p.name x) now)) now (.tuple #[]) w) := by
  have hB0 := below_new w (spO p gv)
  have hB := below_al hB0 (.cells #[.int .u32 (x : Int)] 50)
  have hsp := (SpAt.new w p gv).th (below_new _ (.cells #[.int .u32 (x : Int)] 50))
  have hbx : ((w.alloc (spO p gv)).alloc (.cells #[.int .u32 (x : Int)] 50)).heap[w.heap.size + 1]? = some (.cells #[.int .u32 (x : Int)] 50 (0, 0)) := by
    have := World.alloc_heap_new (w.alloc (spO p gv)) (.cells #[.int .u32 (x : Int)] 50)
    rwa [World.size_alloc] at this
  have hch := change_any 126 enters_hand1 #[.pointer (some ⟨w.heap.size, 0, none⟩), .pointer (some ⟨w.heap.size + 1, 0, none⟩)] _ _ base q g cap p.dir now l _ (h.th hB) hi hl
    (hand1_any _ base q g cap p.dir now w.heap.size (w.heap.size + 1) x p gv l L (h.th hB) hi hn hs hD hsp hx hbx)
  have HCH := Lib.hid hch
  have HW := Lib.hid (Only.of_below (S := fun i => i = g) hB)
  have hmf : ∀ (fn : Fn) (first cap : Array Value) (w : World), (Instr.makeFunc fn first cap).run Tryz.prog w = .ok (.func fn first cap) w := fun _ _ _ _ => rfl
  obtain ⟨q0, q1, q2, q3⟩ := hsp.c
  unfold WkPost
  unfold spO at HCH HW q0 q1 q2 q3
  unfold spV
  clear hB hB0 hsp hch h hi hn hs hD hbx
  obtain ⟨pd, pn, pi⟩ := p
  dsimp only at HCH HW q0 q1 q2 q3 ⊢
  go_enter Tryz.func97, Tryz.ntmps97
  go_wp2_with (go_at_call 89; (with_reducible refine Calls.mono HCH.out ?_); rintro e w1 ⟨rfl, w2, hO1, hK, hO2⟩)
  go_end0
  exact ⟨rfl, hK, (HW.out.trans hO1).trans hO2⟩
theorem trunc_call (w : World) (base q g cap i now : Nat) (c : Int) (l : List Nd) (h : WkAt w base q g cap l now) (hi : i < l.length) (hl : l.length ≤ 240) (h0 : 0 ≤ c) (hc : c ≤ 200000) (hs : (nd l i).data.size ≤ 281474976710656) :
    Calls Tryz.prog 52 #[.pointer (some ⟨q, 0, none⟩), .int .u32 (i : Int), .int .i64 c] w (WkPost base q g cap (l.set i (dirN (nd l i) (sizB (nd l i).data c.toNat) now)) now (.int .i64 0) w) := by
  obtain ⟨c, rfl⟩ := Int.eq_ofNat_of_zero_le h0
  have hB := below_new w (.cells #[.int .i64 (c : Int)] 2)
  have hbx := World.alloc_heap_new w (.cells #[.int .i64 (c : Int)] 2)
  have hch := change_any 92 enters_trunc1 #[.pointer (some ⟨w.heap.size, 0, none⟩)] _ _ base q g cap i now l _ (h.th hB) hi hl
    (trunc1_any _ base q g cap i now w.heap.size c l (h.th hB) hi (by omega) hs hbx)
  have HCH := Lib.hid hch
  have HW := Lib.hid (Only.of_below (S := fun i => i = g) hB)
  have hmf : ∀ (fn : Fn) (first cap : Array Value) (w : World), (Instr.makeFunc fn first cap).run Tryz.prog w = .ok (.func fn first cap) w := fun _ _ _ _ => rfl
  have hc2 : ¬ ((c : Int) > 200000) := by omega
  unfold WkPost
  have e1 : ((c : Int)).toNat = c := rfl
  rw [e1]
  clear hB hch h hi hs hbx h0 hc e1
  go_enter Tryz.func52, Tryz.ntmps52
  go_wp2_with (go_at_call 89; (with_reducible refine Calls.mono HCH.out ?_); rintro e w1 ⟨rfl, w2, hO1, hK, hO2⟩)
  go_ret
  exact ⟨rfl, hK, (HW.out.trans hO1).trans hO2⟩
theorem trunc_big (w : World) (q i : Nat) (c : Int) (hc : 200000 < c) :
    Calls Tryz.prog 52 #[.pointer (some ⟨q, 0, none⟩), .int .u32 (i : Int), .int .i64 c] w (fun e w' => e = .returned (.int .i64 144) ∧ Below w.heap.size w w') := by
  have hB := below_new w (.cells #[.int .i64 c] 2)
  have hc2 : (c > 200000) := by omega
  go_enter Tryz.func52, Tryz.ntmps52
  go_wp2_with (fail)
  go_ret
  exact ⟨rfl, hB⟩
/-- a whole file is laid over -/
theorem WkAt.node {W : World} {base q g cap now : Nat} {l : List Nd} (h : WkAt W base q g cap l now) {i : Nat} (hi : i < l.length) (s : Nd) :
    (∀ j, W.frozen? ⟨g, j, none⟩ = false) ∧ WkAt (((((W.setCell ⟨g, i * 5, none⟩ (.int .i64 s.kind)).setCell ⟨g, i * 5 + 1, none⟩ (.int .u16 s.mode)).setCell ⟨g, i * 5 + 2, none⟩ (.int .u16 s.links)).setCell ⟨g, i * 5 + 3, none⟩ (.int .u64 s.time)).setCell ⟨g, i * 5 + 4, none⟩ (.string s.data)) base q g cap (l.set i s) now ∧
    Only (fun i => i = g) W (((((W.setCell ⟨g, i * 5, none⟩ (.int .i64 s.kind)).setCell ⟨g, i * 5 + 1, none⟩ (.int .u16 s.mode)).setCell ⟨g, i * 5 + 2, none⟩ (.int .u16 s.links)).setCell ⟨g, i * 5 + 3, none⟩ (.int .u64 s.time)).setCell ⟨g, i * 5 + 4, none⟩ (.string s.data)) := by
  have h0 := (h.row.stored (i * 5) (.int .i64 s.kind)).1
  have h1 := (h0.stored (i * 5 + 1) (.int .u16 s.mode)).1
  have h2 := (h1.stored (i * 5 + 2) (.int .u16 s.links)).1
  have h3 := (h2.stored (i * 5 + 3) (.int .u64 s.time)).1
  have h4 := (h3.stored (i * 5 + 4) (.string s.data)).1
  rw [cellsL_set s l i hi] at h4
  refine ⟨fun j => h.row.frozenAt _, h.put h4 List.length_set fun k hk => ?_, ?_⟩
  · rw [Below.heap_setCell _ _ _ _ hk, Below.heap_setCell _ _ _ _ hk, Below.heap_setCell _ _ _ _ hk, Below.heap_setCell _ _ _ _ hk, Below.heap_setCell _ _ _ _ hk]
  · exact ((((only_set _ _ _ _).trans (only_set _ _ _ _)).trans (only_set _ _ _ _)).trans (only_set _ _ _ _)).trans (only_set _ _ _ _)
theorem lose_call (w : World) (base q g cap i now : Nat) (l : List Nd) (h : WkAt w base q g cap l now) (hi : i < l.length) (hl : l.length ≤ 240) (h1 : 1 ≤ (nd l i).links) (h2 : (nd l i).links < 65536) :
    Calls Tryz.prog 54 #[.pointer (some ⟨q, 0, none⟩), .int .u32 (i : Int)] w (WkPost base q g cap (l.set i (lessN (nd l i) now)) now (.tuple #[]) w) := by
  have hch := change_any 95 enters_lose1 #[] _ _ base q g cap i now l _ h hi hl
    (lose1_any _ base q g cap i now l h hi h1 h2)
  have HCH := Lib.hid hch
  obtain ⟨y, hy⟩ : ∃ y, (nd l i).links - 1 = y := ⟨_, rfl⟩
  rw [hy] at HCH
  obtain ⟨hc1, hc2⟩ := h.cap
  have HQ : Hid (∀ W, WkAt W base q g cap (l.set i ⟨(nd l i).kind, (nd l i).mode, y, now, (nd l i).data⟩) now → W.cell? ⟨q, 0, none⟩ = some (.slice (some ⟨g, 0, none⟩) l.length cap) ∧ W.cell? ⟨g, i * 5 + 2, none⟩ = some (.int .u16 (y : Int)) ∧ (∀ j, W.frozen? ⟨g, j, none⟩ = false) ∧
      (∃ u, W.cell? ⟨g, i * 5, none⟩ = some u) ∧ (∃ u, W.cell? ⟨g, i * 5 + 1, none⟩ = some u) ∧ (∃ u, W.cell? ⟨g, i * 5 + 3, none⟩ = some u) ∧ (∃ u, W.cell? ⟨g, i * 5 + 4, none⟩ = some u) ∧
      WkAt (((((W.setCell ⟨g, i * 5, none⟩ (.int .i64 0)).setCell ⟨g, i * 5 + 1, none⟩ (.int .u16 0)).setCell ⟨g, i * 5 + 2, none⟩ (.int .u16 0)).setCell ⟨g, i * 5 + 3, none⟩ (.int .u64 0)).setCell ⟨g, i * 5 + 4, none⟩ (.string ⟨#[]⟩)) base q g cap (l.set i Nd.zero) now ∧
      Only (fun i => i = g) W (((((W.setCell ⟨g, i * 5, none⟩ (.int .i64 0)).setCell ⟨g, i * 5 + 1, none⟩ (.int .u16 0)).setCell ⟨g, i * 5 + 2, none⟩ (.int .u16 0)).setCell ⟨g, i * 5 + 3, none⟩ (.int .u64 0)).setCell ⟨g, i * 5 + 4, none⟩ (.string ⟨#[]⟩))) := fun W hK => by
    have hi2 : i < (l.set i ⟨(nd l i).kind, (nd l i).mode, y, now, (nd l i).data⟩).length := by rw [List.length_set]; exact hi
    obtain ⟨k0, k1, k2, k3, k4⟩ := hK.at hi2
    have hm : nd (l.set i (⟨(nd l i).kind, (nd l i).mode, y, now, (nd l i).data⟩ : Nd)) i = ⟨(nd l i).kind, (nd l i).mode, y, now, (nd l i).data⟩ := by simp [nd, hi]
    rw [hm] at k0 k1 k2 k3 k4
    have kc := hK.c.1
    rw [List.length_set] at kc
    obtain ⟨m1, m2, m3⟩ := hK.node hi2 Nd.zero
    rw [List.set_set] at m2
    exact ⟨kc, k2, m1, ⟨_, k0⟩, ⟨_, k1⟩, ⟨_, k3⟩, ⟨_, k4⟩, m2, m3⟩
  unfold WkPost
  by_cases h3 : (nd l i).links ≤ 1
  · have hL : lessN (nd l i) now = Nd.zero := if_pos h3
    have hy0 : y = 0 := by omega
    have hy1 : ((y : Int) == 0) = true := by simp [hy0]
    rw [hL]
    clear h hch hL h1 h2 h3 hy hy0
    go_enter Tryz.func54, Tryz.ntmps54
    go_wp2_with (go_at_call 89; (with_reducible refine Calls.mono HCH.out ?_); rintro e w1 ⟨rfl, w2, hO1, hK, hO2⟩; have hq := HQ.out _ hK; obtain ⟨kc, k2, m1, ⟨u0, k0⟩, ⟨u1, k1⟩, ⟨u3, k3⟩, ⟨u4, k4⟩, hm⟩ := hq; have HM := Lib.hid hm; have HO := Lib.hid (hO1.trans hO2); clear hm)

    go_end0
    exact ⟨rfl, HM.out.1, HO.out.trans HM.out.2⟩
  · have hL : lessN (nd l i) now = ⟨(nd l i).kind, (nd l i).mode, y, now, (nd l i).data⟩ := by unfold lessN; rw [if_neg h3, hy]
    have hy1 : ((y : Int) == 0) = false := by simp; omega
    rw [hL]
    clear h hch hL h1 h2 h3 hy
    go_enter Tryz.func54, Tryz.ntmps54
    go_wp2_with (go_at_call 89; (with_reducible refine Calls.mono HCH.out ?_); rintro e w1 ⟨rfl, w2, hO1, hK, hO2⟩; have hq := HQ.out _ hK; obtain ⟨kc, k2, _⟩ := hq; have HM := Lib.hid hK; have HO := Lib.hid (hO1.trans hO2); clear hK)
    go_end0
    exact ⟨rfl, HM.out, HO.out⟩
end
end Go.Proofs.YtkipkcmcolomcaaGreat.Pln
/- The work: a name more, data from a place on. -/
namespace Go.Proofs.YtkipkcmcolomcaaGreat.Pln
open Go.RowKit
open Dir (N nm DirP DirO findV findE findVo findEo addE addV dropV setE setV addEo addVo dropVo setEo setVo)
open Pth (Strs)
attribute [local go_sem] Oper.semAt_some
set_option linter.unusedVariables false
set_option linter.unusedSimpArgs false
section
set_option maxRecDepth 100000
set_option maxHeartbeats 4000000
theorem put_call (w : World) (base q g cap now x : Nat) (p : Pl) (gv : Value) (l : List Nd) (L : List N) (h : WkAt w base q g cap l now) (hi : p.dir < l.length) (hl : l.length ≤ 240) (hn : p.name.size ≤ 281474976710656) (hs : (nd l p.dir).data.size ≤ 281474976710656)
    (hx : x < 4294967296) (hD : DirO (nd l p.dir).data (some L)) :
    Calls Tryz.prog 88 #[.pointer (some ⟨q, 0, none⟩), spV p gv, .int .u32 (x : Int)] w (WkPost base q g cap (l.set p.dir (dirN (nd l p.dir) (addV L p.name x) now)) now (.int .i64 (addE L p.name x)) w) := by
  have hB0 := below_new w (spO p gv)
  have hB1 := below_al hB0 (.cells #[.int .u32 (x : Int)] 50)
  have hB2 := below_al hB1 (.cells #[.int .i64 0] 29)
  have hB := hB2
  have hsp0 := (((SpAt.new w p gv).th (below_new _ (.cells #[.int .u32 (x : Int)] 50))).th (below_new _ (.cells #[.int .i64 0] 29)))
  have hsp := hsp0
  have hbx : ((w.alloc (spO p gv)).alloc (.cells #[.int .u32 (x : Int)] 50)).heap[w.heap.size + 1]? = some (.cells #[.int .u32 (x : Int)] 50 (0, 0)) := by
    have := World.alloc_heap_new (w.alloc (spO p gv)) (.cells #[.int .u32 (x : Int)] 50)
    rwa [World.size_alloc] at this
  have hbx2 := ((below_new _ (.cells #[.int .i64 0] 29)).block (w.heap.size + 1) (by rw [World.size_alloc, World.size_alloc]; omega)).trans hbx
  have hbe0 : (((w.alloc (spO p gv)).alloc (.cells #[.int .u32 (x : Int)] 50)).alloc (.cells #[.int .i64 0] 29)).heap[w.heap.size + 1 + 1]? = some (.cells #[.int .i64 0] 29 (0, 0)) := by
    have := World.alloc_heap_new ((w.alloc (spO p gv)).alloc (.cells #[.int .u32 (x : Int)] 50)) (.cells #[.int .i64 0] 29)
    rwa [World.size_alloc, World.size_alloc] at this
  have hbe := hbe0
  have hg := h.g.2.1
  have hch := change_any 121 enters_put1 #[.pointer (some ⟨w.heap.size, 0, none⟩), .pointer (some ⟨w.heap.size + 1, 0, none⟩), .pointer (some ⟨w.heap.size + 1 + 1, 0, none⟩)] _ _ base q g cap p.dir now l _ (h.th hB) hi hl
    (put1_any _ base q g cap p.dir now w.heap.size (w.heap.size + 1) (w.heap.size + 1 + 1) x p gv l L (h.th hB) hi hn hs hD hsp hx hbx2 hbe)
  have HCH := Lib.hid hch
  have HW := Lib.hid (Only.of_below (S := fun i => i = g) hB)
  have HE : Hid (∀ w1 w2 : World, w1.heap[w.heap.size + 1 + 1]? = some (.cells #[.int .i64 (addEo (some L) p.name x)] 29 (0, 0)) → Only (fun i => i = g ∨ i = w.heap.size + 1 + 1) (((w.alloc (spO p gv)).alloc (.cells #[.int .u32 (x : Int)] 50)).alloc (.cells #[.int .i64 0] 29)) w1 → Only (fun i => i = g) w1 w2 →
      w2.cell? ⟨w.heap.size + 1 + 1, 0, none⟩ = some (.int .i64 (addEo (some L) p.name x)) ∧ Only (fun i => i = g) w w2) := fun w1 w2 a1 a2 a3 => by
    have e1 : w2.heap[w.heap.size + 1 + 1]? = some (.cells #[.int .i64 (addEo (some L) p.name x)] 29 (0, 0)) := (a3.block _ (Array.getElem?_eq_some_iff.1 a1).1 (by omega)).trans a1
    refine ⟨by simp only [World.cell?, e1]; rfl, ?_⟩
    have hO := Only.of_below (S := fun i => i = g) hB
    exact (hO.step a2 (fun i hi h2 => h2.resolve_right (by omega))).trans a3
  have hmf : ∀ (fn : Fn) (first cap : Array Value) (w : World), (Instr.makeFunc fn first cap).run Tryz.prog w = .ok (.func fn first cap) w := fun _ _ _ _ => rfl
  obtain ⟨q0, q1, q2, q3⟩ := hsp.c
  have hee : addE L p.name x = addEo (some L) p.name x := rfl
  rw [hee]
  generalize addEo (some L) p.name x = ee at *
  unfold WkPost
  unfold spO at HCH HW HE q0 q1 q2 q3
  unfold spV
  clear hB hB0 hB1 hB2 hsp0 hsp hch h hi hn hs hD hbx hbx2 hbe0 hbe hee hg
  obtain ⟨pd, pn, pi⟩ := p
  dsimp only at HCH HW HE q0 q1 q2 q3 ⊢
  go_enter Tryz.func88, Tryz.ntmps88
  go_wp2_with (go_at_call 89; (with_reducible refine Calls.mono HCH.out ?_); rintro e w1 ⟨rfl, w2, ⟨hE1, hE2⟩, hK, hO2⟩; have hF := HE.out _ _ hE1 hE2 hO2; have hF1 := hF.1; have HF2 := Lib.hid hF.2; have HK := Lib.hid hK; clear hF hK hO2 hE1 hE2)
  go_ret
  exact ⟨rfl, HK.out, HF2.out⟩
end
end Go.Proofs.YtkipkcmcolomcaaGreat.Pln
/- The work: data from a place on; a directory less. -/
namespace Go.Proofs.YtkipkcmcolomcaaGreat.Pln
open Go.RowKit
open Dir (N nm DirP DirO findV findE findVo findEo addE addV dropV setE setV addEo addVo dropVo setEo setVo)
open Pth (Strs)
attribute [local go_sem] Oper.semAt_some
set_option linter.unusedVariables false
set_option linter.unusedSimpArgs false
section
set_option maxRecDepth 100000
set_option maxHeartbeats 4000000
theorem write_call (w : World) (base q g cap i now o : Nat) (d : ByteArray) (l : List Nd) (h : WkAt w base q g cap l now) (hi : i < l.length) (hl : l.length ≤ 240) (hc : o + d.size ≤ 200000) (hs : (nd l i).data.size ≤ 281474976710656) (hd : ¬ d = ⟨#[]⟩) :
    Calls Tryz.prog 51 #[.pointer (some ⟨q, 0, none⟩), .int .u32 (i : Int), .int .i64 (o : Int), .string d] w (WkPost base q g cap (l.set i (dirN (nd l i) (wriB (nd l i).data o d) now)) now (.int .i64 0) w) := by
  have hB0 := below_new w (.cells #[.int .i64 (o : Int)] 2)
  have hB := below_al hB0 (.cells #[.string d] 9)
  have hbo := ((below_new _ (.cells #[.string d] 9)).block w.heap.size (by rw [World.size_alloc]; omega)).trans (World.alloc_heap_new w (.cells #[.int .i64 (o : Int)] 2))
  have hbd : ((w.alloc (.cells #[.int .i64 (o : Int)] 2)).alloc (.cells #[.string d] 9)).heap[w.heap.size + 1]? = some (.cells #[.string d] 9 (0, 0)) := by
    have := World.alloc_heap_new (w.alloc (.cells #[.int .i64 (o : Int)] 2)) (.cells #[.string d] 9)
    rwa [World.size_alloc] at this
  have hch := change_any 90 enters_write1 #[.pointer (some ⟨w.heap.size, 0, none⟩), .pointer (some ⟨w.heap.size + 1, 0, none⟩)] _ _ base q g cap i now l _ (h.th hB) hi hl
    (write1_any _ base q g cap i now w.heap.size (w.heap.size + 1) o d l (h.th hB) hi hc hs hbo hbd)
  have HCH := Lib.hid hch
  have HW := Lib.hid (Only.of_below (S := fun i => i = g) hB)
  have hmf : ∀ (fn : Fn) (first cap : Array Value) (w : World), (Instr.makeFunc fn first cap).run Tryz.prog w = .ok (.func fn first cap) w := fun _ _ _ _ => rfl
  have hcb : ((w.alloc (.cells #[.int .i64 (o : Int)] 2)).alloc (.cells #[.string d] 9)).cell? ⟨w.heap.size, 0, none⟩ = some (.int .i64 (o : Int)) := by simp only [World.cell?, hbo]; rfl
  have hcd : ((w.alloc (.cells #[.int .i64 (o : Int)] 2)).alloc (.cells #[.string d] 9)).cell? ⟨w.heap.size + 1, 0, none⟩ = some (.string d) := by simp only [World.cell?, hbd]; rfl
  have hsub : IntKind.i64.wrap ((200000 : Int) - (d.size : Int)) = 200000 - d.size := IntWalk.i64_in _ (by omega)
  have hc2 : ¬ ((o : Int) > 200000 - (d.size : Int)) := by omega
  unfold WkPost
  have hd0 : ¬ d.toList = [] := fun e => hd (ByteArray.ext (Array.toList_inj.1 (by rw [← Lib.toList_data, e])))
  have hd1 : d.toList.isEmpty = false := by cases hh : d.toList with | nil => exact absurd hh hd0 | cons a b => rfl
  clear hB0 hB hch h hi hl hs hbo hbd hc
  go_enter Tryz.func51, Tryz.ntmps51
  go_wp2_with (go_at_call 89; (with_reducible refine Calls.mono HCH.out ?_); rintro e w1 ⟨rfl, w2, hO1, hK, hO2⟩)
  go_ret
  exact ⟨rfl, hK, (HW.out.trans hO1).trans hO2⟩
theorem write_big (w : World) (q i o : Nat) (d : ByteArray) (ho : o ≤ 9223372036854775807) (hd : d.size ≤ 281474976710656) (hc : 200000 < o + d.size) :
    Calls Tryz.prog 51 #[.pointer (some ⟨q, 0, none⟩), .int .u32 (i : Int), .int .i64 (o : Int), .string d] w (fun e w' => e = .returned (.int .i64 144) ∧ Below w.heap.size w w') := by
  have hB := below_al (below_new w (.cells #[.int .i64 (o : Int)] 2)) (.cells #[.string d] 9)
  have hsub : IntKind.i64.wrap ((200000 : Int) - (d.size : Int)) = 200000 - d.size := IntWalk.i64_in _ (by omega)
  have hc2 : ((o : Int) > 200000 - (d.size : Int)) := by omega
  go_enter Tryz.func51, Tryz.ntmps51
  go_wp2_with (fail)
  go_ret
  exact ⟨rfl, hB⟩
theorem write_none (w : World) (q i o : Nat) (ho : o ≤ 200000) :
    Calls Tryz.prog 51 #[.pointer (some ⟨q, 0, none⟩), .int .u32 (i : Int), .int .i64 (o : Int), .string ⟨#[]⟩] w (fun e w' => e = .returned (.int .i64 0) ∧ Below w.heap.size w w') := by
  have hB := below_al (below_new w (.cells #[.int .i64 (o : Int)] 2)) (.cells #[.string ⟨#[]⟩] 9)
  have hc2 : ¬ ((o : Int) > 200000) := by omega
  go_enter Tryz.func51, Tryz.ntmps51
  go_wp2_with (fail)
  go_ret
  exact ⟨rfl, hB⟩
end
end Go.Proofs.YtkipkcmcolomcaaGreat.Pln
/- The work: a directory less. -/
namespace Go.Proofs.YtkipkcmcolomcaaGreat.Pln
open Go.RowKit
open Dir (N nm DirP DirO findV findE findVo findEo addE addV dropV setE setV addEo addVo dropVo setEo setVo)
open Pth (Strs)
attribute [local go_sem] Oper.semAt_some
set_option linter.unusedVariables false
set_option linter.unusedSimpArgs false
section
set_option maxRecDepth 100000
set_option maxHeartbeats 4000000
theorem rmdir_root (w : World) (q : Nat) (p : Pl) (gv : Value) (hp : p.ino = 2) :
    Calls Tryz.prog 55 #[.pointer (some ⟨q, 0, none⟩), spV p gv] w (fun e w' => e = .returned (.int .i64 2) ∧ Below w.heap.size w w') := by
  have hB := below_new w (spO p gv)
  obtain ⟨q0, q1, q2, q3⟩ := (SpAt.new w p gv).c
  rw [hp] at q2
  unfold spO at hB q0 q1 q2 q3
  unfold spV
  obtain ⟨pd, pn, pi⟩ := p
  dsimp only at hp hB q0 q1 q2 q3 ⊢
  rw [hp] at hB q0 q1 q2 q3 ⊢
  go_enter Tryz.func55, Tryz.ntmps55
  go_wp2_with (fail)
  go_ret
  exact ⟨rfl, hB⟩
theorem rmdir_full (w : World) (base q g cap now : Nat) (p : Pl) (gv : Value) (l : List Nd) (h : WkAt w base q g cap l now) (hl : l.length ≤ 240) (hp : ¬ p.ino = 2) (hi : p.ino < l.length) (hd : ¬ (nd l p.ino).data = ⟨#[]⟩) :
    Calls Tryz.prog 55 #[.pointer (some ⟨q, 0, none⟩), spV p gv] w (fun e w' => e = .returned (.int .i64 142) ∧ Below w.heap.size w w') := by
  have hB := below_new w (spO p gv)
  obtain ⟨q0, q1, q2, q3⟩ := (SpAt.new w p gv).c
  have h2 := h.th hB
  obtain ⟨hc1, hc2⟩ := h.cap
  obtain ⟨k0, k1, k2, k3, k4⟩ := h2.at hi
  have kc := h2.c.1
  have hd0 : ¬ (nd l p.ino).data.toList = [] := fun e => hd (ByteArray.ext (Array.toList_inj.1 (by rw [← Lib.toList_data, e])))
  have hd1 : (nd l p.ino).data.toList.isEmpty = false := by cases hh : (nd l p.ino).data.toList with | nil => exact absurd hh hd0 | cons a b => rfl
  have hp1 : ((p.ino : Int) == 2) = false := by simp; omega
  unfold spO at hB q0 q1 q2 q3 k4 kc
  unfold spV
  clear h h2 k0 k1 k2 k3 hd
  generalize (nd l p.ino).data = s at *
  obtain ⟨pd, pn, pi⟩ := p
  dsimp only at hp hp1 hi hB q0 q1 q2 q3 k4 kc ⊢
  go_enter Tryz.func55, Tryz.ntmps55
  go_wp2_with (fail)
  go_quiet (fail)
  go_wp2_with (fail)
  go_ret
  exact ⟨rfl, below_drewN hB _⟩
theorem rmdir_call (w : World) (base q g cap now : Nat) (p : Pl) (gv : Value) (l : List Nd) (L : List N) (h : WkAt w base q g cap l now) (hl : l.length ≤ 240) (hp : ¬ p.ino = 2) (hi : p.ino < l.length) (hj : p.dir < l.length) (hd : (nd l p.ino).data = ⟨#[]⟩)
    (hn : p.name.size ≤ 281474976710656) (hs : (nd l p.dir).data.size ≤ 281474976710656) (hD : DirO (nd l p.dir).data (some L)) (hpd : ¬ p.ino = p.dir) (h1 : 1 ≤ (nd l p.ino).links) (h2 : (nd l p.ino).links < 65536) :
    Calls Tryz.prog 55 #[.pointer (some ⟨q, 0, none⟩), spV p gv] w (WkPost base q g cap ((l.set p.dir (dirN (nd l p.dir) (dropV L p.name) now)).set p.ino (lessN (nd l p.ino) now)) now (.int .i64 0) w) := by
  have hB := below_new w (spO p gv)
  have hsp := SpAt.new w p gv
  have hK := h.th hB
  obtain ⟨hc1, hc2⟩ := h.cap
  obtain ⟨k0, k1, k2, k3, k4⟩ := hK.at hi
  rw [hd] at k4
  have kc := hK.c.1
  have HDR := Lib.hid (fun W (hO : Below (w.alloc (spO p gv)).heap.size (w.alloc (spO p gv)) W) => drop_call W base q g cap now p gv l L (hK.th hO) hj hl hn hs hD)
  have e : nd (l.set p.dir (dirN (nd l p.dir) (dropV L p.name) now)) p.ino = nd l p.ino := by rw [nd_set hj, if_neg hpd]
  have HLO := Lib.hid (fun W (hW : WkAt W base q g cap (l.set p.dir (dirN (nd l p.dir) (dropV L p.name) now)) now) => lose_call W base q g cap p.ino now _ hW (by rw [List.length_set]; exact hi) (by rw [List.length_set]; exact hl) (by rw [e]; exact h1) (by rw [e]; exact h2))
  rw [e] at HLO
  have HSP : Hid (∀ W W', Below (w.alloc (spO p gv)).heap.size (w.alloc (spO p gv)) W → Only (fun i => i = g) W W' → SpAt W' w.heap.size p gv ∧ Only (fun i => i = g) w W') := fun W W' hO hO2 => by
    have hg := h.g.2.1
    have a1 := hsp.th hO
    exact ⟨a1.of_heap (hO2.block _ a1.lt (by omega)), (Only.of_below (below_th hB hO)).trans hO2⟩
  have hself : Below (w.alloc (spO p gv)).heap.size (w.alloc (spO p gv)) (w.alloc (spO p gv)) := Below.refl _ _
  have hself2 := hself.drew
  have hp1 : ((p.ino : Int) == 2) = false := by simp; omega
  obtain ⟨q0, q1, q2, q3⟩ := hsp.c
  unfold SpAt at HSP
  unfold WkPost at HDR HLO ⊢
  clear h hK hsp hB k0 k1 k2 k3 hd hD hs hn h1 h2 hpd e hj
  generalize l.set p.dir (dirN (nd l p.dir) (dropV L p.name) now) = m1 at *
  generalize m1.set p.ino (lessN (nd l p.ino) now) = m2 at *
  unfold spO at HDR HSP hself hself2 q0 q1 q2 q3 k4 kc
  unfold spV at HDR ⊢
  obtain ⟨pd, pn, pi⟩ := p
  dsimp only at *
  go_enter Tryz.func55, Tryz.ntmps55
  go_wp2_with (fail)
  go_quiet (fail)
  trace_state
  go_wp2_with (first
    | (go_at_call 53; (with_reducible refine Calls.mono (HDR.out _ (by first | assumption | exact below_drewN hself _)) ?_); rintro e w1 ⟨rfl, hK1, hO1⟩; have hS := HSP.out _ _ (by first | assumption | exact below_drewN hself _) hO1; obtain ⟨q0, q1, q2, q3⟩ := SpAt.c (p := ⟨pd, pn, pi⟩) hS.1; have HS2 := Lib.hid hS.2; clear hS; dsimp only at q0 q1 q2 q3)
    | (go_at_call 54; (with_reducible refine Calls.mono (HLO.out _ hK1) ?_); rintro e w2 ⟨rfl, hK2, hO2⟩))
  go_ret
  exact ⟨rfl, hK2, HS2.out.trans hO2⟩
end
end Go.Proofs.YtkipkcmcolomcaaGreat.Pln
