/- Several texts in one, each under its own heading. -/
import Derived.Test.YtkipkcmcolomcaaGreatPk30
import Derived.ArgAppend
/- create: a new file at a place of none. -/
namespace Go.Proofs.YtkipkcmcolomcaaGreat.Pln
open Go.RowKit
open Dir (N nm DirP DirO findV findE findVo findEo addE addV dropV setE setV addEo addVo dropVo setEo setVo)
open Pth (Strs)
attribute [local go_sem] Oper.semAt_some
set_option linter.unusedVariables false
set_option linter.unusedSimpArgs false
/-- a node's value, laid in a box -/
theorem fresh_call (w : World) (v : Value) (l : List Nd) (h : Nodes w v l) (h3 : 3 ≤ l.length) (hl : l.length ≤ 240) : Calls Tryz.prog 87 #[v] w (Ans w (.int .u32 (fresh l : Nat))) := by
  rcases h.open with ⟨a, cap, rfl, e⟩ | ⟨b, off, cap, rfl, _⟩
  · rw [e] at h3
    exact absurd h3 (by decide)
  · exact callsIn_wide.1 (free_in b off cap l.length l w rfl h3 hl h)
section
set_option maxRecDepth 100000
set_option maxHeartbeats 4000000
theorem create_many (w : World) (base q g cap now : Nat) (p : Pl) (gv : Value) (n : Nd) (l : List Nd) (h : WkAt w base q g cap l now) (h3 : 3 ≤ l.length) (hl : l.length ≤ 240) (hf : fresh l = 240) :
    Calls Tryz.prog 50 #[.pointer (some ⟨q, 0, none⟩), spV p gv, n.val] w (fun e w' => e = .returned (.int .i64 145) ∧ Below w.heap.size w w') := by
  have hB := below_al (below_new w (spO p gv)) (boxO n)
  have hK := h.th hB
  have kc := hK.c.1
  have HF := Lib.hid (fun W (hO : Below ((w.alloc (spO p gv)).alloc (boxO n)).heap.size ((w.alloc (spO p gv)).alloc (boxO n)) W) => fresh_call W _ l (hK.th hO).nodes h3 hl)
  rw [hf] at HF
  have hself : Below ((w.alloc (spO p gv)).alloc (boxO n)).heap.size ((w.alloc (spO p gv)).alloc (boxO n)) ((w.alloc (spO p gv)).alloc (boxO n)) := Below.refl _ _
  have HB := Lib.hid hB
  unfold Ans at HF
  unfold spO boxO at HF HB kc hself
  unfold spV Nd.val
  clear h hK hB hf
  obtain ⟨pd, pn, pi⟩ := p
  obtain ⟨nk, nm, nl, nt, ndt⟩ := n
  dsimp only at *
  go_enter Tryz.func50, Tryz.ntmps50
  go_wp2_with (go_at_call 87; (with_reducible refine Calls.mono (HF.out _ hself) ?_); rintro e w1 ⟨rfl, hB1⟩)
  go_ret
  exact ⟨rfl, below_th HB.out hB1⟩
theorem create_err (w : World) (base q g cap now : Nat) (p : Pl) (gv : Value) (n : Nd) (l : List Nd) (L : List N) (h : WkAt w base q g cap l now) (h3 : 3 ≤ l.length) (hl : l.length ≤ 240) (hf : fresh l < 240) (hi : p.dir < l.length) (hn : p.name.size ≤ 281474976710656) (hs : (nd l p.dir).data.size ≤ 281474976710656)
    (hD : DirO (nd l p.dir).data (some L)) (he : ¬ addE L p.name (fresh l) = 0) :
    Calls Tryz.prog 50 #[.pointer (some ⟨q, 0, none⟩), spV p gv, n.val] w (fun e w' => e = .returned (.int .i64 (addE L p.name (fresh l))) ∧ Only (fun i => i = g) w w') := by
  have hB := below_al (below_new w (spO p gv)) (boxO n)
  have hsp := (SpAt.new w p gv).th (below_new _ (boxO n))
  have hK := h.th hB
  have kc := hK.c.1
  have hself : Below ((w.alloc (spO p gv)).alloc (boxO n)).heap.size ((w.alloc (spO p gv)).alloc (boxO n)) ((w.alloc (spO p gv)).alloc (boxO n)) := Below.refl _ _
  have HF := Lib.hid (fun W (hO : Below ((w.alloc (spO p gv)).alloc (boxO n)).heap.size ((w.alloc (spO p gv)).alloc (boxO n)) W) => fresh_call W _ l (hK.th hO).nodes h3 hl)
  have HP := Lib.hid (fun W (hO : Below ((w.alloc (spO p gv)).alloc (boxO n)).heap.size ((w.alloc (spO p gv)).alloc (boxO n)) W) => put_call W base q g cap now (fresh l) p gv l L (hK.th hO) hi hl hn hs (by omega) hD)
  have HSP := Lib.hid (fun W (hO : Below ((w.alloc (spO p gv)).alloc (boxO n)).heap.size ((w.alloc (spO p gv)).alloc (boxO n)) W) => (hsp.th hO).c)
  have HB := Lib.hid hB
  have hne : (((fresh l : Nat) : Int) == 240) = false := by simp; omega
  have hee : (addE L p.name (fresh l) != 0) = true := by simpa using he
  unfold Ans at HF
  unfold WkPost at HP
  generalize addE L p.name (fresh l) = ee at *
  generalize addV L p.name (fresh l) = vv at *
  generalize fresh l = x at *
  unfold spO boxO at HF HB HP HSP kc hself
  unfold spV Nd.val at *
  clear h hK hB hsp hD hs hn he
  obtain ⟨pd, pn, pi⟩ := p
  obtain ⟨nk, nm, nl, nt, ndt⟩ := n
  dsimp only at *
  go_enter Tryz.func50, Tryz.ntmps50
  go_wp2_with (first
    | (go_at_call 87; (with_reducible refine Calls.mono (HF.out _ hself) ?_); rintro e w1 ⟨rfl, hB1⟩; obtain ⟨s0, s1, s2, s3⟩ := HSP.out _ hB1)
    | (go_at_call 88; (with_reducible refine Calls.mono (HP.out _ hB1) ?_); rintro e w2 ⟨rfl, hK2, hO2⟩))
  go_ret
  exact ⟨rfl, (Only.of_below (below_th HB.out hB1)).trans hO2⟩
end
end Go.Proofs.YtkipkcmcolomcaaGreat.Pln
/- create: a new file at a place of none, where a number is free. -/
namespace Go.Proofs.YtkipkcmcolomcaaGreat.Pln
open Go.RowKit
open Dir (N nm DirP DirO findV findE findVo findEo addE addV dropV setE setV addEo addVo dropVo setEo setVo)
open Pth (Strs)
attribute [local go_sem] Oper.semAt_some
set_option linter.unusedVariables false
set_option linter.unusedSimpArgs false
/-- what the work may have become: its files at another block -/
def WkAny (base q : Nat) (l : List Nd) (now : Nat) (w' : World) : Prop := ∃ g cap, WkAt w' base q g cap l now
section
set_option maxRecDepth 100000
set_option maxHeartbeats 4000000
theorem create_old (w : World) (base q g cap now : Nat) (p : Pl) (gv : Value) (n : Nd) (l : List Nd) (L : List N) (h : WkAt w base q g cap l now) (h3 : 3 ≤ l.length) (hl : l.length ≤ 240) (hf : fresh l < l.length) (hi : p.dir < l.length) (hn : p.name.size ≤ 281474976710656) (hs : (nd l p.dir).data.size ≤ 281474976710656)
    (hD : DirO (nd l p.dir).data (some L)) (he : addE L p.name (fresh l) = 0) (hf2 : fresh l < 240) :
    Calls Tryz.prog 50 #[.pointer (some ⟨q, 0, none⟩), spV p gv, n.val] w (fun e w' => e = .returned (.int .i64 0) ∧ WkAt w' base q g cap ((l.set p.dir (dirN (nd l p.dir) (addV L p.name (fresh l)) now)).set (fresh l) ⟨n.kind, n.mode, 1, now, n.data⟩) now ∧ Only (fun i => i = g) w w') := by
  have hB := below_al (below_new w (spO p gv)) (boxO n)
  have hsp := (SpAt.new w p gv).th (below_new _ (boxO n))
  have hat := At.new (w.alloc (spO p gv)) n
  rw [World.size_alloc] at hat
  have hK := h.th hB
  have kc := hK.c.1
  have hself : Below ((w.alloc (spO p gv)).alloc (boxO n)).heap.size ((w.alloc (spO p gv)).alloc (boxO n)) ((w.alloc (spO p gv)).alloc (boxO n)) := Below.refl _ _
  have HF := Lib.hid (fun W (hO : Below ((w.alloc (spO p gv)).alloc (boxO n)).heap.size ((w.alloc (spO p gv)).alloc (boxO n)) W) => fresh_call W _ l (hK.th hO).nodes h3 hl)
  have HP := Lib.hid (fun W (hO : Below ((w.alloc (spO p gv)).alloc (boxO n)).heap.size ((w.alloc (spO p gv)).alloc (boxO n)) W) => put_call W base q g cap now (fresh l) p gv l L (hK.th hO) hi hl hn hs (by omega) hD)
  have HSP := Lib.hid (fun W (hO : Below ((w.alloc (spO p gv)).alloc (boxO n)).heap.size ((w.alloc (spO p gv)).alloc (boxO n)) W) => (hsp.th hO).c)
  obtain ⟨hc1, hc2⟩ := h.cap
  have hgw := h.g.2.1
  have hqw := h.lt
  -- behind put
  have HAT : Hid (∀ W W', Below ((w.alloc (spO p gv)).alloc (boxO n)).heap.size ((w.alloc (spO p gv)).alloc (boxO n)) W → Only (fun i => i = g) W W' → At W' (w.heap.size + 1) n ∧ Only (fun i => i = g) w W') := fun W W' hO hO2 => by
    have a1 := hat.th hO
    exact ⟨a1.of_heap (hO2.block _ a1.lt (by omega)), (Only.of_below (below_th hB hO)).trans hO2⟩
  have HFIN : Hid (∀ W W3, At W (w.heap.size + 1) n → WkAt W base q g cap (l.set p.dir (dirN (nd l p.dir) (addV L p.name (fresh l)) now)) now → Only (fun i => i = g) w W →
      At W3 (w.heap.size + 1) ⟨n.kind, n.mode, 1, now, n.data⟩ → Only (fun i => i = w.heap.size + 1) W W3 →
      W3.cell? ⟨q, 0, none⟩ = some (.slice (some ⟨g, 0, none⟩) l.length cap) ∧ (∀ j, W3.frozen? ⟨g, j, none⟩ = false) ∧
      (∃ u, W3.cell? ⟨g, fresh l * 5, none⟩ = some u) ∧ (∃ u, W3.cell? ⟨g, fresh l * 5 + 1, none⟩ = some u) ∧ (∃ u, W3.cell? ⟨g, fresh l * 5 + 2, none⟩ = some u) ∧ (∃ u, W3.cell? ⟨g, fresh l * 5 + 3, none⟩ = some u) ∧ (∃ u, W3.cell? ⟨g, fresh l * 5 + 4, none⟩ = some u) ∧
      (WkAt (((((W3.setCell ⟨g, fresh l * 5, none⟩ (.int .i64 n.kind)).setCell ⟨g, fresh l * 5 + 1, none⟩ (.int .u16 n.mode)).setCell ⟨g, fresh l * 5 + 2, none⟩ (.int .u16 1)).setCell ⟨g, fresh l * 5 + 3, none⟩ (.int .u64 now)).setCell ⟨g, fresh l * 5 + 4, none⟩ (.string n.data)) base q g cap ((l.set p.dir (dirN (nd l p.dir) (addV L p.name (fresh l)) now)).set (fresh l) ⟨n.kind, n.mode, 1, now, n.data⟩) now ∧
       Only (fun i => i = g) w (((((W3.setCell ⟨g, fresh l * 5, none⟩ (.int .i64 n.kind)).setCell ⟨g, fresh l * 5 + 1, none⟩ (.int .u16 n.mode)).setCell ⟨g, fresh l * 5 + 2, none⟩ (.int .u16 1)).setCell ⟨g, fresh l * 5 + 3, none⟩ (.int .u64 now)).setCell ⟨g, fresh l * 5 + 4, none⟩ (.string n.data)))) := fun W W3 b1 b2 b3 b4 b5 => by
    have hK3 := b2.only b5 (by omega) (by omega)
    have hx : fresh l < (l.set p.dir (dirN (nd l p.dir) (addV L p.name (fresh l)) now)).length := by rw [List.length_set]; exact hf
    obtain ⟨m1, m2, m3⟩ := hK3.node hx ⟨n.kind, n.mode, 1, now, n.data⟩
    obtain ⟨k0, k1, k2, k3, k4⟩ := hK3.at hx
    have kc := hK3.c.1
    rw [List.length_set] at kc
    exact ⟨kc, m1, ⟨_, k0⟩, ⟨_, k1⟩, ⟨_, k2⟩, ⟨_, k3⟩, ⟨_, k4⟩, m2, ((b3.step b5 (fun i hi e => absurd hi (by omega))).trans m3)⟩
  have HQ : Hid (∀ W, WkAt W base q g cap (l.set p.dir (dirN (nd l p.dir) (addV L p.name (fresh l)) now)) now → W.cell? ⟨q, 0, none⟩ = some (.slice (some ⟨g, 0, none⟩) l.length cap) ∧ W.cell? ⟨q, 1, none⟩ = some (.int .u64 now)) := fun W hK => by
    have kc := hK.c
    rwa [List.length_set] at kc
  have hne : (((fresh l : Nat) : Int) == 240) = false := by simp; omega
  have hne2 : (((fresh l : Nat) : Int) == (l.length : Int)) = false := by simp; omega
  have hwr : IntKind.u32.wrap (l.length : Int) = (l.length : Int) := by rw [IntKind.wrap_u32]; omega
  unfold Ans at HF
  unfold WkPost at HP
  rw [he] at HP
  clear he
  generalize hm1 : l.set p.dir (dirN (nd l p.dir) (addV L p.name (fresh l)) now) = m1 at *
  generalize fresh l = x at *
  unfold spO boxO at *
  unfold spV Nd.val at *
  clear h hK hB hsp hD hs hn hm1 hat
  obtain ⟨pd, pn, pi⟩ := p
  obtain ⟨nk, nm, nl, nt, ndt⟩ := n
  dsimp only at *
  generalize hm2 : m1.set x ⟨nk, nm, 1, now, ndt⟩ = m2 at *
  clear hm2
  go_enter Tryz.func50, Tryz.ntmps50
  go_wp2_with (first
    | (go_at_call 87; (with_reducible refine Calls.mono (HF.out _ hself) ?_); rintro e w1 ⟨rfl, hB1⟩; obtain ⟨s0, s1, s2, s3⟩ := HSP.out _ hB1)
    | (go_at_call 88; (with_reducible refine Calls.mono (HP.out _ hB1) ?_); rintro e w2 ⟨rfl, hK2, hO2⟩; have hA := HAT.out _ _ hB1 hO2; obtain ⟨kc, kn⟩ := HQ.out _ hK2; obtain ⟨a0, a1, a2, a3, a4⟩ := hA.1.c; have f2 := hA.1.f 2; have f3 := hA.1.f 3; dsimp only at a0 a1 a2 a3 a4; have HA := Lib.hid hA; clear hA))
  go_region
  have hA3 := ((HA.out.1.put_links 1).1.put_time now).1.drew
  have hO3 := (((Only.refl (fun i => i = w.heap.size + 1) w2).setCell (p := ⟨w.heap.size + 1, 2, none⟩) (.inr rfl) (.int .u16 1)).setCell (p := ⟨w.heap.size + 1, 3, none⟩) (.inr rfl) (.int .u64 now)).drew
  have hF := HFIN.out w2 _ HA.out.1 hK2 HA.out.2 hA3 hO3
  clear hO3 f2 f3 a0 a1 a2 a3 a4 kc kn hO2 HSP HP HF HAT HFIN HQ hself
  generalize World.drew _ = W3 at hF hA3 ⊢
  obtain ⟨a0, a1, a2, a3, a4⟩ := hA3.c
  obtain ⟨kc, m1', ⟨u0, k0⟩, ⟨u1, k1⟩, ⟨u2, k2⟩, ⟨u3, k3⟩, ⟨u4, k4⟩, hm⟩ := hF
  have HM := Lib.hid hm
  clear hm hA3 hK2
  dsimp only at a0 a1 a2 a3 a4
  go_wp2_with (fail)
  go_region
  go_wp2_with (fail)
  go_ret
  exact ⟨rfl, HM.out.1.drew, HM.out.2.drew⟩
end
end Go.Proofs.YtkipkcmcolomcaaGreat.Pln
/- create: a new file at a place of none, where no number is free: the files grow. -/
namespace Go.Proofs.YtkipkcmcolomcaaGreat.Pln
open Go.RowKit
open Dir (N nm DirP DirO findV findE findVo findEo addE addV dropV setE setV addEo addVo dropVo setEo setVo)
open Pth (Strs)
attribute [local go_sem] Oper.semAt_some
set_option linter.unusedVariables false
set_option linter.unusedSimpArgs false
theorem only_new {w w' : World} {S : Nat → Prop} (h : w.grownBy w' none) : Only S w w' := ⟨h.os, h.tape, h.output, h.size, fun k hk hn => h.block k hk (fun e => by cases e)⟩
/-- the files grow by one that is none -/
theorem append_wk {w : World} {base q g cap now : Nat} {l : List Nd} (h : WkAt w base q g cap l now) (hb : base ≤ w.heap.size) (hl : l.length ≤ 240) (ad : Addr) (c : Nat) (ty : TypeId) (hc : ∀ j u, (Nd.zero.cells)[j]? = some u → w.cell? (ad.add j) = some u) :
    ∃ g' cap' w', (Builtin.append_ #[25, 25] ty #[.slice (some ⟨g, 0, none⟩) l.length cap, .slice (some ad) 1 c]).run Tryz.prog w = .ok (.slice (some ⟨g', 0, none⟩) (l.length + 1) cap') w' ∧ (g' = g ∨ w.heap.size ≤ g') ∧ w'.ownsRow base 46 5 (.slice (some ⟨g', 0, none⟩) (l.length + 1) cap') (l.length + 1) (cellsL (l ++ [Nd.zero])) ∧ Only (fun i => i = g) w w' := by
  obtain ⟨i0, hi, hz0, hz1, hz2⟩ := info_parts infoNd
  have hc1 : ∀ u ∈ Nd.zero.cells, u.oneCell' = true := fun u hu => by
    simp only [Nd.cells, List.mem_cons, List.not_mem_nil, or_false] at hu
    rcases hu with rfl | rfl | rfl | rfl | rfl <;> rfl
  rw [cellsL_snoc]
  by_cases hr : l.length + 1 ≤ cap
  · obtain ⟨w', hrun, r1, r2⟩ := run_append_fits (P := Tryz.prog) w base 25 ty 46 i0 5 Tryz.underlying25 hi hz1 g l.length cap (cellsL l) h.row ad 1 c Nd.zero.cells rfl hc hc1 hr
    exact ⟨g, cap, w', hrun, .inl rfl, r1, ⟨r2.os, r2.tape, r2.output, r2.size, fun k hk hn => r2.block k hk (fun e => hn (by injection e))⟩⟩
  · obtain ⟨v', w', hrun, r1, r2⟩ := run_append_arg_grows (P := Tryz.prog) w 25 ty 46 i0 (.agg #[.int .i64 0, .int .u16 0, .int .u16 0, .int .u64 0, .string ⟨#[]⟩]) 5 40 Tryz.underlying25 hi hz0 hz1 hz2 rfl (by decide) ⟨g, 0, none⟩ l.length cap (cellsL l) (cellsL_length l)
      (fun j u hj => by
        have hlt := (List.getElem?_eq_some_iff.1 hj).1
        have := h.row.cellAt j (by rwa [cellsL_length] at hlt)
        rw [add_plain, Nat.zero_add]
        exact this.trans hj) ad 1 c Nd.zero.cells rfl hc (by omega) (by unfold maxLen; omega) (by omega)
    obtain ⟨g', cap', rfl, h1, h2, h3⟩ := own_open r1 (by omega)
    refine ⟨g', cap', w', hrun, .inr h1, ?_, only_new r2⟩
    rcases r1.2 with ⟨hv, _⟩ | ⟨g2, cap2, cur, hv, hb2, r⟩
    · cases hv
    · exact ⟨r1.1, .inr ⟨g2, cap2, cur, hv, Nat.le_trans hb hb2, r⟩⟩
/-- the same, for the walk -/
theorem wpList_append_wk {w : World} {ops : Array Oper} {rest : List Oper} {o : Oper} {a : Act} {Q : Exit → Act → World → Prop} (hgd : o.guard = none) (s x : Operand)
    (hop : o.op = Op.call { callee := Callee.builtin Builtin.append, args := #[s, x], argTypes := #[25, 25] })
    {base q g cap now n : Nat} {l : List Nd} (hn : l.length = n) (h : WkAt w base q g cap l now) (hb : base ≤ w.heap.size) (hl : l.length ≤ 240) (hs : a.eval s = .slice (some ⟨g, 0, none⟩) n cap) (ad : Addr) (c : Nat) (hx : a.eval x = .slice (some ad) 1 c) (hc : ∀ j u, (Nd.zero.cells)[j]? = some u → w.cell? (ad.add j) = some u)
    (hK : ∀ g' cap' w', (g' = g ∨ w.heap.size ≤ g') → w'.ownsRow base 46 5 (.slice (some ⟨g', 0, none⟩) (n + 1) cap') (n + 1) (cellsL (l ++ [Nd.zero])) → Only (fun i => i = g) w w' → wpList Tryz.prog ops Q rest (a.put o.dst (.slice (some ⟨g', 0, none⟩) (n + 1) cap')) w') :
    wpList Tryz.prog ops Q (o :: rest) a w := by
  refine wpList_plain hgd fun K hK' => ?_
  obtain ⟨g', cap', w', hrun, h1, h2, h3⟩ := append_wk h hb hl ad c o.type hc
  rw [hn] at hrun h2
  unfold Oper.wp
  simp [execOp, hop, resolve, invoke, builtin, hs, hx, hrun, Result.andThen]
  exact hK' _ _ (hK g' cap' w' h1 h2 h3)
section
set_option maxRecDepth 100000
set_option maxHeartbeats 4000000
theorem create_new (w : World) (base q g cap now : Nat) (p : Pl) (gv : Value) (n : Nd) (l : List Nd) (L : List N) (hbase : base ≤ w.heap.size) (h : WkAt w base q g cap l now) (h3 : 3 ≤ l.length) (hl : l.length < 240) (hf : fresh l = l.length) (hi : p.dir < l.length) (hn : p.name.size ≤ 281474976710656) (hs : (nd l p.dir).data.size ≤ 281474976710656)
    (hD : DirO (nd l p.dir).data (some L)) (he : addE L p.name (fresh l) = 0) :
    Calls Tryz.prog 50 #[.pointer (some ⟨q, 0, none⟩), spV p gv, n.val] w (fun e w' => e = .returned (.int .i64 0) ∧ (∃ g' cap', WkAt w' base q g' cap' ((l.set p.dir (dirN (nd l p.dir) (addV L p.name (fresh l)) now) ++ [Nd.zero]).set l.length ⟨n.kind, n.mode, 1, now, n.data⟩) now) ∧ Only (fun i => i = g ∨ i = q) w w') := by
  have hB := below_al (below_new w (spO p gv)) (boxO n)
  have hsp := (SpAt.new w p gv).th (below_new _ (boxO n))
  have hat := At.new (w.alloc (spO p gv)) n
  rw [World.size_alloc] at hat
  have hK := h.th hB
  have kc := hK.c.1
  have hself : Below ((w.alloc (spO p gv)).alloc (boxO n)).heap.size ((w.alloc (spO p gv)).alloc (boxO n)) ((w.alloc (spO p gv)).alloc (boxO n)) := Below.refl _ _
  have HF := Lib.hid (fun W (hO : Below ((w.alloc (spO p gv)).alloc (boxO n)).heap.size ((w.alloc (spO p gv)).alloc (boxO n)) W) => fresh_call W _ l (hK.th hO).nodes h3 (Nat.le_of_lt hl))
  have HP := Lib.hid (fun W (hO : Below ((w.alloc (spO p gv)).alloc (boxO n)).heap.size ((w.alloc (spO p gv)).alloc (boxO n)) W) => put_call W base q g cap now (fresh l) p gv l L (hK.th hO) hi (Nat.le_of_lt hl) hn hs (by omega) hD)
  have HSP := Lib.hid (fun W (hO : Below ((w.alloc (spO p gv)).alloc (boxO n)).heap.size ((w.alloc (spO p gv)).alloc (boxO n)) W) => (hsp.th hO).c)
  obtain ⟨hc1, hc2⟩ := h.cap
  have hgw := h.g.2.1
  have hqw := h.lt
  have hqg := h.ne
  -- behind put
  have HAT : Hid (∀ W W', Below ((w.alloc (spO p gv)).alloc (boxO n)).heap.size ((w.alloc (spO p gv)).alloc (boxO n)) W → Only (fun i => i = g) W W' → At W' (w.heap.size + 1) n ∧ Only (fun i => i = g) w W' ∧ base ≤ W'.heap.size) := fun W W' hO hO2 => by
    have a1 := hat.th hO
    have hz := (Only.of_below (S := fun i => i = g) (below_th hB hO)).trans hO2
    exact ⟨a1.of_heap (hO2.block _ a1.lt (by omega)), hz, Nat.le_trans hbase hz.size⟩
  have HQ : Hid (∀ W, WkAt W base q g cap (l.set p.dir (dirN (nd l p.dir) (addV L p.name (fresh l)) now)) now → W.cell? ⟨q, 0, none⟩ = some (.slice (some ⟨g, 0, none⟩) l.length cap) ∧ W.cell? ⟨q, 1, none⟩ = some (.int .u64 now)) := fun W hK => by
    have kc := hK.c
    rwa [List.length_set] at kc
  have hne : (((fresh l : Nat) : Int) == 240) = false := by simp; omega
  have hne2 : ((l.length : Int) == (l.length : Int)) = true := by simp
  have hwr : IntKind.u32.wrap (l.length : Int) = (l.length : Int) := by rw [IntKind.wrap_u32]; omega
  have hml : (l.set p.dir (dirN (nd l p.dir) (addV L p.name (fresh l)) now)).length = l.length := List.length_set
  unfold Ans at HF
  unfold WkPost at HP
  rw [he] at HP
  clear he
  have hml2 : (l.set p.dir (dirN (nd l p.dir) (addV L p.name (fresh l)) now) ++ [Nd.zero]).length = l.length + 1 := by rw [List.length_append, hml]; rfl
  generalize hm1 : l.set p.dir (dirN (nd l p.dir) (addV L p.name (fresh l)) now) = m1 at *
  rw [hf] at *
  generalize l.length = x at *
  have HAP : Hid (∀ W W', WkAt W base q g cap m1 now → base ≤ W.heap.size → W' = W.alloc (.cells #[.int .i64 0, .int .u16 0, .int .u16 0, .int .u64 0, .string ⟨#[]⟩] 46) → WkAt W' base q g cap m1 now ∧ base ≤ W'.heap.size ∧ ∀ j u, (Nd.zero.cells)[j]? = some u → W'.cell? ((⟨W.heap.size, 0, none⟩ : Addr).add j) = some u) := fun W W' h1 h0 h2 => by
    subst h2
    refine ⟨h1.th (below_new _ _), by rw [World.size_alloc]; omega, fun j u hj => ?_⟩
    have hh := World.alloc_heap_new W (.cells #[.int .i64 0, .int .u16 0, .int .u16 0, .int .u64 0, .string ⟨#[]⟩] 46)
    rw [add_plain, Nat.zero_add]
    simp only [World.cell?, hh]
    rw [← Array.getElem?_toList]
    exact hj
  have HST : Hid (∀ W W3 g' cap', WkAt W base q g cap m1 now → At W (w.heap.size + 1) n → Only (fun i => i = g) w W →
      Only (fun i => i = g) (W.alloc (.cells #[.int .i64 0, .int .u16 0, .int .u16 0, .int .u64 0, .string ⟨#[]⟩] 46)) W3 → (g' = g ∨ (W.alloc (.cells #[.int .i64 0, .int .u16 0, .int .u16 0, .int .u64 0, .string ⟨#[]⟩] 46)).heap.size ≤ g') → W3.ownsRow base 46 5 (.slice (some ⟨g', 0, none⟩) (x + 1) cap') (x + 1) (cellsL (m1 ++ [Nd.zero])) →
      (∃ u, W3.cell? ⟨q, 0, none⟩ = some u) ∧ W3.frozen? ⟨q, 0, none⟩ = false ∧ WkAt (W3.setCell ⟨q, 0, none⟩ (.slice (some ⟨g', 0, none⟩) (x + 1) cap')) base q g' cap' (m1 ++ [Nd.zero]) now ∧ At (W3.setCell ⟨q, 0, none⟩ (.slice (some ⟨g', 0, none⟩) (x + 1) cap')) (w.heap.size + 1) n ∧ Only (fun i => i = g ∨ i = q) w (W3.setCell ⟨q, 0, none⟩ (.slice (some ⟨g', 0, none⟩) (x + 1) cap')) ∧ ¬ g' = w.heap.size + 1 ∧ (g' = g ∨ w.heap.size ≤ g') ∧ x + 1 ≤ cap') := fun W W3 g' cap' b1 b2 b3 b4 b5 b6 => by
    have c1 := b1.th (below_new W (.cells #[.int .i64 0, .int .u16 0, .int .u16 0, .int .u64 0, .string ⟨#[]⟩] 46))
    have c2 := b2.th (below_new W (.cells #[.int .i64 0, .int .u16 0, .int .u16 0, .int .u64 0, .string ⟨#[]⟩] 46))
    have q3 : W3.heap[q]? = some (.cells #[.slice (some ⟨g, 0, none⟩) m1.length cap, .int .u64 now] 63 (0, 0)) := (b4.block q c1.lt hqg).trans c1.box
    have hlt := b2.lt
    have c3 := c2.of_heap (b4.block _ c2.lt (by omega))
    have hgn : ¬ g' = w.heap.size + 1 := fun e => by
      rcases b5 with e2 | e2
      · omega
      · rw [World.size_alloc] at e2; omega
    have hgq : ¬ g' = q := fun e => by
      rcases b6.2 with ⟨hv, _⟩ | ⟨g2, cap2, cur, hv, _, hg2, _⟩
      · cases hv
      · injection hv with e1 _ _
        injection e1 with e1
        injection e1 with e1 _ _
        rw [← e1, e, q3] at hg2
        injection hg2 with hg2
        injection hg2 with _ h1 _
        exact absurd h1 (by decide)
    have hO := only_set W3 q 0 (.slice (some ⟨g', 0, none⟩) (x + 1) cap')
    have hcp : x + 1 ≤ cap' := by
      obtain ⟨a, cap2, hv, h1, h2⟩ := (Nodes.own (L := m1 ++ [Nd.zero]) (by rw [show (m1 ++ [Nd.zero]).length = x + 1 by rw [List.length_append, hml]; rfl]; exact b6)).parts
      injection hv with _ e2 e3
      rw [List.length_append, hml] at h1
      have : ([Nd.zero] : List Nd).length = 1 := rfl
      omega
    have hbs := b3.size
    have hal : (W.alloc (.cells #[.int .i64 0, .int .u16 0, .int .u16 0, .int .u64 0, .string ⟨#[]⟩] 46)).heap.size = W.heap.size + 1 := World.size_alloc _ _
    refine ⟨⟨.slice (some ⟨g, 0, none⟩) m1.length cap, by simp only [World.cell?, q3]; rfl⟩, by simp only [World.frozen?, q3]; rfl, ⟨?_, ?_⟩, c3.of_heap (hO.block _ c3.lt (by omega)), ?_, hgn, b5.imp (fun e => e) (fun e => by omega), hcp⟩
    · have := heap_setCell_same W3 q 0 _ _ (.slice (some ⟨g', 0, none⟩) (x + 1) cap') q3
      rw [this, List.length_append, hml]
      rfl
    · rw [show (m1 ++ [Nd.zero]).length = x + 1 by rw [List.length_append, hml]; rfl]
      rcases b6.2 with ⟨hv, _⟩ | ⟨g2, cap2, cur, hv, hb2, hg2, r⟩
      · cases hv
      · have hv0 := hv
        injection hv with e1 _ _
        injection e1 with e1
        injection e1 with e1 _ _
        subst e1
        exact ⟨b6.1, .inr ⟨g', cap2, cur, hv0, hb2, (hO.block g' (Array.getElem?_eq_some_iff.1 hg2).1 hgq).trans hg2, r⟩⟩
    · exact (((b3.alloc _).mono (T := fun i => i = g ∨ i = q) (fun _ _ e => .inl e)).step b4 (fun i _ e => .inl e)).step hO (fun i _ e => .inr e)
  unfold spO boxO at *
  unfold spV Nd.val at *
  clear h hK hB hsp hD hs hn hm1 hat
  obtain ⟨pd, pn, pi⟩ := p
  obtain ⟨nk, nm, nl, nt, ndt⟩ := n
  dsimp only at *
  go_enter Tryz.func50, Tryz.ntmps50
  go_wp2_with (first
    | (go_at_call 87; (with_reducible refine Calls.mono (HF.out _ hself) ?_); rintro e w1 ⟨rfl, hB1⟩; obtain ⟨s0, s1, s2, s3⟩ := HSP.out _ hB1)
    | (go_at_call 88; (with_reducible refine Calls.mono (HP.out _ hB1) ?_); rintro e w2 ⟨rfl, hK2, hO2⟩; have hA := HAT.out _ _ hB1 hO2; obtain ⟨kc, kn⟩ := HQ.out _ hK2; have HA := Lib.hid hA; clear hA)
    | (at_builtin; refine wpList_append_wk rfl _ _ rfl hml (HAP.out _ _ hK2 HA.out.2.2 rfl).1 (HAP.out _ _ hK2 HA.out.2.2 rfl).2.1 (by omega) rfl ⟨w2.heap.size, 0, none⟩ 1 rfl (HAP.out _ _ hK2 HA.out.2.2 rfl).2.2 ?_; intro g' cap' w3 hg' hown' hO'; obtain ⟨⟨u, hu⟩, hfz, hWK, hAT, hON, hgn, hgo, hcp⟩ := HST.out w2 w3 g' cap' hK2 HA.out.1 HA.out.2.1 hO' hg' hown'; obtain ⟨kc, kn⟩ := hWK.c; obtain ⟨a0, a1, a2, a3, a4⟩ := hAT.c; have f2 := hAT.f 2; have f3 := hAT.f 3; dsimp only at a0 a1 a2 a3 a4; have HWK := Lib.hid hWK; have HAT2 := Lib.hid hAT; have HON := Lib.hid hON; clear hWK hAT hON))
  obtain ⟨W4, hW4⟩ : ∃ W4, w3.setCell ⟨q, 0, none⟩ (.slice (some ⟨g', 0, none⟩) (x + 1) cap') = W4 := ⟨_, rfl⟩
  rw [hW4] at kc kn a0 a1 a2 a3 a4 f2 f3 HWK HAT2 HON ⊢
  rw [hml2] at kc
  clear hW4 hu hfz hO' hown' hO2 HSP HP HF HAT HQ HAP HST hself s0 s1 s2 s3
  go_region
  have hA3 := ((HAT2.out.put_links 1).1.put_time now).1.drew
  have hO3 := (((Only.refl (fun i => i = w.heap.size + 1) W4).setCell (p := ⟨w.heap.size + 1, 2, none⟩) (.inr rfl) (.int .u16 1)).setCell (p := ⟨w.heap.size + 1, 3, none⟩) (.inr rfl) (.int .u64 now)).drew
  have hK4 := HWK.out.only hO3 (by omega) hgn
  have hxl : x < (m1 ++ [Nd.zero]).length := by omega
  have hF := hK4.node hxl ⟨nk, nm, 1, now, ndt⟩
  have hR := hK4.at hxl
  have kc5 := hK4.c.1
  rw [hml2] at kc5
  have hO5 := HON.out.step hO3 (fun i hi e => absurd hi (by omega))
  clear hO3 f2 f3 a0 a1 a2 a3 a4 kc kn HWK HAT2 HON hK4
  generalize World.drew _ = W5 at hF hA3 hR kc5 hO5 ⊢
  obtain ⟨a0, a1, a2, a3, a4⟩ := hA3.c
  obtain ⟨k0, k1, k2, k3, k4⟩ := hR
  obtain ⟨mf, hm, hmo⟩ := hF
  have HM := Lib.hid hm
  have HMO := Lib.hid (hO5.step hmo (fun i hi e => e.symm ▸ (hgo.elim (fun e2 => .inl e2) (fun e2 => absurd hi (by omega)))))
  clear hm hA3 hmo hO5
  dsimp only at a0 a1 a2 a3 a4
  generalize (nd (m1 ++ [Nd.zero]) x).kind = z0 at *
  go_wp2_with (fail)
  go_region
  go_wp2_with (fail)
  go_ret
  exact ⟨rfl, ⟨g', cap', HM.out.drew⟩, HMO.out.drew⟩
end
end Go.Proofs.YtkipkcmcolomcaaGreat.Pln
/- moves: the error of a move. -/
namespace Go.Proofs.YtkipkcmcolomcaaGreat.Pln
open Go.RowKit
open Dir (N nm DirP DirO findV findE findVo findEo addE addV dropV setE setV addEo addVo dropVo setEo setVo)
open Pth (Strs withinB)
attribute [local go_sem] Oper.semAt_some
set_option linter.unusedVariables false
set_option linter.unusedSimpArgs false
noncomputable def movesE (a b : Nd) (x : Nat) (v : Bool) : Int := if a.kind = 2 ∧ v = true then 147 else if x = 0 then 0 else takenE a b
theorem below_al2 {w W : World} (h : Below w.heap.size w W) (o : Obj) : Below w.heap.size w (W.alloc o) := below_al h o
section
set_option maxRecDepth 100000
set_option maxHeartbeats 4000000
theorem moves_any (w : World) (base q g cap now : Nat) (a b : Pl) (ga gb : Value) (ra rb : List ByteArray) (l : List Nd) (h : WkAt w base q g cap l now) (hl : l.length ≤ 240) (hi : a.ino < l.length) (hj : b.ino < l.length) (ha : Strs w ga ra) (hb : Strs w gb rb) :
    Calls Tryz.prog 96 #[.pointer (some ⟨q, 0, none⟩), spV a ga, spV b gb] w (Ans w (.int .i64 (movesE (nd l a.ino) (nd l b.ino) b.ino (withinB ra rb)))) := by
  have hB0 := below_new w (spO a ga)
  have hB1 := below_al hB0 (spO b gb)
  have hsa := (SpAt.new w a ga).th (below_new _ (spO b gb))
  have hsb := SpAt.new (w.alloc (spO a ga)) b gb
  rw [World.size_alloc] at hsb
  have hK := h.th hB1
  obtain ⟨hc1, hc2⟩ := h.cap
  have HWI := Lib.hid (fun W (hO : Below w.heap.size w W) => Pth.within_any ga gb ra rb W (ha.below hO) (hb.below hO))
  have HCE : Hid (∀ W, Below ((w.alloc (spO a ga)).alloc (spO b gb)).heap.size ((w.alloc (spO a ga)).alloc (spO b gb)) W → (W.cell? ⟨w.heap.size, 2, none⟩ = some (.int .u32 a.ino) ∧ W.cell? ⟨w.heap.size, 3, none⟩ = some ga) ∧ (W.cell? ⟨w.heap.size + 1, 2, none⟩ = some (.int .u32 b.ino) ∧ W.cell? ⟨w.heap.size + 1, 3, none⟩ = some gb) ∧
      W.cell? ⟨q, 0, none⟩ = some (.slice (some ⟨g, 0, none⟩) l.length cap) ∧ (W.cell? ⟨g, a.ino * 5, none⟩ = some (.int .i64 (nd l a.ino).kind)) ∧
      Reads W g (b.ino * 5) (nd l b.ino) ∧ Below w.heap.size w W) := fun W hO => by
    obtain ⟨_, _, x2, x3⟩ := (hsa.th hO).c
    obtain ⟨_, _, y2, y3⟩ := (hsb.th hO).c
    exact ⟨⟨x2, x3⟩, ⟨y2, y3⟩, (hK.th hO).c.1, ((hK.th hO).at hi).1, (hK.th hO).at hj, below_th hB1 hO⟩
  have HNW := Lib.hid (fun W : World => At.new W (nd l b.ino))
  have hself : Below ((w.alloc (spO a ga)).alloc (spO b gb)).heap.size ((w.alloc (spO a ga)).alloc (spO b gb)) ((w.alloc (spO a ga)).alloc (spO b gb)) := Below.refl _ _
  have h0 := HCE.out _ hself
  unfold Nam.Ans at HWI
  unfold spO at HCE hself h0
  unfold spV movesE takenE
  unfold Ans
  clear h hsa hsb hK hB0 hB1 ha hb
  obtain ⟨ad, an, ai⟩ := a
  obtain ⟨bd, bn, bi⟩ := b
  dsimp only at *
  generalize nd l ai = na at *
  generalize hnb : nd l bi = nb at *
  clear hnb
  generalize withinB ra rb = vv at *
  obtain ⟨⟨x2, x3⟩, ⟨y2, y3⟩, kc, ka, ⟨k0, k1, k2, k3, k4⟩, hB⟩ := h0
  obtain ⟨ck, cm, cl, ct, cd⟩ := nb
  dsimp only at *
  by_cases h1 : na.kind = 2
  · cases vv with
    | true =>
      rw [if_pos ⟨h1, rfl⟩]
      rw [h1] at ka
      clear h1
      go_enter Tryz.func96, Tryz.ntmps96
      go_wp2_with (fail)
      go_quiet (fail)
      have hXB := below_drewN hself nq
      clear x2 x3 y2 y3 kc ka k0 k1 k2 k3 k4 hB hself
      generalize World.drewN _ nq = W1 at hXB ⊢
      obtain ⟨⟨x2, x3⟩, ⟨y2, y3⟩, kc, _, ⟨k0, k1, k2, k3, k4⟩, hB⟩ := HCE.out _ hXB
      obtain ⟨⟨x2', x3'⟩, ⟨y2', y3'⟩, kc', _, ⟨k0', k1', k2', k3', k4'⟩, hB'⟩ := HCE.out _ (below_al2 hXB (.cells #[.int .i64 0, .int .u16 0, .int .u16 0, .int .u64 0, .string ⟨#[]⟩] 46))
      dsimp only at k0 k1 k2 k3 k4 k0' k1' k2' k3' k4'
      go_wp2_with (fail)
      go_region
      have hN := (HNW.out W1).drew
      have hXC := (below_al2 hXB (boxO ⟨ck, cm, cl, ct, cd⟩)).drew
      unfold boxO at hN hXC
      dsimp only at hN hXC
      clear x2 x3 y2 y3 kc k0 k1 k2 k3 k4 hB x2' x3' y2' y3' kc' k0' k1' k2' k3' k4' hB' hXB HNW
      generalize W1.heap.size = nb at hN ⊢
      generalize World.drew _ = W2 at hN hXC ⊢
      obtain ⟨⟨x2, x3⟩, ⟨y2, y3⟩, kc, _, _, hB⟩ := HCE.out _ hXC
      obtain ⟨n0, n1, n2, n3, n4⟩ := hN.c
      dsimp only at n0 n1 n2 n3 n4
      have HN2 := Lib.hid hN
      have HX2 := Lib.hid hXC
      have HB2 := Lib.hid hB
      clear hN hXC hB
      go_wp2_with (go_at_call 125; (with_reducible refine Calls.mono (HWI.out _ HB2.out) ?_); rintro e w3 ⟨rfl, hB3⟩; obtain ⟨⟨x2, x3⟩, ⟨y2, y3⟩, kc, _, _, hB⟩ := HCE.out _ (below_th HX2.out hB3); obtain ⟨n0, n1, n2, n3, n4⟩ := (HN2.out.th hB3).c; dsimp only at n0 n1 n2 n3 n4; have HB3 := Lib.hid hB)
      go_ret
      exact ⟨rfl, by first | exact HB3.out | exact HB2.out⟩
    | false =>
      rw [if_neg (fun e => by cases e.2)]
      by_cases h2 : bi = 0
      · rw [if_pos h2]
        have hz : ((bi : Int) == 0) = true := by simp [h2]
        clear h2
        rw [h1] at ka
        clear h1
        go_enter Tryz.func96, Tryz.ntmps96
        go_wp2_with (fail)
        go_quiet (fail)
        have hXB := below_drewN hself nq
        clear x2 x3 y2 y3 kc ka k0 k1 k2 k3 k4 hB hself
        generalize World.drewN _ nq = W1 at hXB ⊢
        obtain ⟨⟨x2, x3⟩, ⟨y2, y3⟩, kc, _, ⟨k0, k1, k2, k3, k4⟩, hB⟩ := HCE.out _ hXB
        obtain ⟨⟨x2', x3'⟩, ⟨y2', y3'⟩, kc', _, ⟨k0', k1', k2', k3', k4'⟩, hB'⟩ := HCE.out _ (below_al2 hXB (.cells #[.int .i64 0, .int .u16 0, .int .u16 0, .int .u64 0, .string ⟨#[]⟩] 46))
        dsimp only at k0 k1 k2 k3 k4 k0' k1' k2' k3' k4'
        go_wp2_with (fail)
        go_region
        have hN := (HNW.out W1).drew
        have hXC := (below_al2 hXB (boxO ⟨ck, cm, cl, ct, cd⟩)).drew
        unfold boxO at hN hXC
        dsimp only at hN hXC
        clear x2 x3 y2 y3 kc k0 k1 k2 k3 k4 hB x2' x3' y2' y3' kc' k0' k1' k2' k3' k4' hB' hXB HNW
        generalize W1.heap.size = nb at hN ⊢
        generalize World.drew _ = W2 at hN hXC ⊢
        obtain ⟨⟨x2, x3⟩, ⟨y2, y3⟩, kc, _, _, hB⟩ := HCE.out _ hXC
        obtain ⟨n0, n1, n2, n3, n4⟩ := hN.c
        dsimp only at n0 n1 n2 n3 n4
        have HN2 := Lib.hid hN
        have HX2 := Lib.hid hXC
        have HB2 := Lib.hid hB
        clear hN hXC hB
        go_wp2_with (go_at_call 125; (with_reducible refine Calls.mono (HWI.out _ HB2.out) ?_); rintro e w3 ⟨rfl, hB3⟩; obtain ⟨⟨x2, x3⟩, ⟨y2, y3⟩, kc, _, _, hB⟩ := HCE.out _ (below_th HX2.out hB3); obtain ⟨n0, n1, n2, n3, n4⟩ := (HN2.out.th hB3).c; dsimp only at n0 n1 n2 n3 n4; have HB3 := Lib.hid hB)
        go_ret
        exact ⟨rfl, by first | exact HB3.out | exact HB2.out⟩
      · rw [if_neg h2]
        have hz : ((bi : Int) == 0) = false := by simp; omega
        by_cases h3 : ck = 2
        · have hk2 : (ck == 2) = true := by simpa using h3
          have hk3 : (ck != 2) = false := by simpa using h3
          rw [if_neg (fun e => e.2 h3)]
          by_cases h4 : cd = ⟨#[]⟩
          · have hd1 : cd.toList.isEmpty = true := by rw [h4, Lib.toList_data]; rfl
            rw [if_neg (fun e => e.2 h4), if_neg (fun e => e.1 h1)]
            rw [h1] at ka
            clear h1 h4 h3
            go_enter Tryz.func96, Tryz.ntmps96
            go_wp2_with (fail)
            go_quiet (fail)
            have hXB := below_drewN hself nq
            clear x2 x3 y2 y3 kc ka k0 k1 k2 k3 k4 hB hself
            generalize World.drewN _ nq = W1 at hXB ⊢
            obtain ⟨⟨x2, x3⟩, ⟨y2, y3⟩, kc, _, ⟨k0, k1, k2, k3, k4⟩, hB⟩ := HCE.out _ hXB
            obtain ⟨⟨x2', x3'⟩, ⟨y2', y3'⟩, kc', _, ⟨k0', k1', k2', k3', k4'⟩, hB'⟩ := HCE.out _ (below_al2 hXB (.cells #[.int .i64 0, .int .u16 0, .int .u16 0, .int .u64 0, .string ⟨#[]⟩] 46))
            dsimp only at k0 k1 k2 k3 k4 k0' k1' k2' k3' k4'
            go_wp2_with (fail)
            go_region
            have hN := (HNW.out W1).drew
            have hXC := (below_al2 hXB (boxO ⟨ck, cm, cl, ct, cd⟩)).drew
            unfold boxO at hN hXC
            dsimp only at hN hXC
            clear x2 x3 y2 y3 kc k0 k1 k2 k3 k4 hB x2' x3' y2' y3' kc' k0' k1' k2' k3' k4' hB' hXB HNW
            generalize W1.heap.size = nb at hN ⊢
            generalize World.drew _ = W2 at hN hXC ⊢
            obtain ⟨⟨x2, x3⟩, ⟨y2, y3⟩, kc, _, _, hB⟩ := HCE.out _ hXC
            obtain ⟨n0, n1, n2, n3, n4⟩ := hN.c
            dsimp only at n0 n1 n2 n3 n4
            have HN2 := Lib.hid hN
            have HX2 := Lib.hid hXC
            have HB2 := Lib.hid hB
            clear hN hXC hB
            go_wp2_with (go_at_call 125; (with_reducible refine Calls.mono (HWI.out _ HB2.out) ?_); rintro e w3 ⟨rfl, hB3⟩; obtain ⟨⟨x2, x3⟩, ⟨y2, y3⟩, kc, _, _, hB⟩ := HCE.out _ (below_th HX2.out hB3); obtain ⟨n0, n1, n2, n3, n4⟩ := (HN2.out.th hB3).c; dsimp only at n0 n1 n2 n3 n4; have HB3 := Lib.hid hB)
            go_ret
            exact ⟨rfl, by first | exact HB3.out | exact HB2.out⟩
          · rw [if_pos ⟨h1, h4⟩]
            have hd0 : ¬ cd.toList = [] := fun e => h4 (ByteArray.ext (Array.toList_inj.1 (by rw [← Lib.toList_data, e])))
            have hd1 : cd.toList.isEmpty = false := by cases hh : cd.toList with | nil => exact absurd hh hd0 | cons a b => rfl
            rw [h1] at ka
            clear h1 h4 h3 hd0
            go_enter Tryz.func96, Tryz.ntmps96
            go_wp2_with (fail)
            go_quiet (fail)
            have hXB := below_drewN hself nq
            clear x2 x3 y2 y3 kc ka k0 k1 k2 k3 k4 hB hself
            generalize World.drewN _ nq = W1 at hXB ⊢
            obtain ⟨⟨x2, x3⟩, ⟨y2, y3⟩, kc, _, ⟨k0, k1, k2, k3, k4⟩, hB⟩ := HCE.out _ hXB
            obtain ⟨⟨x2', x3'⟩, ⟨y2', y3'⟩, kc', _, ⟨k0', k1', k2', k3', k4'⟩, hB'⟩ := HCE.out _ (below_al2 hXB (.cells #[.int .i64 0, .int .u16 0, .int .u16 0, .int .u64 0, .string ⟨#[]⟩] 46))
            dsimp only at k0 k1 k2 k3 k4 k0' k1' k2' k3' k4'
            go_wp2_with (fail)
            go_region
            have hN := (HNW.out W1).drew
            have hXC := (below_al2 hXB (boxO ⟨ck, cm, cl, ct, cd⟩)).drew
            unfold boxO at hN hXC
            dsimp only at hN hXC
            clear x2 x3 y2 y3 kc k0 k1 k2 k3 k4 hB x2' x3' y2' y3' kc' k0' k1' k2' k3' k4' hB' hXB HNW
            generalize W1.heap.size = nb at hN ⊢
            generalize World.drew _ = W2 at hN hXC ⊢
            obtain ⟨⟨x2, x3⟩, ⟨y2, y3⟩, kc, _, _, hB⟩ := HCE.out _ hXC
            obtain ⟨n0, n1, n2, n3, n4⟩ := hN.c
            dsimp only at n0 n1 n2 n3 n4
            have HN2 := Lib.hid hN
            have HX2 := Lib.hid hXC
            have HB2 := Lib.hid hB
            clear hN hXC hB
            go_wp2_with (go_at_call 125; (with_reducible refine Calls.mono (HWI.out _ HB2.out) ?_); rintro e w3 ⟨rfl, hB3⟩; obtain ⟨⟨x2, x3⟩, ⟨y2, y3⟩, kc, _, _, hB⟩ := HCE.out _ (below_th HX2.out hB3); obtain ⟨n0, n1, n2, n3, n4⟩ := (HN2.out.th hB3).c; dsimp only at n0 n1 n2 n3 n4; have HB3 := Lib.hid hB)
            go_ret
            exact ⟨rfl, by first | exact HB3.out | exact HB2.out⟩
        · rw [if_pos ⟨h1, h3⟩]
          have hk2 : (ck == 2) = false := by simpa using h3
          have hk3 : (ck != 2) = true := by simpa using h3
          rw [h1] at ka
          clear h1
          go_enter Tryz.func96, Tryz.ntmps96
          go_wp2_with (fail)
          go_quiet (fail)
          have hXB := below_drewN hself nq
          clear x2 x3 y2 y3 kc ka k0 k1 k2 k3 k4 hB hself
          generalize World.drewN _ nq = W1 at hXB ⊢
          obtain ⟨⟨x2, x3⟩, ⟨y2, y3⟩, kc, _, ⟨k0, k1, k2, k3, k4⟩, hB⟩ := HCE.out _ hXB
          obtain ⟨⟨x2', x3'⟩, ⟨y2', y3'⟩, kc', _, ⟨k0', k1', k2', k3', k4'⟩, hB'⟩ := HCE.out _ (below_al2 hXB (.cells #[.int .i64 0, .int .u16 0, .int .u16 0, .int .u64 0, .string ⟨#[]⟩] 46))
          dsimp only at k0 k1 k2 k3 k4 k0' k1' k2' k3' k4'
          go_wp2_with (fail)
          go_region
          have hN := (HNW.out W1).drew
          have hXC := (below_al2 hXB (boxO ⟨ck, cm, cl, ct, cd⟩)).drew
          unfold boxO at hN hXC
          dsimp only at hN hXC
          clear x2 x3 y2 y3 kc k0 k1 k2 k3 k4 hB x2' x3' y2' y3' kc' k0' k1' k2' k3' k4' hB' hXB HNW
          generalize W1.heap.size = nb at hN ⊢
          generalize World.drew _ = W2 at hN hXC ⊢
          obtain ⟨⟨x2, x3⟩, ⟨y2, y3⟩, kc, _, _, hB⟩ := HCE.out _ hXC
          obtain ⟨n0, n1, n2, n3, n4⟩ := hN.c
          dsimp only at n0 n1 n2 n3 n4
          have HN2 := Lib.hid hN
          have HX2 := Lib.hid hXC
          have HB2 := Lib.hid hB
          clear hN hXC hB
          go_wp2_with (go_at_call 125; (with_reducible refine Calls.mono (HWI.out _ HB2.out) ?_); rintro e w3 ⟨rfl, hB3⟩; obtain ⟨⟨x2, x3⟩, ⟨y2, y3⟩, kc, _, _, hB⟩ := HCE.out _ (below_th HX2.out hB3); obtain ⟨n0, n1, n2, n3, n4⟩ := (HN2.out.th hB3).c; dsimp only at n0 n1 n2 n3 n4; have HB3 := Lib.hid hB)
          go_ret
          exact ⟨rfl, by first | exact HB3.out | exact HB2.out⟩
  · rw [if_neg (fun e => h1 e.1)]
    have hk1 : (na.kind == 2) = false := by simpa using h1
    by_cases h2 : bi = 0
    · rw [if_pos h2]
      have hz : ((bi : Int) == 0) = true := by simp [h2]
      clear h2
      generalize na.kind = ak at *
      go_enter Tryz.func96, Tryz.ntmps96
      go_wp2_with (fail)
      go_quiet (fail)
      have hXB := below_drewN hself nq
      clear x2 x3 y2 y3 kc ka k0 k1 k2 k3 k4 hB hself
      generalize World.drewN _ nq = W1 at hXB ⊢
      obtain ⟨⟨x2, x3⟩, ⟨y2, y3⟩, kc, _, ⟨k0, k1, k2, k3, k4⟩, hB⟩ := HCE.out _ hXB
      obtain ⟨⟨x2', x3'⟩, ⟨y2', y3'⟩, kc', _, ⟨k0', k1', k2', k3', k4'⟩, hB'⟩ := HCE.out _ (below_al2 hXB (.cells #[.int .i64 0, .int .u16 0, .int .u16 0, .int .u64 0, .string ⟨#[]⟩] 46))
      dsimp only at k0 k1 k2 k3 k4 k0' k1' k2' k3' k4'
      go_wp2_with (fail)
      go_region
      have hN := (HNW.out W1).drew
      have hXC := (below_al2 hXB (boxO ⟨ck, cm, cl, ct, cd⟩)).drew
      unfold boxO at hN hXC
      dsimp only at hN hXC
      clear x2 x3 y2 y3 kc k0 k1 k2 k3 k4 hB x2' x3' y2' y3' kc' k0' k1' k2' k3' k4' hB' hXB HNW
      generalize W1.heap.size = nb at hN ⊢
      generalize World.drew _ = W2 at hN hXC ⊢
      obtain ⟨⟨x2, x3⟩, ⟨y2, y3⟩, kc, _, _, hB⟩ := HCE.out _ hXC
      obtain ⟨n0, n1, n2, n3, n4⟩ := hN.c
      dsimp only at n0 n1 n2 n3 n4
      have HN2 := Lib.hid hN
      have HX2 := Lib.hid hXC
      have HB2 := Lib.hid hB
      clear hN hXC hB
      go_wp2_with (go_at_call 125; (with_reducible refine Calls.mono (HWI.out _ HB2.out) ?_); rintro e w3 ⟨rfl, hB3⟩; obtain ⟨⟨x2, x3⟩, ⟨y2, y3⟩, kc, _, _, hB⟩ := HCE.out _ (below_th HX2.out hB3); obtain ⟨n0, n1, n2, n3, n4⟩ := (HN2.out.th hB3).c; dsimp only at n0 n1 n2 n3 n4; have HB3 := Lib.hid hB)
      go_ret
      exact ⟨rfl, by first | exact HB3.out | exact HB2.out⟩
    · rw [if_neg h2]
      have hz : ((bi : Int) == 0) = false := by simp; omega
      by_cases h3 : ck = 2
      · have hk2 : (ck == 2) = true := by simpa using h3
        rw [if_neg (fun e => h1 e.1), if_neg (fun e => h1 e.1), if_pos ⟨h1, h3⟩]
        clear h3
        generalize na.kind = ak at *
        go_enter Tryz.func96, Tryz.ntmps96
        go_wp2_with (fail)
        go_quiet (fail)
        have hXB := below_drewN hself nq
        clear x2 x3 y2 y3 kc ka k0 k1 k2 k3 k4 hB hself
        generalize World.drewN _ nq = W1 at hXB ⊢
        obtain ⟨⟨x2, x3⟩, ⟨y2, y3⟩, kc, _, ⟨k0, k1, k2, k3, k4⟩, hB⟩ := HCE.out _ hXB
        obtain ⟨⟨x2', x3'⟩, ⟨y2', y3'⟩, kc', _, ⟨k0', k1', k2', k3', k4'⟩, hB'⟩ := HCE.out _ (below_al2 hXB (.cells #[.int .i64 0, .int .u16 0, .int .u16 0, .int .u64 0, .string ⟨#[]⟩] 46))
        dsimp only at k0 k1 k2 k3 k4 k0' k1' k2' k3' k4'
        go_wp2_with (fail)
        go_region
        have hN := (HNW.out W1).drew
        have hXC := (below_al2 hXB (boxO ⟨ck, cm, cl, ct, cd⟩)).drew
        unfold boxO at hN hXC
        dsimp only at hN hXC
        clear x2 x3 y2 y3 kc k0 k1 k2 k3 k4 hB x2' x3' y2' y3' kc' k0' k1' k2' k3' k4' hB' hXB HNW
        generalize W1.heap.size = nb at hN ⊢
        generalize World.drew _ = W2 at hN hXC ⊢
        obtain ⟨⟨x2, x3⟩, ⟨y2, y3⟩, kc, _, _, hB⟩ := HCE.out _ hXC
        obtain ⟨n0, n1, n2, n3, n4⟩ := hN.c
        dsimp only at n0 n1 n2 n3 n4
        have HN2 := Lib.hid hN
        have HX2 := Lib.hid hXC
        have HB2 := Lib.hid hB
        clear hN hXC hB
        go_wp2_with (go_at_call 125; (with_reducible refine Calls.mono (HWI.out _ HB2.out) ?_); rintro e w3 ⟨rfl, hB3⟩; obtain ⟨⟨x2, x3⟩, ⟨y2, y3⟩, kc, _, _, hB⟩ := HCE.out _ (below_th HX2.out hB3); obtain ⟨n0, n1, n2, n3, n4⟩ := (HN2.out.th hB3).c; dsimp only at n0 n1 n2 n3 n4; have HB3 := Lib.hid hB)
        go_ret
        exact ⟨rfl, by first | exact HB3.out | exact HB2.out⟩
      · rw [if_neg (fun e => h1 e.1), if_neg (fun e => h1 e.1), if_neg (fun e => h3 e.2)]
        have hk2 : (ck == 2) = false := by simpa using h3
        generalize na.kind = ak at *
        go_enter Tryz.func96, Tryz.ntmps96
        go_wp2_with (fail)
        go_quiet (fail)
        have hXB := below_drewN hself nq
        clear x2 x3 y2 y3 kc ka k0 k1 k2 k3 k4 hB hself
        generalize World.drewN _ nq = W1 at hXB ⊢
        obtain ⟨⟨x2, x3⟩, ⟨y2, y3⟩, kc, _, ⟨k0, k1, k2, k3, k4⟩, hB⟩ := HCE.out _ hXB
        obtain ⟨⟨x2', x3'⟩, ⟨y2', y3'⟩, kc', _, ⟨k0', k1', k2', k3', k4'⟩, hB'⟩ := HCE.out _ (below_al2 hXB (.cells #[.int .i64 0, .int .u16 0, .int .u16 0, .int .u64 0, .string ⟨#[]⟩] 46))
        dsimp only at k0 k1 k2 k3 k4 k0' k1' k2' k3' k4'
        go_wp2_with (fail)
        go_region
        have hN := (HNW.out W1).drew
        have hXC := (below_al2 hXB (boxO ⟨ck, cm, cl, ct, cd⟩)).drew
        unfold boxO at hN hXC
        dsimp only at hN hXC
        clear x2 x3 y2 y3 kc k0 k1 k2 k3 k4 hB x2' x3' y2' y3' kc' k0' k1' k2' k3' k4' hB' hXB HNW
        generalize W1.heap.size = nb at hN ⊢
        generalize World.drew _ = W2 at hN hXC ⊢
        obtain ⟨⟨x2, x3⟩, ⟨y2, y3⟩, kc, _, _, hB⟩ := HCE.out _ hXC
        obtain ⟨n0, n1, n2, n3, n4⟩ := hN.c
        dsimp only at n0 n1 n2 n3 n4
        have HN2 := Lib.hid hN
        have HX2 := Lib.hid hXC
        have HB2 := Lib.hid hB
        clear hN hXC hB
        go_wp2_with (go_at_call 125; (with_reducible refine Calls.mono (HWI.out _ HB2.out) ?_); rintro e w3 ⟨rfl, hB3⟩; obtain ⟨⟨x2, x3⟩, ⟨y2, y3⟩, kc, _, _, hB⟩ := HCE.out _ (below_th HX2.out hB3); obtain ⟨n0, n1, n2, n3, n4⟩ := (HN2.out.th hB3).c; dsimp only at n0 n1 n2 n3 n4; have HB3 := Lib.hid hB)
        go_ret
        exact ⟨rfl, by first | exact HB3.out | exact HB2.out⟩
end
end Go.Proofs.YtkipkcmcolomcaaGreat.Pln
