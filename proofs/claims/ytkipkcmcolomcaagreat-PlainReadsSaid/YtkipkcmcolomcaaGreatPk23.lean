/- Several texts in one, each under its own heading. -/
import Derived.Test.YtkipkcmcolomcaaGreatPk17
import Derived.Deep.RegionLaw
import Derived.Test.YtkipkcmcolomcaaGreatPk22
import Derived.Test.YtkipkcmcolomcaaGreatPk07
/- The program's contracts: Split of any text, Under. -/
namespace Go.Proofs.YtkipkcmcolomcaaGreat.Pth
open Go.RowKit Nam
attribute [local go_sem] Oper.semAt_some
set_option linter.unusedVariables false
set_option linter.unusedSimpArgs false
section
set_option maxRecDepth 100000
set_option maxHeartbeats 8000000
theorem split_any (s : ByteArray) (w : World) (hs : s.size ≤ 281474976710656) : Calls Tryz.prog 77 #[.string s] w (SplitPost s w) := by
  by_cases hp : pathP s
  · exact callsIn_wide.1 (split_in s w hp)
  have HBAD : Hid (∀ w', Below w.heap.size w w' → SplitPost s w (.returned (.tuple #[.slice none 0 0, .int .i64 120])) w') := fun w' hB => split_bad (if_neg hp) hB
  have hPre := Shf.Tryz.strings_HasPrefix s ⟨#[47]⟩ w
  by_cases h1 : Lib.hasPrefix s.data.toList (⟨#[47]⟩ : ByteArray).data.toList = true
  · rw [h1] at hPre
    obtain ⟨p1, p2⟩ := (pre_iff s).1 h1
    have hbig : 1000 < s.size := Nat.lt_of_not_le fun h => hp ⟨h, p1, p2⟩
    have g1 : (1000 : Int) < (s.size : Int) := by omega
    have HP := Lib.hid hPre
    clear hPre h1 hp hbig
    go_enter Tryz.func77, Tryz.ntmps77
    go_wp2
    apply wp_scope_straight
    go_wp2_with (go_at_call 110; (with_reducible refine Calls.mono HP.out ?_); rintro e w1 ⟨rfl, rfl⟩)
    refine noGoto_ret ?_
    go_returns
    exact HBAD.out _ (Below.refl _ _)
  · rw [Bool.eq_false_iff.2 h1] at hPre
    have HP := Lib.hid hPre
    clear hPre h1 hp
    go_enter Tryz.func77, Tryz.ntmps77
    go_wp2
    apply wp_scope_straight
    go_wp2_with (go_at_call 110; (with_reducible refine Calls.mono HP.out ?_); rintro e w1 ⟨rfl, rfl⟩)
    refine noGoto_ret ?_
    go_returns
    exact HBAD.out _ (Below.refl _ _)
theorem under_any (v : Value) (D : List ByteArray) (t : ByteArray) (w : World) (hD : Strs w v D) (ht : t.size ≤ 140737488351232) : Calls Tryz.prog 114 #[v, .string t] w (SplitPost (underS D t) w) := by
  have HB0 : Hid (underS D t = ⟨#[]⟩ → ∀ w', Below w.heap.size w w' → SplitPost (underS D t) w (.returned (.tuple #[.slice none 0 0, .int .i64 120])) w') := fun h w' hB => split_bad (by rw [h]; exact split_empty) hB
  have HY : Hid (∀ v' w', Strs w' v' (splitV (underS D t)) → Below w.heap.size w w' → SplitPost (underS D t) w (.returned (.tuple #[v', .int .i64 (splitE (underS D t))])) w') := fun v' w' h1 h2 => ⟨v', rfl, h1, h2⟩
  obtain ⟨a, cap, rfl, hc1, hc2⟩ := hD.parts
  have hPre := Shf.Tryz.strings_HasPrefix t ⟨#[47]⟩ w
  by_cases hx : Lib.hasPrefix t.data.toList (⟨#[47]⟩ : ByteArray).data.toList = true
  · rw [hx] at hPre
    obtain ⟨hpos, h7⟩ := (pre_iff t).1 hx
    have h0 : ¬ t = ⟨#[]⟩ := fun e => by rw [e] at hpos; exact absurd hpos (by decide)
    have hU : underS D t = t := by unfold underS; rw [if_neg h0, if_pos h7]
    rw [hU] at HY ⊢
    have hS := Lib.hid (fun W => split_any t W (by omega))
    unfold SplitPost at hS
    have HP := Lib.hid hPre
    clear hD ht h0 HB0 h7 hU hPre hx hpos
    go_enter Tryz.func114, Tryz.ntmps114
    go_wp2_with (first
      | (go_at_call 110; (with_reducible refine Calls.mono HP.out ?_); rintro e w9 ⟨rfl, rfl⟩)
      | (go_at_call 77; (with_reducible refine Calls.mono (hS.out _) ?_); rintro e w1 ⟨v1, rfl, hv, hB⟩; have HV := Lib.hid hv; clear hv))
    go_returns
    exact HY.out _ _ HV.out hB
  · rw [Bool.eq_false_iff.2 hx] at hPre
    have h7 : ¬ (0 < t.size ∧ sb t 0 = 47) := fun h => hx ((pre_iff t).2 h)
    have HP := Lib.hid hPre
    have hJ0 := join_any _ D w hD
    by_cases hf : fitJ D
    · rw [(join_yes hf).1, (join_yes hf).2] at hJ0
      have hoz : (outJ D).size ≤ 1000 := by rw [outJ_size]; have := hf.2.2; omega
      by_cases h0 : t = ⟨#[]⟩
      · have hU : underS D t = ⟨#[]⟩ := by unfold underS; rw [if_pos h0]
        have HF := Lib.hid (HB0.out hU)
        have q0 : (t.toList == []) = true := by rw [h0, Lib.toList_data]; rfl
        have hJ := Lib.hid hJ0
        clear hD ht h0 HB0 h7 hU hJ0 hf hoz HY hPre hx
        go_enter Tryz.func114, Tryz.ntmps114
        go_wp2_with (first
          | (go_at_call 110; (with_reducible refine Calls.mono HP.out ?_); rintro e w9 ⟨rfl, rfl⟩)
          | (go_at_call 142; (with_reducible refine Calls.mono hJ.out ?_); rintro e w1 ⟨rfl, hB1⟩))
        go_returns
        exact HF.out _ hB1
      · have hpos := size_pos h0
        have q0 : (t.toList == []) = false := lit_no2 h0
        have hU : underS D t = (outJ D ++ ⟨#[47]⟩) ++ t := by unfold underS; rw [if_neg h0, if_neg (fun h => h7 ⟨hpos, h⟩), if_pos hf]
        rw [hU] at HY ⊢
        generalize outJ D = o at *
        have hadd1 := fun W => run_string_add_sum (P := Tryz.prog) (w := W) o ⟨#[47]⟩ (by show o.size + 1 ≤ _; omega)
        have hadd2 := fun W => run_string_add_sum (P := Tryz.prog) (w := W) (o ++ ⟨#[47]⟩) t (by rw [ByteArray.size_append]; show o.size + 1 + t.size ≤ _; omega)
        have hS := Lib.hid (fun W => split_any (o ++ ⟨#[47]⟩ ++ t) W (by rw [ByteArray.size_append, ByteArray.size_append]; show o.size + 1 + t.size ≤ _; omega))
        unfold SplitPost at hS
        have hJ := Lib.hid hJ0
        clear hD ht h0 HB0 h7 hU hJ0 hf hoz hPre hx hpos
        go_enter Tryz.func114, Tryz.ntmps114
        go_wp2_with (first
          | (go_at_call 110; (with_reducible refine Calls.mono HP.out ?_); rintro e w9 ⟨rfl, rfl⟩)
          | (go_at_call 142; (with_reducible refine Calls.mono hJ.out ?_); rintro e w1 ⟨rfl, hB1⟩)
          | (go_at_call 77; (with_reducible refine Calls.mono (hS.out _) ?_); rintro e w2 ⟨v1, rfl, hv, hB⟩; have HV := Lib.hid hv; clear hv))
        go_returns
        exact HY.out _ _ HV.out (below_th hB1 hB)
    · have hU : underS D t = ⟨#[]⟩ := by
        unfold underS
        by_cases h0 : t = ⟨#[]⟩
        · rw [if_pos h0]
        · rw [if_neg h0, if_neg (fun h => h7 ⟨size_pos h0, h⟩), if_neg hf]
      rw [(join_no hf).1, (join_no hf).2] at hJ0
      have HF := Lib.hid (HB0.out hU)
      have hJ := Lib.hid hJ0
      clear hD ht HB0 h7 hU hJ0 hf HY hPre hx
      go_enter Tryz.func114, Tryz.ntmps114
      go_wp2_with (first
        | (go_at_call 110; (with_reducible refine Calls.mono HP.out ?_); rintro e w9 ⟨rfl, rfl⟩)
        | (go_at_call 142; (with_reducible refine Calls.mono hJ.out ?_); rintro e w1 ⟨rfl, hB1⟩))
      go_returns
      exact HF.out _ hB1
end
end Go.Proofs.YtkipkcmcolomcaaGreat.Pth
/- One part of a way: what stands there. -/
namespace Go.Proofs.YtkipkcmcolomcaaGreat.Pln
open Go.RowKit
open Dir (N nm DirP DirO findV findE findVo findEo)
open Pth (Strs)
attribute [local go_sem] Oper.semAt_some
set_option linter.unusedVariables false
set_option linter.unusedSimpArgs false
/-- what is found, with the parts gone, as a value; in a box -/
def spV (p : Pl) (g : Value) : Value := .agg #[.int .u32 p.dir, .string p.name, .int .u32 p.ino, g]
def spO (p : Pl) (g : Value) : Obj := .cells #[.int .u32 p.dir, .string p.name, .int .u32 p.ino, g] 57
def zPl : Pl := ⟨0, ⟨#[]⟩, 0⟩
def spZ : Obj := .cells #[.int .u32 0, .string ⟨#[]⟩, .int .u32 0, .slice none 0 0] 57
def spZV : Value := .agg #[.int .u32 0, .string ⟨#[]⟩, .int .u32 0, .slice none 0 0]
def SpAt (W : World) (b : Nat) (p : Pl) (g : Value) : Prop := W.heap[b]? = some (.cells #[.int .u32 p.dir, .string p.name, .int .u32 p.ino, g] 57 (0, 0))
theorem SpAt.c {W : World} {b : Nat} {p : Pl} {g : Value} (h : SpAt W b p g) : W.cell? ⟨b, 0, none⟩ = some (.int .u32 p.dir) ∧ W.cell? ⟨b, 1, none⟩ = some (.string p.name) ∧ W.cell? ⟨b, 2, none⟩ = some (.int .u32 p.ino) ∧ W.cell? ⟨b, 3, none⟩ = some g := by
  unfold SpAt at h
  simp only [World.cell?, h]
  exact ⟨rfl, rfl, rfl, rfl⟩
theorem SpAt.f {W : World} {b : Nat} {p : Pl} {g : Value} (h : SpAt W b p g) (i : Nat) : W.frozen? ⟨b, i, none⟩ = false := by
  unfold SpAt at h
  simp [World.frozen?, h]
theorem SpAt.lt {W : World} {b : Nat} {p : Pl} {g : Value} (h : SpAt W b p g) : b < W.heap.size := (Array.getElem?_eq_some_iff.1 h).1
theorem SpAt.of_heap {W W' : World} {b : Nat} {p : Pl} {g : Value} (h : SpAt W b p g) (e : W'.heap[b]? = W.heap[b]?) : SpAt W' b p g := e.trans h
theorem SpAt.th {W W' : World} {b : Nat} {p : Pl} {g : Value} (h : SpAt W b p g) (hB : Below W.heap.size W W') : SpAt W' b p g := h.of_heap (hB.block b h.lt)
theorem SpAt.new (w : World) (p : Pl) (g : Value) : SpAt (w.alloc (spO p g)) w.heap.size p g := World.alloc_heap_new w _
theorem SpAt.newZ (w : World) : SpAt (w.alloc spZ) w.heap.size zPl (.slice none 0 0) := World.alloc_heap_new w _
theorem SpAt.put4 {W : World} {b : Nat} {q : Pl} {g0 : Value} (h : SpAt W b q g0) (p : Pl) (g : Value) :
    SpAt ((((W.setCell ⟨b, 0, none⟩ (.int .u32 p.dir)).setCell ⟨b, 1, none⟩ (.string p.name)).setCell ⟨b, 2, none⟩ (.int .u32 p.ino)).setCell ⟨b, 3, none⟩ g) b p g ∧
    Only (fun i => i = b) W ((((W.setCell ⟨b, 0, none⟩ (.int .u32 p.dir)).setCell ⟨b, 1, none⟩ (.string p.name)).setCell ⟨b, 2, none⟩ (.int .u32 p.ino)).setCell ⟨b, 3, none⟩ g) := by
  unfold SpAt at h
  have h0 := heap_setCell_same W b 0 _ _ (.int .u32 p.dir) h
  have h1 := heap_setCell_same _ b 1 _ _ (.string p.name) h0
  have h2 := heap_setCell_same _ b 2 _ _ (.int .u32 p.ino) h1
  have h3 := heap_setCell_same _ b 3 _ _ g h2
  exact ⟨h3, ((((Only.refl (fun i => i = b) W).setCell (p := ⟨b, 0, none⟩) (.inr rfl) _).setCell (p := ⟨b, 1, none⟩) (.inr rfl) _).setCell (p := ⟨b, 2, none⟩) (.inr rfl) _).setCell (p := ⟨b, 3, none⟩) (.inr rfl) _⟩
theorem results_sp {fn : Func} {r e : Tmp} (h : fn.results = #[.cell r 57, .tmp e]) (tmps : Array Value) (w : World) {b : Nat} {p : Pl} {g : Value} (hp : tmps.getD r undef = .pointer (some ⟨b, 0, none⟩)) (hA : SpAt w b p g) :
    (results fn tmps).run Tryz.prog w = .ok (.tuple #[spV p g, tmps.getD e undef]) w := by
  obtain ⟨c0, c1, c2, c3⟩ := hA.c
  rw [Array.getD_eq_getD_getElem?] at hp
  simp [results, h, hp, go_sem, c0, c1, c2, c3]
  rfl
/-- parts in a row of one's own -/
def rowS (W : World) (base : Nat) (v : Value) (g : List ByteArray) : Prop := W.ownsRow base 9 1 v g.length (g.map .string)
theorem rowS.below {W W' : World} {base : Nat} {v : Value} {g : List ByteArray} (h : rowS W base v g) (hB : Below W.heap.size W W') : rowS W' base v g := Pth.own_below2 h hB
theorem rowS.strs {W : World} {base : Nat} {v : Value} {g : List ByteArray} (h : rowS W base v g) : Strs W v g := Pth.Strs.own h
theorem rowS.parts {W : World} {base : Nat} {v : Value} {g : List ByteArray} (h : rowS W base v g) : ∃ a cap, v = .slice a g.length cap := by
  obtain ⟨a, cap, rfl, _⟩ := h.strs.parts
  exact ⟨a, cap, rfl⟩
theorem rowS.not {W : World} {base b : Nat} {v : Value} {g : List ByteArray} {c : Array Value} {t : TypeId} {f : Nat × Nat} (h : rowS W base v g) (hb : W.heap[b]? = some (.cells c t f)) (ht : ¬ t = 9) : ¬ v.ownBlock = some b := fun e => by
  rcases h.2 with ⟨hv, _⟩ | ⟨g', cap, cur, hv, _, hg, _⟩
  · rw [hv] at e; cases e
  · rw [hv] at e
    obtain rfl : g' = b := by simpa [Value.ownBlock] using e
    rw [hb] at hg
    cases hg
    exact ht rfl
theorem rowS.nil (W : World) (base : Nat) : rowS W base (.slice none 0 0) [] := World.ownsRow_nil _ _ _ _
theorem own_slice {w : World} {base n sz : Nat} {t : TypeId} {v : Value} {xs : List Value} (h : w.ownsRow base t sz v n xs) : ∃ a n cap, v = .slice a n cap := by
  rcases h.2 with ⟨hv, _⟩ | ⟨g, cap, cur, hv, _⟩
  · exact ⟨_, _, _, hv⟩
  · exact ⟨_, _, _, hv⟩
theorem only_grown {b : Nat} {W W' : World} (h : Only (fun i => i = b) W W') : W.grownBy W' (some b) := ⟨h.os, h.tape, h.output, h.size, fun k hk hn => h.block k hk (fun e => hn (by rw [e]))⟩
theorem rowS.kept {W W' : World} {base : Nat} {v : Value} {g : List ByteArray} {b : Nat} (h : rowS W base v g) (ho : Only (fun i => i = b) W W') (hn : ¬ v.ownBlock = some b) : rowS W' base v g :=
  World.ownsRow.kept h (row := some b) (only_grown ho) (.inr hn)
/-- behind an append the slice that it grew from is as it was -/
theorem append_keeps {w w' : World} {base : Nat} {v v' : Value} {n : Nat} {xs : List Value} (hown : w.ownsRow base 9 1 v n xs) {vL : Value} {L : List ByteArray} (hL : Strs w vL L) (h1 : n + L.length ≤ 100000)
    (hr : (Builtin.append_ #[54, 54] 54 #[v, vL]).run Tryz.prog w = .ok v' w') (h2 : w'.ownsRow base 9 1 v' (n + L.length) (xs ++ L.map .string)) : w'.ownsRow base 9 1 v n xs := by
  obtain ⟨i0, hi, hz0, hz1, hz2⟩ := info_parts Pth.infoStr
  obtain ⟨a, cap, rfl, hc1, hc2⟩ := hL.parts
  cases a with
  | none =>
    have hc0 : cap = 0 := Lies.none_cap hL
    have hl0 : L = [] := List.eq_nil_of_length_eq_zero (by omega)
    subst hl0
    subst hc0
    have := run_append_owned_none (P := Tryz.prog) w base 54 54 9 i0 1 Tryz.underlying54 hi v n xs hown
    have e := hr.symm.trans this
    cases e
    exact hown
  | some ad =>
    have hnews : ∀ j u, (L.map Value.string)[j]? = some u → w.cell? (ad.add j) = some u := fun j u hj => by
      obtain ⟨a', cap', e, _, _, h4, h5⟩ := hL
      cases e
      have hl := (List.getElem?_eq_some_iff.1 hj).1
      rw [List.length_map] at hl
      obtain ⟨b, off, e2, hc⟩ := h5 (by omega)
      cases e2
      rw [add_plain]
      exact hc j u hj
    have hone : ∀ u ∈ L.map Value.string, u.oneCell' = true := fun u hu => by obtain ⟨x, _, rfl⟩ := List.mem_map.1 hu; rfl
    rcases hown.2 with ⟨rfl, rfl⟩ | ⟨g, cp, cur, rfl, hbg, hg, hnc, hcm, hcs, htake⟩
    · exact ⟨hown.1, .inl ⟨rfl, rfl⟩⟩
    · by_cases hroom : n + L.length ≤ cp
      · have hx := run_append_room (P := Tryz.prog) w 54 54 9 i0 Tryz.underlying54 hi g n cp cur hg ad L.length cap (L.map .string) (by rw [hz1, List.length_map, Nat.mul_one]) hnews hone hroom (by rw [hz1, List.length_map]; omega)
        have e := hr.symm.trans hx
        injection e with e1 e2
        subst e1
        rcases h2.2 with ⟨e3, _⟩ | ⟨g2, cp2, cur2, e3, b1, b2, b3, b4, b5, b6⟩
        · cases e3
        · cases e3
          refine ⟨hown.1, .inr ⟨g, cp, cur2, rfl, hbg, b2, hnc, hcm, b5, ?_⟩⟩
          have hl1 : xs.length = n := by have := hown.1; omega
          have := congrArg (List.take (n * 1)) b6
          rw [List.take_take, show min (n * 1) ((n + L.length) * 1) = n * 1 by omega, show n * 1 = xs.length by omega, List.take_left] at this
          rw [← hl1, Nat.mul_one]
          exact this
      · have holds : ∀ j u, xs[j]? = some u → w.cell? ((⟨g, 0, none⟩ : Addr).add j) = some u := hown.cells (g := g) rfl
        have hx := run_append_grow (P := Tryz.prog) w 54 54 9 i0 (.string ⟨#[]⟩) Tryz.underlying54 hi hz0 ⟨g, 0, none⟩ n cp xs (by rw [hz1]; exact hown.1) holds ad L.length cap (L.map .string) (by rw [hz1, List.length_map, Nat.mul_one]) hnews (by omega) (by omega) (growslice_fits (by omega) (by rw [hz2]; omega))
        have e := hr.symm.trans hx
        injection e with e1 e2
        have hlt : g < w.heap.size := (Array.getElem?_eq_some_iff.1 hg).1
        refine ⟨hown.1, .inr ⟨g, cp, cur, rfl, hbg, ?_, hnc, hcm, hcs, htake⟩⟩
        rw [e2]
        exact (Below.heap_alloc w.drew _ _ hlt).trans hg
theorem step_append_keep {w : World} {ops : Array Oper} {o : Oper} {a : Act} {K : Act → World → Prop} {Q : Exit → Act → World → Prop} {E : Prop} (hgd : o.guard = none) (s x : Operand)
    (ho : o.op = .call { callee := .builtin .append, args := #[s, x], argTypes := #[54, 54] }) (hty : o.type = 54)
    (base : Nat) (v : Value) (n : Nat) (xs : List Value) (hs : a.eval s = v) (hown : w.ownsRow base 9 1 v n xs) (vL : Value) (L : List ByteArray) (hx : a.eval x = vL) (hL : Strs w vL L) (h1 : n + L.length ≤ 100000) (hb : base ≤ w.heap.size)
    (h : ∀ v' w', w'.ownsRow base 9 1 v' (n + L.length) (xs ++ L.map .string) → w.grownBy w' v.ownBlock → w'.ownsRow base 9 1 v n xs → K (a.put o.dst v') w') :
    if Region.wanted o (yielded ops a.tmps) = true then Oper.wp Tryz.prog o a w K Q else E := by
  have hw : Region.wanted o (yielded ops a.tmps) = true := by simp [Region.wanted, hgd]
  rw [if_pos hw]
  obtain ⟨v', w', hr, h2, h3⟩ := Pth.run_append_strs w base v n xs hown vL L hL h1 hb
  unfold Oper.wp execOp
  simp only [ho, hty, resolve, invoke, builtin, Sem.run_bind, Sem.run_pure, Result.andThen_ok, List.map_toArray, List.map_cons, List.map_nil, hs, hx, hr]
  exact h v' w' h2 h3 (append_keeps hown hL h1 hr h2)
/-- what one part leaves: no directory; or what stands there -/
def StepNo (w : World) (e : Ending) (w' : World) : Prop := e = .returned (.tuple #[spZV, .int .i64 140]) ∧ Below w.heap.size w w'
def StepYes (p : Pl) (g : List ByteArray) (B : Nat) (gv : Value) (w : World) (e : Ending) (w' : World) : Prop := ∃ gv', e = .returned (.tuple #[spV p gv', .int .i64 0]) ∧ rowS w' B gv' g ∧ Only (fun i => gv.ownBlock = some i) w w' ∧ (∀ g0, g = g0 ++ [p.name] → rowS w' B gv g0)
section
set_option maxRecDepth 100000
set_option maxHeartbeats 4000000
theorem step_no {l : List Nd} (v : Value) (w : World) (h : Nodes w v l) (p : Pl) (hp : p.ino < l.length) (g : List ByteArray) (gv : Value) (B : Nat) (hO : rowS w B gv g) (part : ByteArray) (hk : ¬ (nd l p.ino).kind = 2) :
    Calls Tryz.prog 79 #[v, spV p gv, .string part] w (StepNo w) := by
  obtain ⟨ag, capg, rfl⟩ := hO.parts
  obtain ⟨b, off, cap, rfl, z0, z1, z2, z3, z4⟩ := (h.below (below_al (below_new w (spO p (.slice ag g.length capg))) spZ)).at hp
  obtain ⟨N, hN⟩ : ∃ N, l.length = N := ⟨_, rfl⟩
  obtain ⟨gl, hgl⟩ : ∃ gl, g.length = gl := ⟨_, rfl⟩
  rw [hN] at hp ⊢
  rw [hgl] at z0 z1 z2 z3 z4 ⊢
  unfold StepNo
  clear h hO
  obtain ⟨y, hy⟩ : ∃ y, nd l p.ino = y := ⟨_, rfl⟩
  rw [hy] at z0 z1 z2 z3 z4 hk
  clear hy
  obtain ⟨y0, y1, y2, y3, y4⟩ := y
  obtain ⟨pd, pn, pi⟩ := p
  unfold spO spZ at z0 z1 z2 z3 z4
  unfold spV spZV
  dsimp only at z0 z1 z2 z3 z4 hk hp ⊢
  go_enter Tryz.func79, Tryz.ntmps79
  go_wp2
  go_returns
  exact ⟨rfl, below_al (below_al (below_new _ _) _) _⟩
theorem step_yes {l : List Nd} {D : List (List N)} (hR : RightD l D) (v : Value) (w : World) (h : Nodes w v l) (p : Pl) (hp : p.ino < l.length) (g : List ByteArray) (gv : Value) (B : Nat) (hO : rowS w B gv g) (hB : B ≤ w.heap.size) (hg : g.length ≤ 1000) (part : ByteArray) (hps : part.size ≤ 281474976710656) (hk : (nd l p.ino).kind = 2) :
    Calls Tryz.prog 79 #[v, spV p gv, .string part] w (StepYes ⟨p.ino, part, findV (ds D p.ino) part⟩ (g ++ [part]) B gv w) := by
  have hpar := hO.parts
  obtain ⟨ag, capg, rfl⟩ := hpar
  obtain ⟨b, off, cap, rfl, z0, z1, z2, z3, z4⟩ := (h.below (below_al (below_new w (spO p (.slice ag g.length capg))) spZ)).at hp
  obtain ⟨N, hN⟩ : ∃ N, l.length = N := ⟨_, rfl⟩
  rw [hN] at hp ⊢
  have hD : DirO (nd l p.ino).data (some (ds D p.ino)) := hR.dir p.ino (by rw [hN]; exact hp) hk
  have hsz := hD.2.2
  have HF := Lib.hid (fun W => Dir.find_any (nd l p.ino).data part (some (ds D p.ino)) W (by omega) hps hD)
  unfold Dir.Ans at HF
  have hval : findVo (some (ds D p.ino)) part = findV (ds D p.ino) part := rfl
  rw [hval] at HF
  obtain ⟨fv, hfv⟩ : ∃ fv, findV (ds D p.ino) part = fv := ⟨_, rfl⟩
  obtain ⟨fe, hfe⟩ : ∃ fe, findEo (some (ds D p.ino)) part = fe := ⟨_, rfl⟩
  rw [hfv, hfe] at HF
  rw [hfv]
  have HOB := Lib.hid (fun W2 (hB2 : Below w.heap.size w W2) => hO.below hB2)
  unfold StepYes
  obtain ⟨gl, hgl⟩ : ∃ gl, g.length = gl := ⟨_, rfl⟩
  have HG := Lib.hid hgl
  rw [hgl]
  rw [hgl] at HOB hg z0 z1 z2 z3 z4
  clear h hO hD hR hval hfv hfe hsz hgl
  obtain ⟨y, hy⟩ : ∃ y, nd l p.ino = y := ⟨_, rfl⟩
  rw [hy] at z0 z1 z2 z3 z4 hk HF
  clear hy
  obtain ⟨y0, y1, y2, y3, y4⟩ := y
  obtain ⟨pd, pn, pi⟩ := p
  have HSP := Lib.hid (And.intro (SpAt.new w ⟨pd, pn, pi⟩ (.slice ag gl capg)) (SpAt.newZ (w.alloc (spO ⟨pd, pn, pi⟩ (.slice ag gl capg)))))
  unfold spO spZ at HSP z0 z1 z2 z3 z4
  unfold spV
  dsimp only at z0 z1 z2 z3 z4 hk hp HF HSP ⊢
  go_enter Tryz.func79, Tryz.ntmps79
  go_wp2_with (go_at_call 113; (with_reducible refine Calls.mono (HF.out _) ?_); rintro e w1 ⟨rfl, hB1⟩)
  have HSP1 := Lib.hid (And.intro (((HSP.out.1.th (below_new _ _)).th (below_new _ _)).th hB1) ((HSP.out.2.th (below_new _ _)).th hB1))
  have hB01 : Below w.heap.size w w1 := below_th (below_al (below_al (below_new w _) _) _) hB1
  have HROW := Lib.hid (fun W2 (h2 : Below w1.heap.size w1 W2) => HOB.out W2 (below_th hB01 h2))
  have hsz1 : B ≤ w1.heap.size := Nat.le_trans hB hB01.size
  rw [World.size_alloc] at HSP1
  have HAFT : Hid (∀ Wc W4, Below w1.heap.size w1 Wc → Wc.grownBy W4 (Value.slice ag gl capg).ownBlock → (W4.cell? ⟨w.heap.size, 0, none⟩ = some (.int .u32 (pd : Int)) ∧ W4.cell? ⟨w.heap.size, 1, none⟩ = some (.string pn) ∧ W4.cell? ⟨w.heap.size, 2, none⟩ = some (.int .u32 (pi : Int)) ∧ W4.cell? ⟨w.heap.size, 3, none⟩ = some (.slice ag gl capg)) ∧ SpAt W4 (w.heap.size + 1) zPl (.slice none 0 0) ∧ Only (fun i => (Value.slice ag gl capg).ownBlock = some i) w W4) := fun Wc W4 h1 h2 => by
    have r1 := HOB.out Wc (below_th hB01 h1)
    have s1 := HSP1.out.1.th h1
    have s2 := HSP1.out.2.th h1
    have n1 := r1.not s1 (by decide)
    have n2 := r1.not s2 (by decide)
    refine ⟨(s1.of_heap (h2.block _ s1.lt (fun e => n1 e.symm))).c, s2.of_heap (h2.block _ s2.lt (fun e => n2 e.symm)), ?_⟩
    exact (Only.of_below (below_th hB01 h1)).grown h2 (fun r e => .inr e)
  have hself : Below w1.heap.size w1 w1.drew := (Below.refl _ w1).drew
  have hself1 : Below w1.heap.size w1 (w1.drew.alloc (.cells #[.string part] 9)) := below_al hself _
  have HC : Hid (∀ W2, Below w1.heap.size w1 W2 → W2.cell? ⟨w.heap.size, 0, none⟩ = some (.int .u32 (pd : Int)) ∧ W2.cell? ⟨w.heap.size, 1, none⟩ = some (.string pn) ∧ W2.cell? ⟨w.heap.size, 2, none⟩ = some (.int .u32 (pi : Int)) ∧ W2.cell? ⟨w.heap.size, 3, none⟩ = some (.slice ag gl capg)) := fun W2 h2 => (HSP1.out.1.th h2).c
  obtain ⟨x0, x1, x2, x3⟩ := HC.out _ hself
  obtain ⟨y0, y1, y2, y3⟩ := HC.out _ hself1
  obtain ⟨t0, t1, t2, t3⟩ := HC.out _ (below_new w1 (.cells #[.string part] 9)).drew
  have HNEW := Lib.hid (World.alloc_heap_new w1.drew (.cells #[.string part] 9))
  have HSELF := Lib.hid hself1
  clear hself hself1 HSP HSP1
  go_region_law (refine step_append_keep rfl (.tmp 32) (.tmp 34) rfl rfl B (.slice ag gl capg) gl (g.map .string) rfl (by have := HROW.out _ HSELF.out; unfold rowS at this; rw [HG.out] at this; exact this) _ [part] rfl (Pth.Strs.one HNEW.out) (by show gl + 1 ≤ _; omega) (Nat.le_trans hsz1 HSELF.out.size) ?_; intro gv4 w4 hown4 hgrow4 hkeep4; obtain ⟨a4, n4, c4, rfl⟩ := own_slice hown4; obtain ⟨⟨u0, u1, u2, u3⟩, a2, a3⟩ := HAFT.out _ _ HSELF.out hgrow4; have f0 := a2.f 0; have f1 := a2.f 1; have f2 := a2.f 2; have f3 := a2.f 3; obtain ⟨v0, v1, v2, v3⟩ := a2.c; have HA2 := Lib.hid (And.intro a2 a3); have HO4 := Lib.hid hown4; have HK4 := Lib.hid hkeep4; clear hown4 hgrow4 hkeep4 a2 a3)
  all_goals
    obtain ⟨HP1, HP2⟩ := HA2.out.1.put4 ⟨pi, part, fv⟩ (.slice a4 n4 c4)
    dsimp only at HP1 HP2
    have HR4 : rowS w4 B (.slice a4 n4 c4) (g ++ [part]) := by
      have h9 := HO4.out
      unfold rowS
      rw [List.length_append, List.map_append, HG.out]
      exact h9
    have HRK : rowS w4 B (.slice ag gl capg) g := by
      have h9 := HK4.out
      unfold rowS
      rw [HG.out]
      exact h9
    have HF1 := Lib.hid HP1
    have HF3 := Lib.hid (HRK.kept HP2 (HRK.not HA2.out.1 (by decide)))
    have HF2 := Lib.hid (And.intro (HR4.kept HP2 (HR4.not HA2.out.1 (by decide))) (HA2.out.2.step HP2 (fun i hi e => by omega)))
    clear HP1 HP2 HR4 HRK
    go_wp2
    refine bodyPost_ret (results_sp rfl _ _ rfl HF1.out) rfl ?_
    exact ⟨_, rfl, HF2.out.1, HF2.out.2, fun g0 e => by obtain ⟨rfl, _⟩ := List.append_inj' e rfl; exact HF3.out⟩
end
end Go.Proofs.YtkipkcmcolomcaaGreat.Pln
/- New: the root alone. -/
namespace Go.Proofs.YtkipkcmcolomcaaGreat.Pln
open Go.RowKit
open Dir (N nm)
attribute [local go_sem] Oper.semAt_some
set_option linter.unusedVariables false
set_option linter.unusedSimpArgs false
theorem infoNode : (Tryz.prog.info? 46).map (fun i => (i.zero, i.size, i.bytes)) = some (some (.agg #[.int .i64 0, .int .u16 0, .int .u16 0, .int .u64 0, .string ⟨#[]⟩]), 5, 40) := by kernel_rfl
section
set_option maxRecDepth 100000
set_option maxHeartbeats 4000000
theorem make_three (W : World) : (Instr.makeSlice 25 (.int .i64 3) (.int .i64 3)).run Tryz.prog W = .ok (.slice (some ⟨W.heap.size, 0, none⟩) 3 3) (W.alloc (.cells (madeCells #[.int .i64 0, .int .u16 0, .int .u16 0, .int .u64 0, .string ⟨#[]⟩] 15) 46)) := by
  obtain ⟨i0, hi, hz0, hz1, hz2⟩ := info_parts infoNode
  have hr := run_make (P := Tryz.prog) W 25 46 i0 (.agg #[.int .i64 0, .int .u16 0, .int .u16 0, .int .u64 0, .string ⟨#[]⟩]) Tryz.underlying25 hi hz0 .i64 .i64 3 3 (by omega) (by omega) (by rw [hz2]; decide) (by omega)
  simp only [hz1] at hr
  exact hr
theorem made_three : madeCells #[.int .i64 0, .int .u16 0, .int .u16 0, .int .u64 0, .string ⟨#[]⟩] 15 = #[.int .i64 0, .int .u16 0, .int .u16 0, .int .u64 0, .string ⟨#[]⟩, .int .i64 0, .int .u16 0, .int .u16 0, .int .u64 0, .string ⟨#[]⟩, .int .i64 0, .int .u16 0, .int .u16 0, .int .u64 0, .string ⟨#[]⟩] := by
  have h0 : Array.range 0 = #[] := rfl
  first
  | kernel_rfl
  | simp [madeCells, Array.range_succ, h0]
theorem new_any (w : World) : Calls Tryz.prog 12 #[] w (NewPost w newL) := by
  unfold NewPost
  have hmk : ∀ W : World, (Instr.makeSlice 25 (.int .i64 3) (.int .i64 3)).run Tryz.prog W = .ok (.slice (some ⟨W.heap.size, 0, none⟩) 3 3) (W.alloc (.cells #[.int .i64 0, .int .u16 0, .int .u16 0, .int .u64 0, .string ⟨#[]⟩, .int .i64 0, .int .u16 0, .int .u16 0, .int .u64 0, .string ⟨#[]⟩, .int .i64 0, .int .u16 0, .int .u16 0, .int .u64 0, .string ⟨#[]⟩] 46)) := fun W => by
    rw [← made_three]
    exact make_three W
  go_enter Tryz.func12, Tryz.ntmps12
  go_wp2
  go_ret
  refine ⟨_, rfl, ?_, below_new _ _⟩
  refine ⟨_, 3, rfl, Nat.le_refl _, ⟨by unfold maxLen; omega, fun e => by cases e⟩, rfl, fun _ => ⟨_, 0, rfl, fun j u hj => ?_⟩⟩
  have hh := World.alloc_heap_new w (.cells #[.int .i64 0, .int .u16 0, .int .u16 0, .int .u64 0, .string ⟨#[]⟩, .int .i64 0, .int .u16 0, .int .u16 0, .int .u64 0, .string ⟨#[]⟩, .int .i64 2, .int .u16 493, .int .u16 1, .int .u64 0, .string ⟨#[]⟩] 46)
  simp only [World.cell?, hh]
  rw [Nat.zero_add, ← Array.getElem?_toList]
  exact hj
end
end Go.Proofs.YtkipkcmcolomcaaGreat.Pln
/- A move, piece by piece: behind the name that is gone. It speaks of no program. -/
namespace Go.Proofs.YtkipkcmcolomcaaGreat.Pln
open Dir (N N.zero nm nm_get nm_mem mem_nm nm_erase nm_app nm_last DirP Fine fineE idx idx_is idx_eq idx_none idx_le bytesL ent bytesL_snoc findV findE find_zero addE addV dropV setE setV add_zero)
set_option linter.unusedVariables false
set_option linter.unusedSimpArgs false
/-- the files, and the names, when p's name is gone -/
def outL (l : List Nd) (D : List (List N)) (p : Pl) (now : Nat) : List Nd := l.set p.dir (dirN (nd l p.dir) (bytesL ((ds D p.dir).eraseIdx (idx (ds D p.dir) p.name))) now)
def outE (D : List (List N)) (p : Pl) : List (List N) := D.set p.dir ((ds D p.dir).eraseIdx (idx (ds D p.dir) p.name))
section
variable {l : List Nd} {D : List (List N)} {p q : Pl} {f f2 : Bool} {now : Nat}
theorem named_dir (hR : RightD l D) (hp : placeP l D f p) (h0 : ¬ p.ino = 0) (hd : ¬ p.dir = 0) : p.dir < l.length ∧ p.dir < D.length := by
  obtain ⟨f0, f1, _, _⟩ := place_named hp h0 hd
  have := (hR.big (zero_kind (n := nd l p.dir) (by rw [f0]; decide))).2
  exact ⟨this, by rw [hR.len]; exact this⟩
theorem out_drop (hp : placeP l D f p) (h0 : ¬ p.ino = 0) (hd : ¬ p.dir = 0) : dropV (ds D p.dir) p.name = bytesL ((ds D p.dir).eraseIdx (idx (ds D p.dir) p.name)) := by
  obtain ⟨_, f1, _, f3⟩ := place_named hp h0 hd
  unfold dropV
  rw [if_pos (find_zero.2 ⟨f3, f1⟩)]
theorem out_nd (hR : RightD l D) (hp : placeP l D f p) (h0 : ¬ p.ino = 0) (hd : ¬ p.dir = 0) (b : Nat) : nd (outL l D p now) b = if b = p.dir then dirN (nd l p.dir) (bytesL ((ds D p.dir).eraseIdx (idx (ds D p.dir) p.name))) now else nd l b := nd_set (named_dir hR hp h0 hd).1 _ b
theorem out_ds (hR : RightD l D) (hp : placeP l D f p) (h0 : ¬ p.ino = 0) (hd : ¬ p.dir = 0) (b : Nat) : ds (outE D p) b = if b = p.dir then (ds D p.dir).eraseIdx (idx (ds D p.dir) p.name) else ds D b := ds_set (named_dir hR hp h0 hd).2 _ b
theorem out_dir (hR : RightD l D) (hp : placeP l D f p) (h0 : ¬ p.ino = 0) (hd : ¬ p.dir = 0) {b : Nat} (hb : b < l.length) (hk : (nd l b).kind = 2) : DirP (nd (outL l D p now) b).data (ds (outE D p) b) := by
  obtain ⟨f0, f1, _, _⟩ := place_named hp h0 hd
  rw [out_nd hR hp h0 hd, out_ds hR hp h0 hd]
  by_cases e : b = p.dir
  · rw [if_pos e, if_pos e]
    exact (hR.dir p.dir (named_dir hR hp h0 hd).1 f0).erase f1
  · rw [if_neg e, if_neg e]
    exact hR.dir b hb hk
theorem out_same (hR : RightD l D) (hp : placeP l D f p) (h0 : ¬ p.ino = 0) (hd : ¬ p.dir = 0) (b : Nat) (s : ByteArray) : dirN (nd (outL l D p now) b) s now = dirN (nd l b) s now := by
  rw [out_nd hR hp h0 hd]
  by_cases e : b = p.dir
  · rw [if_pos e, e]; rfl
  · rw [if_neg e]
theorem out_len : (outL l D p now).length = l.length := List.length_set
/-- what is replaced lies in no place that the move touches -/
theorem out_take (hR : RightD l D) (hp : placeP l D f p) (h0 : ¬ p.ino = 0) (hd : ¬ p.dir = 0) (hq : placeP l D f2 q) (g0 : ¬ q.ino = 0) (gd : ¬ q.dir = 0) (hne : ¬ p.ino = q.ino) (ht : takenE (nd l p.ino) (nd l q.ino) = 0) :
    ¬ q.ino = p.dir ∧ ¬ q.ino = q.dir ∧ setE (ds (outE D p) q.dir) q.name p.ino = 0 ∧ setV (ds (outE D p) q.dir) q.name p.ino = bytesL (setN (ds (outE D p) q.dir) q.name p.ino) := by
  obtain ⟨f0, f1, f2', f3⟩ := place_named hp h0 hd
  obtain ⟨k0, k1, k2, k3⟩ := place_named hq g0 gd
  obtain ⟨y0, y1, y2⟩ := place_big hR hq g0
  have hleaf : (nd l q.ino).kind = 2 → ds D q.ino = [] := fun hk => by
    refine empty_leaf hR y2 ?_
    unfold takenE at ht
    by_cases t1 : (nd l p.ino).kind = 2 ∧ ¬ (nd l q.ino).kind = 2
    · exact absurd hk t1.2
    · rw [if_neg t1] at ht
      by_cases t2 : (nd l p.ino).kind = 2 ∧ ¬ (nd l q.ino).data = ⟨#[]⟩
      · rw [if_pos t2] at ht; exact absurd ht (by decide)
      · rw [if_neg t2] at ht
        by_cases t3 : ¬ (nd l p.ino).kind = 2 ∧ (nd l q.ino).kind = 2
        · rw [if_pos t3] at ht; exact absurd ht (by decide)
        · have hpk : (nd l p.ino).kind = 2 := Classical.byContradiction fun e => t3 ⟨e, hk⟩
          exact Classical.byContradiction fun e => t2 ⟨hpk, e⟩
  have a1 : ¬ q.ino = p.dir := fun e => by
    have := hleaf (by rw [e]; exact f0)
    rw [e] at this
    rw [this] at f1
    exact absurd f1 (Nat.not_lt_zero _)
  have a2 : ¬ q.ino = q.dir := fun e => by
    have := hleaf (by rw [e]; exact k0)
    rw [e] at this
    rw [this] at k1
    exact absurd k1 (Nat.not_lt_zero _)
  have hqv : findV (ds D q.dir) q.name = q.ino := by
    rcases hq.1 with e | ⟨_, _, e⟩
    · rw [e] at gd; exact absurd rfl gd
    · exact e.symm
  have hpv : findV (ds D p.dir) p.name = p.ino := by
    rcases hp.1 with e | ⟨_, _, e⟩
    · rw [e] at hd; exact absurd rfl hd
    · exact e.symm
  have hfv : findV (ds (outE D p) q.dir) q.name = q.ino := by
    rw [out_ds hR hp h0 hd]
    by_cases e : q.dir = p.dir
    · rw [if_pos e, findV_erase (hR.fine p.dir) f1, if_neg, ← e, hqv]
      intro e2
      rw [e, e2, hpv] at hqv
      exact hne hqv
    · rw [if_neg e, hqv]
  obtain ⟨z1, z2, z3⟩ := findV_mem hfv.symm g0
  have hse : setE (ds (outE D p) q.dir) q.name p.ino = 0 := by
    unfold setE
    rw [if_neg (fun e => e (find_zero.2 ⟨z3, z1⟩)), if_neg h0]
  refine ⟨a1, a2, hse, ?_⟩
  unfold setV
  rw [if_pos hse]
  rfl
end
end Go.Proofs.YtkipkcmcolomcaaGreat.Pln
