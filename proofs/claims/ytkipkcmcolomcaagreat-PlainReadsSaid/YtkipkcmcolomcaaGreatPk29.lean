/- Several texts in one, each under its own heading. -/
import Derived.Lib.Repeat
import Derived.Test.YtkipkcmcolomcaaGreatPk08
import Derived.Test.YtkipkcmcolomcaaGreatShelf
import Derived.Test.YtkipkcmcolomcaaGreatPk25
import Derived.Test.YtkipkcmcolomcaaGreatPk23
import Derived.Test.YtkipkcmcolomcaaGreatPk24
/- sized: a text of so many bytes. -/
namespace Go.Proofs.YtkipkcmcolomcaaGreat.Pln
open Go.RowKit
attribute [local go_sem] Oper.semAt_some
set_option linter.unusedVariables false
set_option linter.unusedSimpArgs false
/-- so many bytes: cut, or bytes 0 behind it -/
def sizB (s : ByteArray) (c : Nat) : ByteArray := s.extract 0 (min c s.size) ++ zeros (c - s.size)
theorem rep_zeros (n : Nat) : (⟨(Lib.repeatL [0] n).toArray⟩ : ByteArray) = zeros n := by
  have h : Lib.repeatL [0] n = List.replicate n 0 := by
    have := Lib.repeatL_replicate 0 1 n
    simpa using this
  rw [h]
  unfold zeros
  first
  | rfl
  | simp
section
set_option maxRecDepth 100000
set_option maxHeartbeats 4000000
theorem sized_any (s : ByteArray) (c : Nat) (w : World) (hs : s.size ≤ 281474976710656) (hc : c ≤ 200000) :
    Calls Tryz.prog 91 #[.string s, .int .i64 (c : Int)] w (Ans w (.string (sizB s c))) := by
  have HR := Lib.hid (fun W => Shf.Tryz.strings_Repeat ⟨#[0]⟩ (c - s.size) W (by omega) (by show 1 * (c - s.size) ≤ _; omega))
  have e1 : (⟨#[0]⟩ : ByteArray).data.toList = [0] := rfl
  rw [e1, rep_zeros] at HR
  unfold Ans sizB
  obtain ⟨z, hz⟩ : ∃ z, s.size = z := ⟨_, rfl⟩
  have HZ := Lib.hid hz
  rw [hz] at HR hs ⊢
  have hsub : IntKind.i64.wrap ((c : Int) - (z : Int)) = (c : Int) - z := IntWalk.i64_in _ (by omega)
  obtain ⟨k, hk⟩ : ∃ k, min c z = k := ⟨_, rfl⟩
  obtain ⟨d, hd⟩ : ∃ d, c - z = d := ⟨_, rfl⟩
  have hmax : max ((c : Int) - (z : Int)) 0 = (d : Int) := by omega
  have hmin : min (c : Int) (z : Int) = (k : Int) := by omega
  have hkz : k ≤ z := by omega
  have hb0 : (0 : Int) ≤ (k : Int) := by omega
  have hb1 : (k : Int) ≤ (z : Int) := by omega
  have hadd := fun W => run_string_add_sum (P := Tryz.prog) (w := W) (s.extract 0 k) (zeros d) (by rw [zeros_size, ByteArray.size_extract, hz]; omega)
  rw [hk, hd]
  rw [hd] at HR
  obtain ⟨Z, hZ⟩ : ∃ Z, zeros d = Z := ⟨_, rfl⟩
  rw [hZ] at hadd HR ⊢
  clear hZ hk hd hs hc hkz
  go_enter Tryz.func91, Tryz.ntmps91
  go_wp2_with (fail)
  go_region_held3 (fun _ => True) (trivial) ((go_at_call 123; (with_reducible refine Calls.mono (HR.out _) ?_); rintro e w1 ⟨rfl, hB1⟩))
  all_goals (go_wp2; go_ret; exact ⟨rfl, below_th (below_drew (Below.refl _ w)) hB1⟩)
end
end Go.Proofs.YtkipkcmcolomcaaGreat.Pln
/- What changes a file: its data anew. -/
namespace Go.Proofs.YtkipkcmcolomcaaGreat.Pln
open Go.RowKit
open Dir (N nm DirP DirO findV findE findVo findEo addEo addVo dropVo setEo setVo)
open Pth (Strs)
attribute [local go_sem] Oper.semAt_some
set_option linter.unusedVariables false
set_option linter.unusedSimpArgs false
theorem WkAt.only {W W' : World} {base q g cap now : Nat} {l : List Nd} {S : Nat → Prop} (h : WkAt W base q g cap l now) (hO : Only S W W') (h1 : ¬ S q) (h2 : ¬ S g) : WkAt W' base q g cap l now := by
  refine ⟨(hO.block q h.lt h1).trans h.box, ?_⟩
  rcases h.row.2 with ⟨hv, _⟩ | ⟨g', cap', cur, hv, hb, hg, r⟩
  · cases hv
  · have hv0 := hv
    injection hv with e1 e2 e3
    injection e1 with e1
    injection e1 with e1 _ _
    subst e1
    exact ⟨h.row.1, .inr ⟨g, cap', cur, hv0, hb, (hO.block g (Array.getElem?_eq_some_iff.1 hg).1 h2).trans hg, r⟩⟩
section
set_option maxRecDepth 100000
set_option maxHeartbeats 4000000
/-- trunc$1: so many bytes -/
theorem trunc1_any (w : World) (base q g cap i now bc c : Nat) (l : List Nd) (h : WkAt w base q g cap l now) (hi : i < l.length) (hc : c ≤ 200000) (hs : (nd l i).data.size ≤ 281474976710656)
    (hb : w.heap[bc]? = some (.cells #[.int .i64 (c : Int)] 2 (0, 0))) :
    Calls Tryz.prog 92 #[.pointer (some ⟨g, i * 5, none⟩), .pointer (some ⟨bc, 0, none⟩)] w (WkPost base q g cap (l.set i { nd l i with data := sizB (nd l i).data c }) now (.tuple #[]) w) := by
  have HS := Lib.hid (fun W => sized_any (nd l i).data c W hs hc)
  unfold Ans at HS
  obtain ⟨c0, c1, c2, c3, c4⟩ := h.at hi
  have hcb : w.cell? ⟨bc, 0, none⟩ = some (.int .i64 (c : Int)) := by simp only [World.cell?, hb]; rfl
  have HC : Hid (∀ W', Below w.heap.size w W' → W'.cell? ⟨g, i * 5 + 4, none⟩ = some (.string (nd l i).data) ∧ W'.cell? ⟨bc, 0, none⟩ = some (.int .i64 (c : Int))) := fun W' hB =>
    ⟨(hB.cell (p := ⟨g, i * 5 + 4, none⟩) (World.block_lt_of_cell? _ _ c4)).trans c4, (hB.cell (p := ⟨bc, 0, none⟩) (World.block_lt_of_cell? _ _ hcb)).trans hcb⟩
  have HFIN : Hid (∀ W', Below w.heap.size w W' → W'.frozen? ⟨g, i * 5 + 4, none⟩ = false ∧ WkAt (W'.setCell ⟨g, i * 5 + 4, none⟩ (.string (sizB (nd l i).data c))) base q g cap (l.set i { nd l i with data := sizB (nd l i).data c }) now ∧ Only (fun i => i = g) w (W'.setCell ⟨g, i * 5 + 4, none⟩ (.string (sizB (nd l i).data c)))) := fun W' hB => by
    obtain ⟨_, f2, hp, hO⟩ := (h.th hB).data hi (sizB (nd l i).data c)
    exact ⟨f2, hp, (Only.of_below (S := fun i => i = g) hB).trans hO⟩
  have hself : Below w.heap.size w w := Below.refl _ _
  have hself2 : Below w.heap.size w w.drew := hself.drew
  unfold WkPost
  generalize (nd l i).data = s at *
  generalize sizB s c = s' at *
  clear h hb hs c0 c1 c2 c3
  go_enter Tryz.func92, Tryz.ntmps92
  go_wp2_with (fail)
  go_region_law (first | (go_simp; go_at_call 91; (with_reducible refine Calls.mono (HS.out _) ?_); rintro e w1 ⟨rfl, hB1⟩; have hF1 := below_th (by assumption : Below w.heap.size w _) hB1; have f1 := (HFIN.out _ hF1).1; have c4 := (HC.out _ hF1).1; have hcb := (HC.out _ hF1).2))
  all_goals (go_wp2; go_end0; exact ⟨rfl, (HFIN.out _ hF1).2⟩)
/-- drop$1: without a name -/
theorem drop1_any (w : World) (base q g cap i now bs : Nat) (p : Pl) (gv : Value) (l : List Nd) (L : List N) (h : WkAt w base q g cap l now) (hi : i < l.length) (hn : p.name.size ≤ 281474976710656) (hs : (nd l i).data.size ≤ 281474976710656)
    (hD : DirO (nd l i).data (some L)) (hb : SpAt w bs p gv) :
    Calls Tryz.prog 93 #[.pointer (some ⟨g, i * 5, none⟩), .pointer (some ⟨bs, 0, none⟩)] w (WkPost base q g cap (l.set i { nd l i with data := dropVo (some L) p.name }) now (.tuple #[]) w) := by
  have HS := Lib.hid (fun W => Dir.drop_any (nd l i).data p.name (some L) W hs hn hD)
  unfold Dir.Ans at HS
  obtain ⟨c0, c1, c2, c3, c4⟩ := h.at hi
  have hcb : w.cell? ⟨bs, 1, none⟩ = some (.string p.name) := hb.c.2.1
  have HC : Hid (∀ W', Below w.heap.size w W' → W'.cell? ⟨g, i * 5 + 4, none⟩ = some (.string (nd l i).data) ∧ W'.cell? ⟨bs, 1, none⟩ = some (.string p.name)) := fun W' hB =>
    ⟨(hB.cell (p := ⟨g, i * 5 + 4, none⟩) (World.block_lt_of_cell? _ _ c4)).trans c4, (hB.cell (p := ⟨bs, 1, none⟩) (World.block_lt_of_cell? _ _ hcb)).trans hcb⟩
  have HFIN : Hid (∀ W', Below w.heap.size w W' → W'.frozen? ⟨g, i * 5 + 4, none⟩ = false ∧ WkAt (W'.setCell ⟨g, i * 5 + 4, none⟩ (.string (dropVo (some L) p.name))) base q g cap (l.set i { nd l i with data := dropVo (some L) p.name }) now ∧ Only (fun i => i = g) w (W'.setCell ⟨g, i * 5 + 4, none⟩ (.string (dropVo (some L) p.name)))) := fun W' hB => by
    obtain ⟨_, f2, hp, hO⟩ := (h.th hB).data hi (dropVo (some L) p.name)
    exact ⟨f2, hp, (Only.of_below (S := fun i => i = g) hB).trans hO⟩
  have hself : Below w.heap.size w w := Below.refl _ _
  have hself2 : Below w.heap.size w w.drew := hself.drew
  unfold WkPost
  clear h hb hD
  generalize (nd l i).data = s at *
  generalize dropVo (some L) p.name = s' at *
  generalize findEo (some L) p.name = ee at *
  generalize p.name = nm at *
  clear hs hn c0 c1 c2 c3
  go_enter Tryz.func93, Tryz.ntmps93
  go_wp2_with (fail)
  go_region_law (first | (go_simp; go_at_call 94; (with_reducible refine Calls.mono (HS.out _) ?_); rintro e w1 ⟨rfl, hB1⟩; have hF1 := below_th (by assumption : Below w.heap.size w _) hB1; have f1 := (HFIN.out _ hF1).1; have c4 := (HC.out _ hF1).1; have hcb := (HC.out _ hF1).2))
  all_goals (go_wp2; go_end0; exact ⟨rfl, (HFIN.out _ hF1).2⟩)
/-- hand$1: a name is another file's -/
theorem hand1_any (w : World) (base q g cap i now bs bi x : Nat) (p : Pl) (gv : Value) (l : List Nd) (L : List N) (h : WkAt w base q g cap l now) (hi : i < l.length) (hn : p.name.size ≤ 281474976710656) (hs : (nd l i).data.size ≤ 281474976710656)
    (hD : DirO (nd l i).data (some L)) (hb : SpAt w bs p gv) (hx : x < 4294967296) (hbi : w.heap[bi]? = some (.cells #[.int .u32 (x : Int)] 50 (0, 0))) :
    Calls Tryz.prog 126 #[.pointer (some ⟨g, i * 5, none⟩), .pointer (some ⟨bs, 0, none⟩), .pointer (some ⟨bi, 0, none⟩)] w (WkPost base q g cap (l.set i { nd l i with data := setVo (some L) p.name x }) now (.tuple #[]) w) := by
  have HS := Lib.hid (fun W => Dir.set_any (nd l i).data p.name x (some L) W hs hn hx hD)
  unfold Dir.Ans at HS
  obtain ⟨c0, c1, c2, c3, c4⟩ := h.at hi
  have hcb : w.cell? ⟨bs, 1, none⟩ = some (.string p.name) := hb.c.2.1
  have hcx : w.cell? ⟨bi, 0, none⟩ = some (.int .u32 (x : Int)) := by simp only [World.cell?, hbi]; rfl
  have HC : Hid (∀ W', Below w.heap.size w W' → W'.cell? ⟨g, i * 5 + 4, none⟩ = some (.string (nd l i).data) ∧ W'.cell? ⟨bs, 1, none⟩ = some (.string p.name) ∧ W'.cell? ⟨bi, 0, none⟩ = some (.int .u32 (x : Int))) := fun W' hB =>
    ⟨(hB.cell (p := ⟨g, i * 5 + 4, none⟩) (World.block_lt_of_cell? _ _ c4)).trans c4, (hB.cell (p := ⟨bs, 1, none⟩) (World.block_lt_of_cell? _ _ hcb)).trans hcb, (hB.cell (p := ⟨bi, 0, none⟩) (World.block_lt_of_cell? _ _ hcx)).trans hcx⟩
  have HFIN : Hid (∀ W', Below w.heap.size w W' → W'.frozen? ⟨g, i * 5 + 4, none⟩ = false ∧ WkAt (W'.setCell ⟨g, i * 5 + 4, none⟩ (.string (setVo (some L) p.name x))) base q g cap (l.set i { nd l i with data := setVo (some L) p.name x }) now ∧ Only (fun i => i = g) w (W'.setCell ⟨g, i * 5 + 4, none⟩ (.string (setVo (some L) p.name x)))) := fun W' hB => by
    obtain ⟨_, f2, hp, hO⟩ := (h.th hB).data hi (setVo (some L) p.name x)
    exact ⟨f2, hp, (Only.of_below (S := fun i => i = g) hB).trans hO⟩
  have hself : Below w.heap.size w w := Below.refl _ _
  have hself2 : Below w.heap.size w w.drew := hself.drew
  unfold WkPost
  clear h hb hD hbi
  generalize (nd l i).data = s at *
  generalize setVo (some L) p.name x = s' at *
  generalize setEo (some L) p.name x = ee at *
  generalize p.name = nm at *
  clear hs hn c0 c1 c2 c3
  go_enter Tryz.func126, Tryz.ntmps126
  go_wp2_with (fail)
  go_region_law (first | (go_simp; go_at_call 127; (with_reducible refine Calls.mono (HS.out _) ?_); rintro e w1 ⟨rfl, hB1⟩; have hF1 := below_th (by assumption : Below w.heap.size w _) hB1; have f1 := (HFIN.out _ hF1).1; have c4 := (HC.out _ hF1).1; have hcb := (HC.out _ hF1).2.1; have hcx := (HC.out _ hF1).2.2))
  all_goals (go_wp2; go_end0; exact ⟨rfl, (HFIN.out _ hF1).2⟩)
/-- put$1: a name more, or an error -/
theorem put1_any (w : World) (base q g cap i now bs bi be x : Nat) (p : Pl) (gv : Value) (l : List Nd) (L : List N) (h : WkAt w base q g cap l now) (hi : i < l.length) (hn : p.name.size ≤ 281474976710656) (hs : (nd l i).data.size ≤ 281474976710656)
    (hD : DirO (nd l i).data (some L)) (hb : SpAt w bs p gv) (hx : x < 4294967296) (hbi : w.heap[bi]? = some (.cells #[.int .u32 (x : Int)] 50 (0, 0))) (hbe : w.heap[be]? = some (.cells #[.int .i64 0] 29 (0, 0))) :
    Calls Tryz.prog 121 #[.pointer (some ⟨g, i * 5, none⟩), .pointer (some ⟨bs, 0, none⟩), .pointer (some ⟨bi, 0, none⟩), .pointer (some ⟨be, 0, none⟩)] w (fun e w' => e = .returned (.tuple #[]) ∧ WkAt w' base q g cap (l.set i { nd l i with data := addVo (some L) p.name x }) now ∧ w'.heap[be]? = some (.cells #[.int .i64 (addEo (some L) p.name x)] 29 (0, 0)) ∧ Only (fun i => i = g ∨ i = be) w w') := by
  have HS := Lib.hid (fun W => Dir.add_any (nd l i).data p.name x (some L) W hs hn hx hD)
  unfold Dir.Ans at HS
  obtain ⟨c0, c1, c2, c3, c4⟩ := h.at hi
  have hcb : w.cell? ⟨bs, 1, none⟩ = some (.string p.name) := hb.c.2.1
  have hcx : w.cell? ⟨bi, 0, none⟩ = some (.int .u32 (x : Int)) := by simp only [World.cell?, hbi]; rfl
  have HC : Hid (∀ W', Below w.heap.size w W' → W'.cell? ⟨g, i * 5 + 4, none⟩ = some (.string (nd l i).data) ∧ W'.cell? ⟨bs, 1, none⟩ = some (.string p.name) ∧ W'.cell? ⟨bi, 0, none⟩ = some (.int .u32 (x : Int))) := fun W' hB =>
    ⟨(hB.cell (p := ⟨g, i * 5 + 4, none⟩) (World.block_lt_of_cell? _ _ c4)).trans c4, (hB.cell (p := ⟨bs, 1, none⟩) (World.block_lt_of_cell? _ _ hcb)).trans hcb, (hB.cell (p := ⟨bi, 0, none⟩) (World.block_lt_of_cell? _ _ hcx)).trans hcx⟩
  have hce : w.cell? ⟨be, 0, none⟩ = some (.int .i64 0) := by simp only [World.cell?, hbe]; rfl
  have hgb : ¬ be = g := fun e => by
    obtain ⟨cur, hg⟩ := h.g.1
    rw [← e, hbe] at hg
    injection hg with hg
    injection hg with _ h1 _
    exact absurd h1 (by decide)
  have hqb : ¬ be = q := fun e => by
    have hg := h.box
    rw [← e, hbe] at hg
    injection hg with hg
    injection hg with _ h1 _
    exact absurd h1 (by decide)
  have HFIN : Hid (∀ W', Below w.heap.size w W' → W'.frozen? ⟨g, i * 5 + 4, none⟩ = false ∧ W'.frozen? ⟨be, 0, none⟩ = false ∧ W'.cell? ⟨be, 0, none⟩ = some (.int .i64 0) ∧
      (∀ W2, (W2 = (W'.setCell ⟨g, i * 5 + 4, none⟩ (.string (addVo (some L) p.name x))).setCell ⟨be, 0, none⟩ (.int .i64 (addEo (some L) p.name x)) ∨ W2 = (W'.setCell ⟨be, 0, none⟩ (.int .i64 (addEo (some L) p.name x))).setCell ⟨g, i * 5 + 4, none⟩ (.string (addVo (some L) p.name x))) →
        WkAt W2 base q g cap (l.set i { nd l i with data := addVo (some L) p.name x }) now ∧ W2.heap[be]? = some (.cells #[.int .i64 (addEo (some L) p.name x)] 29 (0, 0)) ∧ Only (fun i => i = g ∨ i = be) w W2)) := fun W' hB => by
    have hbe' : W'.heap[be]? = some (.cells #[.int .i64 0] 29 (0, 0)) := (hB.block be (Array.getElem?_eq_some_iff.1 hbe).1).trans hbe
    have hT := h.th hB
    obtain ⟨_, f2, hp, hO⟩ := hT.data hi (addVo (some L) p.name x)
    refine ⟨f2, by simp [World.frozen?, hbe'], by simp only [World.cell?, hbe']; rfl, fun W2 hW => ?_⟩
    rcases hW with rfl | rfl
    · have hb2 : (W'.setCell ⟨g, i * 5 + 4, none⟩ (.string (addVo (some L) p.name x))).heap[be]? = some (.cells #[.int .i64 0] 29 (0, 0)) := (Below.heap_setCell _ _ _ _ hgb).trans hbe'
      have hO2 := only_set (W'.setCell ⟨g, i * 5 + 4, none⟩ (.string (addVo (some L) p.name x))) be 0 (.int .i64 (addEo (some L) p.name x))
      exact ⟨hp.only hO2 (fun e => hqb e.symm) (fun e => hgb e.symm), heap_setCell_same _ be 0 _ _ _ hb2, ((Only.of_below (S := fun i => i = g ∨ i = be) hB).trans (hO.mono fun _ _ e => .inl e)).trans (hO2.mono fun _ _ e => .inr e)⟩
    · have hO2 := only_set W' be 0 (.int .i64 (addEo (some L) p.name x))
      have hT2 := hT.only hO2 (fun e => hqb e.symm) (fun e => hgb e.symm)
      obtain ⟨_, _, hp3, hO3⟩ := hT2.data hi (addVo (some L) p.name x)
      exact ⟨hp3, (hO3.block be (by rw [(World.size_setCell _ _ _)]; exact (Array.getElem?_eq_some_iff.1 hbe').1) hgb).trans (heap_setCell_same _ be 0 _ _ _ hbe'), ((Only.of_below (S := fun i => i = g ∨ i = be) hB).trans (hO2.mono fun _ _ e => .inr e)).trans (hO3.mono fun _ _ e => .inl e)⟩
  have hself : Below w.heap.size w w := Below.refl _ _
  have hself2 : Below w.heap.size w w.drew := hself.drew
  clear h hb hD hbi hbe
  generalize (nd l i).data = s at *
  generalize addVo (some L) p.name x = s' at *
  generalize addEo (some L) p.name x = ee at *
  generalize p.name = nm at *
  clear hs hn c0 c1 c2 c3
  go_enter Tryz.func121, Tryz.ntmps121
  go_wp2_with (fail)
  go_region_law (first | (go_simp; go_at_call 122; (with_reducible refine Calls.mono (HS.out _) ?_); rintro e w1 ⟨rfl, hB1⟩; have hF1 := below_th (by assumption : Below w.heap.size w _) hB1; have f1 := (HFIN.out _ hF1).1; have f2 := (HFIN.out _ hF1).2.1; have f3 := (HFIN.out _ hF1).2.2.1; have hFF := Lib.hid (HFIN.out _ hF1).2.2.2; have c4 := (HC.out _ hF1).1; have hcb := (HC.out _ hF1).2.1; have hcx := (HC.out _ hF1).2.2))
  all_goals (go_wp2; go_end0; first | exact ⟨rfl, hFF.out _ (.inl rfl)⟩ | exact ⟨rfl, hFF.out _ (.inr rfl)⟩)
end
end Go.Proofs.YtkipkcmcolomcaaGreat.Pln
/- What changes a file: data from a place on. -/
namespace Go.Proofs.YtkipkcmcolomcaaGreat.Pln
open Go.RowKit
open Dir (N nm DirP DirO findV findE findVo findEo addEo addVo dropVo setEo setVo)
open Pth (Strs)
attribute [local go_sem] Oper.semAt_some
set_option linter.unusedVariables false
set_option linter.unusedSimpArgs false
section
set_option maxRecDepth 100000
set_option maxHeartbeats 4000000
/-- write$1: data from a place on -/
def wriB (s : ByteArray) (o : Nat) (d : ByteArray) : ByteArray := sizB s o ++ d ++ s.extract (min (o + d.size) s.size) (min (o + d.size) s.size + min 200000 (s.size - min (o + d.size) s.size))
theorem write1_any (w : World) (base q g cap i now bo bd o : Nat) (d : ByteArray) (l : List Nd) (h : WkAt w base q g cap l now) (hi : i < l.length) (hc : o + d.size ≤ 200000) (hs : (nd l i).data.size ≤ 281474976710656)
    (hbo : w.heap[bo]? = some (.cells #[.int .i64 (o : Int)] 2 (0, 0))) (hbd : w.heap[bd]? = some (.cells #[.string d] 9 (0, 0))) :
    Calls Tryz.prog 90 #[.pointer (some ⟨g, i * 5, none⟩), .pointer (some ⟨bo, 0, none⟩), .pointer (some ⟨bd, 0, none⟩)] w (WkPost base q g cap (l.set i { nd l i with data := wriB (nd l i).data o d }) now (.tuple #[]) w) := by
  have HS := Lib.hid (fun W => sized_any (nd l i).data o W hs (by omega))
  have HP := Lib.hid (fun W => piece_any (nd l i).data (o + d.size) 200000 W hs (by omega) (by omega))
  unfold Ans at HS
  obtain ⟨c0, c1, c2, c3, c4⟩ := h.at hi
  have hco : w.cell? ⟨bo, 0, none⟩ = some (.int .i64 (o : Int)) := by simp only [World.cell?, hbo]; rfl
  have hcd : w.cell? ⟨bd, 0, none⟩ = some (.string d) := by simp only [World.cell?, hbd]; rfl
  have HC : Hid (∀ W', Below w.heap.size w W' → W'.cell? ⟨g, i * 5 + 4, none⟩ = some (.string (nd l i).data) ∧ W'.cell? ⟨bo, 0, none⟩ = some (.int .i64 (o : Int)) ∧ W'.cell? ⟨bd, 0, none⟩ = some (.string d)) := fun W' hB =>
    ⟨(hB.cell (p := ⟨g, i * 5 + 4, none⟩) (World.block_lt_of_cell? _ _ c4)).trans c4, (hB.cell (p := ⟨bo, 0, none⟩) (World.block_lt_of_cell? _ _ hco)).trans hco, (hB.cell (p := ⟨bd, 0, none⟩) (World.block_lt_of_cell? _ _ hcd)).trans hcd⟩
  have HFIN : Hid (∀ W', Below w.heap.size w W' → W'.frozen? ⟨g, i * 5 + 4, none⟩ = false ∧ WkAt (W'.setCell ⟨g, i * 5 + 4, none⟩ (.string (wriB (nd l i).data o d))) base q g cap (l.set i { nd l i with data := wriB (nd l i).data o d }) now ∧ Only (fun i => i = g) w (W'.setCell ⟨g, i * 5 + 4, none⟩ (.string (wriB (nd l i).data o d)))) := fun W' hB => by
    obtain ⟨_, f2, hp, hO⟩ := (h.th hB).data hi (wriB (nd l i).data o d)
    exact ⟨f2, hp, (Only.of_below (S := fun i => i = g) hB).trans hO⟩
  have hself : Below w.heap.size w w := Below.refl _ _
  have hself2 : Below w.heap.size w w.drew := hself.drew
  have hself3 : Below w.heap.size w w.drew.drew := hself2.drew
  unfold WkPost
  unfold wriB at HFIN ⊢
  clear h hbo hbd
  generalize (nd l i).data = s at *
  have h1 : (sizB s o).size ≤ 400000 := by
    unfold sizB
    rw [ByteArray.size_append, zeros_size, ByteArray.size_extract]
    omega
  have h3 : (s.extract (min (o + d.size) s.size) (min (o + d.size) s.size + min 200000 (s.size - min (o + d.size) s.size))).size ≤ 200000 := by
    rw [ByteArray.size_extract]
    omega
  obtain ⟨s3, hs3⟩ : ∃ s3, s.extract (min (o + d.size) s.size) (min (o + d.size) s.size + min 200000 (s.size - min (o + d.size) s.size)) = s3 := ⟨_, rfl⟩
  obtain ⟨s1, hs1⟩ : ∃ s1, sizB s o = s1 := ⟨_, rfl⟩
  rw [hs3] at HP h3
  rw [hs1] at h1 HS
  rw [hs1, hs3] at HFIN ⊢
  have hadd := fun W => run_string_add_sum (P := Tryz.prog) (w := W) s1 d (by omega)
  have hadd2 := fun W => run_string_add_sum (P := Tryz.prog) (w := W) (s1 ++ d) s3 (by rw [ByteArray.size_append]; omega)
  have hsum : IntKind.i64.wrap ((o : Int) + (d.size : Int)) = ((o + d.size : Nat) : Int) := by rw [IntWalk.i64_in _ (by omega)]; omega
  have hsum2 : IntKind.i64.wrap ((o : Int) + (d.size : Int)) = (o : Int) + (d.size : Int) := IntWalk.i64_in _ (by omega)
  have hcast : (((o + d.size : Nat) : Int)) = (o : Int) + (d.size : Int) := by omega
  rw [hcast] at HP
  clear hs3 hs1 h1 h3 hcast hsum c0 c1 c2 c3 hc hs
  go_enter Tryz.func90, Tryz.ntmps90
  go_wp2_with (fail)
  go_region_held3 (fun w' => w'.cell? ⟨g, i * 5 + 4, none⟩ = some (.string s) ∧ w'.cell? ⟨bo, 0, none⟩ = some (.int .i64 (o : Int)) ∧ w'.cell? ⟨bd, 0, none⟩ = some (.string d)) (exact HC.out _ (by assumption)) ((go_at_call 48; (with_reducible refine Calls.mono (HP.out _) ?_); rintro e w1 ⟨rfl, hw1⟩; have hF0 : Below w.heap.size w w1 := (by rw [hw1]; assumption)))
  go_wp2_with (fail)
  go_region_law (first | (go_simp; go_at_call 91; (with_reducible refine Calls.mono (HS.out _) ?_); rintro e w1 ⟨rfl, hB1⟩; have hF1 := below_th (by assumption : Below w.heap.size w _) hB1; have f1 := (HFIN.out _ hF1).1; have c4 := (HC.out _ hF1).1; have hco := (HC.out _ hF1).2.1; have hcd := (HC.out _ hF1).2.2))
  all_goals (go_wp2; go_end0; exact ⟨rfl, (HFIN.out _ hF1).2⟩)
end
end Go.Proofs.YtkipkcmcolomcaaGreat.Pln
