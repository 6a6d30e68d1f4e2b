/- A checkpoint whose root is not another one's memory; where a number stands; Find of the program. -/
import Derived.Test.YtoedjemelblpaaaNumFit
import Derived.Test.YtoedjemelblpaaaCpsRight
namespace Go.Proofs.Ytoedjemelblpaaa.Cps
open Go.RowKit
attribute [local go_sem] Oper.semAt_some
set_option linter.unusedVariables false
set_option linter.unusedSimpArgs false

theorem At.put4k {W : World} {b : Nat} {s : C} (h : At W b s) (t : C) :
    (W.setCell ⟨b, 0, none⟩ (.int .u64 t.cp)).cell? ⟨b, 0, none⟩ = some (.int .u64 t.cp) ∧
    ((W.setCell ⟨b, 0, none⟩ (.int .u64 t.cp)).setCell ⟨b, 1, none⟩ (.int .u64 t.tick)).cell? ⟨b, 1, none⟩ = some (.int .u64 t.tick) ∧
    (((W.setCell ⟨b, 0, none⟩ (.int .u64 t.cp)).setCell ⟨b, 1, none⟩ (.int .u64 t.tick)).setCell ⟨b, 2, none⟩ (.bool t.snap)).cell? ⟨b, 2, none⟩ = some (.bool t.snap) ∧
    ((((W.setCell ⟨b, 0, none⟩ (.int .u64 t.cp)).setCell ⟨b, 1, none⟩ (.int .u64 t.tick)).setCell ⟨b, 2, none⟩ (.bool t.snap)).setCell ⟨b, 3, none⟩ (.string t.root)).cell? ⟨b, 3, none⟩ = some (.string t.root) := by
  unfold At at h
  have h0 := heap_setCell_same W b 0 _ _ (.int .u64 t.cp) h
  have h1 := heap_setCell_same _ b 1 _ _ (.int .u64 t.tick) h0
  have h2 := heap_setCell_same _ b 2 _ _ (.bool t.snap) h1
  have h3 := heap_setCell_same _ b 3 _ _ (.string t.root) h2
  exact ⟨by simp only [World.cell?, h0]; rfl, by simp only [World.cell?, h1]; rfl, by simp only [World.cell?, h2]; rfl, by simp only [World.cell?, h3]; rfl⟩
def boxZ : Obj := .cells #[.int .u64 0, .int .u64 0, .bool false, .string ⟨#[]⟩] 25
theorem At.newZ (w : World) : At (w.alloc boxZ) w.heap.size C.zero := At.new w C.zero
theorem At.cZ {W : World} {b : Nat} (h : At W b C.zero) : W.cell? ⟨b, 0, none⟩ = some (.int .u64 0) ∧ W.cell? ⟨b, 1, none⟩ = some (.int .u64 0) ∧ W.cell? ⟨b, 2, none⟩ = some (.bool false) ∧ W.cell? ⟨b, 3, none⟩ = some (.string ⟨#[]⟩) := h.c
theorem At.putZ {W : World} {b : Nat} {s : C} (h : At W b s) :
    (W.setCell ⟨b, 0, none⟩ (.int .u64 0)).cell? ⟨b, 0, none⟩ = some (.int .u64 0) ∧
    ((W.setCell ⟨b, 0, none⟩ (.int .u64 0)).setCell ⟨b, 1, none⟩ (.int .u64 0)).cell? ⟨b, 1, none⟩ = some (.int .u64 0) ∧
    (((W.setCell ⟨b, 0, none⟩ (.int .u64 0)).setCell ⟨b, 1, none⟩ (.int .u64 0)).setCell ⟨b, 2, none⟩ (.bool false)).cell? ⟨b, 2, none⟩ = some (.bool false) ∧
    ((((W.setCell ⟨b, 0, none⟩ (.int .u64 0)).setCell ⟨b, 1, none⟩ (.int .u64 0)).setCell ⟨b, 2, none⟩ (.bool false)).setCell ⟨b, 3, none⟩ (.string ⟨#[]⟩)).cell? ⟨b, 3, none⟩ = some (.string ⟨#[]⟩) ∧
    At ((((W.setCell ⟨b, 0, none⟩ (.int .u64 0)).setCell ⟨b, 1, none⟩ (.int .u64 0)).setCell ⟨b, 2, none⟩ (.bool false)).setCell ⟨b, 3, none⟩ (.string ⟨#[]⟩)) b C.zero ∧
    Below b W ((((W.setCell ⟨b, 0, none⟩ (.int .u64 0)).setCell ⟨b, 1, none⟩ (.int .u64 0)).setCell ⟨b, 2, none⟩ (.bool false)).setCell ⟨b, 3, none⟩ (.string ⟨#[]⟩)) :=
  ⟨(h.put4k C.zero).1, (h.put4k C.zero).2.1, (h.put4k C.zero).2.2.1, (h.put4k C.zero).2.2.2, (h.put4 C.zero).1, (h.put4 C.zero).2⟩
theorem results_c {fn : Func} {r : Tmp} (h : fn.results = #[.cell r 25]) (tmps : Array Value) (w : World) {b : Nat} {s : C} (hp : tmps.getD r undef = .pointer (some ⟨b, 0, none⟩)) (hA : At w b s) :
    (results fn tmps).run Try.prog w = .ok s.val w := by
  obtain ⟨c0, c1, c2, c3⟩ := hA.c
  rw [Array.getD_eq_getD_getElem?] at hp
  simp [results, h, hp, go_sem, c0, c1, c2, c3]
  rfl
theorem results_ce {fn : Func} {r e : Tmp} (h : fn.results = #[.cell r 25, .tmp e]) (tmps : Array Value) (w : World) {b : Nat} {s : C} (hp : tmps.getD r undef = .pointer (some ⟨b, 0, none⟩)) (hA : At w b s) :
    (results fn tmps).run Try.prog w = .ok (.tuple #[s.val, tmps.getD e undef]) w := by
  obtain ⟨c0, c1, c2, c3⟩ := hA.c
  rw [Array.getD_eq_getD_getElem?] at hp
  simp [results, h, hp, go_sem, c0, c1, c2, c3]
  rfl
/-- what stands stays -/
theorem Reads.th {W W' : World} {b o : Nat} {c : C} (h : Reads W b o c) (hB : Below W.heap.size W W') : Reads W' b o c := by
  have hl := World.block_lt_of_cell? _ _ h.1
  exact ⟨(hB.cell (p := ⟨b, o, none⟩) hl).trans h.1, (hB.cell (p := ⟨b, o + 1, none⟩) hl).trans h.2.1, (hB.cell (p := ⟨b, o + 2, none⟩) hl).trans h.2.2.1, (hB.cell (p := ⟨b, o + 3, none⟩) hl).trans h.2.2.2⟩

section
set_option maxRecDepth 100000
set_option maxHeartbeats 2000000
theorem own_any (c : C) (w : World) (hs : c.root.size ≤ 281474976710656) : Calls Try.prog 39 #[c.val] w (Ans w c.val) := by
  have HC := Lib.hid (fun W => clone_any c.root W hs)
  have hA := At.new w c
  have HA := Lib.hid hA
  have HZ := Lib.hid (At.newZ (w.alloc (boxO c)))
  have HB0 := Lib.hid (below_al (below_new w (boxO c)) boxZ)
  have hb1 : (w.alloc (boxO c)).heap.size = w.heap.size + 1 := by simp
  rw [hb1] at HZ
  have HA1 : Hid (At ((w.alloc (boxO c)).alloc boxZ) w.heap.size c) := (HA.out).th (below_new _ _)
  obtain ⟨c0, c1, c2, c3⟩ := HA1.out.c
  clear hA hb1 hs
  obtain ⟨n, ti, sn, ro⟩ := c
  unfold C.val
  unfold boxO boxZ at HZ HB0 HA1 c0 c1 c2 c3
  unfold boxO at HA
  dsimp only at HC HZ HB0 HA HA1 c0 c1 c2 c3 ⊢
  obtain ⟨W0, rfl⟩ : ∃ W0 : World, W0 = w := ⟨_, rfl⟩
  go_enter Try.func39, Try.ntmps39
  go_wp2_with (go_at_call 60; (with_reducible refine Calls.mono (HC.out _) ?_); rintro e w2 ⟨rfl, hB2⟩; have hA2 := HA1.out.th hB2; obtain ⟨a0, a1, a2, a3⟩ := hA2.c; have f3 := hA2.f 3; obtain ⟨hA3, hB3⟩ := hA2.put_root ro; obtain ⟨d0, d1, d2, d3⟩ := hA3.c; have hZ3 := (HZ.out.th hB2).of_heap (W' := w2.setCell ⟨W0.heap.size, 3, none⟩ (.string ro)) (Below.heap_setCell _ _ _ _ (by show W0.heap.size + 1 ≠ W0.heap.size; omega)); obtain ⟨z0, z1, z2, z3⟩ := hZ3.cZ; have g0 := hZ3.f 0; have g1 := hZ3.f 1; have g2 := hZ3.f 2; have g3 := hZ3.f 3; obtain ⟨k0, k1, k2, k3⟩ := hZ3.put4k ⟨n, ti, sn, ro⟩; obtain ⟨hP4, hB4⟩ := hZ3.put4 ⟨n, ti, sn, ro⟩; dsimp only at a0 a1 a2 a3 d0 d1 d2 d3 k0 k1 k2 k3 hB4; have HP4 := Lib.hid hP4; have HB4 := Lib.hid hB4; have HB3 := Lib.hid hB3; clear hA2 hA3 hP4 hB3 hB4)
  refine bodyPost_ret (results_c rfl _ _ rfl HP4.out) rfl ?_
  exact ⟨rfl, (below_th HB0.out hB2).trans (HB3.out.trans (HB4.out.mono (by omega)))⟩
end
end Go.Proofs.Ytoedjemelblpaaa.Cps
