/- Several texts in one, each under its own heading. -/
import Derived.Deep.RegionHeld3
import Derived.Test.YtkipkcmcolomcaaGreatPk01
import Derived.Test.YtkipkcmcolomcaaGreatPk35
import Derived.Test.YtkipkcmcolomcaaGreatPk09
import Derived.Test.YtkipkcmcolomcaaGreatPk24
import Derived.Test.YtkipkcmcolomcaaGreatPk07
/- A law of the library on regions that draw, with the slot written out: what a take leaves is then at once laid out. -/
namespace Go.Proofs.YtkipkcmcolomcaaGreat
open Go
set_option linter.unusedVariables false
theorem takeAt {P : Program} {ops : Array Oper} {Q : Exit → Act → World → Prop} {md : Region.Mode} {S : World → Prop} {i : Nat} (d : Nat) {oi : Oper} {v : Value} {fuel : Nat} {listed : Array Bool} {a : Act} {w : World} (hi : ops[i]? = some oi) (hd : oi.dst = some d)
    (hs : Region.noSelect ops = true) (hf : Region.free md ops listed i = true) (hr : (Region.ready md ops listed).contains i = true)
    (hQ : ∀ c a w, Q (.panic c) (a.put oi.dst v) w → Q (.panic c) a w) (hy : YieldsIf P ops S oi v a) (hS : S w)
    (h : wpAnyH P md ops Q S fuel (listed.setIfInBounds i true) (a.put (some d) v) w) : wpAnyH P md ops Q S (fuel + 1) listed a w :=
  wpAnyH_take hi hs hf hr hQ hy hS (by rw [hd]; exact h)
end Go.Proofs.YtkipkcmcolomcaaGreat
/- Slices of calls, as they come in (made by wip/tools/plnargs.py). -/
namespace Go.Proofs.YtkipkcmcolomcaaGreat.Pln
open Go.RowKit Go.ChangeShapes Go.WideShapes Go.Deep
set_option linter.unusedVariables false
def Cl.cells (c : Cl) : List Value := [.int .i64 c.op, .string c.path, .string c.to_, .string c.data, .int .i64 c.off, .int .i64 c.n, .int .i64 c.mode]
def Cls (w : World) (v : Value) (L : List Cl) : Prop := Lies w v L.length 7 (L.flatMap Cl.cells)
theorem cells_open_cl : Tryz.prog.cellsOf 28 = 7 := by kernel_rfl
theorem cells_int64 : Tryz.prog.cellsOf 2 = 1 := by kernel_rfl
theorem list7 {α : Type} {l : List α} (h : l.length = 7) : ∃ c0 c1 c2 c3 c4 c5 c6, l = [c0, c1, c2, c3, c4, c5, c6] := by
  match l, h with
  | [a, b, c, d, e, f, g], _ => exact ⟨a, b, c, d, e, f, g, rfl⟩
section
variable {H : Type} {enc : TypeId × Value → H} {w : World} {base fuel : Nat} {cs : List Value} {x : DataW H × List MemPlace}
theorem open_cl {n : Nat} {c : List Value} {y : DataW H × List MemPlace} (h : DataW.trod enc Tryz.prog w base (fun _ => true) true n 28 c = some y) (hk : ∀ k ∈ y.1.weights Tryz.prog 28, k ≤ 281474976710656) : ∃ s : Cl, c = s.cells ∧ s.Ok ∧ s.path.size ≤ 281474976710656 ∧ s.to_.size ≤ 281474976710656 ∧ s.data.size ≤ 281474976710656 := by
  obtain ⟨xs, m, _, hy, hl, hxl, hf⟩ := DataW.trod_struct Tryz.underlying28 h
  rw [cells_open_cl] at hl
  obtain ⟨c0, c1, c2, c3, c4, c5, c6, rfl⟩ := list7 hl
  have hxs : xs.length = 7 := by simpa using hxl
  have hz : ∀ i, i < 7 → ∃ z, xs[i]? = some z := fun i hi => ⟨xs[i]'(by omega), by simp⟩
  have f0 : DataW.trod enc Tryz.prog w base (fun _ => true) true m 3 [c0] = xs[0]? := by have hh : DataW.trod enc Tryz.prog w base (fun _ => true) true m 3 (([c0, c1, c2, c3, c4, c5, c6].drop 0).take (Tryz.prog.cellsOf 3)) = xs[0]? := hf 0 _ rfl; rw [cells_int] at hh; exact hh
  have f1 : DataW.trod enc Tryz.prog w base (fun _ => true) true m 9 [c1] = xs[1]? := by have hh : DataW.trod enc Tryz.prog w base (fun _ => true) true m 9 (([c0, c1, c2, c3, c4, c5, c6].drop 1).take (Tryz.prog.cellsOf 9)) = xs[1]? := hf 1 _ rfl; rw [cells_string] at hh; exact hh
  have f2 : DataW.trod enc Tryz.prog w base (fun _ => true) true m 9 [c2] = xs[2]? := by have hh : DataW.trod enc Tryz.prog w base (fun _ => true) true m 9 (([c0, c1, c2, c3, c4, c5, c6].drop 2).take (Tryz.prog.cellsOf 9)) = xs[2]? := hf 2 _ rfl; rw [cells_string] at hh; exact hh
  have f3 : DataW.trod enc Tryz.prog w base (fun _ => true) true m 9 [c3] = xs[3]? := by have hh : DataW.trod enc Tryz.prog w base (fun _ => true) true m 9 (([c0, c1, c2, c3, c4, c5, c6].drop 3).take (Tryz.prog.cellsOf 9)) = xs[3]? := hf 3 _ rfl; rw [cells_string] at hh; exact hh
  have f4 : DataW.trod enc Tryz.prog w base (fun _ => true) true m 2 [c4] = xs[4]? := by have hh : DataW.trod enc Tryz.prog w base (fun _ => true) true m 2 (([c0, c1, c2, c3, c4, c5, c6].drop 4).take (Tryz.prog.cellsOf 2)) = xs[4]? := hf 4 _ rfl; rw [cells_int64] at hh; exact hh
  have f5 : DataW.trod enc Tryz.prog w base (fun _ => true) true m 2 [c5] = xs[5]? := by have hh : DataW.trod enc Tryz.prog w base (fun _ => true) true m 2 (([c0, c1, c2, c3, c4, c5, c6].drop 5).take (Tryz.prog.cellsOf 2)) = xs[5]? := hf 5 _ rfl; rw [cells_int64] at hh; exact hh
  have f6 : DataW.trod enc Tryz.prog w base (fun _ => true) true m 3 [c6] = xs[6]? := by have hh : DataW.trod enc Tryz.prog w base (fun _ => true) true m 3 (([c0, c1, c2, c3, c4, c5, c6].drop 6).take (Tryz.prog.cellsOf 3)) = xs[6]? := hf 6 _ rfl; rw [cells_int] at hh; exact hh
  obtain ⟨z0, h0⟩ := hz 0 (by omega)
  obtain ⟨z1, h1⟩ := hz 1 (by omega)
  obtain ⟨z2, h2⟩ := hz 2 (by omega)
  obtain ⟨z3, h3⟩ := hz 3 (by omega)
  obtain ⟨z4, h4⟩ := hz 4 (by omega)
  obtain ⟨z5, h5⟩ := hz 5 (by omega)
  obtain ⟨z6, h6⟩ := hz 6 (by omega)
  rw [h0] at f0
  rw [h1] at f1
  rw [h2] at f2
  rw [h3] at f3
  rw [h4] at f4
  rw [h5] at f5
  rw [h6] at f6
  obtain ⟨n0, e0, _, w0⟩ := DataW.trod_int Tryz.underlying3 f0
  obtain ⟨n1, e1, y1, w1⟩ := DataW.trod_string Tryz.underlying9 f1
  have hw1 : n1.size ≤ 281474976710656 := by
    have hd : (xs.map (·.1))[1]? = some z1.1 := by rw [List.getElem?_map, h1]; rfl
    have := hk n1.data.toList.length (by
      rw [hy]
      simp only [DataW.weights, Tryz.underlying28]
      exact DataW.weights_mem_each (j := 1) (t := 9) rfl hd _ (by rw [y1]; simp [DataW.weights]))
    rwa [Array.length_toList] at this
  obtain ⟨n2, e2, y2, w2⟩ := DataW.trod_string Tryz.underlying9 f2
  have hw2 : n2.size ≤ 281474976710656 := by
    have hd : (xs.map (·.1))[2]? = some z2.1 := by rw [List.getElem?_map, h2]; rfl
    have := hk n2.data.toList.length (by
      rw [hy]
      simp only [DataW.weights, Tryz.underlying28]
      exact DataW.weights_mem_each (j := 2) (t := 9) rfl hd _ (by rw [y2]; simp [DataW.weights]))
    rwa [Array.length_toList] at this
  obtain ⟨n3, e3, y3, w3⟩ := DataW.trod_string Tryz.underlying9 f3
  have hw3 : n3.size ≤ 281474976710656 := by
    have hd : (xs.map (·.1))[3]? = some z3.1 := by rw [List.getElem?_map, h3]; rfl
    have := hk n3.data.toList.length (by
      rw [hy]
      simp only [DataW.weights, Tryz.underlying28]
      exact DataW.weights_mem_each (j := 3) (t := 9) rfl hd _ (by rw [y3]; simp [DataW.weights]))
    rwa [Array.length_toList] at this
  obtain ⟨n4, e4, _, w4⟩ := DataW.trod_int Tryz.underlying2 f4
  obtain ⟨n5, e5, _, w5⟩ := DataW.trod_int Tryz.underlying2 f5
  obtain ⟨n6, e6, _, w6⟩ := DataW.trod_int Tryz.underlying3 f6
  simp only [List.cons.injEq, and_true] at e0 e1 e2 e3 e4 e5 e6
  subst e0 e1 e2 e3 e4 e5 e6
  have k0 := bounds64 w0
  have k4 := bounds64 w4
  have k5 := bounds64 w5
  have k6 := bounds64 w6
  exact ⟨⟨n0, n1, n2, n3, n4, n5, n6⟩, rfl, ⟨⟨by show _ ≤ n0; omega, by show n0 ≤ _; omega⟩, ⟨by show _ ≤ n4; omega, by show n4 ≤ _; omega⟩, ⟨by show _ ≤ n5; omega, by show n5 ≤ _; omega⟩, by show _ ≤ n6; omega, by show n6 ≤ _; omega⟩, hw1, hw2, hw3⟩
theorem lies_calls (h : DataW.trod enc Tryz.prog w base (fun _ => true) true fuel 22 cs = some x) (hk : ∀ k ∈ x.1.weights Tryz.prog 22, k ≤ 281474976710656) :
    ∃ (v : Value) (L : List Cl), cs = [v] ∧ Cls w v L ∧ (∀ o ∈ L, o.Ok ∧ o.path.size ≤ 281474976710656 ∧ o.to_.size ≤ 281474976710656 ∧ o.data.size ≤ 281474976710656) := by
  obtain ⟨v, L, h1, h2, h3, _⟩ := lies_flatW Cl.cells (fun o => o.Ok ∧ o.path.size ≤ 281474976710656 ∧ o.to_.size ≤ 281474976710656 ∧ o.data.size ≤ 281474976710656) 7 Tryz.underlying22 cells_open_cl (by decide) 281474976710656 hk (fun n c y hh hk => open_cl hh hk) h
  exact ⟨v, L, h1, h2, h3⟩
end
end Go.Proofs.YtkipkcmcolomcaaGreat.Pln
/- Calls in memory: a slice of them, and of numbers, as they came in; a call whose data are cut. -/
namespace Go.Proofs.YtkipkcmcolomcaaGreat.Pln
open Go.RowKit
set_option linter.unusedVariables false
def Cl.zero : Cl := ⟨0, none0, none0, none0, 0, 0, 0⟩
def cl (L : List Cl) (i : Nat) : Cl := L.getD i Cl.zero
theorem cl_get {L : List Cl} {i : Nat} (h : i < L.length) : L[i]? = some (cl L i) := by
  unfold cl
  rw [List.getD_eq_getElem?_getD, List.getElem?_eq_getElem h]
  rfl
theorem cl_mem {L : List Cl} {i : Nat} (h : i < L.length) : cl L i ∈ L := by
  have := cl_get h
  exact List.mem_of_getElem? this
theorem Cls.below {w w' : World} {v : Value} {L : List Cl} (h : Cls w v L) (hB : Below w.heap.size w w') : Cls w' v L := Lies.below h hB
theorem Cls.parts {w : World} {v : Value} {L : List Cl} (h : Cls w v L) : ∃ a cap, v = .slice a L.length cap ∧ L.length ≤ cap ∧ cap ≤ 9223372036854775807 := by
  obtain ⟨a, cap, e, _, h1, h2⟩ := Lies.parts h
  exact ⟨a, cap, e, h1, h2⟩
/-- what stands at a place -/
def ReadsC (w : World) (b o : Nat) (c : Cl) : Prop := w.cell? ⟨b, o, none⟩ = some (.int .i64 c.op) ∧ w.cell? ⟨b, o + 1, none⟩ = some (.string c.path) ∧ w.cell? ⟨b, o + 2, none⟩ = some (.string c.to_) ∧ w.cell? ⟨b, o + 3, none⟩ = some (.string c.data) ∧ w.cell? ⟨b, o + 4, none⟩ = some (.int .i64 c.off) ∧ w.cell? ⟨b, o + 5, none⟩ = some (.int .i64 c.n) ∧ w.cell? ⟨b, o + 6, none⟩ = some (.int .i64 c.mode)
theorem Cls.at {w : World} {v : Value} {L : List Cl} (h : Cls w v L) {k : Nat} (hk : k < L.length) :
    ∃ b off cap, v = .slice (some ⟨b, off, none⟩) L.length cap ∧ ReadsC w b (off + k * 7) (cl L k) := by
  obtain ⟨a, cap, rfl, _, _, _, h5⟩ := h
  obtain ⟨b, off, rfl, hc⟩ := h5 (by omega)
  have hf := fun j (hj : j < 7) => flat_at Cl.cells 7 L (fun o _ => rfl) k j (cl L k) (cl_get hk) hj
  refine ⟨b, off, cap, rfl, ?_, ?_, ?_, ?_, ?_, ?_, ?_⟩
  · exact hc (k * 7) _ (hf 0 (by omega))
  · have := hc _ _ (hf 1 (by omega)); rwa [← Nat.add_assoc] at this
  · have := hc _ _ (hf 2 (by omega)); rwa [← Nat.add_assoc] at this
  · have := hc _ _ (hf 3 (by omega)); rwa [← Nat.add_assoc] at this
  · have := hc _ _ (hf 4 (by omega)); rwa [← Nat.add_assoc] at this
  · have := hc _ _ (hf 5 (by omega)); rwa [← Nat.add_assoc] at this
  · have := hc _ _ (hf 6 (by omega)); rwa [← Nat.add_assoc] at this
theorem Cls.get {w : World} {b off n cap : Nat} {L : List Cl} (hn : L.length = n) (h : Cls w (.slice (some ⟨b, off, none⟩) n cap) L) {k : Nat} (hk : k < n) : ReadsC w b (off + k * 7) (cl L k) := by
  obtain ⟨b2, off2, cap2, e, h1⟩ := h.at (hn ▸ hk)
  cases e
  exact h1
/-- numbers -/
def Nums (w : World) (v : Value) (L : List Int) : Prop := Lies w v L.length 1 (L.map (.int .u64))
theorem Nums.below {w w' : World} {v : Value} {L : List Int} (h : Nums w v L) (hB : Below w.heap.size w w') : Nums w' v L := Lies.below h hB
theorem Nums.parts {w : World} {v : Value} {L : List Int} (h : Nums w v L) : ∃ a cap, v = .slice a L.length cap ∧ L.length ≤ cap ∧ cap ≤ 9223372036854775807 := by
  obtain ⟨a, cap, e, _, h1, h2⟩ := Lies.parts h
  exact ⟨a, cap, e, h1, h2⟩
theorem Nums.at {w : World} {v : Value} {L : List Int} (h : Nums w v L) {k : Nat} (hk : k < L.length) :
    ∃ b off cap, v = .slice (some ⟨b, off, none⟩) L.length cap ∧ w.cell? ⟨b, off + k, none⟩ = some (.int .u64 (L.getD k 0)) := by
  obtain ⟨a, cap, rfl, _, _, _, h5⟩ := h
  obtain ⟨b, off, rfl, hc⟩ := h5 (by omega)
  refine ⟨b, off, cap, rfl, hc k _ ?_⟩
  rw [List.getElem?_map, List.getD_eq_getElem?_getD, List.getElem?_eq_getElem hk]
  rfl
theorem Nums.get {w : World} {b off n cap : Nat} {L : List Int} (hn : L.length = n) (h : Nums w (.slice (some ⟨b, off, none⟩) n cap) L) {k : Nat} (hk : k < n) : w.cell? ⟨b, off + k, none⟩ = some (.int .u64 (L.getD k 0)) := by
  obtain ⟨b2, off2, cap2, e, h1⟩ := h.at (hn ▸ hk)
  cases e
  exact h1
/-- a call lies at block b -/
theorem ClAt.lt {W : World} {b : Nat} {c : Cl} (h : ClAt W b c) : b < W.heap.size := (Array.getElem?_eq_some_iff.1 h).1
theorem ClAt.put {W : World} {b : Nat} {c : Cl} (h : ClAt W b c) (s : ByteArray) : ClAt (W.setCell ⟨b, 3, none⟩ (.string s)) b { c with data := s } ∧ Below b W (W.setCell ⟨b, 3, none⟩ (.string s)) := by
  unfold ClAt at h
  exact ⟨heap_setCell_same W b 3 _ _ (.string s) h, (Below.refl b W).setCell (p := ⟨b, 3, none⟩) (Nat.le_refl _) _⟩
/-- a call, its data cut -/
def cutC2 (c : Cl) : Cl := { c with data := c.data.extract 0 (min c.data.size 2000) }
theorem cutC2_ok {c : Cl} (h : c.Ok ∧ c.path.size ≤ 281474976710656 ∧ c.to_.size ≤ 281474976710656 ∧ c.data.size ≤ 281474976710656) : (cutC2 c).OkS ∧ (cutC2 c).data.size ≤ 10000 := by
  refine ⟨⟨h.1, h.2.1, h.2.2.1⟩, ?_⟩
  unfold cutC2
  dsimp only
  rw [ByteArray.size_extract]
  omega
/-- what asks -/
def asksP (op : Int) : Prop := op = 4 ∨ op = 11 ∨ op = 12 ∨ op = 13
instance (op : Int) : Decidable (asksP op) := by unfold asksP; infer_instance
/-- what is right stays right; what asks, and what answers an error, changes nothing -/
theorem stays_law {l : List Nd} (h : RightL l) (c : Cl) (now : Nat) : RightL (doV l c now) ∧ l.length ≤ (doV l c now).length ∧ (¬ (doR l c now).code = 0 ∨ asksP c.op → doV l c now = l) := by
  obtain ⟨h1, h2⟩ := do_right h c now
  refine ⟨h1, h2, fun k => ?_⟩
  rcases k with k | k
  · exact do_err k
  · exact do_asksV k now
/-! ### replies stored -/
theorem hi_reply : (Tryz.prog.info? 36).map (·.size) = some 8 := by kernel_rfl
/-- a reply is stored in a reply's box: that box alone is changed -/
theorem step_reply {ops : Array Oper} {o : Oper} {a : Act} {w : World} {K : Act → World → Prop} {Q : Exit → Act → World → Prop} {E : Prop} (hgd : o.guard = none) (hd : o.dst = none) (x y : Operand) (ho : o.op = .store 36 x y)
    (g : Nat) (r0 : Rp) (u0 : Value) (hg : RpAt w g r0 u0) (r : Rp) (p : Option Addr) (n c : Nat) (hx : a.eval x = .pointer (some ⟨g, 0, none⟩)) (hy : a.eval y = r.val (.slice p n c))
    (h : ∀ W', RpAt W' g r (.slice p n c) → (∀ k, k ≠ g → W'.heap[k]? = w.heap[k]?) → Below g w W' → K a W') :
    if Region.wanted o (yielded ops a.tmps) = true then Oper.wp Tryz.prog o a w K Q else E := by
  have hw : Region.wanted o (yielded ops a.tmps) = true := by simp [Region.wanted, hgd]
  rw [if_pos hw]
  refine wp_store_row 36 x y ho g (hx := hx) (hy := hy) (t := 36) (cells := #[.int .i64 r.code, .string r.data, .slice p n c, .int .i64 r.stat.kind, .int .u16 r.stat.mode, .int .u16 r.stat.links, .int .i64 r.stat.size, .int .u64 r.stat.time]) (old := #[.int .i64 r0.code, .string r0.data, u0, .int .i64 r0.stat.kind, .int .u16 r0.stat.mode, .int .u16 r0.stat.links, .int .i64 r0.stat.size, .int .u64 r0.stat.time]) hg hi_reply rfl (by simp [Value.oneCell']) ?_
  rw [hd]
  refine h _ ?_ ?_ ?_
  · exact setRow_heap w g _ _ _ _ hg
  · exact fun k hk => setRow_other w g k _ hk
  · exact ⟨rfl, rfl, rfl, by simp [World.setRow], fun k hk => setRow_other w g k _ (by omega)⟩
end Go.Proofs.YtkipkcmcolomcaaGreat.Pln
/- What PlainDeep asks: directories made within each other, found, taken away again from the last one on; then the root is empty. -/
namespace Go.Proofs.YtkipkcmcolomcaaGreat.Pln
open Go.RowKit
open Dir (N nm nm_mem mem_nm Fine SortP)
open Pth (slash)
set_option linter.unusedVariables false
set_option linter.unusedSimpArgs false
/-- right, and alike but for times and places of none -/
def SimL (a b : List Nd) : Prop := ∃ D E, RightD a D ∧ RightD b E ∧ Sim a D b E
theorem SimL.right {a b : List Nd} (h : SimL a b) : RightL b := by
  obtain ⟨_, E, _, h2, _⟩ := h
  exact ⟨E, h2⟩
theorem SimL.refl {a : List Nd} (h : RightL a) : SimL a a := by
  obtain ⟨D, hD⟩ := h
  exact ⟨D, D, hD, hD, Sim.refl⟩
theorem found_law {l : List Nd} {path : ByteArray} {mode : Int} {now : Nat} (hc : (doR l (mkC path mode) now).code = 0) :
    ∃ s : St, s.kind = 2 ∧ s.size = 0 ∧ doR (doV l (mkC path mode) now) (stC path) now = ⟨0, ⟨#[]⟩, [], s⟩ := by
  obtain ⟨D, hD⟩ := do_ok hc
  obtain ⟨s1, s2, s3⟩ := do_step hD (mkC path mode) now
  rw [s3] at hc
  obtain ⟨q, h1, h2, h3, h4⟩ := mkdir_found (J := jof D) (S := srt) (c := mkC path mode) (now := now) hD rfl hc
  rw [s2] at s1 ⊢
  refine ⟨statOf (nd (outD l D (mkC path mode) now).l q.ino), h2, ?_, st_is s1 h4 h1⟩
  show (nd (outD l D (mkC path mode) now).l q.ino).data.size = 0
  unfold outD
  rw [h3]
  rfl
theorem deep_law {a m : List Nd} {path : ByteArray} {mode : Int} {now : Nat} (hc : (doR a (mkC path mode) now).code = 0) (hs : SimL (doV a (mkC path mode) now) m) :
    (doR m (rmC path) now).code = 0 ∧ SimL a (doV m (rmC path) now) := by
  obtain ⟨D, hD⟩ := do_ok hc
  obtain ⟨s1, s2, s3⟩ := do_step hD (mkC path mode) now
  rw [s3] at hc
  obtain ⟨D', E, h1, h2, h3⟩ := hs
  obtain rfl := right_unique h1 s1
  rw [s2] at s1 h3
  obtain ⟨t1, t2, t3⟩ := deep_back (J := jof D) (S := srt) (c := mkC path mode) (now := now) hD rfl hc s1 h3 h2 (c2 := rmC path) rfl rfl (J2 := jof E)
  obtain ⟨r1, r2, r3⟩ := do_step h2 (rmC path) now
  rw [r3, r2]
  exact ⟨t1, D, _, hD, t3, t2⟩
theorem end_law {m : List Nd} (hs : SimL newL m) : doR m (lsC ⟨#[47]⟩) 0 = ⟨0, ⟨#[]⟩, [], St.zero⟩ := by
  obtain ⟨D, E, h1, h2, h3⟩ := hs
  obtain rfl := right_unique h1 new_right
  rw [doR_right h2]
  unfold outD
  rw [list_root (c := lsC ⟨#[47]⟩) h2 rfl (by decide) rfl]
  have e : ds E 2 = [] := (h3.names 2).trans (new_ds 2)
  have : srt (ds E 2) = [] := by
    rw [e]
    have := (srt_perm []).length_eq
    exact List.eq_nil_of_length_eq_zero this
  rw [this]
/-- the way to what was made at the k-th name, and what stands then -/
def deepP (L : List ByteArray) : Nat → ByteArray
  | 0 => ⟨#[]⟩
  | k + 1 => deepP L k ++ slash ++ L.getD k ⟨#[]⟩
noncomputable def deepL (L : List ByteArray) (now : Nat) : Nat → List Nd
  | 0 => newL
  | k + 1 => doV (deepL L now k) (mkC (deepP L (k + 1)) 0) now
/-- the first k are made -/
def deepOk (L : List ByteArray) (now k : Nat) : Prop := ∀ j, j < k → (doR (deepL L now j) (mkC (deepP L (j + 1)) 0) now).code = 0
theorem deepL_right (L : List ByteArray) (now : Nat) : ∀ k, RightL (deepL L now k)
  | 0 => ⟨newD, new_right⟩
  | k + 1 => (do_right (deepL_right L now k) _ _).1
theorem deepP_size (L : List ByteArray) (h : ∀ s ∈ L, s.size ≤ 140737488351232) : ∀ k, (deepP L k).size ≤ k * 140737488351233
  | 0 => Nat.zero_le _
  | k + 1 => by
    have ih := deepP_size L h k
    unfold deepP
    rw [ByteArray.size_append, ByteArray.size_append]
    have h1 : slash.size = 1 := rfl
    have h2 : (L.getD k ⟨#[]⟩).size ≤ 140737488351232 := by
      rw [List.getD_eq_getElem?_getD]
      rcases Nat.lt_or_ge k L.length with hk | hk
      · rw [List.getElem?_eq_getElem hk]
        exact h _ (List.getElem_mem _)
      · rw [List.getElem?_eq_none hk]
        exact Nat.zero_le _
    rw [Nat.succ_mul]
    omega
/-- the way, cut by its last name -/
theorem deepP_cut (L : List ByteArray) (k : Nat) : (deepP L (k + 1)).extract 0 ((deepP L (k + 1)).size - 1 - (L.getD k ⟨#[]⟩).size) = deepP L k := by
  have h1 : slash.size = 1 := rfl
  have : (deepP L (k + 1)).size - 1 - (L.getD k ⟨#[]⟩).size = (deepP L k).size := by
    conv => lhs; unfold deepP
    rw [ByteArray.size_append, ByteArray.size_append]
    omega
  rw [this, show deepP L (k + 1) = deepP L k ++ (slash ++ L.getD k ⟨#[]⟩) from ByteArray.append_assoc]
  exact ByteArray.extract_append_eq_left rfl
end Go.Proofs.YtkipkcmcolomcaaGreat.Pln
