/- The bag's law: a call of a script, on the bag and on the reference's list. -/
import Derived.Test.YtkhbfjncamobdaaBagAsk
import Derived.Test.YtkhbfjncamobdaaFlat
namespace Go.Proofs.Ytkhbfjncamobdaa.S
open Go.RowKit Go.Shelf
set_option linter.unusedVariables false

theorem own_as {w w' : World} {base size n : Nat} {e : TypeId} {v : Value} {xs : List Value} (h : w.ownsRow base e size v n xs) (hk : ∀ g, base ≤ g → g < w.heap.size → w'.heap[g]? = w.heap[g]?) : w'.ownsRow base e size v n xs := by
  refine ⟨h.1, ?_⟩
  rcases h.2 with hn | ⟨g, cap, cur, hv, hb, hg, rest⟩
  · exact .inl hn
  · exact .inr ⟨g, cap, cur, hv, hb, (hk g hb (Array.getElem?_eq_some_iff.1 hg).1).trans hg, rest⟩
theorem BagIs.tight {w : World} {a : Nat} {F : Nat → Prop} {xs : List It} (h : BagIs w a F xs) : BagIs w a (fun k => F k ∧ k < w.heap.size) xs := by
  refine ⟨h.rise, ⟨h.own, h.lt⟩, ?_⟩
  rcases h.tree with hh | ⟨t, d, hb, hm, r1, r2, r3, r4, hF⟩
  · exact .inl hh
  · exact .inr ⟨t, d, hb, hm, r1, r2, r3, r4, fun r hr k hk => ⟨hF r hr k hk, (hm.ok r hr).blk k hk⟩⟩
theorem row_setCell {w : World} {g i : Nat} {t : TypeId} {cur : List Value} (h : Row w g t cur) (u : Value) : Row (w.setCell ⟨g, i, none⟩ u) g t (cur.set i u) := by
  unfold Row at h ⊢
  rw [heap_setCell_same _ _ _ _ _ _ h]; simp
/-- the list lies outside F, whatever happens in F and in new memory -/
def Apart (F : Nat → Prop) (W : World) (v : Value) (xs : List It) : Prop := ∀ W' : World, (∀ k, k < W.heap.size → ¬ F k → W'.heap[k]? = W.heap[k]?) → Lies W' v xs.length 2 (cellsI xs)
/-- a bag and a list of the same -/
structure Both (W : World) (B0 p : Nat) (v : Value) (xs : List It) : Prop where
  mem : ∃ F, BagIs W p F xs ∧ (∀ k, F k → B0 ≤ k ∧ k < W.heap.size) ∧ Apart F W v xs
theorem Both.below {W W' : World} {B0 p : Nat} {v : Value} {xs : List It} (h : Both W B0 p v xs) (hB : Below W.heap.size W W') : Both W' B0 p v xs := by
  obtain ⟨F, h1, h2, h3⟩ := h.mem
  refine ⟨F, h1.below hB, fun k hk => ⟨(h2 k hk).1, Nat.lt_of_lt_of_le (h2 k hk).2 hB.size⟩, fun W2 hW => h3 W2 fun k hk hn => (hW k (Nat.lt_of_lt_of_le hk hB.size) hn).trans (hB.block k hk)⟩
theorem Both.next {W W1 W2 : World} {B0 p : Nat} {F : Nat → Prop} {u : Value} {ys : List It} (h2 : ∀ k, F k → B0 ≤ k ∧ k < W.heap.size) (hB0 : B0 ≤ W.heap.size) (hB : Below W.heap.size W W1)
    (ho : W1.ownsRow W.heap.size 67 2 u ys.length (cellsI ys)) (hb : BagIs W2 p (fun k => F k ∨ W1.heap.size ≤ k) ys) (hO : Only F W1 W2) : Both W2 B0 p u ys ∧ Below B0 W W2 := by
  have hs := hB.size
  have hs2 := hO.size
  refine ⟨⟨fun k => (F k ∨ W1.heap.size ≤ k) ∧ k < W2.heap.size, hb.tight, fun k hk => ⟨hk.1.elim (fun h => (h2 k h).1) (fun h => by omega), hk.2⟩, fun W' hW => ?_⟩, ?_⟩
  · refine Lies.own (own_as ho fun g hg hg2 => ?_)
    have hnF : ¬ F g := fun hh => by have := (h2 g hh).2; omega
    exact (hW g (by omega) (fun hh => hh.1.elim hnF (fun h => by omega))).trans (hO.block g hg2 hnF)
  · exact (hB.mono hB0).trans (hO.below (by omega) (fun k hk => (h2 k hk).1))
theorem put_len (a : Int) (v : ByteArray) (xs : List It) : (T.put a v xs).length ≤ xs.length + 1 := by
  induction xs with
  | nil => simp [T.put]
  | cons x xs ih =>
    rw [T.put]
    split
    · simp; omega
    · split <;> simp
theorem del_len (a : Int) (xs : List It) : (T.del a xs).length ≤ xs.length := List.length_filter_le _ _
structure OpOk (o : Op) : Prop where
  k : -9223372036854775808 ≤ o.k ∧ o.k ≤ 9223372036854775807
def AsksSaid : Prop := ∀ (o : Op) (xs : List It) (p : Nat) (F : Nat → Prop) (v : Value) (w : World), BagIs w p F xs → Lies w v xs.length 2 (cellsI xs) → xs.length ≤ 1000 →
    Calls Try.prog 16 #[.pointer (some ⟨p, 0, none⟩), v, opArg o] w fun e w' => e = .returned (.bool true) ∧ Below w.heap.size w w'
def DoesPost (B0 p : Nat) (xs : List It) (w : World) (e : Ending) (w' : World) : Prop := ∃ v2 ys, e = .returned (.tuple #[v2, .bool true]) ∧ Both w' B0 p v2 ys ∧ ys.length ≤ xs.length + 1 ∧ Below B0 w w'
section
set_option maxRecDepth 100000
set_option maxHeartbeats 4000000
theorem does_any (hAsk : AsksSaid) (B0 p : Nat) (v : Value) (xs : List It) (o : Op) (w : World) (hP : Both w B0 p v xs) (hB0 : B0 ≤ w.heap.size) (ho : OpOk o) (hle : xs.length ≤ 900) :
    Calls Try.prog 6 #[.pointer (some ⟨p, 0, none⟩), v, opArg o] w (DoesPost B0 p xs w) := by
  have hpk := fun W => pick_fn o.k 7 (by omega) (by omega) ho.k W
  obtain ⟨m, hm⟩ : ∃ m, pickN o.k 7 = m := ⟨_, rfl⟩
  have hm7 : m < 7 := by rw [← hm]; exact pickN_lt _ _ (by omega)
  rw [hm] at hpk
  obtain ⟨Wb, hWb⟩ : ∃ Wb, w.alloc (opObj o) = Wb := ⟨_, rfl⟩
  have hBb : Below w.heap.size w Wb := by rw [← hWb]; exact (Below.refl _ w).alloc (Nat.le_refl _) _
  have hob : Wb.heap[w.heap.size]? = some (opObj o) := by rw [← hWb]; exact heap_alloc_new w _
  obtain ⟨c0, c1, c2, c3⟩ := op_cells hob
  have fz : Wb.frozen? ⟨w.heap.size, 0, none⟩ = false := by simp only [World.frozen?, hob]; rfl
  obtain ⟨W0, hW0⟩ : ∃ W0, Wb.setCell ⟨w.heap.size, 0, none⟩ (.int .i64 (m : Int)) = W0 := ⟨_, rfl⟩
  have hob0 : W0.heap[w.heap.size]? = some (opObj ⟨m, o.a, o.t, o.v⟩) := by
    rw [← hW0]
    exact row_setCell (g := w.heap.size) (i := 0) (cur := [.int .i64 o.k, .int .i64 o.a, .int .i64 o.t, .string o.v]) hob (.int .i64 (m : Int))
  have hBa : Below w.heap.size w W0 := by rw [← hW0]; exact hBb.setCell (p := ⟨w.heap.size, 0, none⟩) (Nat.le_refl _) _
  have hs0 : w.heap.size < W0.heap.size := (Array.getElem?_eq_some_iff.1 hob0).1
  obtain ⟨d0, d1, d2, d3⟩ := op_cells hob0
  have hob2 : ∀ W, Below W0.heap.size W0 W → W.cell? ⟨w.heap.size, 1, none⟩ = some (.int .i64 o.a) ∧ W.cell? ⟨w.heap.size, 3, none⟩ = some (.string o.v) := fun W hB => by
    obtain ⟨_, e1, _, e3⟩ := op_cells ((hB.block _ hs0).trans hob0)
    exact ⟨e1, e3⟩
  have HOB := Lib.hid hob2
  obtain ⟨F, hb, hF, hA⟩ := (hP.below hBa).mem
  have hl : Lies W0 v xs.length 2 (cellsI xs) := hA W0 fun _ _ _ => rfl
  have hB00 : B0 ≤ W0.heap.size := by omega
  have HPK := Lib.hid hpk
  have hP0 := hP.below hBa
  obtain ⟨r, hr⟩ : ∃ r, (T.get o.a xs).isSome = r := ⟨_, rfl⟩
  have hp1 : Calls Try.prog 14 #[v, .int .i64 o.a, .string o.v] W0 (Listed (T.put o.a o.v xs) r W0) := by rw [← hr]; exact put_ref o.a o.v xs v W0 hl (by omega) hb.rise
  have hp2 : ∀ W, Below W0.heap.size W0 W → Calls Try.prog 10 #[.pointer (some ⟨p, 0, none⟩), .int .i64 o.a, .string o.v] W fun e w' => e = .returned (.bool r) ∧ BagIs w' p (fun k => F k ∨ W.heap.size ≤ k) (T.put o.a o.v xs) ∧ Only F W w' := fun W hB => by rw [← hr]; exact put_any o.a o.v xs p F W (hb.below hB) (by omega)
  have hq1 : Calls Try.prog 15 #[v, .int .i64 o.a] W0 (Listed (T.del o.a xs) r W0) := by rw [← hr]; exact drop_ref o.a xs v W0 hl (by omega)
  have hq2 : ∀ W, Below W0.heap.size W0 W → Calls Try.prog 12 #[.pointer (some ⟨p, 0, none⟩), .int .i64 o.a] W fun e w' => e = .returned (.bool r) ∧ BagIs w' p (fun k => F k ∨ W.heap.size ≤ k) (T.del o.a xs) ∧ Only F W w' := fun W hB => by rw [← hr]; exact drop_any o.a xs p F W (fun _ => mend_said) (hb.below hB) (by omega)
  have hask : Calls Try.prog 16 #[.pointer (some ⟨p, 0, none⟩), v, .agg #[.int .i64 (m : Int), .int .i64 o.a, .int .i64 o.t, .string o.v]] W0 fun e w' => e = .returned (.bool true) ∧ Below W0.heap.size W0 w' := hAsk ⟨m, o.a, o.t, o.v⟩ xs p F v W0 hb hl (by omega)
  have HP1 := Lib.hid hp1
  have HP2 := Lib.hid hp2
  have HQ1 := Lib.hid hq1
  have HQ2 := Lib.hid hq2
  have HF := Lib.hid hF
  have HP0 := Lib.hid hP0
  have hput := put_len o.a o.v xs
  have hdel := del_len o.a xs
  have HPut := Lib.hid hput
  have HDel := Lib.hid hdel
  obtain ⟨va, vc, rfl, HLv, _, _⟩ := hl.parts
  clear hpk hob hob0 hob2 hA hP0 hP hb hl hp1 hp2 hq1 hq2 hF hput hdel HLv hAsk ho hr hBb
  unfold opArg
  rw [show w.alloc (opObj o) = w.alloc (.cells #[.int .i64 o.k, .int .i64 o.a, .int .i64 o.t, .string o.v] 30) from rfl] at hWb
  have hcase : (m = 0 ∨ m = 1) ∨ (m = 3 ∨ m = 4) ∨ (m = 2 ∨ m = 5 ∨ m = 6) := by omega
  rcases hcase with hm2 | hm2 | hm2
  · rcases hm2 with hm2 | hm2
    all_goals
      obtain ⟨t0, e0⟩ : ∃ t0, ((m : Int) == 0) = t0 := ⟨_, rfl⟩
      obtain ⟨t1, e1⟩ : ∃ t1, ((m : Int) == 1) = t1 := ⟨_, rfl⟩
      obtain ⟨t3, e3⟩ : ∃ t3, ((m : Int) == 3) = t3 := ⟨_, rfl⟩
      obtain ⟨t4, e4⟩ : ∃ t4, ((m : Int) == 4) = t4 := ⟨_, rfl⟩
      have q0 := e0
      have q1 := e1
      have q3 := e3
      have q4 := e4
      rw [hm2] at q0 q1 q3 q4
      simp at q0 q1 q3 q4
      subst q0; subst q1; subst q3; subst q4
      clear hm2 hm7
      go_enter Try.func6, Try.ntmps6
      go_wp2_with (first
        | (go_at_call 13; refine (HPK.out _).mono ?_; rintro e w1 ⟨rfl, rfl⟩)
        | (go_at_call 14; refine HP1.out.mono ?_; rintro e w2 ⟨u, rfl, ho2, hB2⟩; obtain ⟨x1, x3⟩ := HOB.out _ hB2)
        | (go_at_call 10; refine (HP2.out _ hB2).mono ?_; rintro e w3 ⟨rfl, hb3, hO3⟩))
      go_ret2
      obtain ⟨k1, k2⟩ := Both.next HF.out hB00 hB2 ho2 hb3 hO3
      exact ⟨_, _, rfl, k1, HPut.out, (hBa.mono hB0).trans k2⟩
  · rcases hm2 with hm2 | hm2
    all_goals
      obtain ⟨t0, e0⟩ : ∃ t0, ((m : Int) == 0) = t0 := ⟨_, rfl⟩
      obtain ⟨t1, e1⟩ : ∃ t1, ((m : Int) == 1) = t1 := ⟨_, rfl⟩
      obtain ⟨t3, e3⟩ : ∃ t3, ((m : Int) == 3) = t3 := ⟨_, rfl⟩
      obtain ⟨t4, e4⟩ : ∃ t4, ((m : Int) == 4) = t4 := ⟨_, rfl⟩
      have q0 := e0
      have q1 := e1
      have q3 := e3
      have q4 := e4
      rw [hm2] at q0 q1 q3 q4
      simp at q0 q1 q3 q4
      subst q0; subst q1; subst q3; subst q4
      clear hm2 hm7
      go_enter Try.func6, Try.ntmps6
      go_wp2_with (first
        | (go_at_call 13; refine (HPK.out _).mono ?_; rintro e w1 ⟨rfl, rfl⟩)
        | (go_at_call 15; refine HQ1.out.mono ?_; rintro e w2 ⟨u, rfl, ho2, hB2⟩; obtain ⟨x1, x3⟩ := HOB.out _ hB2)
        | (go_at_call 12; refine (HQ2.out _ hB2).mono ?_; rintro e w3 ⟨rfl, hb3, hO3⟩))
      go_ret2
      obtain ⟨k1, k2⟩ := Both.next HF.out hB00 hB2 ho2 hb3 hO3
      exact ⟨_, _, rfl, k1, Nat.le_trans HDel.out (Nat.le_succ _), (hBa.mono hB0).trans k2⟩
  · rcases hm2 with hm2 | hm2 | hm2
    all_goals
      obtain ⟨t0, e0⟩ : ∃ t0, ((m : Int) == 0) = t0 := ⟨_, rfl⟩
      obtain ⟨t1, e1⟩ : ∃ t1, ((m : Int) == 1) = t1 := ⟨_, rfl⟩
      obtain ⟨t3, e3⟩ : ∃ t3, ((m : Int) == 3) = t3 := ⟨_, rfl⟩
      obtain ⟨t4, e4⟩ : ∃ t4, ((m : Int) == 4) = t4 := ⟨_, rfl⟩
      have q0 := e0
      have q1 := e1
      have q3 := e3
      have q4 := e4
      rw [hm2] at q0 q1 q3 q4
      simp at q0 q1 q3 q4
      subst q0; subst q1; subst q3; subst q4
      clear hm2 hm7
      go_enter Try.func6, Try.ntmps6
      go_wp2_with (first
        | (go_at_call 13; refine (HPK.out _).mono ?_; rintro e w1 ⟨rfl, rfl⟩)
        | (go_at_call 16; refine hask.mono ?_; rintro e w2 ⟨rfl, hB2⟩))
      go_ret2
      exact ⟨_, _, rfl, HP0.out.below hB2, Nat.le_succ _, (hBa.mono hB0).trans (hB2.mono hB00)⟩
end
end Go.Proofs.Ytkhbfjncamobdaa.S
