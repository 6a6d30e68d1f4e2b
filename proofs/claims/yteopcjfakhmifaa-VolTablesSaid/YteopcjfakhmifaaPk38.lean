/- Several texts in one, each under its own heading. -/
import Derived.SizedLaws
import Derived.Test.YteopcjfakhmifaaPk01
import Derived.Lib.SmallJoins
import Derived.OpenShut
import Derived.Test.YteopcjfakhmifaaPk25
/- Slices that came in, with what they weigh. -/
namespace Go.Proofs.Yteopcjfakhmifaa
open Go.RowKit Go.ChangeShapes Go.WideShapes Go.Deep
set_option linter.unusedVariables false
theorem weights_all_mem {H : Type} {P : Program} {e : TypeId} {d : DataW H} : ∀ {ds : List (DataW H)}, d ∈ ds → ∀ k ∈ d.weights P e, k ∈ DataW.weightsAll P e ds
  | [], h, _, _ => by cases h
  | d0 :: ds, h, k, hk => by
    simp only [DataW.weightsAll, List.mem_append]
    rcases List.mem_cons.1 h with rfl | h
    · exact .inl hk
    · exact .inr (weights_all_mem h k hk)
section
variable {H : Type} {enc : TypeId × Value → H} {w : World} {base fuel : Nat} {cs : List Value} {x : DataW H × List MemPlace} {t e : TypeId} {P : Program}
/-- a slice of structs, each told by o; what they weigh is bounded -/
theorem lies_flatW {α : Type} (f : α → List Value) (Q : α → Prop) (sz : Nat) (ht : P.underlying t = some (.slice e)) (hc : P.cellsOf e = sz) (hs : 0 < sz)
    (B : Nat) (hw : ∀ k ∈ x.1.weights P t, k ≤ B)
    (hg : ∀ n c y, DataW.trod enc P w base (fun _ => true) true n e c = some y → (∀ k ∈ y.1.weights P e, k ≤ B) → ∃ o, c = f o ∧ Q o)
    (h : DataW.trod enc P w base (fun _ => true) true fuel t cs = some x) :
    ∃ (v : Value) (L : List α), cs = [v] ∧ Lies w v L.length sz (L.flatMap f) ∧ (∀ o ∈ L, Q o) ∧ ∀ o ∈ L, (f o).length = sz := by
  rcases open_slice ht h with ⟨rfl, rfl⟩ | ⟨a, len, cap, m, n, D, Pl, rfl, _, hl, hm, hmm, hx, hall⟩
  · exact ⟨_, [], rfl, Lies.nil _ _, by simp, by simp⟩
  · simp only [if_true] at hmm
    subst hmm
    subst hx
    have hwi : ∀ i, i < m → ∀ k ∈ (D i).weights P e, k ≤ B := fun i hi k hk => by
      refine hw k ?_
      simp only [DataW.weights, ht]
      refine List.mem_cons_of_mem _ (List.mem_append.2 ?_)
      by_cases hil : i < len
      · exact .inl (weights_all_mem (List.mem_map.2 ⟨i, List.mem_range.2 hil, rfl⟩) k hk)
      · exact .inr (weights_all_mem (List.mem_map.2 ⟨i - len, List.mem_range.2 (by omega), by rw [show len + (i - len) = i by omega]⟩) k hk)
    have hv : ∀ i, i < m → ∃ o, Q o ∧ (f o).length = sz ∧ ∀ j u, (f o)[j]? = some u → w.cell? ((a.add (i * sz)).add j) = some u := fun i hi => by
      obtain ⟨c, hcs, htr⟩ := hall i hi
      rw [hc] at hcs
      obtain ⟨o, rfl, hq⟩ := hg _ _ _ htr (hwi i hi)
      obtain ⟨h1, h2⟩ := cells_list hcs
      exact ⟨o, hq, h1, h2⟩
    obtain ⟨g, hgq⟩ : ∃ g : Nat → Option α, ∀ i, i < m → ∃ o, g i = some o ∧ Q o ∧ (f o).length = sz ∧ ∀ j u, (f o)[j]? = some u → w.cell? ((a.add (i * sz)).add j) = some u := by
      refine ⟨fun i => if hi : i < m then some (Classical.choose (hv i hi)) else none, fun i hi => ?_⟩
      exact ⟨Classical.choose (hv i hi), by simp [hi], Classical.choose_spec (hv i hi)⟩
    have hL : ∀ k, k ≤ m → ∃ L : List α, L.length = k ∧ ∀ i o, L[i]? = some o → g i = some o := by
      intro k
      induction k with
      | zero => intro _; exact ⟨[], rfl, by simp⟩
      | succ k ih =>
        intro hk
        obtain ⟨L, h1, h2⟩ := ih (by omega)
        obtain ⟨o, ho, _⟩ := hgq k (by omega)
        refine ⟨L ++ [o], by simp [h1], fun i p hp => ?_⟩
        rcases Nat.lt_or_ge i L.length with hi | hi
        · rw [List.getElem?_append_left hi] at hp; exact h2 i p hp
        · rw [List.getElem?_append_right hi] at hp
          have : i = L.length := by have := (List.getElem?_eq_some_iff.1 hp).1; simp at this; omega
          subst this
          simp at hp
          subst hp
          rw [h1]; exact ho
    obtain ⟨L, hLl, hLg⟩ := hL len hl
    have hQ : ∀ i o, L[i]? = some o → Q o ∧ (f o).length = sz ∧ ∀ j u, (f o)[j]? = some u → w.cell? ((a.add (i * sz)).add j) = some u := fun i o ho => by
      have hi := (List.getElem?_eq_some_iff.1 ho).1
      obtain ⟨o', h1, h2⟩ := hgq i (by omega)
      rw [hLg i o ho] at h1
      cases h1
      exact h2
    have hflen : ∀ o ∈ L, (f o).length = sz := fun o ho => by
      obtain ⟨i, hi⟩ := List.getElem?_of_mem ho
      exact (hQ i o hi).2.1
    refine ⟨_, L, rfl, ⟨some a, m, by rw [hLl], by omega, ⟨hm, fun e => by cases e⟩, flat_length f sz L hflen, fun hp => ?_⟩, fun o ho => ?_, hflen⟩
    · obtain ⟨b, off, spot⟩ := a
      obtain ⟨o0, ho0⟩ : ∃ o, L[0]? = some o := ⟨_, List.getElem?_eq_getElem hp⟩
      obtain ⟨_, hl0, hc0⟩ := hQ 0 o0 ho0
      obtain ⟨u0, hu0⟩ : ∃ u, (f o0)[0]? = some u := ⟨_, List.getElem?_eq_getElem (by omega)⟩
      obtain rfl : spot = none := by
        have := World.cell?_spot (hc0 0 u0 hu0)
        cases spot with
        | none => rfl
        | some s => simp [Addr.add] at this
      refine ⟨b, off, rfl, fun j u hj => ?_⟩
      have hjl := (List.getElem?_eq_some_iff.1 hj).1
      rw [flat_length f sz L hflen] at hjl
      have hk : j / sz < L.length := (Nat.div_lt_iff_lt_mul hs).2 hjl
      obtain ⟨o, ho⟩ : ∃ o, L[j / sz]? = some o := ⟨_, List.getElem?_eq_getElem hk⟩
      have hr := Nat.mod_lt j hs
      have hsplit : j / sz * sz + j % sz = j := by rw [Nat.mul_comm]; exact Nat.div_add_mod j sz
      have hfl := flat_at f sz L hflen (j / sz) (j % sz) o ho hr
      rw [hsplit, hj] at hfl
      have := (hQ _ o ho).2.2 (j % sz) u hfl.symm
      rw [add_plain, add_plain, Nat.add_assoc, hsplit] at this
      exact this
    · obtain ⟨i, hi⟩ := List.getElem?_of_mem ho
      exact (hQ i o hi).1
/-- of an argument: all that it weighs is in reach -/
theorem arg_weights {ts : List TypeId} {ds : List (DataW H)} (h : (DataW.weightsEach P ts ds).all (· ≤ reachBytes) = true) {j : Nat} {t : TypeId} {d : DataW H} (ht : ts[j]? = some t) (hd : ds[j]? = some d) : ∀ k ∈ d.weights P t, k ≤ 281474976710656 := fun k hk => by
  have := List.all_eq_true.1 h _ (DataW.weights_mem_each ht hd k hk)
  have h2 : k ≤ reachBytes := by simpa using this
  exact Nat.le_trans h2 (by decide)
theorem flat_one : ∀ L : List ByteArray, (L.flatMap fun s : ByteArray => [Value.string s]) = L.map .string
  | [] => rfl
  | a :: L => by rw [List.flatMap_cons, flat_one L]; rfl
/-- texts -/
theorem lies_stringsW (ht : P.underlying t = some (.slice e)) (he : P.underlying e = some .string) (hc : P.cellsOf e = 1) (B : Nat) (hw : ∀ k ∈ x.1.weights P t, k ≤ B)
    (h : DataW.trod enc P w base (fun _ => true) true fuel t cs = some x) :
    ∃ (v : Value) (L : List ByteArray), cs = [v] ∧ Lies w v L.length 1 (L.map .string) ∧ ∀ s ∈ L, s.size ≤ B := by
  obtain ⟨v, L, h1, h2, h3, _⟩ := lies_flatW (fun s : ByteArray => [Value.string s]) (fun s => s.size ≤ B) 1 ht hc (by decide) B hw (fun n c y hy hk => by
    obtain ⟨s, rfl, rfl, _⟩ := DataW.trod_string he hy
    refine ⟨s, rfl, hk _ ?_⟩
    simp [DataW.weights]) h
  refine ⟨v, L, h1, ?_, h3⟩
  rw [← flat_one]
  exact h2
end
end Go.Proofs.Yteopcjfakhmifaa
/- What the laws on inodes ask first; an inode that comes in. -/
namespace Go.Proofs.Yteopcjfakhmifaa.Ino
open Go.RowKit Go.Shelf Go.ChangeShapes Go.WideShapes Go.Deep
attribute [local go_sem] Oper.semAt_some
set_option linter.unusedVariables false
set_option linter.unusedSimpArgs false
def n4 : I := ⟨4, 0, 0, 0, 0, 0, M.zero⟩
def n1 : I := ⟨1, 0, 0, 0, 0, 0, M.zero⟩
theorem n4_ok : IOk n4 := ⟨by decide, by decide, by decide, by decide, by decide, by decide, by unfold MOk; decide⟩
theorem n1_ok : IOk n1 := ⟨by decide, by decide, by decide, by decide, by decide, by decide, by unfold MOk; decide⟩
theorem n4_no : ¬ RightP n4 := by decide
theorem n1_yes : RightP n1 := by decide
section
set_option maxRecDepth 100000
set_option maxHeartbeats 4000000
end

theorem bounds64 {n : Int} (h : (Lit.int .i64 n).wf = true) : -9223372036854775808 ≤ n ∧ n ≤ 9223372036854775807 := by
  have h1 : IntKind.i64.min = -9223372036854775808 := rfl
  have h2 : IntKind.i64.max = 9223372036854775807 := rfl
  simp only [Lit.wf, Bool.and_eq_true, decide_eq_true_eq] at h
  omega
theorem boundsU {n : Int} (h : (Lit.int .u64 n).wf = true) : 0 ≤ n ∧ n ≤ 18446744073709551615 := by
  have h1 : IntKind.u64.min = 0 := rfl
  have h2 : IntKind.u64.max = 18446744073709551615 := rfl
  simp only [Lit.wf, Bool.and_eq_true, decide_eq_true_eq] at h
  omega
theorem bounds32 {n : Int} (h : (Lit.int .u32 n).wf = true) : 0 ≤ n ∧ n ≤ 4294967295 := by
  have h1 : IntKind.u32.min = 0 := rfl
  have h2 : IntKind.u32.max = 4294967295 := rfl
  simp only [Lit.wf, Bool.and_eq_true, decide_eq_true_eq] at h
  omega
theorem bounds16 {n : Int} (h : (Lit.int .u16 n).wf = true) : 0 ≤ n ∧ n ≤ 65535 := by
  have h1 : IntKind.u16.min = 0 := rfl
  have h2 : IntKind.u16.max = 65535 := rfl
  simp only [Lit.wf, Bool.and_eq_true, decide_eq_true_eq] at h
  omega
theorem cells_inode : Try.prog.cellsOf 41 = 12 := by kernel_rfl
theorem cells_map : Try.prog.cellsOf 39 = 6 := by kernel_rfl
theorem cells_int : Try.prog.cellsOf 3 = 1 := by kernel_rfl
theorem cells_u16 : Try.prog.cellsOf 35 = 1 := by kernel_rfl
theorem cells_u64 : Try.prog.cellsOf 36 = 1 := by kernel_rfl
theorem list6 {α : Type} {l : List α} (h : l.length = 6) : ∃ a b c d e f, l = [a, b, c, d, e, f] := by
  match l, h with
  | [a, b, c, d, e, f], _ => exact ⟨a, b, c, d, e, f, rfl⟩
theorem list12 {α : Type} {l : List α} (h : l.length = 12) : ∃ a b c d e f g h i j k m, l = [a, b, c, d, e, f, g, h, i, j, k, m] := by
  match l, h with
  | [a, b, c, d, e, f, g, h, i, j, k, m], _ => exact ⟨a, b, c, d, e, f, g, h, i, j, k, m, rfl⟩
section
set_option maxRecDepth 100000
variable {H : Type} {enc : TypeId × Value → H} {w : World} {base fuel : Nat}
theorem open_map {n : Nat} {c : List Value} {y : DataW H × List MemPlace} (h : DataW.trod enc Try.prog w base (fun _ => true) true n 39 c = some y) : ∃ m : M, c = m.cells ∧ MOk m := by
  obtain ⟨xs, m, _, _, hl, hxl, hf⟩ := DataW.trod_array Try.underlying39 h
  rw [cells_map] at hl
  rw [cellsU] at hf
  obtain ⟨c0, c1, c2, c3, c4, c5, rfl⟩ := list6 hl
  have hz : ∀ i, i < 6 → ∃ z, xs[i]? = some z := fun i hi => ⟨xs[i]'(by omega), by simp⟩
  have f0 : DataW.trod enc Try.prog w base (fun _ => true) true m 23 [c0] = xs[0]? := hf 0 (by omega)
  obtain ⟨z0, h0⟩ := hz 0 (by omega)
  rw [h0] at f0
  obtain ⟨n0, e0, _, w0⟩ := DataW.trod_int Try.underlying23 f0
  have f1 : DataW.trod enc Try.prog w base (fun _ => true) true m 23 [c1] = xs[1]? := hf 1 (by omega)
  obtain ⟨z1, h1⟩ := hz 1 (by omega)
  rw [h1] at f1
  obtain ⟨n1, e1, _, w1⟩ := DataW.trod_int Try.underlying23 f1
  have f2 : DataW.trod enc Try.prog w base (fun _ => true) true m 23 [c2] = xs[2]? := hf 2 (by omega)
  obtain ⟨z2, h2⟩ := hz 2 (by omega)
  rw [h2] at f2
  obtain ⟨n2, e2, _, w2⟩ := DataW.trod_int Try.underlying23 f2
  have f3 : DataW.trod enc Try.prog w base (fun _ => true) true m 23 [c3] = xs[3]? := hf 3 (by omega)
  obtain ⟨z3, h3⟩ := hz 3 (by omega)
  rw [h3] at f3
  obtain ⟨n3, e3, _, w3⟩ := DataW.trod_int Try.underlying23 f3
  have f4 : DataW.trod enc Try.prog w base (fun _ => true) true m 23 [c4] = xs[4]? := hf 4 (by omega)
  obtain ⟨z4, h4⟩ := hz 4 (by omega)
  rw [h4] at f4
  obtain ⟨n4, e4, _, w4⟩ := DataW.trod_int Try.underlying23 f4
  have f5 : DataW.trod enc Try.prog w base (fun _ => true) true m 23 [c5] = xs[5]? := hf 5 (by omega)
  obtain ⟨z5, h5⟩ := hz 5 (by omega)
  rw [h5] at f5
  obtain ⟨n5, e5, _, w5⟩ := DataW.trod_int Try.underlying23 f5
  simp only [List.cons.injEq, and_true] at e0 e1 e2 e3 e4 e5
  subst e0 e1 e2 e3 e4 e5
  have k0 := bounds32 w0
  obtain ⟨q0, rfl⟩ := Int.eq_ofNat_of_zero_le k0.1
  have k1 := bounds32 w1
  obtain ⟨q1, rfl⟩ := Int.eq_ofNat_of_zero_le k1.1
  have k2 := bounds32 w2
  obtain ⟨q2, rfl⟩ := Int.eq_ofNat_of_zero_le k2.1
  have k3 := bounds32 w3
  obtain ⟨q3, rfl⟩ := Int.eq_ofNat_of_zero_le k3.1
  have k4 := bounds32 w4
  obtain ⟨q4, rfl⟩ := Int.eq_ofNat_of_zero_le k4.1
  have k5 := bounds32 w5
  obtain ⟨q5, rfl⟩ := Int.eq_ofNat_of_zero_le k5.1
  exact ⟨⟨q0, q1, q2, q3, q4, q5⟩, rfl, by show q0 < _; omega, by show q1 < _; omega, by show q2 < _; omega, by show q3 < _; omega, by show q4 < _; omega, by show q5 < _; omega⟩
/-- an inode that came in as a parameter -/
theorem inode_arg {v : Value} {dd : DataW H} {pl : List MemPlace} {r : Reach} {b0 : Nat} (hv : Value.okWide Try.prog w r b0 41 v) (h : DataW.Trod enc Try.prog w base (fun _ => true) true 41 v dd pl) : ∃ s : I, v = s.val ∧ IOk s := by
  obtain ⟨cs, rfl, hsz⟩ := okWide_struct Try.underlying41 hv
  obtain ⟨fuel, hf0⟩ := h
  have hf1 : DataW.trod enc Try.prog w base (fun _ => true) true fuel 41 cs.toList = some (dd, pl) := by simpa [Value.cells] using hf0
  clear hf0 hv
  obtain ⟨l⟩ := cs
  obtain ⟨xs, m, _, _, hl, hxl, hf⟩ := DataW.trod_struct Try.underlying41 hf1
  rw [cells_inode] at hl
  obtain ⟨c0, c1, c2, c3, c4, c5, c6, c7, c8, c9, c10, c11, rfl⟩ := list12 hl
  have hxs : xs.length = 7 := by simpa using hxl
  have hz : ∀ i, i < 7 → ∃ z, xs[i]? = some z := fun i hi => ⟨xs[i]'(by omega), by simp⟩
  have f0 : DataW.trod enc Try.prog w base (fun _ => true) true m 3 [c0] = xs[0]? := by have hh : DataW.trod enc Try.prog w base (fun _ => true) true m 3 (([c0, c1, c2, c3, c4, c5, c6, c7, c8, c9, c10, c11].drop 0).take (Try.prog.cellsOf 3)) = xs[0]? := hf 0 _ rfl; rw [cells_int] at hh; exact hh
  obtain ⟨z0, h0⟩ := hz 0 (by omega)
  rw [h0] at f0
  obtain ⟨n0, e0, _, w0⟩ := DataW.trod_int Try.underlying3 f0
  have f1 : DataW.trod enc Try.prog w base (fun _ => true) true m 35 [c1] = xs[1]? := by have hh : DataW.trod enc Try.prog w base (fun _ => true) true m 35 (([c0, c1, c2, c3, c4, c5, c6, c7, c8, c9, c10, c11].drop 1).take (Try.prog.cellsOf 35)) = xs[1]? := hf 1 _ rfl; rw [cells_u16] at hh; exact hh
  obtain ⟨z1, h1⟩ := hz 1 (by omega)
  rw [h1] at f1
  obtain ⟨n1, e1, _, w1⟩ := DataW.trod_int Try.underlying35 f1
  have f2 : DataW.trod enc Try.prog w base (fun _ => true) true m 35 [c2] = xs[2]? := by have hh : DataW.trod enc Try.prog w base (fun _ => true) true m 35 (([c0, c1, c2, c3, c4, c5, c6, c7, c8, c9, c10, c11].drop 2).take (Try.prog.cellsOf 35)) = xs[2]? := hf 2 _ rfl; rw [cells_u16] at hh; exact hh
  obtain ⟨z2, h2⟩ := hz 2 (by omega)
  rw [h2] at f2
  obtain ⟨n2, e2, _, w2⟩ := DataW.trod_int Try.underlying35 f2
  have f3 : DataW.trod enc Try.prog w base (fun _ => true) true m 23 [c3] = xs[3]? := by have hh : DataW.trod enc Try.prog w base (fun _ => true) true m 23 (([c0, c1, c2, c3, c4, c5, c6, c7, c8, c9, c10, c11].drop 3).take (Try.prog.cellsOf 23)) = xs[3]? := hf 3 _ rfl; rw [cellsU] at hh; exact hh
  obtain ⟨z3, h3⟩ := hz 3 (by omega)
  rw [h3] at f3
  obtain ⟨n3, e3, _, w3⟩ := DataW.trod_int Try.underlying23 f3
  have f4 : DataW.trod enc Try.prog w base (fun _ => true) true m 36 [c4] = xs[4]? := by have hh : DataW.trod enc Try.prog w base (fun _ => true) true m 36 (([c0, c1, c2, c3, c4, c5, c6, c7, c8, c9, c10, c11].drop 4).take (Try.prog.cellsOf 36)) = xs[4]? := hf 4 _ rfl; rw [cells_u64] at hh; exact hh
  obtain ⟨z4, h4⟩ := hz 4 (by omega)
  rw [h4] at f4
  obtain ⟨n4, e4, _, w4⟩ := DataW.trod_int Try.underlying36 f4
  have f5 : DataW.trod enc Try.prog w base (fun _ => true) true m 3 [c5] = xs[5]? := by have hh : DataW.trod enc Try.prog w base (fun _ => true) true m 3 (([c0, c1, c2, c3, c4, c5, c6, c7, c8, c9, c10, c11].drop 5).take (Try.prog.cellsOf 3)) = xs[5]? := hf 5 _ rfl; rw [cells_int] at hh; exact hh
  obtain ⟨z5, h5⟩ := hz 5 (by omega)
  rw [h5] at f5
  obtain ⟨n5, e5, _, w5⟩ := DataW.trod_int Try.underlying3 f5
  have f6 : DataW.trod enc Try.prog w base (fun _ => true) true m 39 [c6, c7, c8, c9, c10, c11] = xs[6]? := by have hh : DataW.trod enc Try.prog w base (fun _ => true) true m 39 (([c0, c1, c2, c3, c4, c5, c6, c7, c8, c9, c10, c11].drop 6).take (Try.prog.cellsOf 39)) = xs[6]? := hf 6 _ rfl; rw [cells_map] at hh; exact hh
  obtain ⟨z6, h6⟩ := hz 6 (by omega)
  rw [h6] at f6
  obtain ⟨mm, e6, hm⟩ := open_map f6
  obtain ⟨ma, mb, mc, md, me, mf⟩ := mm
  unfold M.cells at e6
  simp only [List.cons.injEq, and_true] at e0 e1 e2 e3 e4 e5 e6
  obtain ⟨g0, g1, g2, g3, g4, g5⟩ := e6
  subst e0 e1 e2 e3 e4 e5 g0 g1 g2 g3 g4 g5
  have k0 := bounds64 w0
  have k1 := bounds16 w1
  have k2 := bounds16 w2
  have k3 := bounds32 w3
  have k4 := boundsU w4
  have k5 := bounds64 w5
  obtain ⟨q1, rfl⟩ := Int.eq_ofNat_of_zero_le k1.1
  obtain ⟨q2, rfl⟩ := Int.eq_ofNat_of_zero_le k2.1
  obtain ⟨q3, rfl⟩ := Int.eq_ofNat_of_zero_le k3.1
  obtain ⟨q4, rfl⟩ := Int.eq_ofNat_of_zero_le k4.1
  exact ⟨⟨n0, q1, q2, q3, q4, n5, ma, mb, mc, md, me, mf⟩, rfl, ⟨k0, by show q1 < _; omega, by show q2 < _; omega, by show q3 < _; omega, by show q4 < _; omega, k5, hm⟩⟩
end
end Go.Proofs.Yteopcjfakhmifaa.Ino
