/- Several texts in one, each under its own heading. -/
import Derived.SizedLaws
import Derived.Test.YtghonccffmmjhaaPk09
/- Slices that came in, with what they weigh. -/
namespace Go.Proofs.Ytghonccffmmjhaa
open Go.RowKit Go.ChangeShapes Go.WideShapes Go.Deep
set_option linter.unusedVariables false
theorem weights_all_mem {H : Type} {P : Program} {e : TypeId} {d : DataW H} : ∀ {ds : List (DataW H)}, d ∈ ds → ∀ k ∈ d.weights P e, k ∈ DataW.weightsAll P e ds
  | [], h, _, _ => by cases h
  | d0 :: ds, h, k, hk => by
    simp only [DataW.weightsAll, List.mem_append]
    rcases List.mem_cons.1 h with rfl | h
    · exact .inl hk
    · exact .inr (weights_all_mem h k hk)
section
variable {H : Type} {enc : TypeId × Value → H} {w : World} {base fuel : Nat} {cs : List Value} {x : DataW H × List MemPlace} {t e : TypeId} {P : Program}
/-- a slice of structs, each told by o; what they weigh is bounded -/
theorem lies_flatW {α : Type} (f : α → List Value) (Q : α → Prop) (sz : Nat) (ht : P.underlying t = some (.slice e)) (hc : P.cellsOf e = sz) (hs : 0 < sz)
    (B : Nat) (hw : ∀ k ∈ x.1.weights P t, k ≤ B)
    (hg : ∀ n c y, DataW.trod enc P w base (fun _ => true) true n e c = some y → (∀ k ∈ y.1.weights P e, k ≤ B) → ∃ o, c = f o ∧ Q o)
    (h : DataW.trod enc P w base (fun _ => true) true fuel t cs = some x) :
    ∃ (v : Value) (L : List α), cs = [v] ∧ Lies w v L.length sz (L.flatMap f) ∧ (∀ o ∈ L, Q o) ∧ ∀ o ∈ L, (f o).length = sz := by
  rcases open_slice ht h with ⟨rfl, rfl⟩ | ⟨a, len, cap, m, n, D, Pl, rfl, _, hl, hm, hmm, hx, hall⟩
  · exact ⟨_, [], rfl, Lies.nil _ _, by simp, by simp⟩
  · simp only [if_true] at hmm
    subst hmm
    subst hx
    have hwi : ∀ i, i < m → ∀ k ∈ (D i).weights P e, k ≤ B := fun i hi k hk => by
      refine hw k ?_
      simp only [DataW.weights, ht]
      refine List.mem_cons_of_mem _ (List.mem_append.2 ?_)
      by_cases hil : i < len
      · exact .inl (weights_all_mem (List.mem_map.2 ⟨i, List.mem_range.2 hil, rfl⟩) k hk)
      · exact .inr (weights_all_mem (List.mem_map.2 ⟨i - len, List.mem_range.2 (by omega), by rw [show len + (i - len) = i by omega]⟩) k hk)
    have hv : ∀ i, i < m → ∃ o, Q o ∧ (f o).length = sz ∧ ∀ j u, (f o)[j]? = some u → w.cell? ((a.add (i * sz)).add j) = some u := fun i hi => by
      obtain ⟨c, hcs, htr⟩ := hall i hi
      rw [hc] at hcs
      obtain ⟨o, rfl, hq⟩ := hg _ _ _ htr (hwi i hi)
      obtain ⟨h1, h2⟩ := cells_list hcs
      exact ⟨o, hq, h1, h2⟩
    obtain ⟨g, hgq⟩ : ∃ g : Nat → Option α, ∀ i, i < m → ∃ o, g i = some o ∧ Q o ∧ (f o).length = sz ∧ ∀ j u, (f o)[j]? = some u → w.cell? ((a.add (i * sz)).add j) = some u := by
      refine ⟨fun i => if hi : i < m then some (Classical.choose (hv i hi)) else none, fun i hi => ?_⟩
      exact ⟨Classical.choose (hv i hi), by simp [hi], Classical.choose_spec (hv i hi)⟩
    have hL : ∀ k, k ≤ m → ∃ L : List α, L.length = k ∧ ∀ i o, L[i]? = some o → g i = some o := by
      intro k
      induction k with
      | zero => intro _; exact ⟨[], rfl, by simp⟩
      | succ k ih =>
        intro hk
        obtain ⟨L, h1, h2⟩ := ih (by omega)
        obtain ⟨o, ho, _⟩ := hgq k (by omega)
        refine ⟨L ++ [o], by simp [h1], fun i p hp => ?_⟩
        rcases Nat.lt_or_ge i L.length with hi | hi
        · rw [List.getElem?_append_left hi] at hp; exact h2 i p hp
        · rw [List.getElem?_append_right hi] at hp
          have : i = L.length := by have := (List.getElem?_eq_some_iff.1 hp).1; simp at this; omega
          subst this
          simp at hp
          subst hp
          rw [h1]; exact ho
    obtain ⟨L, hLl, hLg⟩ := hL len hl
    have hQ : ∀ i o, L[i]? = some o → Q o ∧ (f o).length = sz ∧ ∀ j u, (f o)[j]? = some u → w.cell? ((a.add (i * sz)).add j) = some u := fun i o ho => by
      have hi := (List.getElem?_eq_some_iff.1 ho).1
      obtain ⟨o', h1, h2⟩ := hgq i (by omega)
      rw [hLg i o ho] at h1
      cases h1
      exact h2
    have hflen : ∀ o ∈ L, (f o).length = sz := fun o ho => by
      obtain ⟨i, hi⟩ := List.getElem?_of_mem ho
      exact (hQ i o hi).2.1
    refine ⟨_, L, rfl, ⟨some a, m, by rw [hLl], by omega, ⟨hm, fun e => by cases e⟩, flat_length f sz L hflen, fun hp => ?_⟩, fun o ho => ?_, hflen⟩
    · obtain ⟨b, off, spot⟩ := a
      obtain ⟨o0, ho0⟩ : ∃ o, L[0]? = some o := ⟨_, List.getElem?_eq_getElem hp⟩
      obtain ⟨_, hl0, hc0⟩ := hQ 0 o0 ho0
      obtain ⟨u0, hu0⟩ : ∃ u, (f o0)[0]? = some u := ⟨_, List.getElem?_eq_getElem (by omega)⟩
      obtain rfl : spot = none := by
        have := World.cell?_spot (hc0 0 u0 hu0)
        cases spot with
        | none => rfl
        | some s => simp [Addr.add] at this
      refine ⟨b, off, rfl, fun j u hj => ?_⟩
      have hjl := (List.getElem?_eq_some_iff.1 hj).1
      rw [flat_length f sz L hflen] at hjl
      have hk : j / sz < L.length := (Nat.div_lt_iff_lt_mul hs).2 hjl
      obtain ⟨o, ho⟩ : ∃ o, L[j / sz]? = some o := ⟨_, List.getElem?_eq_getElem hk⟩
      have hr := Nat.mod_lt j hs
      have hsplit : j / sz * sz + j % sz = j := by rw [Nat.mul_comm]; exact Nat.div_add_mod j sz
      have hfl := flat_at f sz L hflen (j / sz) (j % sz) o ho hr
      rw [hsplit, hj] at hfl
      have := (hQ _ o ho).2.2 (j % sz) u hfl.symm
      rw [add_plain, add_plain, Nat.add_assoc, hsplit] at this
      exact this
    · obtain ⟨i, hi⟩ := List.getElem?_of_mem ho
      exact (hQ i o hi).1
/-- of an argument: all that it weighs is in reach -/
theorem arg_weights {ts : List TypeId} {ds : List (DataW H)} (h : (DataW.weightsEach P ts ds).all (· ≤ reachBytes) = true) {j : Nat} {t : TypeId} {d : DataW H} (ht : ts[j]? = some t) (hd : ds[j]? = some d) : ∀ k ∈ d.weights P t, k ≤ 281474976710656 := fun k hk => by
  have := List.all_eq_true.1 h _ (DataW.weights_mem_each ht hd k hk)
  have h2 : k ≤ reachBytes := by simpa using this
  exact Nat.le_trans h2 (by decide)
theorem flat_one : ∀ L : List ByteArray, (L.flatMap fun s : ByteArray => [Value.string s]) = L.map .string
  | [] => rfl
  | a :: L => by rw [List.flatMap_cons, flat_one L]; rfl
/-- texts -/
theorem lies_stringsW (ht : P.underlying t = some (.slice e)) (he : P.underlying e = some .string) (hc : P.cellsOf e = 1) (B : Nat) (hw : ∀ k ∈ x.1.weights P t, k ≤ B)
    (h : DataW.trod enc P w base (fun _ => true) true fuel t cs = some x) :
    ∃ (v : Value) (L : List ByteArray), cs = [v] ∧ Lies w v L.length 1 (L.map .string) ∧ ∀ s ∈ L, s.size ≤ B := by
  obtain ⟨v, L, h1, h2, h3, _⟩ := lies_flatW (fun s : ByteArray => [Value.string s]) (fun s => s.size ≤ B) 1 ht hc (by decide) B hw (fun n c y hy hk => by
    obtain ⟨s, rfl, rfl, _⟩ := DataW.trod_string he hy
    refine ⟨s, rfl, hk _ ?_⟩
    simp [DataW.weights]) h
  refine ⟨v, L, h1, ?_, h3⟩
  rw [← flat_one]
  exact h2
end
end Go.Proofs.Ytghonccffmmjhaa
/- What comes in to the laws on disks: scripts of calls, fates. -/
namespace Go.Proofs.Ytghonccffmmjhaa.Disk
open Go.RowKit Go.Shelf Go.ChangeShapes Go.WideShapes Go.Deep
set_option linter.unusedVariables false

/-- a call of a script -/
structure Op where
  k : Int
  a : Int
  n : Int
  c : Int
  p : Int
  t : Int
def I64 (n : Int) : Prop := -9223372036854775808 ≤ n ∧ n ≤ 9223372036854775807
def opCells (o : Op) : List Value := [.int .i64 o.k, .int .i64 o.a, .int .i64 o.n, .int .u8 o.c, .int .u64 o.p, .int .i64 o.t]
structure OpOk (o : Op) : Prop where
  k : I64 o.k
  a : I64 o.a
  n : I64 o.n
  c : 0 ≤ o.c ∧ o.c ≤ 255
  p : 0 ≤ o.p ∧ o.p ≤ 18446744073709551615
  t : I64 o.t
theorem opCells_length (o : Op) : (opCells o).length = 6 := rfl
theorem i64_wf {n : Int} (h : (Lit.int .i64 n).wf = true) : I64 n := by
  have h1 : IntKind.i64.min = -9223372036854775808 := rfl
  have h2 : IntKind.i64.max = 9223372036854775807 := rfl
  simp only [Lit.wf, Bool.and_eq_true, decide_eq_true_eq] at h
  unfold I64
  omega
theorem u8_wf {n : Int} (h : (Lit.int .u8 n).wf = true) : 0 ≤ n ∧ n ≤ 255 := by
  have h1 : IntKind.u8.min = 0 := rfl
  have h2 : IntKind.u8.max = 255 := rfl
  simp only [Lit.wf, Bool.and_eq_true, decide_eq_true_eq] at h
  omega
theorem u64_wf {n : Int} (h : (Lit.int .u64 n).wf = true) : 0 ≤ n ∧ n ≤ 18446744073709551615 := by
  have h1 : IntKind.u64.min = 0 := rfl
  have h2 : IntKind.u64.max = 18446744073709551615 := rfl
  simp only [Lit.wf, Bool.and_eq_true, decide_eq_true_eq] at h
  omega
theorem cells_fate : Try.prog.cellsOf 25 = 2 := by kernel_rfl
theorem cells_int : Try.prog.cellsOf 3 = 1 := by kernel_rfl
theorem cells_u8 : Try.prog.cellsOf 5 = 1 := by kernel_rfl
theorem cells_u64 : Try.prog.cellsOf 23 = 1 := by kernel_rfl

theorem list6 {α : Type} {l : List α} (h : l.length = 6) : ∃ a b c d e f, l = [a, b, c, d, e, f] := by
  match l, h with
  | [a, b, c, d, e, f], _ => exact ⟨a, b, c, d, e, f, rfl⟩
section
variable {H : Type} {enc : TypeId × Value → H} {w : World} {base fuel : Nat} {cs : List Value} {x : DataW H × List MemPlace}
theorem open_fate {n : Nat} {c0 c1 : Value} {y : DataW H × List MemPlace} (h : DataW.trod enc Try.prog w base (fun _ => true) true n 25 [c0, c1] = some y) : ∃ p t : Int, c0 = .int .u64 p ∧ c1 = .int .i64 t ∧ (0 ≤ p ∧ p ≤ 18446744073709551615) ∧ I64 t := by
  obtain ⟨xs, m, _, _, hl, _, hf⟩ := DataW.trod_struct Try.underlying25 h
  have f0 : DataW.trod enc Try.prog w base (fun _ => true) true m 23 [c0] = xs[0]? := by have hh : DataW.trod enc Try.prog w base (fun _ => true) true m 23 (([c0, c1].drop 0).take (Try.prog.cellsOf 23)) = xs[0]? := hf 0 _ rfl; rw [cells_u64] at hh; exact hh
  have f1 : DataW.trod enc Try.prog w base (fun _ => true) true m 3 [c1] = xs[1]? := by have hh : DataW.trod enc Try.prog w base (fun _ => true) true m 3 (([c0, c1].drop 1).take (Try.prog.cellsOf 3)) = xs[1]? := hf 1 _ rfl; rw [cells_int] at hh; exact hh
  have hx0 : ∃ z, xs[0]? = some z := ⟨xs[0]'(by rename_i hh; have : xs.length = 2 := by simpa using hh
                                                omega), by simp⟩
  have hx1 : ∃ z, xs[1]? = some z := ⟨xs[1]'(by rename_i hh; have : xs.length = 2 := by simpa using hh
                                                omega), by simp⟩
  obtain ⟨z0, hz0⟩ := hx0
  obtain ⟨z1, hz1⟩ := hx1
  rw [hz0] at f0
  rw [hz1] at f1
  obtain ⟨p, e0, _, w0⟩ := DataW.trod_int Try.underlying23 f0
  obtain ⟨t, e1, _, w1⟩ := DataW.trod_int Try.underlying3 f1
  exact ⟨p, t, by simpa using e0, by simpa using e1, u64_wf w0, i64_wf w1⟩
set_option maxRecDepth 100000 in
/-- a fate that came in as a parameter -/
theorem fate_arg {v : Value} {dd : DataW H} {pl : List MemPlace} {r : Reach} {b0 : Nat} (hv : Value.okWide Try.prog w r b0 25 v) (h : DataW.Trod enc Try.prog w base (fun _ => true) true 25 v dd pl) : ∃ p t : Int, v = .agg #[.int .u64 p, .int .i64 t] ∧ (0 ≤ p ∧ p ≤ 18446744073709551615) ∧ I64 t := by
  obtain ⟨c0, c1, y0, y1, n, rfl, _, _, t0, t1⟩ := Joins.open_agg2 Try.underlying25 (by kernel_rfl) cells_fate hv h
  obtain ⟨p, e0, _, w0⟩ := DataW.trod_int Try.underlying23 t0
  obtain ⟨t, e1, _, w1⟩ := DataW.trod_int Try.underlying3 t1
  simp only [List.cons.injEq, and_true] at e0 e1
  subst e0 e1
  exact ⟨p, t, rfl, u64_wf w0, i64_wf w1⟩
end
end Go.Proofs.Ytghonccffmmjhaa.Disk
