/- Several texts in one, each under its own heading. -/
import Derived.Laws.CopyOwn
import Derived.Laws.IdiomCopy
import Derived.Lib.SliceRun
import Derived.Lib.AppendZerosOnto
import Derived.Lib.Overlaps
import Derived.Laws.NewBlocks
import Derived.Deep.RegionLaw
import Derived.Test.YtghonccffmmjhaaPk01
import Derived.WalkKit
import Derived.ProofKit
import Derived.OpenShut
import Derived.ShutString
import Derived.SizedLaws
import Derived.SliceStrings
import Derived.ChangeSlices
import Derived.Deep.Slices
import Derived.Laws.OwnMore
import Derived.RangeFuncBox
import Derived.Lib.Hide
import Derived.Test.YtghonccffmmjhaaRows
/- Laws on slices of elements of any number of cells that lie in a block of their own: copy, clear, append in place, each as an equation of its run. -/
namespace Go.Proofs.Ytghonccffmmjhaa
open Go.RowKit
set_option linter.unusedVariables false

theorem block_add (a : Addr) (j : Nat) : (a.add j).block = a.block := by unfold Addr.add; split <;> rfl

def Row (w : World) (g : Nat) (t : TypeId) (cur : List Value) : Prop := w.heap[g]? = some (.cells cur.toArray t (0, 0))
theorem Row.lt {w : World} {g : Nat} {t : TypeId} {cur : List Value} (h : Row w g t cur) : g < w.heap.size := (Array.getElem?_eq_some_iff.1 h).1
theorem Row.at_ {w : World} {g : Nat} {t : TypeId} {cur : List Value} (h : Row w g t cur) (j : Nat) : w.cell? ⟨g, j, none⟩ = cur[j]? := by
  rw [cell_of_row w g j _ _ _ h]; simp
theorem Row.frozen {w : World} {g : Nat} {t : TypeId} {cur : List Value} (h : Row w g t cur) (j : Nat) : w.frozen? ⟨g, j, none⟩ = false := by
  unfold Row at h
  simp [World.frozen?, h]
theorem Row.of_heap {w w' : World} {g : Nat} {t : TypeId} {cur : List Value} (h : Row w g t cur) (e : w'.heap[g]? = w.heap[g]?) : Row w' g t cur := e.trans h
theorem Row.set {w : World} {g : Nat} {t : TypeId} {cur : List Value} (h : Row w g t cur) (new : List Value) : Row (w.setRow g new.toArray) g t new := setRow_heap w g _ _ _ _ h
theorem Row.shape {w : World} {g : Nat} {t : TypeId} {cur : List Value} (h : Row w g t cur) : w.shape? g = some (t, cur.length) := by
  unfold Row at h
  simp [World.shape?, h]
theorem splice_ins (xs rest news : List Value) (i n sz : Nat) (hx : xs.length = n * sz) (hi : i ≤ n) (hn : news.length = sz) (hr : sz ≤ rest.length) :
    (splice (splice (xs ++ rest) ((i + 1) * sz) (xs.drop (i * sz))) (i * sz) news).take ((n + 1) * sz) = xs.take (i * sz) ++ news ++ xs.drop (i * sz) := by
  have h1 : i * sz ≤ n * sz := Nat.mul_le_mul_right _ hi
  have e1 : (i + 1) * sz = i * sz + sz := Nat.succ_mul i sz
  have e2 : (n + 1) * sz = n * sz + sz := Nat.succ_mul n sz
  have hd : (xs.drop (i * sz)).length = n * sz - i * sz := by rw [List.length_drop, hx]
  have ht : (xs.take (i * sz)).length = i * sz := by rw [List.length_take, hx]; omega
  rw [e1, e2]
  generalize i * sz = a at *
  generalize n * sz = b at *
  have hA : splice (xs ++ rest) (a + sz) (xs.drop a) = ((xs ++ rest).take (a + sz)) ++ (xs.drop a ++ (xs ++ rest).drop (a + sz + (b - a))) := by rw [splice, hd]
  rw [hA, splice]
  have hl : ((xs ++ rest).take (a + sz)).length = a + sz := by rw [List.length_take, List.length_append]; omega
  have e3 : (((xs ++ rest).take (a + sz)) ++ (xs.drop a ++ (xs ++ rest).drop (a + sz + (b - a)))).take a = xs.take a := by
    rw [List.take_append_of_le_length (by omega), List.take_take, Nat.min_eq_left (by omega), List.take_append_of_le_length (by omega)]
  have e4 : (((xs ++ rest).take (a + sz)) ++ (xs.drop a ++ (xs ++ rest).drop (a + sz + (b - a)))).drop (a + news.length) = xs.drop a ++ (xs ++ rest).drop (a + sz + (b - a)) := by
    rw [hn, List.drop_append_of_le_length (by omega), List.drop_eq_nil_of_le (by omega), List.nil_append]
  rw [e3, e4, ← List.append_assoc, ← List.append_assoc, List.take_append_of_le_length (by simp only [List.length_append]; omega), List.take_of_length_le (by simp only [List.length_append]; omega)]
theorem splice_new (xs row news : List Value) (i n sz : Nat) (hx : xs.length = n * sz) (hi : i ≤ n) (hn : news.length = sz) (ht : row.take (i * sz) = xs.take (i * sz)) (hr : (n + 1) * sz ≤ row.length) :
    (splice (splice row (i * sz) news) ((i + 1) * sz) (xs.drop (i * sz))).take ((n + 1) * sz) = xs.take (i * sz) ++ news ++ xs.drop (i * sz) := by
  have h1 : i * sz ≤ n * sz := Nat.mul_le_mul_right _ hi
  have e1 : (i + 1) * sz = i * sz + sz := Nat.succ_mul i sz
  have e2 : (n + 1) * sz = n * sz + sz := Nat.succ_mul n sz
  have hd : (xs.drop (i * sz)).length = n * sz - i * sz := by rw [List.length_drop, hx]
  have htl : (xs.take (i * sz)).length = i * sz := by rw [List.length_take, hx]; omega
  rw [e1, e2] at *
  generalize i * sz = a at *
  generalize n * sz = b at *
  rw [splice, splice, ht]
  have e3 : (xs.take a ++ (news ++ row.drop (a + news.length))).take (a + sz) = xs.take a ++ news := by
    rw [← List.append_assoc, List.take_append_of_le_length (by rw [List.length_append]; omega), List.take_of_length_le (by rw [List.length_append]; omega)]
  rw [e3, ← List.append_assoc, List.take_append_of_le_length (by simp only [List.length_append]; omega), List.take_of_length_le (by simp only [List.length_append]; omega)]
theorem grown_setRow (w : World) (g : Nat) (cs : Array Value) : w.grownBy (w.setRow g cs) (some g) := ⟨rfl, rfl, rfl, by simp [World.setRow], fun k _ hk => setRow_other w g k cs (fun e => hk (by rw [e]))⟩

/-- a slice's own row, told as what stands in its block -/
theorem row_of_own {w : World} {base n size g c : Nat} {e : TypeId} {xs : List Value} (h : w.ownsRow base e size (.slice (some ⟨g, 0, none⟩) n c) n xs) :
    ∃ rest, Row w g e (xs ++ rest) ∧ (xs ++ rest).length = c * size ∧ n ≤ c ∧ c ≤ maxLen ∧ xs.length = n * size ∧ base ≤ g := by
  rcases h.2 with ⟨hn, _⟩ | ⟨g', cap, cur, hv, hb, hg, h1, h2, h3, h4⟩
  · cases hn
  · simp only [Value.slice.injEq, Option.some.injEq, Addr.mk.injEq, and_true, true_and] at hv
    obtain ⟨rfl, rfl⟩ := hv
    refine ⟨cur.toList.drop (n * size), ?_, ?_, h1, h2, h.1, hb⟩
    · rw [← h4, List.take_append_drop]
      show _ = _
      rw [hg]
    · rw [← h4, List.take_append_drop, Array.length_toList, h3]
theorem own_of_row {w : World} {base n size g c : Nat} {e : TypeId} {xs rest : List Value} (h : Row w g e (xs ++ rest)) (hl : (xs ++ rest).length = c * size) (hn : n ≤ c) (hm : c ≤ maxLen) (hx : xs.length = n * size) (hb : base ≤ g) :
    w.ownsRow base e size (.slice (some ⟨g, 0, none⟩) n c) n xs :=
  ⟨hx, .inr ⟨g, c, (xs ++ rest).toArray, rfl, hb, h, hn, hm, by rw [List.size_toArray]; exact hl, by rw [← hx]; exact List.take_left⟩⟩

section
variable {P : Program}

theorem run_copyR (w : World) (dT sT ty elem : TypeId) (i : TypeInfo) (sz : Nat) (hu : P.underlying dT = some (.slice elem)) (hi : P.info? elem = some i) (hs : i.size = sz)
    (g o dLen dCap : Nat) (a : Addr) (sLen sCap : Nat) (cur : List Value) (t : TypeId) (cs : List Value) (hg : Row w g t cur) (hn : cs.length = Nat.min sLen dLen * sz)
    (hsrc : ∀ j v, cs[j]? = some v → w.cell? (a.add j) = some v) (hfit : o + cs.length ≤ cur.length) (h1 : ∀ v ∈ cs, v.oneCell' = true) :
    (Builtin.copy_ #[dT, sT] ty #[.slice (some ⟨g, o, none⟩) dLen dCap, .slice (some a) sLen sCap]).run P w = .ok (goInt (Nat.min sLen dLen)) (w.setRow g (splice cur o cs).toArray) := by
  subst hs
  have hl := run_loadCells_list (P := P) w a cs hsrc
  have hst := run_storeCells_at P g o t cs 0 cur.toArray w hg (by simpa using hfit) h1
  simp only [Nat.add_zero] at hst
  simp [Builtin.copy_, run_underlying hu, Builtin.lenOf, Builtin.firstCells, sizeOf, typeInfo, hi, ← hn, hl, hst, splice]

theorem run_clearR (w : World) (t e ty : TypeId) (z : Value) (ht : P.underlying t = some (.slice e)) (hv : ∀ w, (zeroValue e).run P w = .ok z w) (h1 : ∀ v ∈ (z.cells).toList, v.oneCell' = true) (hz0 : 0 < z.cells.size) (g o n c : Nat) (hn : 0 < n) (cur : List Value) (te : TypeId)
    (hg : Row w g te cur) (hfit : o + n * z.cells.size ≤ cur.length) :
    (Builtin.clear_ #[t] ty #[.slice (some ⟨g, o, none⟩) n c]).run P w = .ok (.tuple #[]) (w.setRow g (splice cur o (Builtin.zeroCells z.cells n).toList).toArray) := by
  have hst := run_storeCells_at P g o te (Builtin.zeroCells z.cells n).toList 0 cur.toArray w hg (by simp only [Nat.add_zero, Array.length_toList, size_zeroCells, List.size_toArray]; exact hfit) (by
    intro v hv'
    simp only [Builtin.zeroCells, Array.toList_map, List.mem_map] at hv'
    obtain ⟨j, _, rfl⟩ := hv'
    have hm : j % z.cells.size < z.cells.size := Nat.mod_lt _ hz0
    rw [getElem!_pos z.cells (j % z.cells.size) hm]
    exact h1 _ (by simp))
  simp only [Nat.add_zero] at hst
  obtain ⟨m, rfl⟩ : ∃ m, n = m + 1 := ⟨n - 1, by omega⟩
  simp [Builtin.clear_, run_underlying ht, hv, hst, splice]

theorem wp_copyR (w : World) {o : Oper} {a : Act} {K : Act → World → Prop} {Q : Exit → Act → World → Prop} (d s : Operand) (t t' : TypeId)
    (ho : o.op = .call { callee := .builtin .copy, args := #[d, s], argTypes := #[t, t'] }) (v u : Value) (hd : a.eval d = v) (hs : a.eval s = u) {v' : Value} {w' : World}
    (hr : (Builtin.copy_ #[t, t'] o.type #[v, u]).run P w = .ok v' w') (h : K (a.put o.dst v') w') : o.wp P a w K Q := by
  unfold Oper.wp execOp
  simp only [ho, resolve, invoke, builtin, Sem.run_bind, Sem.run_pure, Result.andThen_ok, List.map_toArray, List.map_cons, List.map_nil, hd, hs, hr]
  exact h
theorem wpList_copyR (w : World) {ops : Array Oper} {rest : List Oper} {o : Oper} {a : Act} {Q : Exit → Act → World → Prop} (hgd : o.guard = none) (d s : Operand) (t t' : TypeId)
    (ho : o.op = .call { callee := .builtin .copy, args := #[d, s], argTypes := #[t, t'] }) (v u : Value) (hd : a.eval d = v) (hs : a.eval s = u) {v' : Value} {w' : World}
    (hr : (Builtin.copy_ #[t, t'] o.type #[v, u]).run P w = .ok v' w') (h : wpList P ops Q rest (a.put o.dst v') w') : wpList P ops Q (o :: rest) a w :=
  wpList_plain hgd fun _ hK => wp_copyR w d s t t' ho v u hd hs hr (hK _ _ h)
theorem step_copyR {ops : Array Oper} {o : Oper} {a : Act} {w : World} {K : Act → World → Prop} {Q : Exit → Act → World → Prop} {E : Prop} (hg : o.guard = none) (d s : Operand) (t t' : TypeId)
    (ho : o.op = .call { callee := .builtin .copy, args := #[d, s], argTypes := #[t, t'] }) (v u : Value) (hd : a.eval d = v) (hs : a.eval s = u) {v' : Value} {w' : World}
    (hr : (Builtin.copy_ #[t, t'] o.type #[v, u]).run P w = .ok v' w') (hK : K (a.put o.dst v') w') : if Region.wanted o (yielded ops a.tmps) = true then Oper.wp P o a w K Q else E := by
  have hw : Region.wanted o (yielded ops a.tmps) = true := by simp [Region.wanted, hg]
  rw [if_pos hw]
  exact wp_copyR w d s t t' ho v u hd hs hr hK

theorem wp_appendR (w : World) {o : Oper} {a : Act} {K : Act → World → Prop} {Q : Exit → Act → World → Prop} (d s : Operand) (t t' : TypeId)
    (ho : o.op = .call { callee := .builtin .append, args := #[d, s], argTypes := #[t, t'] }) (v u : Value) (hd : a.eval d = v) (hs : a.eval s = u) {v' : Value} {w' : World}
    (hr : (Builtin.append_ #[t, t'] o.type #[v, u]).run P w = .ok v' w') (h : K (a.put o.dst v') w') : o.wp P a w K Q := by
  unfold Oper.wp execOp
  simp only [ho, resolve, invoke, builtin, Sem.run_bind, Sem.run_pure, Result.andThen_ok, List.map_toArray, List.map_cons, List.map_nil, hd, hs, hr]
  exact h
theorem wpList_appendR (w : World) {ops : Array Oper} {rest : List Oper} {o : Oper} {a : Act} {Q : Exit → Act → World → Prop} (hgd : o.guard = none) (d s : Operand) (t t' : TypeId)
    (ho : o.op = .call { callee := .builtin .append, args := #[d, s], argTypes := #[t, t'] }) (v u : Value) (hd : a.eval d = v) (hs : a.eval s = u) {v' : Value} {w' : World}
    (hr : (Builtin.append_ #[t, t'] o.type #[v, u]).run P w = .ok v' w') (h : wpList P ops Q rest (a.put o.dst v') w') : wpList P ops Q (o :: rest) a w :=
  wpList_plain hgd fun _ hK => wp_appendR w d s t t' ho v u hd hs hr (hK _ _ h)
theorem step_appendR {ops : Array Oper} {o : Oper} {a : Act} {w : World} {K : Act → World → Prop} {Q : Exit → Act → World → Prop} {E : Prop} (hg : o.guard = none) (d s : Operand) (t t' : TypeId)
    (ho : o.op = .call { callee := .builtin .append, args := #[d, s], argTypes := #[t, t'] }) (v u : Value) (hd : a.eval d = v) (hs : a.eval s = u) {v' : Value} {w' : World}
    (hr : (Builtin.append_ #[t, t'] o.type #[v, u]).run P w = .ok v' w') (hK : K (a.put o.dst v') w') : if Region.wanted o (yielded ops a.tmps) = true then Oper.wp P o a w K Q else E := by
  have hw : Region.wanted o (yielded ops a.tmps) = true := by simp [Region.wanted, hg]
  rw [if_pos hw]
  exact wp_appendR w d s t t' ho v u hd hs hr hK

theorem wpList_clearR (w : World) {ops : Array Oper} {rest : List Oper} {o : Oper} {a : Act} {Q : Exit → Act → World → Prop} (hgd : o.guard = none) (x : Operand) (t : TypeId)
    (ho : o.op = .call { callee := .builtin .clear, args := #[x], argTypes := #[t] }) (v : Value) (hx : a.eval x = v) {v' : Value} {w' : World}
    (hr : (Builtin.clear_ #[t] o.type #[v]).run P w = .ok v' w') (h : wpList P ops Q rest (a.put o.dst v') w') : wpList P ops Q (o :: rest) a w :=
  wpList_plain hgd fun _ hK => by
    unfold Oper.wp execOp
    simp only [ho, resolve, invoke, builtin, Sem.run_bind, Sem.run_pure, Result.andThen_ok, List.map_toArray, List.map_cons, List.map_nil, hx, hr]
    exact hK _ _ h

end

end Go.Proofs.Ytghonccffmmjhaa
/- A slice that is only read, wherever it lies: what came in, what a call has made, and what is cut out of these. -/
namespace Go.Proofs.Ytghonccffmmjhaa
open Go.RowKit
set_option linter.unusedVariables false

theorem below_th {w u v : World} (h : Below w.heap.size w u) (k : Below u.heap.size u v) : Below w.heap.size w v := h.trans (k.mono h.size)
def Lies (w : World) (v : Value) (n size : Nat) (xs : List Value) : Prop :=
  ∃ a cap, v = .slice a n cap ∧ n ≤ cap ∧ (cap ≤ maxLen ∧ (a = none → cap = 0)) ∧ xs.length = n * size ∧ (0 < n → ∃ b off, a = some ⟨b, off, none⟩ ∧ ∀ j u, xs[j]? = some u → w.cell? ⟨b, off + j, none⟩ = some u)

theorem add_plain (b off j : Nat) : (⟨b, off, none⟩ : Addr).add j = ⟨b, off + j, none⟩ := by simp [Addr.add]
theorem cell_block {w : World} {a : Addr} {u : Value} (h : w.cell? a = some u) : ∃ c t f, w.heap[a.block]? = some (.cells c t f) := by
  unfold World.cell? at h
  split at h
  · rename_i c t f hb
    exact ⟨c, t, f, hb⟩
  · cases h

theorem Lies.grown {w w' : World} {v : Value} {n size : Nat} {xs : List Value} {o : Option Nat} (h : Lies w v n size xs) (hg : w.grownBy w' o) (ho : ∀ k, o = some k → ∀ c t f, w.heap[k]? ≠ some (.cells c t f)) : Lies w' v n size xs := by
  obtain ⟨a, cap, h1, h2, h3, h4, h5⟩ := h
  refine ⟨a, cap, h1, h2, h3, h4, fun hn => ?_⟩
  obtain ⟨b, off, e, hc⟩ := h5 hn
  refine ⟨b, off, e, fun j u hj => ?_⟩
  have hcell := hc j u hj
  obtain ⟨c, t, f, hb⟩ := cell_block hcell
  exact hg.cell hcell (fun e => ho b e.symm c t f hb)
theorem Lies.below {w w' : World} {v : Value} {n size : Nat} {xs : List Value} (h : Lies w v n size xs) (hB : Below w.heap.size w w') : Lies w' v n size xs :=
  h.grown (o := none) ⟨hB.os, hB.tape, hB.output, hB.size, fun k hk _ => hB.block k hk⟩ (fun _ e => by cases e)
theorem Lies.nil (w : World) (size : Nat) : Lies w (.slice none 0 0) 0 size [] := ⟨none, 0, rfl, Nat.le_refl _, ⟨Nat.zero_le _, fun _ => rfl⟩, by simp, fun h => absurd h (by omega)⟩
/-- a row of one's own -/
theorem Lies.own {w : World} {base n size : Nat} {e : TypeId} {v : Value} {xs : List Value} (h : w.ownsRow base e size v n xs) : Lies w v n size xs := by
  rcases h.2 with ⟨rfl, rfl⟩ | ⟨g, cap, cur, rfl, hb, hg, hn, hm, hs, ht⟩
  · exact ⟨none, 0, rfl, Nat.le_refl _, ⟨Nat.zero_le _, fun _ => rfl⟩, h.1, fun h => absurd h (by omega)⟩
  · refine ⟨_, cap, rfl, hn, ⟨hm, fun e => by cases e⟩, h.1, fun _ => ⟨g, 0, rfl, fun j u hj => ?_⟩⟩
    have hlt := (List.getElem?_eq_some_iff.1 hj).1
    rw [Nat.zero_add, h.cellAt j (by rw [← h.1]; exact hlt)]
    exact hj

theorem Lies.parts {w : World} {n size : Nat} {v : Value} {xs : List Value} (h : Lies w v n size xs) : ∃ a cap, v = .slice a n cap ∧ Hid (Lies w (.slice a n cap) n size xs) ∧ n ≤ cap ∧ cap ≤ 9223372036854775807 := by
  have h0 := h
  obtain ⟨a, cap, rfl, h2, h3, h4, h5⟩ := h
  have h3 := h3.1
  unfold maxLen at h3
  exact ⟨a, cap, rfl, h0, h2, by omega⟩
theorem lies_own {w : World} {base n size : Nat} {e : TypeId} {v : Value} {xs : List Value} (h : w.ownsRow base e size v n xs) : ∃ a cap, v = .slice a n cap ∧ Hid (Lies w (.slice a n cap) n size xs) ∧ n ≤ cap ∧ cap ≤ 9223372036854775807 := (Lies.own h).parts

theorem Lies.read {w : World} {n cap : Nat} {a : Option Addr} {xs : List Value} (h : Lies w (.slice a n cap) n 1 xs) {j : Nat} {u : Value} (hu : xs[j]? = some u) : ∃ b off, a = some ⟨b, off, none⟩ ∧ w.cell? ⟨b, off + j, none⟩ = some u := by
  obtain ⟨_, _, h1, _, _, h4, h5⟩ := h
  cases h1
  have := (List.getElem?_eq_some_iff.1 hu).1
  obtain ⟨b, off, e, hc⟩ := h5 (by omega)
  exact ⟨b, off, e, hc j u hu⟩
theorem Lies.drew {w : World} {v : Value} {n size : Nat} {xs : List Value} (h : Lies w v n size xs) : Lies w.drew v n size xs := h
theorem below_drew {B : Nat} {w w' : World} (h : Below B w w') : Below B w w'.drew := ⟨h.os, h.tape, h.output, h.size, h.block⟩

theorem Lies.tail {w : World} {n c b off : Nat} {u : Value} {xs : List Value} (h : Lies w (.slice (some ⟨b, off, none⟩) (n + 1) c) (n + 1) 1 (u :: xs)) : Lies w (.slice (some ⟨b, off + 1, none⟩) n (c - 1)) n 1 xs := by
  obtain ⟨_, _, h1, h2, h3, h4, h5⟩ := h
  cases h1
  refine ⟨_, _, rfl, by omega, ⟨by have := h3.1; unfold maxLen at this ⊢; omega, fun e => by cases e⟩, by simp at h4; omega, fun _ => ⟨b, off + 1, rfl, fun j u' hj => ?_⟩⟩
  obtain ⟨b2, off2, e, hc⟩ := h5 (by omega)
  cases e
  have := hc (j + 1) u' (by simpa using hj)
  rw [show off + 1 + j = off + (j + 1) from by omega]
  exact this
theorem Lies.tail1 {w : World} {n b off : Nat} {u : Value} {xs : List Value} (h : Lies w (.slice (some ⟨b, off, none⟩) (n + 1) 1) (n + 1) 1 (u :: xs)) (a : Option Addr) : Lies w (.slice a n 0) n 1 xs := by
  obtain ⟨_, _, h1, h2, h3, h4, h5⟩ := h
  cases h1
  obtain rfl : n = 0 := by omega
  exact ⟨_, _, rfl, Nat.le_refl _, ⟨Nat.zero_le _, fun _ => rfl⟩, by simp at h4; simp [h4], fun h => absurd h (by omega)⟩

/-- cutting off the first j -/
theorem slice_tail {P : Program} {t e : TypeId} (ht : P.underlying t = some (.slice e)) (hs : ∀ w, (sizeOf (P.elem t)).run P w = .ok 1 w) (a : Option Addr) (n cap j : Nat) (hj : j ≤ n) (hn : n ≤ cap) :
    ∃ a' : Option Addr, (∀ W, (Instr.slice t (.slice a n cap) (some (.int .i64 j)) none none).run P W = .ok (.slice a' (n - j) (cap - j)) W) ∧ ∀ W xs, Lies W (.slice a n cap) n 1 xs → Lies W (.slice a' (n - j) (cap - j)) (n - j) 1 (xs.drop j) := by
  refine ⟨if cap = j then a else a.map (·.add (j * 1)), fun W => ?_, fun W xs h => ?_⟩
  · have ht' : P.underlying t = some (.slice (P.elem t)) := by simp [Program.elem, ht]
    rw [run_slice_l (P := P) W t a n cap ht' .i64 (j : Int) (by omega) (by omega)]
    simp [hs, Result.andThen, sliced]
  · obtain ⟨a1, cap1, h1, h2, h3, h4, h5⟩ := h
    cases h1
    refine ⟨_, cap - j, rfl, by omega, ⟨by have := h3.1; unfold maxLen at this ⊢; omega, fun e => ?_⟩, by simp; omega, fun hp => ?_⟩
    · by_cases hc : cap = j
      · omega
      · rw [if_neg hc] at e
        have := h3.2 (by simpa using e)
        omega
    · obtain ⟨b, off, rfl, hc⟩ := h5 (by omega)
      refine ⟨b, off + j, by rw [if_neg (by omega)]; simp [Addr.add], fun i u hi => ?_⟩
      rw [List.getElem?_drop] at hi
      have := hc _ u hi
      rw [Nat.add_assoc]
      exact this
theorem Lies.none_cap {w : World} {n cap size : Nat} {xs : List Value} (h : Lies w (.slice none n cap) n size xs) : cap = 0 := by
  obtain ⟨_, _, h1, _, h3, _⟩ := h
  cases h1
  exact h3.2 rfl
theorem Lies.all {w w' : World} {n cap : Nat} {b off : Nat} {xs : List Value} (h : Lies w (.slice (some ⟨b, off, none⟩) n cap) n 1 xs) (hn : 0 < n) (hB : Below w.heap.size w w') : ∀ j u, xs[j]? = some u → w'.cell? ((⟨b, off, none⟩ : Addr).add j) = some u := fun j u hj => by
  obtain ⟨_, _, h1, _, _, _, h5⟩ := h.below hB
  cases h1
  obtain ⟨b2, off2, e, hc⟩ := h5 hn
  cases e
  rw [add_plain]
  exact hc j u hj

section
variable {H : Type} {enc : TypeId × Value → H} {w : World} {base fuel : Nat} {cs : List Value} {x : DataW H × List MemPlace} {t e : TypeId} {P : Program}
open Go.ChangeShapes Go.WideShapes


/-- strings that came in -/
theorem lies_strings (ht : P.underlying t = some (.slice e)) (he : P.underlying e = some .string) (hc : P.cellsOf e = 1) (h : DataW.trod enc P w base (fun _ => true) true fuel t cs = some x) :
    ∃ (v : Value) (L : List ByteArray), cs = [v] ∧ Lies w v L.length 1 (L.map .string) ∧ (∀ s ∈ L, s.size ≤ maxLen) := by
  rcases open_strings ht he hc h with ⟨rfl, rfl⟩ | ⟨a, len, cap, ss, rfl, _, hl, hm, hz, hx, hcell, hsz⟩
  · exact ⟨_, [], rfl, Lies.nil _ _, by simp⟩
  · simp only [if_true] at hz
    refine ⟨_, ss.take len, rfl, ⟨some a, cap, by rw [List.length_take, Nat.min_eq_left (by omega)], by simp; omega, ⟨hm, fun e => by cases e⟩, by simp, fun hp => ?_⟩, fun s hs => hsz s (List.mem_of_mem_take hs)⟩
    have hp : 0 < len := by rw [List.length_take] at hp; omega
    obtain ⟨b, off, spot⟩ := a
    obtain rfl : spot = none := by simpa [Addr.add] using World.cell?_spot (hcell 0 (by omega))
    refine ⟨b, off, rfl, fun j u hj => ?_⟩
    obtain ⟨s, hs, rfl⟩ : ∃ s, (ss.take len)[j]? = some s ∧ .string s = u := by rw [List.getElem?_map, Option.map_eq_some_iff] at hj; exact hj
    have hjl := (List.getElem?_eq_some_iff.1 hs).1
    rw [List.length_take] at hjl
    rw [List.getElem?_take, if_pos (by omega)] at hs
    have := hcell j (by omega)
    rw [add_plain] at this
    rw [this]
    simp [List.getD, hs]
/-- numbers that came in -/
theorem lies_ints {k : IntKind} (ht : P.underlying t = some (.slice e)) (he : P.underlying e = some (.int k)) (hc : P.cellsOf e = 1) (h : DataW.trod enc P w base (fun _ => true) true fuel t cs = some x) :
    ∃ (v : Value) (L : List Int), cs = [v] ∧ Lies w v L.length 1 (L.map (.int k)) ∧ (∀ n ∈ L, (Lit.int k n).wf = true) := by
  rcases open_ints ht he hc h with ⟨rfl, rfl⟩ | ⟨a, len, cap, ss, rfl, _, hl, hm, hz, hx, hcell, hsz⟩
  · exact ⟨_, [], rfl, Lies.nil _ _, by simp⟩
  · simp only [if_true] at hz
    refine ⟨_, ss.take len, rfl, ⟨some a, cap, by rw [List.length_take, Nat.min_eq_left (by omega)], by simp; omega, ⟨hm, fun e => by cases e⟩, by simp, fun hp => ?_⟩, fun s hs => hsz s (List.mem_of_mem_take hs)⟩
    have hp : 0 < len := by rw [List.length_take] at hp; omega
    obtain ⟨b, off, spot⟩ := a
    obtain rfl : spot = none := by simpa [Addr.add] using World.cell?_spot (hcell 0 (by omega))
    refine ⟨b, off, rfl, fun j u hj => ?_⟩
    obtain ⟨s, hs, rfl⟩ : ∃ s, (ss.take len)[j]? = some s ∧ .int k s = u := by rw [List.getElem?_map, Option.map_eq_some_iff] at hj; exact hj
    have hjl := (List.getElem?_eq_some_iff.1 hs).1
    rw [List.length_take] at hjl
    rw [List.getElem?_take, if_pos (by omega)] at hs
    have := hcell j (by omega)
    rw [add_plain] at this
    rw [this]
    simp [List.getD, hs]
end
end Go.Proofs.Ytghonccffmmjhaa
