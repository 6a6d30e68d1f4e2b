/- Laws on slices of elements of any number of cells that lie in a block of their own: copy, clear, append in place, each as an equation of its run. -/
import Derived.Laws.CopyOwn
import Derived.Laws.IdiomCopy
import Derived.Lib.SliceRun
import Derived.Lib.AppendZerosOnto
import Derived.Lib.Overlaps
import Derived.Laws.NewBlocks
import Derived.Deep.RegionLaw
import Derived.Test.YtdakfdecfpebcaaOnly
namespace Go.Proofs.Ytdakfdecfpebcaa
open Go.RowKit
set_option linter.unusedVariables false

theorem block_add (a : Addr) (j : Nat) : (a.add j).block = a.block := by unfold Addr.add; split <;> rfl

def Row (w : World) (g : Nat) (t : TypeId) (cur : List Value) : Prop := w.heap[g]? = some (.cells cur.toArray t (0, 0))
theorem Row.lt {w : World} {g : Nat} {t : TypeId} {cur : List Value} (h : Row w g t cur) : g < w.heap.size := (Array.getElem?_eq_some_iff.1 h).1
theorem Row.at_ {w : World} {g : Nat} {t : TypeId} {cur : List Value} (h : Row w g t cur) (j : Nat) : w.cell? ⟨g, j, none⟩ = cur[j]? := by
  rw [cell_of_row w g j _ _ _ h]; simp
theorem Row.frozen {w : World} {g : Nat} {t : TypeId} {cur : List Value} (h : Row w g t cur) (j : Nat) : w.frozen? ⟨g, j, none⟩ = false := by
  unfold Row at h
  simp [World.frozen?, h]
theorem Row.of_heap {w w' : World} {g : Nat} {t : TypeId} {cur : List Value} (h : Row w g t cur) (e : w'.heap[g]? = w.heap[g]?) : Row w' g t cur := e.trans h
theorem Row.set {w : World} {g : Nat} {t : TypeId} {cur : List Value} (h : Row w g t cur) (new : List Value) : Row (w.setRow g new.toArray) g t new := setRow_heap w g _ _ _ _ h
theorem Row.shape {w : World} {g : Nat} {t : TypeId} {cur : List Value} (h : Row w g t cur) : w.shape? g = some (t, cur.length) := by
  unfold Row at h
  simp [World.shape?, h]
theorem splice_ins (xs rest news : List Value) (i n sz : Nat) (hx : xs.length = n * sz) (hi : i ≤ n) (hn : news.length = sz) (hr : sz ≤ rest.length) :
    (splice (splice (xs ++ rest) ((i + 1) * sz) (xs.drop (i * sz))) (i * sz) news).take ((n + 1) * sz) = xs.take (i * sz) ++ news ++ xs.drop (i * sz) := by
  have h1 : i * sz ≤ n * sz := Nat.mul_le_mul_right _ hi
  have e1 : (i + 1) * sz = i * sz + sz := Nat.succ_mul i sz
  have e2 : (n + 1) * sz = n * sz + sz := Nat.succ_mul n sz
  have hd : (xs.drop (i * sz)).length = n * sz - i * sz := by rw [List.length_drop, hx]
  have ht : (xs.take (i * sz)).length = i * sz := by rw [List.length_take, hx]; omega
  rw [e1, e2]
  generalize i * sz = a at *
  generalize n * sz = b at *
  have hA : splice (xs ++ rest) (a + sz) (xs.drop a) = ((xs ++ rest).take (a + sz)) ++ (xs.drop a ++ (xs ++ rest).drop (a + sz + (b - a))) := by rw [splice, hd]
  rw [hA, splice]
  have hl : ((xs ++ rest).take (a + sz)).length = a + sz := by rw [List.length_take, List.length_append]; omega
  have e3 : (((xs ++ rest).take (a + sz)) ++ (xs.drop a ++ (xs ++ rest).drop (a + sz + (b - a)))).take a = xs.take a := by
    rw [List.take_append_of_le_length (by omega), List.take_take, Nat.min_eq_left (by omega), List.take_append_of_le_length (by omega)]
  have e4 : (((xs ++ rest).take (a + sz)) ++ (xs.drop a ++ (xs ++ rest).drop (a + sz + (b - a)))).drop (a + news.length) = xs.drop a ++ (xs ++ rest).drop (a + sz + (b - a)) := by
    rw [hn, List.drop_append_of_le_length (by omega), List.drop_eq_nil_of_le (by omega), List.nil_append]
  rw [e3, e4, ← List.append_assoc, ← List.append_assoc, List.take_append_of_le_length (by simp only [List.length_append]; omega), List.take_of_length_le (by simp only [List.length_append]; omega)]
theorem splice_new (xs row news : List Value) (i n sz : Nat) (hx : xs.length = n * sz) (hi : i ≤ n) (hn : news.length = sz) (ht : row.take (i * sz) = xs.take (i * sz)) (hr : (n + 1) * sz ≤ row.length) :
    (splice (splice row (i * sz) news) ((i + 1) * sz) (xs.drop (i * sz))).take ((n + 1) * sz) = xs.take (i * sz) ++ news ++ xs.drop (i * sz) := by
  have h1 : i * sz ≤ n * sz := Nat.mul_le_mul_right _ hi
  have e1 : (i + 1) * sz = i * sz + sz := Nat.succ_mul i sz
  have e2 : (n + 1) * sz = n * sz + sz := Nat.succ_mul n sz
  have hd : (xs.drop (i * sz)).length = n * sz - i * sz := by rw [List.length_drop, hx]
  have htl : (xs.take (i * sz)).length = i * sz := by rw [List.length_take, hx]; omega
  rw [e1, e2] at *
  generalize i * sz = a at *
  generalize n * sz = b at *
  rw [splice, splice, ht]
  have e3 : (xs.take a ++ (news ++ row.drop (a + news.length))).take (a + sz) = xs.take a ++ news := by
    rw [← List.append_assoc, List.take_append_of_le_length (by rw [List.length_append]; omega), List.take_of_length_le (by rw [List.length_append]; omega)]
  rw [e3, ← List.append_assoc, List.take_append_of_le_length (by simp only [List.length_append]; omega), List.take_of_length_le (by simp only [List.length_append]; omega)]
theorem grown_setRow (w : World) (g : Nat) (cs : Array Value) : w.grownBy (w.setRow g cs) (some g) := ⟨rfl, rfl, rfl, by simp [World.setRow], fun k _ hk => setRow_other w g k cs (fun e => hk (by rw [e]))⟩

/-- a slice's own row, told as what stands in its block -/
theorem row_of_own {w : World} {base n size g c : Nat} {e : TypeId} {xs : List Value} (h : w.ownsRow base e size (.slice (some ⟨g, 0, none⟩) n c) n xs) :
    ∃ rest, Row w g e (xs ++ rest) ∧ (xs ++ rest).length = c * size ∧ n ≤ c ∧ c ≤ maxLen ∧ xs.length = n * size ∧ base ≤ g := by
  rcases h.2 with ⟨hn, _⟩ | ⟨g', cap, cur, hv, hb, hg, h1, h2, h3, h4⟩
  · cases hn
  · simp only [Value.slice.injEq, Option.some.injEq, Addr.mk.injEq, and_true, true_and] at hv
    obtain ⟨rfl, rfl⟩ := hv
    refine ⟨cur.toList.drop (n * size), ?_, ?_, h1, h2, h.1, hb⟩
    · rw [← h4, List.take_append_drop]
      show _ = _
      rw [hg]
    · rw [← h4, List.take_append_drop, Array.length_toList, h3]
theorem own_of_row {w : World} {base n size g c : Nat} {e : TypeId} {xs rest : List Value} (h : Row w g e (xs ++ rest)) (hl : (xs ++ rest).length = c * size) (hn : n ≤ c) (hm : c ≤ maxLen) (hx : xs.length = n * size) (hb : base ≤ g) :
    w.ownsRow base e size (.slice (some ⟨g, 0, none⟩) n c) n xs :=
  ⟨hx, .inr ⟨g, c, (xs ++ rest).toArray, rfl, hb, h, hn, hm, by rw [List.size_toArray]; exact hl, by rw [← hx]; exact List.take_left⟩⟩

section
variable {P : Program}

theorem run_copyR (w : World) (dT sT ty elem : TypeId) (i : TypeInfo) (sz : Nat) (hu : P.underlying dT = some (.slice elem)) (hi : P.info? elem = some i) (hs : i.size = sz)
    (g o dLen dCap : Nat) (a : Addr) (sLen sCap : Nat) (cur : List Value) (t : TypeId) (cs : List Value) (hg : Row w g t cur) (hn : cs.length = Nat.min sLen dLen * sz)
    (hsrc : ∀ j v, cs[j]? = some v → w.cell? (a.add j) = some v) (hfit : o + cs.length ≤ cur.length) (h1 : ∀ v ∈ cs, v.oneCell' = true) :
    (Builtin.copy_ #[dT, sT] ty #[.slice (some ⟨g, o, none⟩) dLen dCap, .slice (some a) sLen sCap]).run P w = .ok (goInt (Nat.min sLen dLen)) (w.setRow g (splice cur o cs).toArray) := by
  subst hs
  have hl := run_loadCells_list (P := P) w a cs hsrc
  have hst := run_storeCells_at P g o t cs 0 cur.toArray w hg (by simpa using hfit) h1
  simp only [Nat.add_zero] at hst
  simp [Builtin.copy_, run_underlying hu, Builtin.lenOf, Builtin.firstCells, sizeOf, typeInfo, hi, ← hn, hl, hst, splice]

theorem run_clearR (w : World) (t e ty : TypeId) (z : Value) (ht : P.underlying t = some (.slice e)) (hv : ∀ w, (zeroValue e).run P w = .ok z w) (h1 : ∀ v ∈ (z.cells).toList, v.oneCell' = true) (hz0 : 0 < z.cells.size) (g o n c : Nat) (hn : 0 < n) (cur : List Value) (te : TypeId)
    (hg : Row w g te cur) (hfit : o + n * z.cells.size ≤ cur.length) :
    (Builtin.clear_ #[t] ty #[.slice (some ⟨g, o, none⟩) n c]).run P w = .ok (.tuple #[]) (w.setRow g (splice cur o (Builtin.zeroCells z.cells n).toList).toArray) := by
  have hst := run_storeCells_at P g o te (Builtin.zeroCells z.cells n).toList 0 cur.toArray w hg (by simp only [Nat.add_zero, Array.length_toList, size_zeroCells, List.size_toArray]; exact hfit) (by
    intro v hv'
    simp only [Builtin.zeroCells, Array.toList_map, List.mem_map] at hv'
    obtain ⟨j, _, rfl⟩ := hv'
    have hm : j % z.cells.size < z.cells.size := Nat.mod_lt _ hz0
    rw [getElem!_pos z.cells (j % z.cells.size) hm]
    exact h1 _ (by simp))
  simp only [Nat.add_zero] at hst
  obtain ⟨m, rfl⟩ : ∃ m, n = m + 1 := ⟨n - 1, by omega⟩
  simp [Builtin.clear_, run_underlying ht, hv, hst, splice]

theorem wp_copyR (w : World) {o : Oper} {a : Act} {K : Act → World → Prop} {Q : Exit → Act → World → Prop} (d s : Operand) (t t' : TypeId)
    (ho : o.op = .call { callee := .builtin .copy, args := #[d, s], argTypes := #[t, t'] }) (v u : Value) (hd : a.eval d = v) (hs : a.eval s = u) {v' : Value} {w' : World}
    (hr : (Builtin.copy_ #[t, t'] o.type #[v, u]).run P w = .ok v' w') (h : K (a.put o.dst v') w') : o.wp P a w K Q := by
  unfold Oper.wp execOp
  simp only [ho, resolve, invoke, builtin, Sem.run_bind, Sem.run_pure, Result.andThen_ok, List.map_toArray, List.map_cons, List.map_nil, hd, hs, hr]
  exact h
theorem wpList_copyR (w : World) {ops : Array Oper} {rest : List Oper} {o : Oper} {a : Act} {Q : Exit → Act → World → Prop} (hgd : o.guard = none) (d s : Operand) (t t' : TypeId)
    (ho : o.op = .call { callee := .builtin .copy, args := #[d, s], argTypes := #[t, t'] }) (v u : Value) (hd : a.eval d = v) (hs : a.eval s = u) {v' : Value} {w' : World}
    (hr : (Builtin.copy_ #[t, t'] o.type #[v, u]).run P w = .ok v' w') (h : wpList P ops Q rest (a.put o.dst v') w') : wpList P ops Q (o :: rest) a w :=
  wpList_plain hgd fun _ hK => wp_copyR w d s t t' ho v u hd hs hr (hK _ _ h)
theorem step_copyR {ops : Array Oper} {o : Oper} {a : Act} {w : World} {K : Act → World → Prop} {Q : Exit → Act → World → Prop} {E : Prop} (hg : o.guard = none) (d s : Operand) (t t' : TypeId)
    (ho : o.op = .call { callee := .builtin .copy, args := #[d, s], argTypes := #[t, t'] }) (v u : Value) (hd : a.eval d = v) (hs : a.eval s = u) {v' : Value} {w' : World}
    (hr : (Builtin.copy_ #[t, t'] o.type #[v, u]).run P w = .ok v' w') (hK : K (a.put o.dst v') w') : if Region.wanted o (yielded ops a.tmps) = true then Oper.wp P o a w K Q else E := by
  have hw : Region.wanted o (yielded ops a.tmps) = true := by simp [Region.wanted, hg]
  rw [if_pos hw]
  exact wp_copyR w d s t t' ho v u hd hs hr hK

theorem wp_appendR (w : World) {o : Oper} {a : Act} {K : Act → World → Prop} {Q : Exit → Act → World → Prop} (d s : Operand) (t t' : TypeId)
    (ho : o.op = .call { callee := .builtin .append, args := #[d, s], argTypes := #[t, t'] }) (v u : Value) (hd : a.eval d = v) (hs : a.eval s = u) {v' : Value} {w' : World}
    (hr : (Builtin.append_ #[t, t'] o.type #[v, u]).run P w = .ok v' w') (h : K (a.put o.dst v') w') : o.wp P a w K Q := by
  unfold Oper.wp execOp
  simp only [ho, resolve, invoke, builtin, Sem.run_bind, Sem.run_pure, Result.andThen_ok, List.map_toArray, List.map_cons, List.map_nil, hd, hs, hr]
  exact h
theorem wpList_appendR (w : World) {ops : Array Oper} {rest : List Oper} {o : Oper} {a : Act} {Q : Exit → Act → World → Prop} (hgd : o.guard = none) (d s : Operand) (t t' : TypeId)
    (ho : o.op = .call { callee := .builtin .append, args := #[d, s], argTypes := #[t, t'] }) (v u : Value) (hd : a.eval d = v) (hs : a.eval s = u) {v' : Value} {w' : World}
    (hr : (Builtin.append_ #[t, t'] o.type #[v, u]).run P w = .ok v' w') (h : wpList P ops Q rest (a.put o.dst v') w') : wpList P ops Q (o :: rest) a w :=
  wpList_plain hgd fun _ hK => wp_appendR w d s t t' ho v u hd hs hr (hK _ _ h)
theorem step_appendR {ops : Array Oper} {o : Oper} {a : Act} {w : World} {K : Act → World → Prop} {Q : Exit → Act → World → Prop} {E : Prop} (hg : o.guard = none) (d s : Operand) (t t' : TypeId)
    (ho : o.op = .call { callee := .builtin .append, args := #[d, s], argTypes := #[t, t'] }) (v u : Value) (hd : a.eval d = v) (hs : a.eval s = u) {v' : Value} {w' : World}
    (hr : (Builtin.append_ #[t, t'] o.type #[v, u]).run P w = .ok v' w') (hK : K (a.put o.dst v') w') : if Region.wanted o (yielded ops a.tmps) = true then Oper.wp P o a w K Q else E := by
  have hw : Region.wanted o (yielded ops a.tmps) = true := by simp [Region.wanted, hg]
  rw [if_pos hw]
  exact wp_appendR w d s t t' ho v u hd hs hr hK

theorem wpList_clearR (w : World) {ops : Array Oper} {rest : List Oper} {o : Oper} {a : Act} {Q : Exit → Act → World → Prop} (hgd : o.guard = none) (x : Operand) (t : TypeId)
    (ho : o.op = .call { callee := .builtin .clear, args := #[x], argTypes := #[t] }) (v : Value) (hx : a.eval x = v) {v' : Value} {w' : World}
    (hr : (Builtin.clear_ #[t] o.type #[v]).run P w = .ok v' w') (h : wpList P ops Q rest (a.put o.dst v') w') : wpList P ops Q (o :: rest) a w :=
  wpList_plain hgd fun _ hK => by
    unfold Oper.wp execOp
    simp only [ho, resolve, invoke, builtin, Sem.run_bind, Sem.run_pure, Result.andThen_ok, List.map_toArray, List.map_cons, List.map_nil, hx, hr]
    exact hK _ _ h

end

end Go.Proofs.Ytdakfdecfpebcaa
