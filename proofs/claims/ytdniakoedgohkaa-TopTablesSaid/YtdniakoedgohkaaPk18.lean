/- Several texts in one, each under its own heading. -/
import Derived.Test.YtdniakoedgohkaaPk17
import Derived.Laws.CopyOwn
import Derived.Laws.IdiomCopy
import Derived.Lib.SliceRun
import Derived.Lib.AppendZerosOnto
import Derived.Lib.Overlaps
import Derived.Laws.NewBlocks
import Derived.Deep.RegionLaw
import Derived.Test.YtdniakoedgohkaaPk07
/- The library's Chunk hands out a table's places, thirty-one at a time. -/
namespace Go.Proofs.Ytdniakoedgohkaa.Dat
open Go.RowKit
attribute [local go_sem] Oper.semAt_some
set_option linter.unusedVariables false

/-- how long the k-th piece is, and where it lies -/
def chN (N k : Nat) : Nat := min 31 (N - 31 * k)
def chEnc (b off N k : Nat) : Array Value := #[.slice (some ⟨b, off + 31 * k * 3, none⟩) (chN N k) (chN N k)]
section
set_option maxRecDepth 100000
set_option maxHeartbeats 4000000
theorem chunk1_in (n : Nat) (hn : 1 ≤ n) (l Bx By b off cap N : Nat) (L : List T) (hN : L.length = N) (hN0 : 0 < N) (hN9 : N ≤ 100000) (J Jx : Nat → World → Prop) (B0 : Nat) (hJ : AbidesFrom B0 J)
    (hY : ∀ k W, J k W → 31 * k < N → YieldAt Fence.wide (n - 1) Try.prog l (chEnc b off N k) W fun e W' => (e = .returned (.bool true) ∧ J (k + 1) W' ∧ Same [Bx, By] W W') ∨ (e = .returned (.bool false) ∧ Jx k W'))
    (W : World) (hbx : W.cell? ⟨Bx, 0, none⟩ = some (.slice (some ⟨b, off, none⟩) N cap)) (hby : W.cell? ⟨By, 0, none⟩ = some (.int .i64 31)) (hcap : N ≤ cap) (hcap2 : cap ≤ 9223372036854775807) (h0 : J 0 W) :
    CallsIn Fence.wide n Try.prog 70 #[.func (.yield l) #[] #[], .pointer (some ⟨Bx, 0, none⟩), .pointer (some ⟨By, 0, none⟩)] W fun e W' => (∃ v, e = .returned v) ∧ (J ((N + 30) / 31) W' ∨ ∃ k, k < (N + 30) / 31 ∧ Jx k W') := by
  have hfn : ∀ f, Fence.wide.fn f := fun _ => trivial
  have hJa : ∀ k W1 W2, J k W1 → Below W1.heap.size W1 W2 → J k W2 := fun k W1 W2 h hB => hJ _ _ _ none h (grown_of_below hB) (fun r e => by cases e)
  have hlt := World.block_lt_of_cell? _ _ hbx
  have hlt2 := World.block_lt_of_cell? _ _ hby
  have HA := Lib.hid hJa
  have HY := Lib.hid hY
  have HX := Lib.hid (fun W' (h : Same [Bx, By] W W') => And.intro ((h.cell (p := ⟨Bx, 0, none⟩) (by simp)).trans hbx) ((h.cell (p := ⟨By, 0, none⟩) (by simp)).trans hby))
  clear hJa hY hJ hN hbx hby
  refine callsIn_of_wp Try.func70 rfl trivial ?_ rfl
  simp only [Try.ntmps70, List.size_toArray, List.length_cons, List.length_nil, Nat.reduceAdd, Nat.reduceSub, Array.replicate_succ, Array.replicate_zero, List.push_toArray, List.append_toArray, List.nil_append, List.cons_append]
  gi_wp2
  gi_loopw [4, 5] (fun i _ wr => ∃ k : Nat, 31 * k < N + 31 ∧ i = .int .i64 ((31 * k : Nat) : Int) ∧ J k wr ∧ Same [Bx, By] W wr) (fun i _ _ => N + 31 - (intOf i).toNat)
  case atStart => exact ⟨0, by omega, rfl, h0, Same.refl _ _⟩
  case round =>
    obtain ⟨k, hk, rfl, hJk, hS⟩ := hrel
    obtain ⟨c0, c1⟩ := HX.out _ hS
    obtain ⟨i, hi⟩ : ∃ i, 31 * k = i := ⟨_, rfl⟩
    rw [hi]
    by_cases hltk : i < N
    · have d0 : wr.drew.cell? ⟨Bx, 0, none⟩ = some (.slice (some ⟨b, off, none⟩) N cap) := c0
      have d1 : wr.drew.cell? ⟨By, 0, none⟩ = some (.int .i64 31) := c1
      obtain ⟨m, hm⟩ : ∃ m, chN N k = m := ⟨_, rfl⟩
      have hm2 : m = min 31 (N - i) := by rw [← hm, ← hi]; rfl
      have hmin : (if ((N - i : Nat) : Int) < 31 then ((N - i : Nat) : Int) else 31) = (m : Int) := by rw [hm2]; split <;> omega
      have hsub : (N : Int) - (i : Int) = ((N - i : Nat) : Int) := by omega
      have hwm : IntKind.i64.wrap ((i : Int) + (m : Int)) = (i : Int) + (m : Int) := by rw [IntKind.wrap_i64]; omega
      have hw31 : IntKind.i64.wrap ((i : Int) + 31) = (i : Int) + 31 := by rw [IntKind.wrap_i64]; omega
      have hb1 : (i : Int) + (m : Int) ≤ (cap : Int) := by omega
      have hb2 : i ≤ cap := by omega
      have hb3 : i ≤ N := by omega
      have hb4 : (i : Int) ≤ (i : Int) + (m : Int) := by omega
      have hne : ¬ cap = i := by omega
      gi_wp2
      refine wpIn_wide.2 ?_
      go_quiet (fail)
      obtain ⟨V, hV⟩ : ∃ V, wr.drewN nq = V := ⟨_, rfl⟩
      have e0 : V.cell? ⟨Bx, 0, none⟩ = some (.slice (some ⟨b, off, none⟩) N cap) := by rw [← hV]; exact c0
      have e1 : V.cell? ⟨By, 0, none⟩ = some (.int .i64 31) := by rw [← hV]; exact c1
      have hBV : Below wr.heap.size wr V := by rw [← hV]; exact below_drewN (Below.refl _ _) _
      have HSV := Lib.hid (show Same [Bx, By] W V from hS.trans (by rw [← hV]; exact fun _ _ => rfl))
      have hJV := HA.out _ _ _ hJk hBV
      obtain ⟨fn, tmps, assign, body, hy, hR⟩ := HY.out k V hJV (by omega)
      have henc : chEnc b off N k = #[.slice (some ⟨b, off + i * 3, none⟩) m m] := by unfold chEnc; rw [hm, hi]
      rw [henc] at hy
      first | rw [hV, ← hm2] | rw [hV, show min (31 : Int) ((N - i : Nat) : Int) = (m : Int) by omega]
      have hm31 : m ≤ 31 := by omega
      have hm1 : 1 ≤ m := by omega
      have hm0 : ¬ m = 0 := by omega
      have hmi : ¬ i + m = i := by omega
      clear hV hBV hJV hJk henc hm d0 d1 c0 c1 hS hmin hm2
      have hnat : i + m - i = m := by omega
      have hk1 : i + 31 = 31 * (k + 1) := by omega
      have HK1 := Lib.hid hk1
      have HI := Lib.hid hi
      clear hi hk1
      gi_wp2
      refine hR.mono ?_
      rintro e W3 (⟨rfl, hJ3, hk3⟩ | ⟨rfl, hJx3⟩)
      · obtain ⟨q0, q1⟩ := HX.out W3 (HSV.out.trans hk3)
        gi_wp2
        go_roundw
        case rel => exact ⟨k + 1, by have := HI.out; omega, by rw [← HK1.out]; go_num, hJ3, HSV.out.trans hk3⟩
        case measure => simp [intOf]; omega
      · gi_wp2
        refine bodyPost_ret (results_none rfl _ _ _) rfl ?_
        exact ⟨⟨_, rfl⟩, .inr ⟨k, by have := HI.out; omega, hJx3⟩⟩
    · have hkk : (N + 30) / 31 = k := by omega
      have HJ : Hid (J ((N + 30) / 31) wr) := by rw [hkk]; exact hJk
      clear hi hJk hkk
      gi_wp2
      go_end0
      exact ⟨⟨_, rfl⟩, .inl HJ.out⟩
theorem chunk_in (n : Nat) (a : Option Addr) (N cap : Nat) (w : World) :
    CallsIn Fence.wide n Try.prog 46 #[.slice a N cap, .int .i64 31] w fun e w' => e = .returned (.func (.func 70) #[] #[.pointer (some ⟨w.heap.size, 0, none⟩), .pointer (some ⟨w.heap.size + 1, 0, none⟩)]) ∧ (w.alloc (.cells #[.slice a N cap] 36)).alloc (.cells #[.int .i64 31] 3) = w' := by
  refine callsIn_of_wp Try.func46 rfl trivial ?_ rfl
  simp only [Try.ntmps46, List.size_toArray, List.length_cons, List.length_nil, Nat.reduceAdd, Nat.reduceSub, Array.replicate_succ, Array.replicate_zero, List.push_toArray, List.append_toArray, List.nil_append, List.cons_append]
  gi_wp2
  go_ret
  exact ⟨rfl, rfl⟩
end
end Go.Proofs.Ytdniakoedgohkaa.Dat
/- Laws on slices of elements of any number of cells that lie in a block of their own: copy, clear, append in place, each as an equation of its run. -/
namespace Go.Proofs.Ytdniakoedgohkaa
open Go.RowKit
set_option linter.unusedVariables false

theorem block_add (a : Addr) (j : Nat) : (a.add j).block = a.block := by unfold Addr.add; split <;> rfl

def Row (w : World) (g : Nat) (t : TypeId) (cur : List Value) : Prop := w.heap[g]? = some (.cells cur.toArray t (0, 0))
theorem Row.lt {w : World} {g : Nat} {t : TypeId} {cur : List Value} (h : Row w g t cur) : g < w.heap.size := (Array.getElem?_eq_some_iff.1 h).1
theorem Row.at_ {w : World} {g : Nat} {t : TypeId} {cur : List Value} (h : Row w g t cur) (j : Nat) : w.cell? ⟨g, j, none⟩ = cur[j]? := by
  rw [cell_of_row w g j _ _ _ h]; simp
theorem Row.frozen {w : World} {g : Nat} {t : TypeId} {cur : List Value} (h : Row w g t cur) (j : Nat) : w.frozen? ⟨g, j, none⟩ = false := by
  unfold Row at h
  simp [World.frozen?, h]
theorem Row.of_heap {w w' : World} {g : Nat} {t : TypeId} {cur : List Value} (h : Row w g t cur) (e : w'.heap[g]? = w.heap[g]?) : Row w' g t cur := e.trans h
theorem Row.set {w : World} {g : Nat} {t : TypeId} {cur : List Value} (h : Row w g t cur) (new : List Value) : Row (w.setRow g new.toArray) g t new := setRow_heap w g _ _ _ _ h
theorem Row.shape {w : World} {g : Nat} {t : TypeId} {cur : List Value} (h : Row w g t cur) : w.shape? g = some (t, cur.length) := by
  unfold Row at h
  simp [World.shape?, h]
theorem splice_ins (xs rest news : List Value) (i n sz : Nat) (hx : xs.length = n * sz) (hi : i ≤ n) (hn : news.length = sz) (hr : sz ≤ rest.length) :
    (splice (splice (xs ++ rest) ((i + 1) * sz) (xs.drop (i * sz))) (i * sz) news).take ((n + 1) * sz) = xs.take (i * sz) ++ news ++ xs.drop (i * sz) := by
  have h1 : i * sz ≤ n * sz := Nat.mul_le_mul_right _ hi
  have e1 : (i + 1) * sz = i * sz + sz := Nat.succ_mul i sz
  have e2 : (n + 1) * sz = n * sz + sz := Nat.succ_mul n sz
  have hd : (xs.drop (i * sz)).length = n * sz - i * sz := by rw [List.length_drop, hx]
  have ht : (xs.take (i * sz)).length = i * sz := by rw [List.length_take, hx]; omega
  rw [e1, e2]
  generalize i * sz = a at *
  generalize n * sz = b at *
  have hA : splice (xs ++ rest) (a + sz) (xs.drop a) = ((xs ++ rest).take (a + sz)) ++ (xs.drop a ++ (xs ++ rest).drop (a + sz + (b - a))) := by rw [splice, hd]
  rw [hA, splice]
  have hl : ((xs ++ rest).take (a + sz)).length = a + sz := by rw [List.length_take, List.length_append]; omega
  have e3 : (((xs ++ rest).take (a + sz)) ++ (xs.drop a ++ (xs ++ rest).drop (a + sz + (b - a)))).take a = xs.take a := by
    rw [List.take_append_of_le_length (by omega), List.take_take, Nat.min_eq_left (by omega), List.take_append_of_le_length (by omega)]
  have e4 : (((xs ++ rest).take (a + sz)) ++ (xs.drop a ++ (xs ++ rest).drop (a + sz + (b - a)))).drop (a + news.length) = xs.drop a ++ (xs ++ rest).drop (a + sz + (b - a)) := by
    rw [hn, List.drop_append_of_le_length (by omega), List.drop_eq_nil_of_le (by omega), List.nil_append]
  rw [e3, e4, ← List.append_assoc, ← List.append_assoc, List.take_append_of_le_length (by simp only [List.length_append]; omega), List.take_of_length_le (by simp only [List.length_append]; omega)]
theorem splice_new (xs row news : List Value) (i n sz : Nat) (hx : xs.length = n * sz) (hi : i ≤ n) (hn : news.length = sz) (ht : row.take (i * sz) = xs.take (i * sz)) (hr : (n + 1) * sz ≤ row.length) :
    (splice (splice row (i * sz) news) ((i + 1) * sz) (xs.drop (i * sz))).take ((n + 1) * sz) = xs.take (i * sz) ++ news ++ xs.drop (i * sz) := by
  have h1 : i * sz ≤ n * sz := Nat.mul_le_mul_right _ hi
  have e1 : (i + 1) * sz = i * sz + sz := Nat.succ_mul i sz
  have e2 : (n + 1) * sz = n * sz + sz := Nat.succ_mul n sz
  have hd : (xs.drop (i * sz)).length = n * sz - i * sz := by rw [List.length_drop, hx]
  have htl : (xs.take (i * sz)).length = i * sz := by rw [List.length_take, hx]; omega
  rw [e1, e2] at *
  generalize i * sz = a at *
  generalize n * sz = b at *
  rw [splice, splice, ht]
  have e3 : (xs.take a ++ (news ++ row.drop (a + news.length))).take (a + sz) = xs.take a ++ news := by
    rw [← List.append_assoc, List.take_append_of_le_length (by rw [List.length_append]; omega), List.take_of_length_le (by rw [List.length_append]; omega)]
  rw [e3, ← List.append_assoc, List.take_append_of_le_length (by simp only [List.length_append]; omega), List.take_of_length_le (by simp only [List.length_append]; omega)]
theorem grown_setRow (w : World) (g : Nat) (cs : Array Value) : w.grownBy (w.setRow g cs) (some g) := ⟨rfl, rfl, rfl, by simp [World.setRow], fun k _ hk => setRow_other w g k cs (fun e => hk (by rw [e]))⟩

/-- a slice's own row, told as what stands in its block -/
theorem row_of_own {w : World} {base n size g c : Nat} {e : TypeId} {xs : List Value} (h : w.ownsRow base e size (.slice (some ⟨g, 0, none⟩) n c) n xs) :
    ∃ rest, Row w g e (xs ++ rest) ∧ (xs ++ rest).length = c * size ∧ n ≤ c ∧ c ≤ maxLen ∧ xs.length = n * size ∧ base ≤ g := by
  rcases h.2 with ⟨hn, _⟩ | ⟨g', cap, cur, hv, hb, hg, h1, h2, h3, h4⟩
  · cases hn
  · simp only [Value.slice.injEq, Option.some.injEq, Addr.mk.injEq, and_true, true_and] at hv
    obtain ⟨rfl, rfl⟩ := hv
    refine ⟨cur.toList.drop (n * size), ?_, ?_, h1, h2, h.1, hb⟩
    · rw [← h4, List.take_append_drop]
      show _ = _
      rw [hg]
    · rw [← h4, List.take_append_drop, Array.length_toList, h3]
theorem own_of_row {w : World} {base n size g c : Nat} {e : TypeId} {xs rest : List Value} (h : Row w g e (xs ++ rest)) (hl : (xs ++ rest).length = c * size) (hn : n ≤ c) (hm : c ≤ maxLen) (hx : xs.length = n * size) (hb : base ≤ g) :
    w.ownsRow base e size (.slice (some ⟨g, 0, none⟩) n c) n xs :=
  ⟨hx, .inr ⟨g, c, (xs ++ rest).toArray, rfl, hb, h, hn, hm, by rw [List.size_toArray]; exact hl, by rw [← hx]; exact List.take_left⟩⟩

section
variable {P : Program}

theorem run_copyR (w : World) (dT sT ty elem : TypeId) (i : TypeInfo) (sz : Nat) (hu : P.underlying dT = some (.slice elem)) (hi : P.info? elem = some i) (hs : i.size = sz)
    (g o dLen dCap : Nat) (a : Addr) (sLen sCap : Nat) (cur : List Value) (t : TypeId) (cs : List Value) (hg : Row w g t cur) (hn : cs.length = Nat.min sLen dLen * sz)
    (hsrc : ∀ j v, cs[j]? = some v → w.cell? (a.add j) = some v) (hfit : o + cs.length ≤ cur.length) (h1 : ∀ v ∈ cs, v.oneCell' = true) :
    (Builtin.copy_ #[dT, sT] ty #[.slice (some ⟨g, o, none⟩) dLen dCap, .slice (some a) sLen sCap]).run P w = .ok (goInt (Nat.min sLen dLen)) (w.setRow g (splice cur o cs).toArray) := by
  subst hs
  have hl := run_loadCells_list (P := P) w a cs hsrc
  have hst := run_storeCells_at P g o t cs 0 cur.toArray w hg (by simpa using hfit) h1
  simp only [Nat.add_zero] at hst
  simp [Builtin.copy_, run_underlying hu, Builtin.lenOf, Builtin.firstCells, sizeOf, typeInfo, hi, ← hn, hl, hst, splice]

theorem run_clearR (w : World) (t e ty : TypeId) (z : Value) (ht : P.underlying t = some (.slice e)) (hv : ∀ w, (zeroValue e).run P w = .ok z w) (h1 : ∀ v ∈ (z.cells).toList, v.oneCell' = true) (hz0 : 0 < z.cells.size) (g o n c : Nat) (hn : 0 < n) (cur : List Value) (te : TypeId)
    (hg : Row w g te cur) (hfit : o + n * z.cells.size ≤ cur.length) :
    (Builtin.clear_ #[t] ty #[.slice (some ⟨g, o, none⟩) n c]).run P w = .ok (.tuple #[]) (w.setRow g (splice cur o (Builtin.zeroCells z.cells n).toList).toArray) := by
  have hst := run_storeCells_at P g o te (Builtin.zeroCells z.cells n).toList 0 cur.toArray w hg (by simp only [Nat.add_zero, Array.length_toList, size_zeroCells, List.size_toArray]; exact hfit) (by
    intro v hv'
    simp only [Builtin.zeroCells, Array.toList_map, List.mem_map] at hv'
    obtain ⟨j, _, rfl⟩ := hv'
    have hm : j % z.cells.size < z.cells.size := Nat.mod_lt _ hz0
    rw [getElem!_pos z.cells (j % z.cells.size) hm]
    exact h1 _ (by simp))
  simp only [Nat.add_zero] at hst
  obtain ⟨m, rfl⟩ : ∃ m, n = m + 1 := ⟨n - 1, by omega⟩
  simp [Builtin.clear_, run_underlying ht, hv, hst, splice]

theorem wp_copyR (w : World) {o : Oper} {a : Act} {K : Act → World → Prop} {Q : Exit → Act → World → Prop} (d s : Operand) (t t' : TypeId)
    (ho : o.op = .call { callee := .builtin .copy, args := #[d, s], argTypes := #[t, t'] }) (v u : Value) (hd : a.eval d = v) (hs : a.eval s = u) {v' : Value} {w' : World}
    (hr : (Builtin.copy_ #[t, t'] o.type #[v, u]).run P w = .ok v' w') (h : K (a.put o.dst v') w') : o.wp P a w K Q := by
  unfold Oper.wp execOp
  simp only [ho, resolve, invoke, builtin, Sem.run_bind, Sem.run_pure, Result.andThen_ok, List.map_toArray, List.map_cons, List.map_nil, hd, hs, hr]
  exact h
theorem wpList_copyR (w : World) {ops : Array Oper} {rest : List Oper} {o : Oper} {a : Act} {Q : Exit → Act → World → Prop} (hgd : o.guard = none) (d s : Operand) (t t' : TypeId)
    (ho : o.op = .call { callee := .builtin .copy, args := #[d, s], argTypes := #[t, t'] }) (v u : Value) (hd : a.eval d = v) (hs : a.eval s = u) {v' : Value} {w' : World}
    (hr : (Builtin.copy_ #[t, t'] o.type #[v, u]).run P w = .ok v' w') (h : wpList P ops Q rest (a.put o.dst v') w') : wpList P ops Q (o :: rest) a w :=
  wpList_plain hgd fun _ hK => wp_copyR w d s t t' ho v u hd hs hr (hK _ _ h)
theorem step_copyR {ops : Array Oper} {o : Oper} {a : Act} {w : World} {K : Act → World → Prop} {Q : Exit → Act → World → Prop} {E : Prop} (hg : o.guard = none) (d s : Operand) (t t' : TypeId)
    (ho : o.op = .call { callee := .builtin .copy, args := #[d, s], argTypes := #[t, t'] }) (v u : Value) (hd : a.eval d = v) (hs : a.eval s = u) {v' : Value} {w' : World}
    (hr : (Builtin.copy_ #[t, t'] o.type #[v, u]).run P w = .ok v' w') (hK : K (a.put o.dst v') w') : if Region.wanted o (yielded ops a.tmps) = true then Oper.wp P o a w K Q else E := by
  have hw : Region.wanted o (yielded ops a.tmps) = true := by simp [Region.wanted, hg]
  rw [if_pos hw]
  exact wp_copyR w d s t t' ho v u hd hs hr hK

theorem wp_appendR (w : World) {o : Oper} {a : Act} {K : Act → World → Prop} {Q : Exit → Act → World → Prop} (d s : Operand) (t t' : TypeId)
    (ho : o.op = .call { callee := .builtin .append, args := #[d, s], argTypes := #[t, t'] }) (v u : Value) (hd : a.eval d = v) (hs : a.eval s = u) {v' : Value} {w' : World}
    (hr : (Builtin.append_ #[t, t'] o.type #[v, u]).run P w = .ok v' w') (h : K (a.put o.dst v') w') : o.wp P a w K Q := by
  unfold Oper.wp execOp
  simp only [ho, resolve, invoke, builtin, Sem.run_bind, Sem.run_pure, Result.andThen_ok, List.map_toArray, List.map_cons, List.map_nil, hd, hs, hr]
  exact h
theorem wpList_appendR (w : World) {ops : Array Oper} {rest : List Oper} {o : Oper} {a : Act} {Q : Exit → Act → World → Prop} (hgd : o.guard = none) (d s : Operand) (t t' : TypeId)
    (ho : o.op = .call { callee := .builtin .append, args := #[d, s], argTypes := #[t, t'] }) (v u : Value) (hd : a.eval d = v) (hs : a.eval s = u) {v' : Value} {w' : World}
    (hr : (Builtin.append_ #[t, t'] o.type #[v, u]).run P w = .ok v' w') (h : wpList P ops Q rest (a.put o.dst v') w') : wpList P ops Q (o :: rest) a w :=
  wpList_plain hgd fun _ hK => wp_appendR w d s t t' ho v u hd hs hr (hK _ _ h)
theorem step_appendR {ops : Array Oper} {o : Oper} {a : Act} {w : World} {K : Act → World → Prop} {Q : Exit → Act → World → Prop} {E : Prop} (hg : o.guard = none) (d s : Operand) (t t' : TypeId)
    (ho : o.op = .call { callee := .builtin .append, args := #[d, s], argTypes := #[t, t'] }) (v u : Value) (hd : a.eval d = v) (hs : a.eval s = u) {v' : Value} {w' : World}
    (hr : (Builtin.append_ #[t, t'] o.type #[v, u]).run P w = .ok v' w') (hK : K (a.put o.dst v') w') : if Region.wanted o (yielded ops a.tmps) = true then Oper.wp P o a w K Q else E := by
  have hw : Region.wanted o (yielded ops a.tmps) = true := by simp [Region.wanted, hg]
  rw [if_pos hw]
  exact wp_appendR w d s t t' ho v u hd hs hr hK

theorem wpList_clearR (w : World) {ops : Array Oper} {rest : List Oper} {o : Oper} {a : Act} {Q : Exit → Act → World → Prop} (hgd : o.guard = none) (x : Operand) (t : TypeId)
    (ho : o.op = .call { callee := .builtin .clear, args := #[x], argTypes := #[t] }) (v : Value) (hx : a.eval x = v) {v' : Value} {w' : World}
    (hr : (Builtin.clear_ #[t] o.type #[v]).run P w = .ok v' w') (h : wpList P ops Q rest (a.put o.dst v') w') : wpList P ops Q (o :: rest) a w :=
  wpList_plain hgd fun _ hK => by
    unfold Oper.wp execOp
    simp only [ho, resolve, invoke, builtin, Sem.run_bind, Sem.run_pure, Result.andThen_ok, List.map_toArray, List.map_cons, List.map_nil, hx, hr]
    exact hK _ _ h

end

end Go.Proofs.Ytdniakoedgohkaa
/- The lowest free place, and a table without free places at its end, of the program. -/
namespace Go.Proofs.Ytdniakoedgohkaa.Dat
open Go.RowKit Go.Shelf
attribute [local go_sem] Oper.semAt_some
set_option linter.unusedVariables false

theorem wide_scope {n : Nat} {P : Program} {c : Code} {Q : Exit → Act → World → Prop} {a : Act} {w : World} (h : c.wpIn Fence.wide n P (Exit.noGoto Q) a w) : (Code.scope c).wpIn Fence.wide n P Q a w := wpIn_wide.2 (wp_scope_straight (wpIn_wide.1 h))
theorem wide_label {n l : Nat} {P : Program} {Q : Exit → Act → World → Prop} {a : Act} {w : World} (h : Q .normal a w) : (Code.label l).wpIn Fence.wide n P Q a w := wpIn_wide.2 (wp_label h)
theorem below_putObj {n : Nat} {w W : World} (h : Below n w W) (D : Nat) (hD : n ≤ D) (o : Obj) : Below n w (W.putObj D o) := ⟨h.1, h.2, h.3, by simpa [World.putObj] using h.4, fun k hk => (World.putObj_heap_other (by omega)).trans (h.5 k hk)⟩
theorem results_tmp1 {fn : Func} {r : Tmp} (h : fn.results = #[.tmp r]) (tmps : Array Value) (w : World) : (results fn tmps).run Try.prog w = .ok (tmps.getD r undef) w := by
  simp [results, h, go_sem]
/-- a number lies at block q -/
def IntAt (W : World) (q : Nat) (n : Nat) : Prop := W.heap[q]? = some (.cells #[.int .i64 n] 3 (0, 0))
theorem IntAt.c {W : World} {q n : Nat} (h : IntAt W q n) : W.cell? ⟨q, 0, none⟩ = some (.int .i64 n) := by unfold IntAt at h; simp only [World.cell?, h]; rfl
theorem IntAt.f {W : World} {q n : Nat} (h : IntAt W q n) : W.frozen? ⟨q, 0, none⟩ = false := by unfold IntAt at h; simp [World.frozen?, h]
theorem IntAt.put {W : World} {q n : Nat} (h : IntAt W q n) (m : Nat) : IntAt (W.setCell ⟨q, 0, none⟩ (.int .i64 m)) q m := by unfold IntAt at h ⊢; rw [heap_setCell_same W q 0 _ _ (.int .i64 m) h]; rfl
theorem IntAt.lt {W : World} {q n : Nat} (h : IntAt W q n) : q < W.heap.size := (Array.getElem?_eq_some_iff.1 h).1
theorem IntAt.new (w : World) (n : Nat) : IntAt (w.alloc (.cells #[.int .i64 n] 3)) w.heap.size n := World.alloc_heap_new w _
theorem IntAt.of_heap {W W' : World} {q n : Nat} (h : IntAt W q n) (hb : W'.heap[q]? = W.heap[q]?) : IntAt W' q n := hb.trans h
theorem IntAt.alloc {W : World} {q n : Nat} (h : IntAt W q n) (o : Obj) : IntAt (W.alloc o) q n := h.of_heap (Below.heap_alloc _ _ _ h.lt)
/-- what a loop that writes one number comes to -/
def OneI (W0 : World) (q : Nat) (P : Nat → Prop) (cur : Nat → Nat) (k : Nat) (W : World) : Prop := P k ∧ Only (fun i => i = q) W0 W ∧ IntAt W q (cur k)
theorem oneI_own {W0 : World} {q : Nat} {P : Nat → Prop} {cur : Nat → Nat} : OwnFrom W0.heap.size (OneI W0 q P cur) := fun k W W' row hI hg hr =>
  ⟨hI.1, hI.2.1.grown hg (fun r e => .inl (hr r e).1), kept_cells hI.2.2 hg hr⟩
def OneX (W0 : World) (q : Nat) (P E : Nat → Prop) (cur : Nat → Nat) (c : Code) (k : Nat) (W : World) : Prop := c = .exit 0 ∧ E k ∧ OneI W0 q P cur k W
theorem oneX_own {W0 : World} {q : Nat} {P E : Nat → Prop} {cur : Nat → Nat} (c : Code) : OwnFrom W0.heap.size (OneX W0 q P E cur c) := fun k W W' row hI hg hr => ⟨hI.1, hI.2.1, oneI_own k W W' row hI.2.2 hg hr⟩
def ActA (tmps : Nat → Array Value) (k : Nat) (a' : Act) (W : World) : Prop := a' = { tmps := tmps k, defers := [] }
theorem actA_own {tmps : Nat → Array Value} {B : Nat} (k : Nat) (a' : Act) : OwnFrom B (fun (_ : Unit) W => ActA tmps k a' W) := fun _ W W' row hI hg hr => hI
theorem below_one {w W0 W : World} {q : Nat} (h0 : Below w.heap.size w W0) (hq : w.heap.size ≤ q) (h : Only (fun i => i = q) W0 W) : Below w.heap.size w W :=
  h0.trans (h.below h0.size (by rintro j rfl; exact hq))

section
set_option maxRecDepth 100000
set_option maxHeartbeats 4000000
end
end Go.Proofs.Ytdniakoedgohkaa.Dat
