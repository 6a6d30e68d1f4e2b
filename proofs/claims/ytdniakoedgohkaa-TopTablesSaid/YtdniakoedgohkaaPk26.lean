/- Several texts in one, each under its own heading. -/
import Derived.Maps.Own
import Derived.Maps.OwnOps
import Derived.Maps.OwnSet
import Derived.Maps.Views
import Derived.WalkKit
import Derived.Test.YtdniakoedgohkaaPk25
/- A set of numbers, as a map that the call makes. -/
namespace Go.Proofs.Ytdniakoedgohkaa.Root
open Go.RowKit Go.Maps
attribute [local go_sem] Oper.semAt_some
set_option linter.unusedVariables false
set_option linter.unusedSimpArgs false
theorem mapLaw : Keyed Try.prog 35 := int_keyed Try.underlying35
theorem mapZero (w : World) : (zeroValue 116).run Try.prog w = .ok (.agg #[]) w := by kernel_rfl
/-- block b is a set of at most n numbers: those of which S says so -/
def SetM (W : World) (b n : Nat) (S : Nat → Bool) : Prop := ∃ D : DataW Unit, W.ownsMap Try.prog 35 unitElem b n D ∧ ∀ i : Nat, i < 4294967296 → has D (.int .u32 i) = S i
theorem SetM.made (w : World) : SetM (w.alloc (.map #[] 0)) w.heap.size 0 (fun _ => false) := ⟨_, World.ownsMap_made w _ _ _, fun i hi => rfl⟩
theorem SetM.lt {W : World} {b n : Nat} {S : Nat → Bool} (h : SetM W b n S) : b < W.heap.size := by
  obtain ⟨D, h1, _⟩ := h
  exact h1.lt
theorem SetM.of_heap {W W' : World} {b n : Nat} {S : Nat → Bool} (h : SetM W b n S) (e : W'.heap[b]? = W.heap[b]?) : SetM W' b n S := by
  obtain ⟨D, ⟨es, clock, hb, r⟩, h2⟩ := h
  exact ⟨D, ⟨es, clock, e.trans hb, r⟩, h2⟩
theorem SetM.th {W W' : World} {b n : Nat} {S : Nat → Bool} (h : SetM W b n S) (hB : Below W.heap.size W W') : SetM W' b n S := h.of_heap (hB.block b h.lt)
theorem SetM.isMap {W : World} {b n : Nat} {S : Nat → Bool} (h : SetM W b n S) : ∃ es clock, W.heap[b]? = some (.map es clock) := by
  obtain ⟨D, ⟨es, clock, hb, r⟩, h2⟩ := h
  exact ⟨es, clock, hb⟩
theorem SetM.eq {W : World} {b n : Nat} {S T : Nat → Bool} (h : SetM W b n S) (e : ∀ i, S i = T i) : SetM W b n T := by
  obtain ⟨D, h1, h2⟩ := h
  exact ⟨D, h1, fun i hi => (h2 i hi).trans (e i)⟩
theorem u32_key (i : Nat) (hi : i < 4294967296) : keyOf Try.prog 35 (.int .u32 (i : Int)) = some (.int .u32 (i : Int)) := keyOf_int_mk Try.underlying35 (by
  have h1 : IntKind.u32.min = 0 := by decide
  have h2 : IntKind.u32.max = 4294967295 := by decide
  show (decide (IntKind.u32.min ≤ (i : Int)) && decide ((i : Int) ≤ IntKind.u32.max)) = true
  rw [h1, h2, Bool.and_eq_true]
  exact ⟨decide_eq_true (by omega), decide_eq_true (by omega)⟩)
set_option maxRecDepth 100000 in
theorem SetM.look {W : World} {b n : Nat} {S : Nat → Bool} (h : SetM W b n S) (i : Nat) (hi : i < 4294967296) : (Instr.lookup 115 (.map (some b)) (.int .u32 (i : Int)) true).run Try.prog W = .ok (.tuple #[.agg #[], .bool (S i)]) W := by
  obtain ⟨D, h1, h2⟩ := h
  obtain ⟨v, ps, hr, hv⟩ := h1.look_ok mapLaw Try.underlying115 (mapZero W) unitElem_mk (u32_key i hi)
  obtain ⟨rfl, _⟩ := unitElem_inv hv
  rw [hr, h2 i hi]
set_option maxRecDepth 100000 in
theorem SetM.upd {W : World} {b n : Nat} {S : Nat → Bool} (h : SetM W b n S) (hn : n < 100000000) (x : Nat) (hx : x < 4294967296) :
    ∃ w', (Instr.mapUpdate 115 (.map (some b)) (.int .u32 (x : Int)) (.agg #[])).run Try.prog W = .ok () w' ∧ SetM w' b (n + 1) (fun i => decide (i = x) || S i) ∧ W.grownBy w' (some b) := by
  obtain ⟨D, h1, h2⟩ := h
  obtain ⟨w', r1, r2, r3⟩ := h1.update mapLaw Try.underlying115 (by unfold maxLen; omega) (u32_key x hx) unitElem_mk
  refine ⟨w', r1, ⟨_, r2, fun i hi => ?_⟩, r3⟩
  by_cases e : i = x
  · subst e
    rw [has_put_same h1.isMap (by trivial)]
    simp
  · rw [has_put_other (by intro h2; injection h2 with _ h3; exact e (by omega)), h2 i hi]
    simp [e]
set_option maxRecDepth 100000 in
theorem run_make (w : World) (n : Int) : (Instr.makeMap 115 (some (.int .i64 n))).run Try.prog w = .ok (.map (some w.heap.size)) (w.alloc (.map #[] 0)) := by
  first | rfl | kernel_rfl | simp [Instr.makeMap, go_sem]
/-- no place that may not be, and none twice -/
def apartP (r : Q) : Prop := (∀ x ∈ r.all, inP x) ∧ r.all.Nodup
instance (r : Q) : Decidable (apartP r) := by unfold apartP; infer_instance
theorem apart_iff (r : Q) : apartP r ↔ ∀ k, k < r.all.length → inP (nu r.all k) ∧ decide (nu r.all k ∈ r.all.take k) = false := by
  unfold apartP
  constructor
  · rintro ⟨h1, h2⟩ k hk
    refine ⟨h1 _ (List.mem_of_getElem? (nu_get hk)), decide_eq_false fun hm => ?_⟩
    obtain ⟨j, hj, e⟩ := List.getElem_of_mem hm
    rw [List.length_take] at hj
    rw [List.getElem_take] at e
    have hx : r.all[k] = nu r.all k := by have := nu_get hk; rw [List.getElem?_eq_getElem hk] at this; exact Option.some.inj this
    rw [← hx] at e
    exact List.pairwise_iff_getElem.1 h2 j k (by omega) hk (by omega) e
  · intro h
    refine ⟨fun x hx => ?_, ?_⟩
    · obtain ⟨j, hj, e⟩ := List.getElem_of_mem hx
      have h3 := (h j hj).1
      have h4 := nu_get hj
      rw [List.getElem?_eq_getElem hj] at h4
      rw [← Option.some.inj h4, e] at h3
      exact h3
    · rw [List.nodup_iff_pairwise_ne, List.pairwise_iff_getElem]
      intro i j hi hj hij e
      have h3 := of_decide_eq_false (h j hj).2
      have h4 := nu_get hj
      rw [List.getElem?_eq_getElem hj] at h4
      rw [← Option.some.inj h4, ← e] at h3
      exact h3 (List.mem_iff_getElem.2 ⟨i, by rw [List.length_take]; omega, by rw [List.getElem_take]⟩)
theorem right_split (r : Q) : rightB r = (decide (NumP r) && decide (apartP r)) := by
  unfold rightB
  rw [← Bool.decide_and]
  exact decide_eq_decide.2 Iff.rfl
theorem take_nu {L : List Nat} {k : Nat} (h : k < L.length) : L.take (k + 1) = L.take k ++ [nu L k] := by
  rw [List.take_add_one, nu_get h]; rfl
end Go.Proofs.Ytdniakoedgohkaa.Root
/- areApart of the program's package root. -/
namespace Go.Proofs.Ytdniakoedgohkaa.Root
open Go.RowKit
attribute [local go_sem] Oper.semAt_some
set_option linter.unusedVariables false
set_option linter.unusedSimpArgs false
def CellAt (W : World) (q : Nat) (t : TypeId) (v : Value) : Prop := W.heap[q]? = some (.cells #[v] t (0, 0))
theorem CellAt.c {W : World} {q : Nat} {t : TypeId} {v : Value} (h : CellAt W q t v) : W.cell? ⟨q, 0, none⟩ = some v := by unfold CellAt at h; simp only [World.cell?, h]; rfl
theorem CellAt.f {W : World} {q : Nat} {t : TypeId} {v : Value} (h : CellAt W q t v) : W.frozen? ⟨q, 0, none⟩ = false := by unfold CellAt at h; simp [World.frozen?, h]
theorem CellAt.put {W : World} {q : Nat} {t : TypeId} {v : Value} (h : CellAt W q t v) (u : Value) : CellAt (W.setCell ⟨q, 0, none⟩ u) q t u := by unfold CellAt at h ⊢; rw [heap_setCell_same W q 0 _ _ u h]; rfl
theorem CellAt.lt {W : World} {q : Nat} {t : TypeId} {v : Value} (h : CellAt W q t v) : q < W.heap.size := (Array.getElem?_eq_some_iff.1 h).1
theorem CellAt.of_heap {W W' : World} {q : Nat} {t : TypeId} {v : Value} (h : CellAt W q t v) (hb : W'.heap[q]? = W.heap[q]?) : CellAt W' q t v := hb.trans h
theorem CellAt.th {W W' : World} {q : Nat} {t : TypeId} {v : Value} (h : CellAt W q t v) (hB : Below W.heap.size W W') : CellAt W' q t v := h.of_heap (hB.block q h.lt)
theorem CellAt.new (w : World) (t : TypeId) (v : Value) : CellAt (w.alloc (.cells #[v] t)) w.heap.size t v := World.alloc_heap_new w _
theorem below_putObj {n : Nat} {w W : World} (h : Below n w W) (D : Nat) (hD : n ≤ D) (o : Obj) : Below n w (W.putObj D o) := ⟨h.1, h.2, h.3, by simpa [World.putObj] using h.4, fun k hk => (World.putObj_heap_other (by omega)).trans (h.5 k hk)⟩
/-- between two rounds: the first k are well, and they are what the set holds -/
structure AptI (r : Q) (q : Nat) (W0 : World) (k : Nat) (W : World) : Prop where
  only : Only (fun i => i = q) W0 W
  set : SetM W q k (fun i => decide (i ∈ r.all.take k))
  well : ∀ j, j < k → inP (nu r.all j) ∧ decide (nu r.all j ∈ r.all.take j) = false
theorem aptI_own {r : Q} {q : Nat} {W0 : World} (hq : q < W0.heap.size) : OwnFrom W0.heap.size (AptI r q W0) := fun k W W' row h hg hr =>
  ⟨h.only.grown hg (fun r e => .inl (hr r e).1), h.set.of_heap (hg.block q h.set.lt (fun e => by have := (hr q e.symm).1; omega)), h.well⟩
/-- the round in which it is left -/
def AptX (r : Q) (q p : Nat) (W0 : World) (c : Code) (k : Nat) (W : World) : Prop := c = .exit 0 ∧ Only (fun i => i = q ∨ i = p) W0 W ∧ CellAt W p 4 (.bool true) ∧ ¬ apartP r
theorem aptX_own {r : Q} {q p : Nat} {W0 : World} (c : Code) : OwnFrom W0.heap.size (AptX r q p W0 c) := fun k W W' row h hg hr =>
  ⟨h.1, h.2.1.grown hg (fun r e => .inl (hr r e).1), kept_cells h.2.2.1 hg hr, h.2.2.2⟩
def ActA (tmps : Nat → Array Value) (k : Nat) (a' : Act) (W : World) : Prop := a' = { tmps := tmps k, defers := [] }
theorem actA_own {tmps : Nat → Array Value} {B : Nat} (k : Nat) (a' : Act) : OwnFrom B (fun (_ : Unit) W => ActA tmps k a' W) := fun _ W W' row hI hg hr => hI
section
set_option maxRecDepth 100000
set_option maxHeartbeats 4000000
theorem isCount_any (n m : Int) (w : World) : Calls Try.prog 34 #[.int .i64 n, .int .i64 m] w fun e w' => e = .returned (.bool (decide (1 ≤ n ∧ n ≤ m))) ∧ w = w' := by
  by_cases h1 : 1 ≤ n
  · by_cases h2 : n ≤ m
    · rw [decide_eq_true (And.intro h1 h2)]
      have d1 : decide (1 ≤ n) = true := decide_eq_true h1
      have d2 : decide (n ≤ m) = true := decide_eq_true h2
      go_enter Try.func34, Try.ntmps34
      go_wp2
      go_ret
      exact ⟨rfl, rfl⟩
    · rw [decide_eq_false (fun h => h2 h.2)]
      have d1 : decide (1 ≤ n) = true := decide_eq_true h1
      have d2 : decide (n ≤ m) = false := decide_eq_false h2
      go_enter Try.func34, Try.ntmps34
      go_wp2
      go_ret
      exact ⟨rfl, rfl⟩
  · rw [decide_eq_false (fun h => h1 h.1)]
    have d1 : decide (1 ≤ n) = false := decide_eq_false h1
    go_enter Try.func34, Try.ntmps34
    go_wp2
    go_ret
    exact ⟨rfl, rfl⟩
/-- the blocks below n lie as they lay -/
def KeptN (n : Nat) (W W' : World) : Prop := (∀ b, b < n → W'.heap[b]? = W.heap[b]?) ∧ W.heap.size ≤ W'.heap.size
theorem KeptN.refl (n : Nat) (W : World) : KeptN n W W := ⟨fun _ _ => rfl, Nat.le_refl _⟩
theorem KeptN.trans {n : Nat} {A B C : World} (h : KeptN n A B) (k : KeptN n B C) : KeptN n A C := ⟨fun b hb => (k.1 b hb).trans (h.1 b hb), Nat.le_trans h.2 k.2⟩
theorem KeptN.below {n : Nat} {W W' : World} (h : Below W.heap.size W W') (hn : n ≤ W.heap.size) : KeptN n W W' := ⟨fun b hb => h.block b (by omega), h.size⟩
theorem KeptN.only {n : Nat} {W W' : World} {S : Nat → Prop} (h : Only S W W') (hn : n ≤ W.heap.size) (hS : ∀ i, S i → n ≤ i) : KeptN n W W' := ⟨fun b hb => h.block b (by omega) (fun hs => by have := hS b hs; omega), h.size⟩
theorem results_tmp {fn : Func} {r : Tmp} (h : fn.results = #[.tmp r]) (tmps : Array Value) (w : World) : (results fn tmps).run Try.prog w = .ok (tmps.getD r undef) w := by
  simp [results, h, go_sem]
theorem results_two {fn : Func} {r t : Tmp} (h : fn.results = #[.tmp r, .tmp t]) (tmps : Array Value) (w : World) : (results fn tmps).run Try.prog w = .ok (.tuple #[tmps.getD r undef, tmps.getD t undef]) w := by
  simp [results, h, go_sem]
theorem keptN_t {n : Nat} {A B C : World} (h : KeptN n A B) (k : KeptN n B C) : KeptN n A C := h.trans k
theorem keptN_b {n : Nat} {w : World} (hn : n ≤ w.heap.size) (W : World) (l : Nat) (o o' : Obj) (hl : w.heap.size ≤ l) (_ : W.heap[l]? = some o) (_ : o.isCells = false) (_ : o.isWalk = false) : KeptN n W (W.putObj l o') :=
  ⟨fun b hb => World.putObj_heap_other (by omega), by simp [World.putObj]⟩
theorem Nums.keep {W W' : World} {v : Value} {L : List Nat} (h : Nums W v L) (hk : ∀ g o k c, v = .slice (some ⟨g, o, none⟩) k c → 0 < k → W'.heap[g]? = W.heap[g]?) : Nums W' v L := by
  obtain ⟨a, cap, rfl, h2, h3, h4, h5⟩ := h
  refine ⟨a, cap, rfl, h2, h3, h4, fun hn => ?_⟩
  obtain ⟨b, off, rfl, hc⟩ := h5 hn
  refine ⟨b, off, rfl, fun j u hj => ?_⟩
  have he : W'.cell? ⟨b, off + j, none⟩ = W.cell? ⟨b, off + j, none⟩ := World.cell?_of_block (w := W) (hk b off _ _ rfl hn)
  exact he.trans (hc j u hj)
theorem Nums.keptN {w W : World} {v : Value} {L : List Nat} (h : Nums w v L) (hk : KeptN w.heap.size w W) : Nums W v L := h.keep fun g o k c e hk0 => by
  subst e
  obtain ⟨a, cap, e2, hc⟩ := h.parts
  cases e2
  obtain ⟨b, off, e3, c0⟩ := h.at rfl hk0
  cases e3
  exact hk.1 _ (World.block_lt_of_cell? _ _ c0)
theorem apart_in (r : Q) (a1 : Option Addr) (n1 cap1 : Nat) (a2 : Option Addr) (n2 cap2 : Nat) (w : World) (hn1 : r.dats.length = n1) (hn2 : r.cps.length = n2) (h1 : Nums w (.slice a1 n1 cap1) r.dats) (h2 : Nums w (.slice a2 n2 cap2) r.cps) (hl : r.all.length ≤ 1000) (hs : ∀ k, nu r.all k < 4294967296) :
    CallsIn Fence.wide 9 Try.prog 38 #[r.val (.slice a1 n1 cap1) (.slice a2 n2 cap2)] w (Ans w (.bool (decide (apartP r)))) := by
  have hfn : ∀ f, Fence.wide.fn f := fun _ => trivial
  have hmm := run_make
  have hp := fun m W => places_in m r (.slice a1 n1 cap1) (.slice a2 n2 cap2) W ⟨_, _, _, rfl⟩ ⟨_, _, _, rfl⟩
  unfold Q.val boxQ at hp
  unfold Q.val
  refine callsIn_of_wp_marks Try.func38 rfl trivial ?_ rfl
  simp only [Try.ntmps38, List.size_toArray, List.length_cons, List.length_nil, Nat.reduceAdd, Nat.reduceSub, Array.replicate_succ, Array.replicate_zero, List.push_toArray, List.append_toArray, List.nil_append, List.cons_append]
  gi_wp2
  apply wide_scope
  gi_wp2
  apply wide_label
  gi_wp2_with (gi_at_call 29; refine (hp _ _).mono ?_; rintro e w' ⟨rfl, rfl⟩)
  obtain ⟨s, hs9⟩ : ∃ s, w.heap.size = s := ⟨_, rfl⟩
  obtain ⟨W0, hW0⟩ : ∃ W0, ((((w.alloc (boxQ r (.slice a1 n1 cap1) (.slice a2 n2 cap2))).alloc (.map #[] 0)).alloc (.cells #[.map (some (w.heap.size + 1))] 115)).alloc (.cells #[.bool false] 4)).alloc (boxQ r (.slice a1 n1 cap1) (.slice a2 n2 cap2)) = W0 := ⟨_, rfl⟩
  have hs0 : W0.heap.size = s + 5 := by rw [← hW0, ← hs9]; simp
  have hBW : Below w.heap.size w W0 := by rw [← hW0]; exact below_al (below_al (below_al (below_al (below_al (Below.refl _ _) _ (Nat.le_refl _)) _ (by simp)) _ (by simp; omega)) _ (by simp; omega)) _ (by simp; omega)
  have hz : ∀ (W : World) (o : Obj) (k : Nat) (x : Obj), W.heap[k]? = some x → (W.alloc o).heap[k]? = some x := fun W o k x h => (Below.heap_alloc _ _ _ (Array.getElem?_eq_some_iff.1 h).1).trans h
  have hn : ∀ (W : World) (o : Obj) (n : Nat), W.heap.size = n → (W.alloc o).heap[n]? = some o := fun W o n h => h ▸ World.alloc_heap_new W o
  have b1 : SetM W0 (s + 1) 0 (fun i => decide (i ∈ r.all.take 0)) := by
    have h := SetM.made (w.alloc (boxQ r (.slice a1 n1 cap1) (.slice a2 n2 cap2)))
    rw [World.size_alloc, hs9] at h
    refine (h.of_heap ?_).eq (fun i => by simp)
    obtain ⟨es, ck, hb⟩ := h.isMap
    rw [← hW0]
    rw [hb]
    exact hz _ _ _ _ (hz _ _ _ _ (hz _ _ _ _ hb))
  have b2 : CellAt W0 (s + 1 + 1) 115 (.map (some (s + 1))) := by rw [← hW0, ← hs9]; exact hz _ _ _ _ (hz _ _ _ _ (hn _ _ _ (by simp)))
  have b3 : CellAt W0 (s + 1 + 1 + 1) 4 (.bool false) := by rw [← hW0, ← hs9]; exact hz _ _ _ _ (hn _ _ _ (by simp))
  have b4 : QAt W0 (s + 1 + 1 + 1 + 1) r (.slice a1 n1 cap1) (.slice a2 n2 cap2) := by rw [← hW0, ← hs9]; exact hn _ _ _ (by simp)
  have hsq : SeqSteps Fence.wide 8 Try.prog 60 #[.pointer (some ⟨s + 1 + 1 + 1 + 1, 0, none⟩)] (encP r) (KeptN s) r.all.length W0 := by
    intro l J Jx W' hB hJ _ hY h0
    exact places1_in 8 (by decide) l _ _ _ r W0 (KeptN s) J Jx _ hJ keptN_t (fun A B hA hB => hA.trans (KeptN.below hB (by have := hA.2; omega))) hY W' (KeptN.below hB (by omega)) (b4.th hB) (fun W2 hk => ⟨h1.keptN ((KeptN.below hBW (Nat.le_refl _)).trans (by rw [hs9]; exact hk)), h2.keptN ((KeptN.below hBW (Nat.le_refl _)).trans (by rw [hs9]; exact hk))⟩) h0
  have HAI := Lib.hid (apart_iff r)
  have HYES : Hid (∀ W, apartP r → Below s w W → Ans w (.bool (decide (apartP r))) (.returned (.bool true)) W) := fun W h1 h2 => by rw [decide_eq_true h1]; exact ⟨rfl, by rw [hs9]; exact h2⟩
  have HNO : Hid (∀ W, ¬ apartP r → Below s w W → Ans w (.bool (decide (apartP r))) (.returned (.bool false)) W) := fun W h1 h2 => by rw [decide_eq_false h1]; exact ⟨rfl, by rw [hs9]; exact h2⟩
  unfold boxQ at hW0
  rw [hW0]
  rw [hs9] at hBW ⊢
  clear hp hW0 hz hn h1 h2 hmm b4
  refine wpIn_rangeFunc_steps rfl (by decide) (gf := 60) (lb := #[.pointer (some ⟨s + 1 + 1 + 1 + 1, 0, none⟩)]) rfl trivial (enters_of Try.func60 (by kernel_rfl) rfl)
    hsq keptN_t (keptN_b (by omega)) (Below.refl _ _) (fun _ => rfl)
    (AptI r (s + 1) W0) (AptX r (s + 1) (s + 1 + 1 + 1) W0) (aptI_own (by omega)) aptX_own ⟨Only.refl _ _, b1, fun j hj => by omega⟩
    (ActA (fun k => #[.agg #[.int .u64 r.cp, .int .u64 r.tick, .slice a1 n1 cap1, .slice a2 n2 cap2], .pointer (some ⟨s, 0, none⟩), .bool false, .pointer (some ⟨s + 1 + 1, 0, none⟩), .pointer (some ⟨s + 1 + 1 + 1, 0, none⟩), .int .u32 (nu r.all k), undef, undef, .pointer (some ⟨s, 2, none⟩), .slice a1 n1 cap1, .int .i64 n1, .pointer (some ⟨s, 3, none⟩), .slice a2 n2 cap2, .int .i64 n2, .int .i64 (wrap64 ((n1 : Int) + (n2 : Int))), .map (some (s + 1)), .agg #[.int .u64 r.cp, .int .u64 r.tick, .slice a1 n1 cap1, .slice a2 n2 cap2], .func (.func 60) #[] #[.pointer (some ⟨s + 1 + 1 + 1 + 1, 0, none⟩)], .int .u32 (nu r.all k), undef, undef, undef, undef, undef, undef, undef, undef, undef, undef, undef, undef, undef, undef, undef, undef, undef, undef, undef, undef])) (fun k a' => actA_own k a') ?assign ?body ?done ?stop
  case assign =>
    intro l k W K hI hk hK
    have HK := Lib.hid (hK _ _ (KeepsFrom.refl _ _) (KeptN.refl _ _) hI rfl)
    unfold encP
    clear hK hI hsq
    dsimp only at HK
    gi_wp2
    exact HK.out
  case body =>
    rintro l k a' W hl hrec ⟨hon, hset, hwell⟩ rfl hk
    dsimp only
    have hsz := hon.size
    have hy := hs k
    have hl2 := hset.look (nu r.all k) hy
    have c3 := (b2.of_heap (hon.block _ (by omega) (by omega))).c
    have h4 : CellAt W (s + 1 + 1 + 1) 4 (.bool false) := b3.of_heap (hon.block _ (by omega) (by omega))
    have c4 := h4.c
    have f4 := h4.f
    obtain ⟨W1, hW1⟩ : ∃ W1, W.alloc (.cells #[] 116) = W1 := ⟨_, rfl⟩
    have hB1 : Below W.heap.size W W1 := by rw [← hW1]; exact below_new W _
    have hon1 : Only (fun i => i = s + 1) W W1 := by rw [← hW1]; exact (Only.refl _ W).alloc _
    have g4 : CellAt W1 (s + 1 + 1 + 1) 4 (.bool false) := h4.th hB1
    have HBAD : Hid (¬ apartP r → KeepsFrom W0.heap.size W (W1.setCell ⟨s + 1 + 1 + 1, 0, none⟩ (.bool true)) ∧ AptX r (s + 1) (s + 1 + 1 + 1) W0 (.exit 0) k (W1.setCell ⟨s + 1 + 1 + 1, 0, none⟩ (.bool true))) := fun hb => by
      have ho : Only (fun i => i = s + 1 + 1 + 1) W (W1.setCell ⟨s + 1 + 1 + 1, 0, none⟩ (.bool true)) := by rw [← hW1]; exact Only.setCell (S := fun i => i = s + 1 + 1 + 1) ((Only.refl _ W).alloc _) (p := ⟨s + 1 + 1 + 1, 0, none⟩) (.inr rfl) _
      refine ⟨keeps_of_only _ ho (fun j hj => by subst hj; exact ⟨_, _, _, h4⟩), rfl, ?_, g4.put _, hb⟩
      exact (hon.mono (fun k _ h => .inl h)).step ho (fun i _ h => .inr h)
    have e4 := g4.c
    have k4 := g4.f
    by_cases hm : decide (nu r.all k ∈ r.all.take k) = true
    · have hb : ¬ apartP r := fun ha => by
        have := ((HAI.out.1 ha) k hk).2
        rw [hm] at this
        cases this
      have HB := Lib.hid (HBAD.out hb)
      rw [hm] at hl2
      obtain ⟨y, hyy⟩ : ∃ y, nu r.all k = y := ⟨_, rfl⟩
      rw [hyy] at hl2 ⊢
      clear hon hset hwell hsq h4 g4 b1 b2 b3 hm hb hyy hy hs HBAD
      gi_wp2
      exact HB.out
    · have hm' := Bool.eq_false_iff.2 hm
      rw [hm'] at hl2
      by_cases hin : inP (nu r.all k)
      · obtain ⟨W2, hup, hset2, hgr⟩ := (hset.th hB1).upd (by omega) (nu r.all k) hy
        have HG : Hid (KeepsFrom W0.heap.size W W2 ∧ KeptN s W W2 ∧ AptI r (s + 1) W0 (k + 1) W2) := by
          have ho : Only (fun i => i = s + 1) W W2 := hon1.grown hgr (fun r e => by cases e; exact .inr rfl)
          refine ⟨⟨ho.size, fun j o hj hk2 hc => (ho.block j (Array.getElem?_eq_some_iff.1 hk2).1 (by omega)).trans hk2⟩, KeptN.only ho (by omega) (fun i hi => by omega), hon.step ho (fun i _ h => h), hset2.eq (fun i => ?_), fun j hj => ?_⟩
          · rw [take_nu hk]
            simp [Bool.or_comm]
          · rcases Nat.lt_succ_iff_lt_or_eq.1 hj with h | h
            · exact hwell j h
            · subst h; exact ⟨hin, hm'⟩
        obtain ⟨hi1, hi2⟩ := hin
        have c5 : W1.cell? ⟨s + 1 + 1, 0, none⟩ = some (.map (some (s + 1))) := (hB1.cell (World.block_lt_of_cell? _ _ c3)).trans c3
        obtain ⟨y, hyy⟩ : ∃ y, nu r.all k = y := ⟨_, rfl⟩
        rw [hyy] at hl2 hup hi1 hi2 ⊢
        have d1 : decide ((y : Int) < 16) = false := decide_eq_false (by omega)
        have d2 : decide ((4096 : Int) ≤ (y : Int)) = false := decide_eq_false (by omega)
        clear hon hset hwell hsq h4 g4 b1 b2 b3 hm hm' hyy hy hs HBAD hset2 hgr hi1 hi2 hon1
        gi_wp2
        exact HG.out
      · have HB := Lib.hid (HBAD.out (fun ha => hin ((HAI.out.1 ha) k hk).1))
        unfold inP at hin
        obtain ⟨y, hyy⟩ : ∃ y, nu r.all k = y := ⟨_, rfl⟩
        rw [hyy] at hl2 hin ⊢
        by_cases h16 : y < 16
        · have d1 : decide ((y : Int) < 16) = true := decide_eq_true (by omega)
          clear hon hset hwell hsq h4 g4 b1 b2 b3 hm hm' hyy hy hs HBAD hin hon1 h16
          gi_wp2
          exact HB.out
        · have d1 : decide ((y : Int) < 16) = false := decide_eq_false (by omega)
          have d2 : decide ((4096 : Int) ≤ (y : Int)) = true := decide_eq_true (by omega)
          clear hon hset hwell hsq h4 g4 b1 b2 b3 hm hm' hyy hy hs HBAD hin hon1 h16
          gi_wp2
          exact HB.out
  case done =>
    rintro D W hD ⟨hon, hset, hwell⟩ hKD
    have HY := Lib.hid (HYES.out (W.putObj D (.deferred none)) (HAI.out.2 hwell) (below_putObj (hBW.trans (hon.below (by omega) (by rintro j rfl; omega))) D (by omega) _))
    have hsz := hon.size
    have c4 := (b3.of_heap (hon.block _ (by omega) (by omega))).c
    have HKD := Lib.hid hKD
    clear hon hset hwell hsq b1 b2 b3 hKD
    gi_wp2
    refine ⟨by simp, .inl ⟨_, _, rfl, run_takeDeferred HKD.out, ?_⟩⟩
    refine ⟨_, results_tmp rfl _ _, ?_⟩
    exact HY.out
  case stop =>
    rintro D c k W hD hk ⟨rfl, hon, hc, hno⟩ hKD
    have HY := Lib.hid (HNO.out (W.putObj D (.deferred none)) hno (below_putObj (hBW.trans (hon.below (by omega) (by rintro j (rfl | rfl) <;> omega))) D (by omega) _))
    have c4 := hc.c
    have HKD := Lib.hid hKD
    clear hon hsq b1 b2 b3 hKD
    gi_wp2
    refine ⟨by simp, .inl ⟨_, _, rfl, run_takeDeferred HKD.out, ?_⟩⟩
    refine ⟨_, results_tmp rfl _ _, ?_⟩
    exact HY.out
theorem nu_lt {L : List Nat} (h : Small L) (k : Nat) : nu L k < 4294967296 := by
  by_cases hk : k < L.length
  · exact h _ (List.mem_of_getElem? (nu_get hk))
  · unfold nu; rw [List.getD_eq_getElem?_getD, List.getElem?_eq_none (by omega)]; decide
theorem apart_any (r : Q) (d c : Value) (w : World) (h1 : Nums w d r.dats) (h2 : Nums w c r.cps) (hl : r.all.length ≤ 1000) (ho : QOk r) :
    Calls Try.prog 38 #[r.val d c] w (Ans w (.bool (decide (apartP r)))) := by
  obtain ⟨a1, cap1, rfl, _, _⟩ := h1.parts
  obtain ⟨a2, cap2, rfl, _, _⟩ := h2.parts
  exact callsIn_wide.1 (apart_in r a1 _ cap1 a2 _ cap2 w rfl rfl h1 h2 hl (nu_lt (fun x hx => by
    unfold Q.all at hx
    rcases List.mem_append.1 hx with h | h
    · exact ho.3 x h
    · exact ho.4 x h)))
theorem numP_no {r : Q} (h : ¬ NumP r) : (decide (NumP r) && decide (apartP r)) = false := by rw [decide_eq_false h, Bool.false_and]
theorem right_any (r : Q) (d c : Value) (w : World) (h1 : Nums w d r.dats) (h2 : Nums w c r.cps) (ho : QOk r) : Calls Try.prog 13 #[r.val d c] w (Ans w (.bool (rightB r))) := by
  rw [right_split]
  have hB := below_new w (boxQ r d c)
  have hA := QAt.new w r d c
  have HAP : Hid (NumP r → ∀ W, Below w.heap.size w W → Calls Try.prog 38 #[r.val d c] W (Ans W (.bool (decide (apartP r))))) := fun hn W hW => apart_any r d c W (h1.below hW) (h2.below hW) (by
    have := hn.2.2.2.1.2; have := hn.2.2.2.2.2
    show (r.dats ++ r.cps).length ≤ 1000
    rw [List.length_append]; omega) ho
  obtain ⟨a1, cap1, rfl, hc1, hc2⟩ := h1.parts
  obtain ⟨a2, cap2, rfl, hc3, hc4⟩ := h2.parts
  have HN : Hid (NumP r ↔ 1 ≤ r.cp ∧ r.cp < 281474976710656 ∧ r.tick < 281474976710656 ∧ (1 ≤ r.dats.length ∧ r.dats.length ≤ 60) ∧ 1 ≤ r.cps.length ∧ r.cps.length ≤ 12) := Iff.rfl
  obtain ⟨n1, hn1⟩ : ∃ n, r.dats.length = n := ⟨_, rfl⟩
  obtain ⟨n2, hn2⟩ : ∃ n, r.cps.length = n := ⟨_, rfl⟩
  rw [hn1] at hB hA HAP hc1 HN ⊢
  rw [hn2] at hB hA HAP hc3 HN ⊢
  have go : ∀ (x : Bool), Hid ((decide (NumP r) && decide (apartP r)) = x) → Calls Try.prog 13 #[r.val (.slice a1 n1 cap1) (.slice a2 n2 cap2)] w (Ans w (.bool x)) → Calls Try.prog 13 #[r.val (.slice a1 n1 cap1) (.slice a2 n2 cap2)] w (Ans w (.bool (decide (NumP r) && decide (apartP r)))) := fun x hb hc => by rw [hb.out]; exact hc
  obtain ⟨g0, g1, g2, g3⟩ := hA.c
  have HC1 := Lib.hid (fun W => isCount_any (n1 : Int) 60 W)
  have HC2 := Lib.hid (fun W => isCount_any (n2 : Int) 12 W)
  unfold Q.val at go HAP ⊢
  unfold boxQ at hB hA
  have HB := Lib.hid hB
  have HA := Lib.hid hA
  clear hB hA h1 h2 hn1 hn2
  obtain ⟨cp, hcp⟩ : ∃ x, r.cp = x := ⟨_, rfl⟩
  obtain ⟨tk, htk⟩ : ∃ x, r.tick = x := ⟨_, rfl⟩
  rw [hcp] at HN go HAP HB HA g0 ⊢
  rw [htk] at HN go HAP HB HA g1 ⊢
  clear hcp htk
  by_cases k1 : 1 ≤ cp
  · have e1 : decide ((1 : Int) ≤ (cp : Int)) = true := decide_eq_true (by omega)
    by_cases k2 : cp < 281474976710656
    · have e2 : decide ((cp : Int) < 281474976710656) = true := decide_eq_true (by omega)
      by_cases k3 : tk < 281474976710656
      · have e3 : decide ((tk : Int) < 281474976710656) = true := decide_eq_true (by omega)
        by_cases k4 : 1 ≤ n1 ∧ n1 ≤ 60
        · rw [decide_eq_true (show (1 : Int) ≤ (n1 : Int) ∧ (n1 : Int) ≤ 60 by omega)] at HC1
          by_cases k5 : 1 ≤ n2 ∧ n2 ≤ 12
          · rw [decide_eq_true (show (1 : Int) ≤ (n2 : Int) ∧ (n2 : Int) ≤ 12 by omega)] at HC2
            have hnp : NumP r := HN.out.2 ⟨k1, k2, k3, k4, k5⟩
            have HAR := Lib.hid (HAP.out hnp)
            refine go (decide (apartP r)) (by unfold Hid; rw [decide_eq_true hnp, Bool.true_and]) ?_
            clear go HN HAP hnp k1 k2 k3 k4 k5
            go_enter Try.func13, Try.ntmps13
            go_wp2_with (first
              | (go_at_call 34; with_reducible refine Calls.mono (HC1.out _) ?_; rintro e w' ⟨rfl, rfl⟩)
              | (go_at_call 34; with_reducible refine Calls.mono (HC2.out _) ?_; rintro e w' ⟨rfl, rfl⟩)
              | (go_at_call 38; (with_reducible refine Calls.mono (HAR.out _ HB.out) ?_); rintro e w' ⟨rfl, hB2⟩))
            go_ret
            exact ⟨rfl, below_th HB.out hB2⟩
          · rw [decide_eq_false (show ¬ ((1 : Int) ≤ (n2 : Int) ∧ (n2 : Int) ≤ 12) by omega)] at HC2
            refine go false (numP_no (fun h => k5 (HN.out.1 h).2.2.2.2)) ?_
            clear go HN HAP k1 k2 k3 k4 k5
            go_enter Try.func13, Try.ntmps13
            go_wp2_with (first
              | (go_at_call 34; with_reducible refine Calls.mono (HC1.out _) ?_; rintro e w' ⟨rfl, rfl⟩)
              | (go_at_call 34; with_reducible refine Calls.mono (HC2.out _) ?_; rintro e w' ⟨rfl, rfl⟩))
            go_ret
            exact ⟨rfl, HB.out⟩
        · rw [decide_eq_false (show ¬ ((1 : Int) ≤ (n1 : Int) ∧ (n1 : Int) ≤ 60) by omega)] at HC1
          refine go false (numP_no (fun h => k4 (HN.out.1 h).2.2.2.1)) ?_
          clear go HN HAP k1 k2 k3 k4
          go_enter Try.func13, Try.ntmps13
          go_wp2_with (go_at_call 34; with_reducible refine Calls.mono (HC1.out _) ?_; rintro e w' ⟨rfl, rfl⟩)
          go_ret
          exact ⟨rfl, HB.out⟩
      · have e3 : decide ((tk : Int) < 281474976710656) = false := decide_eq_false (by omega)
        refine go false (numP_no (fun h => k3 (HN.out.1 h).2.2.1)) ?_
        clear go HN HAP k1 k2 k3
        go_enter Try.func13, Try.ntmps13
        go_wp2
        go_ret
        exact ⟨rfl, HB.out⟩
    · have e2 : decide ((cp : Int) < 281474976710656) = false := decide_eq_false (by omega)
      refine go false (numP_no (fun h => k2 (HN.out.1 h).2.1)) ?_
      clear go HN HAP k1 k2
      go_enter Try.func13, Try.ntmps13
      go_wp2
      go_ret
      exact ⟨rfl, HB.out⟩
  · have e1 : decide ((1 : Int) ≤ (cp : Int)) = false := decide_eq_false (by omega)
    refine go false (numP_no (fun h => k1 (HN.out.1 h).1)) ?_
    clear go HN HAP k1
    go_enter Try.func13, Try.ntmps13
    go_wp2
    go_ret
    exact ⟨rfl, HB.out⟩
end
end Go.Proofs.Ytdniakoedgohkaa.Root
