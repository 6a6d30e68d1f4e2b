/- A set of numbers, as a map that the call makes. -/
import Derived.Maps.Own
import Derived.Maps.OwnOps
import Derived.Maps.OwnSet
import Derived.Maps.Views
import Derived.WalkKit
import Derived.Test.YtdniakoedgohkaaRootIter
namespace Go.Proofs.Ytdniakoedgohkaa.Root
open Go.RowKit Go.Maps
attribute [local go_sem] Oper.semAt_some
set_option linter.unusedVariables false
set_option linter.unusedSimpArgs false
theorem mapLaw : Keyed Try.prog 35 := int_keyed Try.underlying35
theorem mapZero (w : World) : (zeroValue 116).run Try.prog w = .ok (.agg #[]) w := by kernel_rfl
/-- block b is a set of at most n numbers: those of which S says so -/
def SetM (W : World) (b n : Nat) (S : Nat → Bool) : Prop := ∃ D : DataW Unit, W.ownsMap Try.prog 35 unitElem b n D ∧ ∀ i : Nat, i < 4294967296 → has D (.int .u32 i) = S i
theorem SetM.made (w : World) : SetM (w.alloc (.map #[] 0)) w.heap.size 0 (fun _ => false) := ⟨_, World.ownsMap_made w _ _ _, fun i hi => rfl⟩
theorem SetM.lt {W : World} {b n : Nat} {S : Nat → Bool} (h : SetM W b n S) : b < W.heap.size := by
  obtain ⟨D, h1, _⟩ := h
  exact h1.lt
theorem SetM.of_heap {W W' : World} {b n : Nat} {S : Nat → Bool} (h : SetM W b n S) (e : W'.heap[b]? = W.heap[b]?) : SetM W' b n S := by
  obtain ⟨D, ⟨es, clock, hb, r⟩, h2⟩ := h
  exact ⟨D, ⟨es, clock, e.trans hb, r⟩, h2⟩
theorem SetM.th {W W' : World} {b n : Nat} {S : Nat → Bool} (h : SetM W b n S) (hB : Below W.heap.size W W') : SetM W' b n S := h.of_heap (hB.block b h.lt)
theorem SetM.isMap {W : World} {b n : Nat} {S : Nat → Bool} (h : SetM W b n S) : ∃ es clock, W.heap[b]? = some (.map es clock) := by
  obtain ⟨D, ⟨es, clock, hb, r⟩, h2⟩ := h
  exact ⟨es, clock, hb⟩
theorem SetM.eq {W : World} {b n : Nat} {S T : Nat → Bool} (h : SetM W b n S) (e : ∀ i, S i = T i) : SetM W b n T := by
  obtain ⟨D, h1, h2⟩ := h
  exact ⟨D, h1, fun i hi => (h2 i hi).trans (e i)⟩
theorem u32_key (i : Nat) (hi : i < 4294967296) : keyOf Try.prog 35 (.int .u32 (i : Int)) = some (.int .u32 (i : Int)) := keyOf_int_mk Try.underlying35 (by
  have h1 : IntKind.u32.min = 0 := by decide
  have h2 : IntKind.u32.max = 4294967295 := by decide
  show (decide (IntKind.u32.min ≤ (i : Int)) && decide ((i : Int) ≤ IntKind.u32.max)) = true
  rw [h1, h2, Bool.and_eq_true]
  exact ⟨decide_eq_true (by omega), decide_eq_true (by omega)⟩)
set_option maxRecDepth 100000 in
theorem SetM.look {W : World} {b n : Nat} {S : Nat → Bool} (h : SetM W b n S) (i : Nat) (hi : i < 4294967296) : (Instr.lookup 115 (.map (some b)) (.int .u32 (i : Int)) true).run Try.prog W = .ok (.tuple #[.agg #[], .bool (S i)]) W := by
  obtain ⟨D, h1, h2⟩ := h
  obtain ⟨v, ps, hr, hv⟩ := h1.look_ok mapLaw Try.underlying115 (mapZero W) unitElem_mk (u32_key i hi)
  obtain ⟨rfl, _⟩ := unitElem_inv hv
  rw [hr, h2 i hi]
set_option maxRecDepth 100000 in
theorem SetM.upd {W : World} {b n : Nat} {S : Nat → Bool} (h : SetM W b n S) (hn : n < 100000000) (x : Nat) (hx : x < 4294967296) :
    ∃ w', (Instr.mapUpdate 115 (.map (some b)) (.int .u32 (x : Int)) (.agg #[])).run Try.prog W = .ok () w' ∧ SetM w' b (n + 1) (fun i => decide (i = x) || S i) ∧ W.grownBy w' (some b) := by
  obtain ⟨D, h1, h2⟩ := h
  obtain ⟨w', r1, r2, r3⟩ := h1.update mapLaw Try.underlying115 (by unfold maxLen; omega) (u32_key x hx) unitElem_mk
  refine ⟨w', r1, ⟨_, r2, fun i hi => ?_⟩, r3⟩
  by_cases e : i = x
  · subst e
    rw [has_put_same h1.isMap (by trivial)]
    simp
  · rw [has_put_other (by intro h2; injection h2 with _ h3; exact e (by omega)), h2 i hi]
    simp [e]
set_option maxRecDepth 100000 in
theorem run_make (w : World) (n : Int) : (Instr.makeMap 115 (some (.int .i64 n))).run Try.prog w = .ok (.map (some w.heap.size)) (w.alloc (.map #[] 0)) := by
  first | rfl | kernel_rfl | simp [Instr.makeMap, go_sem]
/-- no place that may not be, and none twice -/
def apartP (r : Q) : Prop := (∀ x ∈ r.all, inP x) ∧ r.all.Nodup
instance (r : Q) : Decidable (apartP r) := by unfold apartP; infer_instance
theorem apart_iff (r : Q) : apartP r ↔ ∀ k, k < r.all.length → inP (nu r.all k) ∧ decide (nu r.all k ∈ r.all.take k) = false := by
  unfold apartP
  constructor
  · rintro ⟨h1, h2⟩ k hk
    refine ⟨h1 _ (List.mem_of_getElem? (nu_get hk)), decide_eq_false fun hm => ?_⟩
    obtain ⟨j, hj, e⟩ := List.getElem_of_mem hm
    rw [List.length_take] at hj
    rw [List.getElem_take] at e
    have hx : r.all[k] = nu r.all k := by have := nu_get hk; rw [List.getElem?_eq_getElem hk] at this; exact Option.some.inj this
    rw [← hx] at e
    exact List.pairwise_iff_getElem.1 h2 j k (by omega) hk (by omega) e
  · intro h
    refine ⟨fun x hx => ?_, ?_⟩
    · obtain ⟨j, hj, e⟩ := List.getElem_of_mem hx
      have h3 := (h j hj).1
      have h4 := nu_get hj
      rw [List.getElem?_eq_getElem hj] at h4
      rw [← Option.some.inj h4, e] at h3
      exact h3
    · rw [List.nodup_iff_pairwise_ne, List.pairwise_iff_getElem]
      intro i j hi hj hij e
      have h3 := of_decide_eq_false (h j hj).2
      have h4 := nu_get hj
      rw [List.getElem?_eq_getElem hj] at h4
      rw [← Option.some.inj h4, ← e] at h3
      exact h3 (List.mem_iff_getElem.2 ⟨i, by rw [List.length_take]; omega, by rw [List.getElem_take]⟩)
theorem right_split (r : Q) : rightB r = (decide (NumP r) && decide (apartP r)) := by
  unfold rightB
  rw [← Bool.decide_and]
  exact decide_eq_decide.2 Iff.rfl
theorem take_nu {L : List Nat} {k : Nat} (h : k < L.length) : L.take (k + 1) = L.take k ++ [nu L k] := by
  rw [List.take_add_one, nu_get h]; rfl
end Go.Proofs.Ytdniakoedgohkaa.Root
