/- Several texts in one, each under its own heading. -/
import Derived.Test.YteopcjfakhmifaaPk28
import Derived.Test.YteopcjfakhmifaaPk27
/- A row of one's own, kept in a box, that a loop over an iterator appends to. -/
namespace Go.Proofs.Yteopcjfakhmifaa.Vol
open Go.RowKit
set_option linter.unusedVariables false
/-- the box q alone has changed since W0, and a row of one's own stands there -/
def RowI (W0 : World) (q : Nat) (tb te : TypeId) (sz n : Nat) (xs : List Value) (W : World) : Prop :=
  Only (fun i => i = q) W0 W ∧ ∃ v, CellAt W q tb v ∧ W.ownsRow W0.heap.size te sz v n xs
theorem rowI_own {W0 : World} {q : Nat} {tb te : TypeId} {sz : Nat} {n : Nat → Nat} {xs : Nat → List Value} : OwnFrom W0.heap.size (fun k W => RowI W0 q tb te sz (n k) (xs k) W) := fun k W W' row hI hg hr => by
  obtain ⟨h1, v, h2, h3⟩ := hI
  exact ⟨h1.grown hg (fun r e => .inl (hr r e).1), v, kept_cells h2 hg hr, own_row h3 hg hr⟩
theorem RowI.nil {W0 : World} {q : Nat} {tb te : TypeId} {sz : Nat} (h : CellAt W0 q tb (.slice none 0 0)) : RowI W0 q tb te sz 0 [] W0 := ⟨Only.refl _ _, _, h, World.ownsRow_nil _ _ _ _⟩
theorem RowI.size {W0 W : World} {q : Nat} {tb te : TypeId} {sz n : Nat} {xs : List Value} (h : RowI W0 q tb te sz n xs W) : W0.heap.size ≤ W.heap.size := h.1.size
/-- new blocks change nothing -/
theorem RowI.th {W0 W W' : World} {q : Nat} {tb te : TypeId} {sz n : Nat} {xs : List Value} (h : RowI W0 q tb te sz n xs W) (hB : Below W.heap.size W W') : RowI W0 q tb te sz n xs W' := by
  obtain ⟨h1, v, h2, h3⟩ := h
  exact ⟨h1.step (Only.of_below (S := fun i => i = q) hB) (fun i _ hi => hi), v, h2.th hB, own_row h3 (grown_of_below hB) (fun r e => by cases e)⟩
theorem RowI.below {W0 W w : World} {q : Nat} {tb te : TypeId} {sz n : Nat} {xs : List Value} (h : RowI W0 q tb te sz n xs W) (hw : Below w.heap.size w W0) (hq : w.heap.size ≤ q) : Below w.heap.size w W :=
  hw.trans (h.1.below hw.size (by rintro j rfl; exact hq))
theorem keeps_below {W W2 : World} {B : Nat} (h : Below W.heap.size W W2) : KeepsFrom B W W2 := keeps_of_only (S := fun _ => False) _ (Only.of_below h) (fun k hk => hk.elim)
theorem RowI.next {W0 W W2 W4 : World} {q : Nat} {tb te : TypeId} {sz n n' : Nat} {xs ys : List Value} {v v' : Value} (hq : q < W0.heap.size) (hon : Only (fun i => i = q) W0 W) (hc : CellAt W q tb v) (hown : W.ownsRow W0.heap.size te sz v n xs)
    (h2 : Below W.heap.size W W2) (ho : W4.ownsRow W0.heap.size te sz v' n' ys) (hg : W2.grownBy W4 v.ownBlock) :
    CellAt W4 q tb v ∧ KeepsFrom W0.heap.size W (W4.setCell ⟨q, 0, none⟩ v') ∧ (∀ S : List Nat, (∀ y ∈ S, y < W0.heap.size ∧ y ≠ q) → Same S W (W4.setCell ⟨q, 0, none⟩ v')) ∧ RowI W0 q tb te sz n' ys (W4.setCell ⟨q, 0, none⟩ v') := by
  have hsz := hon.size
  have hvb : ∀ r, v.ownBlock = some r → W0.heap.size ≤ r ∧ ∃ c t f, W.heap[r]? = some (.cells c t f) := fun r e => by
    rcases hown.2 with ⟨e1, _⟩ | ⟨g2, cap2, cur, e1, hb2, hgg, _⟩
    · rw [e1] at e; cases e
    · rw [e1] at e
      have e2 : g2 = r := by simpa [Value.ownBlock] using e
      rw [← e2]
      exact ⟨hb2, _, _, _, hgg⟩
  have hon2 : Only (fun i => i = q ∨ v.ownBlock = some i) W W4 := (Only.of_below h2).grown hg (fun r e => .inr (.inr e))
  have hne : ∀ r, v.ownBlock = some r → ¬ q = r := fun r e => by have := (hvb r e).1; omega
  have hc4 : CellAt W4 q tb v := by
    have h3 := hc.th h2
    exact h3.of_heap (hg.block q h3.lt (fun e => hne q e.symm rfl))
  have hon5 : Only (fun i => i = q ∨ v.ownBlock = some i) W (W4.setCell ⟨q, 0, none⟩ v') := hon2.setCell (p := ⟨q, 0, none⟩) (.inr (.inl rfl)) _
  refine ⟨hc4, keeps_of_only _ hon5 (fun j hj => ?_), fun S hS y hy => ?_, hon.step hon5 (fun i hi h => ?_), v', hc4.put v', ?_⟩
  · rcases hj with rfl | hj
    · exact ⟨_, _, _, hc⟩
    · exact (hvb j hj).2
  · have hyq := hS y hy
    refine hon5.block y (by omega) (fun hh => ?_)
    rcases hh with hh | hh
    · omega
    · have := (hvb y hh).1; omega
  · rcases h with h | h
    · exact h
    · have := (hvb i h).1; omega
  · exact ho.kept (w' := W4.setCell ⟨q, 0, none⟩ v') (row := some q) ⟨rfl, rfl, rfl, (KeepsWalks.setCell W4 ⟨q, 0, none⟩ v').size, fun j hj hn => Below.heap_setCell _ _ _ _ (fun e => hn (by rw [e]))⟩ (by
      cases hv : v'.ownBlock with
      | none => exact .inl rfl
      | some g => exact .inr (fun e => by have := (ho.lt g hv).1; cases e; omega))
theorem putObj_grown (W : World) (D : Nat) (o : Obj) : W.grownBy (W.putObj D o) (some D) := ⟨rfl, rfl, rfl, by simp [World.putObj], fun j _ hj => World.putObj_heap_other (fun e => hj (by rw [e]))⟩
end Go.Proofs.Yteopcjfakhmifaa.Vol
/- Two contents compared by the program. -/
namespace Go.Proofs.Yteopcjfakhmifaa.Vol
open Go.RowKit
attribute [local go_sem] Oper.semAt_some
set_option linter.unusedVariables false
set_option linter.unusedSimpArgs false
section
set_option maxRecDepth 100000
set_option maxHeartbeats 4000000
theorem same_any (a b : ByteArray) (w : World) (ha : a.size ≤ 508) (hb : b.size ≤ 508) : Calls Try.prog 42 #[.string a, .string b] w (Ans w (.bool (decide (sameP a b)))) := by
  obtain ⟨m, hm⟩ : ∃ m, min a.size b.size = m := ⟨_, rfl⟩
  have e1 : min (a.size : Int) (b.size : Int) = (m : Int) := by omega
  have g1 : m ≤ a.size := by omega
  have g2 : m ≤ b.size := by omega
  have g3 : (m : Int) ≤ (a.size : Int) := by omega
  have g4 : (m : Int) ≤ (b.size : Int) := by omega
  have HA : ∀ q, Calls Try.prog 34 #[.string a, .int .i64 (m : Int)] (w.drewN q) fun e w' => e = .returned (.bool (bareB a (m : Int).toNat)) ∧ w' = w.drewN q := fun q => (bare_any a (m : Int) _ (by omega)).mono fun e w' h => ⟨h.1, h.2.symm⟩
  have HB : ∀ q, Calls Try.prog 34 #[.string b, .int .i64 (m : Int)] (w.drewN q) fun e w' => e = .returned (.bool (bareB b (m : Int).toNat)) ∧ w' = w.drewN q := fun q => (bare_any b (m : Int) _ (by omega)).mono fun e w' h => ⟨h.1, h.2.symm⟩
  rw [Int.toNat_natCast] at HA HB
  have HS : Hid (sameP a b ↔ a.extract 0 m = b.extract 0 m ∧ bareB a m = true ∧ bareB b m = true) := by unfold Hid sameP; rw [hm]
  clear hm ha hb
  by_cases k1 : a.extract 0 m = b.extract 0 m
  · have q1 : ((a.extract 0 m).toList == (b.extract 0 m).toList) = true := by rw [k1]; exact beq_iff_eq.2 rfl
    cases k2 : bareB a m with
    | true =>
      rw [k2] at HA
      cases k3 : bareB b m with
      | true =>
        rw [k3] at HB
        rw [decide_eq_true (HS.out.2 ⟨k1, k2, k3⟩)]
        have HA := Lib.hid HA
        have HB := Lib.hid HB
        clear HS k1 k2 k3
        go_enter Try.func42, Try.ntmps42
        go_wp2
        go_quiet ((first | (go_at_call 34; (with_reducible exact Calls.quiet_of_same (HA.out _))) | (go_at_call 34; (with_reducible exact Calls.quiet_of_same (HB.out _)))))
        go_wp2
        go_ret
        exact ⟨rfl, below_drewN (Below.refl _ _) _⟩
      | false =>
        rw [k3] at HB
        rw [decide_eq_false (fun h => by have := (HS.out.1 h).2.2; rw [k3] at this; cases this)]
        have HA := Lib.hid HA
        have HB := Lib.hid HB
        clear HS k1 k2 k3
        go_enter Try.func42, Try.ntmps42
        go_wp2
        go_quiet ((first | (go_at_call 34; (with_reducible exact Calls.quiet_of_same (HA.out _))) | (go_at_call 34; (with_reducible exact Calls.quiet_of_same (HB.out _)))))
        go_wp2
        go_ret
        exact ⟨rfl, below_drewN (Below.refl _ _) _⟩
    | false =>
      rw [k2] at HA
      rw [decide_eq_false (fun h => by have := (HS.out.1 h).2.1; rw [k2] at this; cases this)]
      have HA := Lib.hid HA
      clear HS k1 k2 HB
      go_enter Try.func42, Try.ntmps42
      go_wp2
      go_quiet ((go_at_call 34; (with_reducible exact Calls.quiet_of_same (HA.out _))))
      go_wp2
      go_ret
      exact ⟨rfl, below_drewN (Below.refl _ _) _⟩
  · have q1 : ((a.extract 0 m).toList == (b.extract 0 m).toList) = false := str_ne k1
    rw [decide_eq_false (fun h => k1 (HS.out.1 h).1)]
    clear HS k1 HA HB
    go_enter Try.func42, Try.ntmps42
    go_wp2
    go_quiet (fail)
    go_wp2
    go_ret
    exact ⟨rfl, below_drewN (Below.refl _ _) _⟩
end
end Go.Proofs.Yteopcjfakhmifaa.Vol
