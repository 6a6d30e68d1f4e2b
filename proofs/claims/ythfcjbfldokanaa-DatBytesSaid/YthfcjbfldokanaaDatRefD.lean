/- The document's SameTexts, SameInts, on the same list. -/
import Derived.Test.YthfcjbfldokanaaDatRefC
namespace Go.Proofs.Ythfcjbfldokanaa.Dat.R
open Go.RowKit
attribute [local go_sem] Oper.semAt_some
set_option linter.unusedVariables false
section
set_option maxRecDepth 100000
set_option maxHeartbeats 2000000
theorem texts_yes (v1 v2 : Value) (X : List ByteArray) (w : World) (h1 : Strs w v1 X) (h2 : Strs w v2 X) : Calls Try.prog 28 #[v1, v2] w (Ans w (.bool true)) := by
  unfold Strs at h1 h2
  obtain ⟨a1, cap1, rfl, h1, hn1, hm1⟩ := h1.parts
  obtain ⟨a2, cap2, rfl, h2, hn2, hm2⟩ := h2.parts
  obtain ⟨N, hN⟩ : ∃ N, X.length = N := ⟨_, rfl⟩
  have HG : Hid (∀ k, k < N → ∃ s, (X.map Value.string)[k]? = some (Value.string s)) := fun k hk => ⟨X[k]'(by omega), by rw [List.getElem?_map, List.getElem?_eq_getElem (show k < X.length by omega)]; rfl⟩
  rw [hN] at h1 h2 hn1 hn2 ⊢
  clear hN
  obtain ⟨W0, rfl⟩ : ∃ W0 : World, W0 = w := ⟨_, rfl⟩
  go_enter Try.func28, Try.ntmps28
  go_wp2
  go_loopw [5] (fun i wr => ∃ k : Nat, k ≤ N ∧ i = .int .i64 (k : Int) ∧ Below W0.heap.size W0 wr) (fun i _ => N - (intOf i).toNat)
  case atStart => exact ⟨0, by omega, rfl, Below.refl _ _⟩
  case round =>
    obtain ⟨k, hk, rfl, hB⟩ := hrel
    by_cases hlt : k < N
    · obtain ⟨s, hs⟩ := HG.out k hlt
      obtain ⟨b1, off1, e1, c1⟩ := Lies.read (h1.out.below hB) hs
      obtain ⟨b2, off2, e2, c2⟩ := Lies.read (h2.out.below hB) hs
      subst e1
      subst e2
      have HBq := Lib.hid hB
      have hq1 : ∀ W : World, (binOp .neq 9 (Value.string s) (Value.string s)).run Try.prog W = .ok (.bool false) W := fun W => by first | (simp [go_sem]; done) | (simp [go_sem, binOp]; done)
      clear hs
      go_wp2
      go_quiet (fail)
      go_wp2
      go_roundw
      case rel => exact ⟨k + 1, by omega, by go_num, below_drewN HBq.out _⟩
      case measure => simp [intOf]; omega
    · go_wp2
      go_ret
      exact ⟨rfl, hB⟩
theorem ints_yes (v1 v2 : Value) (X : List Int) (w : World) (h1 : Ints w v1 X) (h2 : Ints w v2 X) : Calls Try.prog 29 #[v1, v2] w (Ans w (.bool true)) := by
  unfold Ints at h1 h2
  obtain ⟨a1, cap1, rfl, h1, hn1, hm1⟩ := h1.parts
  obtain ⟨a2, cap2, rfl, h2, hn2, hm2⟩ := h2.parts
  obtain ⟨N, hN⟩ : ∃ N, X.length = N := ⟨_, rfl⟩
  have HG : Hid (∀ k, k < N → ∃ s, (X.map (Value.int .i64))[k]? = some (Value.int .i64 s)) := fun k hk => ⟨X[k]'(by omega), by rw [List.getElem?_map, List.getElem?_eq_getElem (show k < X.length by omega)]; rfl⟩
  rw [hN] at h1 h2 hn1 hn2 ⊢
  clear hN
  obtain ⟨W0, rfl⟩ : ∃ W0 : World, W0 = w := ⟨_, rfl⟩
  go_enter Try.func29, Try.ntmps29
  go_wp2
  go_loopw [5] (fun i wr => ∃ k : Nat, k ≤ N ∧ i = .int .i64 (k : Int) ∧ Below W0.heap.size W0 wr) (fun i _ => N - (intOf i).toNat)
  case atStart => exact ⟨0, by omega, rfl, Below.refl _ _⟩
  case round =>
    obtain ⟨k, hk, rfl, hB⟩ := hrel
    by_cases hlt : k < N
    · obtain ⟨s, hs⟩ := HG.out k hlt
      obtain ⟨b1, off1, e1, c1⟩ := Lies.read (h1.out.below hB) hs
      obtain ⟨b2, off2, e2, c2⟩ := Lies.read (h2.out.below hB) hs
      subst e1
      subst e2
      have HBq := Lib.hid hB
      have hq1 : ∀ W : World, (binOp .neq 3 (Value.int .i64 s) (Value.int .i64 s)).run Try.prog W = .ok (.bool false) W := fun W => by first | (simp [go_sem]; done) | (simp [go_sem, binOp]; done)
      clear hs
      go_wp2
      go_quiet (fail)
      go_wp2
      go_roundw
      case rel => exact ⟨k + 1, by omega, by go_num, below_drewN HBq.out _⟩
      case measure => simp [intOf]; omega
    · go_wp2
      go_ret
      exact ⟨rfl, hB⟩
end
end Go.Proofs.Ythfcjbfldokanaa.Dat.R
