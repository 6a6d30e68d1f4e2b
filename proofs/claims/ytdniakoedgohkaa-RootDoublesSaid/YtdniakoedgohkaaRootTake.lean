/- put, take, takePlaces of the program's package root. -/
import Derived.Test.YtdniakoedgohkaaNumFit
import Derived.Test.YtdniakoedgohkaaNumFacts
import Derived.Test.YtdniakoedgohkaaRootBld
namespace Go.Proofs.Ytdniakoedgohkaa.Root
open Go.RowKit
attribute [local go_sem] Oper.semAt_some
set_option linter.unusedVariables false
set_option linter.unusedSimpArgs false
/-- what takePlaces answers -/
def PlPost (s : ByteArray) (a n : Nat) (w : World) (e : Ending) (w' : World) : Prop := ∃ B, e = .returned (.slice (some ⟨B, 0, none⟩) n n) ∧ Nums w' (.slice (some ⟨B, 0, none⟩) n n) (nAt s a n) ∧ w.heap.size ≤ B ∧ Below w.heap.size w w'
/-- k of the n places at block B are written -/
def RowK (W : World) (B : Nat) (s : ByteArray) (a n k : Nat) : Prop := ∃ X : Array Value, W.heap[B]? = some (.cells X 35 (0, 0)) ∧ X.size = n ∧ ∀ j, j < k → X[j]? = some (.int .u32 (takeN s (a + 4 * j) 4 : Int))
section
set_option maxRecDepth 100000
set_option maxHeartbeats 4000000
theorem rput (n : Nat) (k : Nat) (w : World) (hn : n < 256 ^ k) (h1 : 1 ≤ k) (h2 : k ≤ 8) : Calls Try.prog 28 #[.int .u64 n, .int .i64 k] w fun e w' => e = .returned (.string (numB n k)) ∧ Below w.heap.size w w' := by
  have hok : putOk n k := ⟨by omega, by omega, by simpa using hn⟩
  have hp := put_any n k w (Nat.lt_of_lt_of_le hn (Nat.pow_le_pow_right (by decide) h2))
  rw [putS_yes hok, putE_yes hok, Int.toNat_natCast] at hp
  clear hok hn
  go_enter Try.func28, Try.ntmps28
  go_wp2_with (go_at_call 59; refine hp.mono ?_; rintro e w' ⟨rfl, hB⟩)
  go_ret
  exact ⟨rfl, hB⟩
theorem rtake (s : ByteArray) (a k : Nat) (w : World) (hs : s.size ≤ 281474976710656) (h1 : 1 ≤ k) (h2 : k ≤ 8) (hk : a + k ≤ s.size) : Calls Try.prog 33 #[.string s, .int .i64 a, .int .i64 k] w fun e w' => e = .returned (.int .u64 (takeN s a k)) ∧ Below w.heap.size w w' := by
  have hok : takeOk s a k := ⟨by omega, by omega, by omega, by omega⟩
  have hp := take_any s a k w hs (by omega)
  rw [takeV_yes hok, takeE_yes hok, Int.toNat_natCast, Int.toNat_natCast] at hp
  clear hok
  go_enter Try.func33, Try.ntmps33
  go_wp2_with (go_at_call 61; refine hp.mono ?_; rintro e w' ⟨rfl, hB⟩)
  go_ret
  exact ⟨rfl, hB⟩
theorem nums_rowK {W : World} {B n : Nat} {s : ByteArray} {a : Nat} (h : RowK W B s a n n) (h9 : n ≤ 1000) : Nums W (.slice (some ⟨B, 0, none⟩) n n) (nAt s a n) := by
  obtain ⟨X, hb, hz, hx⟩ := h
  have hl := nAt_length s n a
  refine ⟨_, n, by rw [hl], by rw [hl]; exact Nat.le_refl _, ⟨by unfold maxLen; omega, fun e => by cases e⟩, by simp, fun hp => ⟨B, 0, rfl, fun j u hj => ?_⟩⟩
  have hjn : j < n := by
    have := (List.getElem?_eq_some_iff.1 hj).1
    rw [List.length_map, hl] at this
    exact this
  rw [List.getElem?_map] at hj
  rw [nAt_get s n a j hjn] at hj
  cases hj
  rw [Nat.zero_add]
  simp only [World.cell?, hb]
  exact hx j hjn
theorem places_any (s : ByteArray) (a n : Nat) (w : World) (hs : s.size = 508) (h1 : 1 ≤ n) (hn : a + 4 * n ≤ 508) : Calls Try.prog 35 #[.string s, .int .i64 (a : Int), .int .i64 (n : Int)] w (PlPost s a n w) := by
  have HT := Lib.hid (fun k (hk : k < n) W => rtake s (a + 4 * k) 4 W (by omega) (by decide) (by decide) (by omega))
  have hmk : ∀ W : World, (Instr.makeSlice 23 (.int .i64 (n : Int)) (.int .i64 (n : Int))).run Try.prog W = .ok (.slice (some ⟨W.heap.size, 0, none⟩) n n) (W.alloc (.cells (madeCells #[.int .u32 0] n) 35)) := fun W =>
    run_make_row' (P := Try.prog) 23 35 (.int .u32 0) 4 Try.underlying23 infoU32 rfl .i64 .i64 n (by omega) (by omega) W
  have hz : (madeCells #[.int .u32 0] n).size = n := by simp [madeCells]
  obtain ⟨X0, hX0⟩ : ∃ X0, madeCells #[Value.int .u32 0] n = X0 := ⟨_, rfl⟩
  rw [hX0] at hmk hz
  obtain ⟨W0, rfl⟩ : ∃ W0 : World, W0 = w := ⟨_, rfl⟩
  have HB0 := Lib.hid (below_new W0 (.cells X0 35))
  have HR0 : Hid (RowK (W0.alloc (.cells X0 35)) W0.heap.size s a n 0) := ⟨X0, World.alloc_heap_new _ _, hz, fun j hj => by omega⟩
  clear hX0 hz
  go_enter Try.func35, Try.ntmps35
  go_wp2
  go_loopw [8, 13] (fun _ i wr => ∃ k : Nat, k ≤ n ∧ i = .int .i64 (k : Int) ∧ Hid (RowK wr W0.heap.size s a n k) ∧ Hid (Below W0.heap.size W0 wr)) (fun _ i _ => n - (intOf i).toNat)
  case atStart => exact ⟨0, by omega, rfl, HR0, HB0⟩
  case round =>
    obtain ⟨k, hkn, rfl, HR, HB⟩ := hrel
    clear hmk HR0 HB0
    by_cases hlt : k < n
    · have hlt2 : (k : Int) < (n : Int) := by omega
      have P1 := Lib.hid (fun W => HT.out k hlt W)
      obtain ⟨p, hp⟩ : ∃ p, a + 4 * k = p := ⟨_, rfl⟩
      rw [hp] at P1
      have w1 : IntKind.i64.wrap ((k : Int) * 4) = 4 * (k : Int) := by rw [IntKind.wrap_i64]; omega
      have w2 : IntKind.i64.wrap ((a : Int) + 4 * (k : Int)) = (p : Int) := by rw [IntKind.wrap_i64]; omega
      have hy : takeN s p 4 < 4294967296 := by
        have := takeN_lt s p 4
        rwa [show (256 : Nat) ^ 4 = 4294967296 by decide] at this
      obtain ⟨y, hyy⟩ : ∃ y, takeN s p 4 = y := ⟨_, rfl⟩
      rw [hyy] at P1 hy
      have w3 : IntKind.u32.wrap (y : Int) = (y : Int) := by rw [IntKind.wrap_u32]; omega
      have HST : Hid (∀ W, Below wr.heap.size wr W → W.frozen? ⟨W0.heap.size, k, none⟩ = false ∧ (∃ u, W.cell? ⟨W0.heap.size, k, none⟩ = some u) ∧ RowK (W.setCell ⟨W0.heap.size, k, none⟩ (.int .u32 (y : Int))) W0.heap.size s a n (k + 1) ∧ Below W0.heap.size W0 (W.setCell ⟨W0.heap.size, k, none⟩ (.int .u32 (y : Int)))) := fun W hW => by
        obtain ⟨X, hb, hz, hx⟩ := HR.out
        have hb2 : W.heap[W0.heap.size]? = some (.cells X 35 (0, 0)) := (hW.block _ (Array.getElem?_eq_some_iff.1 hb).1).trans hb
        refine ⟨by simp [World.frozen?, hb2], ⟨X[k], ?_⟩, ⟨X.setIfInBounds k (.int .u32 (y : Int)), heap_setCell_same W _ k _ _ _ hb2, by simpa using hz, fun j hj => ?_⟩, (below_th HB.out hW).setCell (p := ⟨W0.heap.size, k, none⟩) (Nat.le_refl _) _⟩
        · simp only [World.cell?, hb2]
          exact Array.getElem?_eq_getElem (by omega)
        · by_cases e : j = k
          · subst e
            rw [hp, hyy]
            simp [Array.getElem?_setIfInBounds, hz, hlt]
          · rw [Array.getElem?_setIfInBounds, if_neg (fun h => e h.symm)]
            exact hx j (by omega)
      clear hp hyy hy HR HB
      go_wp2_with (go_at_call 33; (with_reducible refine Calls.mono (P1.out _) ?_); rintro e w1 ⟨rfl, hB1⟩; obtain ⟨f1, ⟨u1, c1⟩, hr1, hb1⟩ := HST.out _ hB1; have HR1 := Lib.hid hr1; have HB1 := Lib.hid hb1; clear hr1 hb1)
      go_roundw
      case rel => exact ⟨k + 1, by omega, by go_num, HR1, HB1⟩
      case measure => simp [intOf]; omega
    · obtain rfl : n = k := by omega
      have HF : Hid (PlPost s a n W0 (.returned (.slice (some ⟨W0.heap.size, 0, none⟩) n n)) wr) := ⟨_, rfl, nums_rowK HR.out (by omega), Nat.le_refl _, HB.out⟩
      clear HR HB
      go_wp2
      go_ret
      exact HF.out
end
end Go.Proofs.Ytdniakoedgohkaa.Root
