/- The library's Chunk hands out a table's places, nine at a time. -/
import Derived.Test.YtoedjemelblpaaaCpsTable
namespace Go.Proofs.Ytoedjemelblpaaa.Cps
open Go.RowKit
attribute [local go_sem] Oper.semAt_some
set_option linter.unusedVariables false
set_option linter.unusedSimpArgs false

/-- the blocks bs lie as they lay -/
def Same (bs : List Nat) (W W' : World) : Prop := ∀ b, b ∈ bs → W'.heap[b]? = W.heap[b]?
theorem Same.refl (bs : List Nat) (W : World) : Same bs W W := fun _ _ => rfl
theorem Same.trans {bs : List Nat} {A B C : World} (h : Same bs A B) (k : Same bs B C) : Same bs A C := fun b hb => (k b hb).trans (h b hb)
theorem Same.below {bs : List Nat} {W W' : World} {n : Nat} (hb : Below n W W') (h : ∀ b, b ∈ bs → b < n) : Same bs W W' := fun b hh => hb.block b (h b hh)
theorem Same.cell {bs : List Nat} {W W' : World} (h : Same bs W W') {p : Addr} (hp : p.block ∈ bs) : W'.cell? p = W.cell? p := World.cell?_of_block (w := W) (h p.block hp)
theorem sameK_t {bs : List Nat} {A B C : World} (h : Same bs A B) (k : Same bs B C) : Same bs A C := h.trans k
theorem sameK_b {bs : List Nat} {w : World} (hn : ∀ b, b ∈ bs → b < w.heap.size) (W : World) (l : Nat) (o o' : Obj) (hl : w.heap.size ≤ l) (_ : W.heap[l]? = some o) (_ : o.isCells = false) (_ : o.isWalk = false) : Same bs W (W.putObj l o') :=
  fun b hb => World.putObj_heap_other (by have := hn b hb; omega)

/-- how long the k-th piece is, and where it lies -/
def chN (N k : Nat) : Nat := min 9 (N - 9 * k)
def chEnc (b off N k : Nat) : Array Value := #[.slice (some ⟨b, off + 9 * k * 4, none⟩) (chN N k) (chN N k)]
section
set_option maxRecDepth 100000
set_option maxHeartbeats 4000000
theorem chunk1_in (n : Nat) (hn : 1 ≤ n) (l Bx By b off cap N : Nat) (a : Option Addr) (ha : 0 < N → a = some ⟨b, off, none⟩) (hN9 : N ≤ 100000) (J Jx : Nat → World → Prop) (B0 : Nat) (hJ : AbidesFrom B0 J)
    (hY : ∀ k W, J k W → 9 * k < N → YieldAt Fence.wide (n - 1) Try.prog l (chEnc b off N k) W fun e W' => (e = .returned (.bool true) ∧ J (k + 1) W' ∧ Same [Bx, By] W W') ∨ (e = .returned (.bool false) ∧ Jx k W'))
    (W : World) (hbx : W.cell? ⟨Bx, 0, none⟩ = some (.slice a N cap)) (hby : W.cell? ⟨By, 0, none⟩ = some (.int .i64 9)) (hcap : N ≤ cap) (hcap2 : cap ≤ 9223372036854775807) (h0 : J 0 W) :
    CallsIn Fence.wide n Try.prog 62 #[.func (.yield l) #[] #[], .pointer (some ⟨Bx, 0, none⟩), .pointer (some ⟨By, 0, none⟩)] W fun e W' => (∃ v, e = .returned v) ∧ (J ((N + 8) / 9) W' ∨ ∃ k, k < (N + 8) / 9 ∧ Jx k W') := by
  have hfn : ∀ f, Fence.wide.fn f := fun _ => trivial
  have hJa : ∀ k W1 W2, J k W1 → Below W1.heap.size W1 W2 → J k W2 := fun k W1 W2 h hB => hJ _ _ _ none h (grown_of_below hB) (fun r e => by cases e)
  have hlt := World.block_lt_of_cell? _ _ hbx
  have hlt2 := World.block_lt_of_cell? _ _ hby
  have HA := Lib.hid hJa
  have HY := Lib.hid hY
  have HX := Lib.hid (fun W' (h : Same [Bx, By] W W') => And.intro ((h.cell (p := ⟨Bx, 0, none⟩) (by simp)).trans hbx) ((h.cell (p := ⟨By, 0, none⟩) (by simp)).trans hby))
  clear hJa hY hJ hbx hby
  refine callsIn_of_wp Try.func62 rfl trivial ?_ rfl
  simp only [Try.ntmps62, List.size_toArray, List.length_cons, List.length_nil, Nat.reduceAdd, Nat.reduceSub, Array.replicate_succ, Array.replicate_zero, List.push_toArray, List.append_toArray, List.nil_append, List.cons_append]
  gi_wp2
  gi_loopw [4, 5] (fun i _ wr => ∃ k : Nat, 9 * k < N + 9 ∧ i = .int .i64 ((9 * k : Nat) : Int) ∧ J k wr ∧ Same [Bx, By] W wr) (fun i _ _ => N + 9 - (intOf i).toNat)
  case atStart => exact ⟨0, by omega, rfl, h0, Same.refl _ _⟩
  case round =>
    obtain ⟨k, hk, rfl, hJk, hS⟩ := hrel
    obtain ⟨c0, c1⟩ := HX.out _ hS
    obtain ⟨i, hi⟩ : ∃ i, 9 * k = i := ⟨_, rfl⟩
    rw [hi]
    by_cases hltk : i < N
    · obtain rfl := ha (by omega)
      have d0 : wr.drew.cell? ⟨Bx, 0, none⟩ = some (.slice (some ⟨b, off, none⟩) N cap) := c0
      have d1 : wr.drew.cell? ⟨By, 0, none⟩ = some (.int .i64 9) := c1
      obtain ⟨m, hm⟩ : ∃ m, chN N k = m := ⟨_, rfl⟩
      have hm2 : m = min 9 (N - i) := by rw [← hm, ← hi]; rfl
      have hmin : (if ((N - i : Nat) : Int) < 9 then ((N - i : Nat) : Int) else 9) = (m : Int) := by rw [hm2]; split <;> omega
      have hsub : (N : Int) - (i : Int) = ((N - i : Nat) : Int) := by omega
      have hwm : IntKind.i64.wrap ((i : Int) + (m : Int)) = (i : Int) + (m : Int) := by rw [IntKind.wrap_i64]; omega
      have hw9 : IntKind.i64.wrap ((i : Int) + 9) = (i : Int) + 9 := by rw [IntKind.wrap_i64]; omega
      have hb1 : (i : Int) + (m : Int) ≤ (cap : Int) := by omega
      have hb2 : i ≤ cap := by omega
      have hb3 : i ≤ N := by omega
      have hb4 : (i : Int) ≤ (i : Int) + (m : Int) := by omega
      have hne : ¬ cap = i := by omega
      gi_wp2
      refine wpIn_wide.2 ?_
      go_quiet (fail)
      obtain ⟨V, hV⟩ : ∃ V, wr.drewN nq = V := ⟨_, rfl⟩
      have e0 : V.cell? ⟨Bx, 0, none⟩ = some (.slice (some ⟨b, off, none⟩) N cap) := by rw [← hV]; exact c0
      have e1 : V.cell? ⟨By, 0, none⟩ = some (.int .i64 9) := by rw [← hV]; exact c1
      have hBV : Below wr.heap.size wr V := by rw [← hV]; exact below_drewN (Below.refl _ _) _
      have HSV := Lib.hid (show Same [Bx, By] W V from hS.trans (by rw [← hV]; exact fun _ _ => rfl))
      have hJV := HA.out _ _ _ hJk hBV
      obtain ⟨fn, tmps, assign, body, hy, hR⟩ := HY.out k V hJV (by omega)
      have henc : chEnc b off N k = #[.slice (some ⟨b, off + i * 4, none⟩) m m] := by unfold chEnc; rw [hm, hi]
      rw [henc] at hy
      rw [hV]
      rw [show min (9 : Int) ((N - i : Nat) : Int) = (m : Int) by omega]
      have hm9 : m ≤ 9 := by omega
      have hm1 : 1 ≤ m := by omega
      have hm0 : ¬ m = 0 := by omega
      have hmi : ¬ i + m = i := by omega
      clear hV hBV hJV hJk henc hm d0 d1 c0 c1 hS hmin hm2
      have hnat : i + m - i = m := by omega
      have hk1 : i + 9 = 9 * (k + 1) := by omega
      have HK1 := Lib.hid hk1
      have HI := Lib.hid hi
      clear hi hk1
      gi_wp2
      refine hR.mono ?_
      rintro e W3 (⟨rfl, hJ3, hk3⟩ | ⟨rfl, hJx3⟩)
      · obtain ⟨q0, q1⟩ := HX.out W3 (HSV.out.trans hk3)
        gi_wp2
        go_roundw
        case rel => exact ⟨k + 1, by have := HI.out; omega, by rw [← HK1.out]; go_num, hJ3, HSV.out.trans hk3⟩
        case measure => simp [intOf]; omega
      · gi_wp2
        refine bodyPost_ret (results_none rfl _ _ _) rfl ?_
        exact ⟨⟨_, rfl⟩, .inr ⟨k, by have := HI.out; omega, hJx3⟩⟩
    · have hkk : (N + 8) / 9 = k := by omega
      have HJ : Hid (J ((N + 8) / 9) wr) := by rw [hkk]; exact hJk
      clear hi hJk hkk
      gi_wp2
      go_end0
      exact ⟨⟨_, rfl⟩, .inl HJ.out⟩
theorem chunk_in (n : Nat) (a : Option Addr) (N cap : Nat) (w : World) :
    CallsIn Fence.wide n Try.prog 48 #[.slice a N cap, .int .i64 9] w fun e w' => e = .returned (.func (.func 62) #[] #[.pointer (some ⟨w.heap.size, 0, none⟩), .pointer (some ⟨w.heap.size + 1, 0, none⟩)]) ∧ (w.alloc (.cells #[.slice a N cap] 22)).alloc (.cells #[.int .i64 9] 3) = w' := by
  refine callsIn_of_wp Try.func48 rfl trivial ?_ rfl
  simp only [Try.ntmps48, List.size_toArray, List.length_cons, List.length_nil, Nat.reduceAdd, Nat.reduceSub, Array.replicate_succ, Array.replicate_zero, List.push_toArray, List.append_toArray, List.nil_append, List.cons_append]
  gi_wp2
  go_ret
  exact ⟨rfl, rfl⟩
end
end Go.Proofs.Ytoedjemelblpaaa.Cps
