/- The library's Chunk hands out numbers, 127 at a time. -/
import Derived.Test.YtdakfdecfpebcaaBmpIter
namespace Go.Proofs.Ytdakfdecfpebcaa.Bmp
open Go.RowKit Ino
attribute [local go_sem] Oper.semAt_some
set_option linter.unusedVariables false

/-- how long the k-th piece is, and where it lies -/
def chN (N k : Nat) : Nat := min 127 (N - 127 * k)
def chEnc (b off N k : Nat) : Array Value := #[.slice (some ⟨b, off + 127 * k, none⟩) (chN N k) (chN N k)]
section
set_option maxRecDepth 100000
set_option maxHeartbeats 4000000
theorem chunk1_in (n : Nat) (hn : 1 ≤ n) (l Bx By b off cap N : Nat) (hN0 : 0 < N) (hN9 : N ≤ 100000) (J Jx : Nat → World → Prop) (B0 : Nat) (hJ : AbidesFrom B0 J)
    (hY : ∀ k W, J k W → 127 * k < N → YieldAt Fence.wide (n - 1) Try.prog l (chEnc b off N k) W fun e W' => (e = .returned (.bool true) ∧ J (k + 1) W' ∧ Same [Bx, By] W W') ∨ (e = .returned (.bool false) ∧ Jx k W'))
    (W : World) (hbx : W.cell? ⟨Bx, 0, none⟩ = some (.slice (some ⟨b, off, none⟩) N cap)) (hby : W.cell? ⟨By, 0, none⟩ = some (.int .i64 127)) (hcap : N ≤ cap) (hcap2 : cap ≤ 9223372036854775807) (h0 : J 0 W) :
    CallsIn Fence.wide n Try.prog 40 #[.func (.yield l) #[] #[], .pointer (some ⟨Bx, 0, none⟩), .pointer (some ⟨By, 0, none⟩)] W fun e W' => (∃ v, e = .returned v) ∧ (J ((N + 126) / 127) W' ∨ ∃ k, k < (N + 126) / 127 ∧ Jx k W') := by
  have hfn : ∀ f, Fence.wide.fn f := fun _ => trivial
  have hJa : ∀ k W1 W2, J k W1 → Below W1.heap.size W1 W2 → J k W2 := fun k W1 W2 h hB => hJ _ _ _ none h (grown_of_below hB) (fun r e => by cases e)
  have hlt := World.block_lt_of_cell? _ _ hbx
  have hlt2 := World.block_lt_of_cell? _ _ hby
  have HA := Lib.hid hJa
  have HY := Lib.hid hY
  have HX := Lib.hid (fun W' (h : Same [Bx, By] W W') => And.intro ((h.cell (p := ⟨Bx, 0, none⟩) (by simp)).trans hbx) ((h.cell (p := ⟨By, 0, none⟩) (by simp)).trans hby))
  clear hJa hY hJ hbx hby
  refine callsIn_of_wp Try.func40 rfl trivial ?_ rfl
  simp only [Try.ntmps40, List.size_toArray, List.length_cons, List.length_nil, Nat.reduceAdd, Nat.reduceSub, Array.replicate_succ, Array.replicate_zero, List.push_toArray, List.append_toArray, List.nil_append, List.cons_append]
  gi_wp2
  gi_loopw [4, 5] (fun i _ wr => ∃ k : Nat, 127 * k < N + 127 ∧ i = .int .i64 ((127 * k : Nat) : Int) ∧ J k wr ∧ Same [Bx, By] W wr) (fun i _ _ => N + 127 - (intOf i).toNat)
  case atStart => exact ⟨0, by omega, rfl, h0, Same.refl _ _⟩
  case round =>
    obtain ⟨k, hk, rfl, hJk, hS⟩ := hrel
    obtain ⟨c0, c1⟩ := HX.out _ hS
    obtain ⟨i, hi⟩ : ∃ i, 127 * k = i := ⟨_, rfl⟩
    rw [hi]
    by_cases hltk : i < N
    · have d0 : wr.drew.cell? ⟨Bx, 0, none⟩ = some (.slice (some ⟨b, off, none⟩) N cap) := c0
      have d1 : wr.drew.cell? ⟨By, 0, none⟩ = some (.int .i64 127) := c1
      obtain ⟨m, hm⟩ : ∃ m, chN N k = m := ⟨_, rfl⟩
      have hm2 : m = min 127 (N - i) := by rw [← hm, ← hi]; rfl
      have hmin : (if ((N - i : Nat) : Int) < 127 then ((N - i : Nat) : Int) else 127) = (m : Int) := by rw [hm2]; split <;> omega
      have hsub : (N : Int) - (i : Int) = ((N - i : Nat) : Int) := by omega
      have hwm : IntKind.i64.wrap ((i : Int) + (m : Int)) = (i : Int) + (m : Int) := by rw [IntKind.wrap_i64]; omega
      have hw127 : IntKind.i64.wrap ((i : Int) + 127) = (i : Int) + 127 := by rw [IntKind.wrap_i64]; omega
      have hb1 : (i : Int) + (m : Int) ≤ (cap : Int) := by omega
      have hb2 : i ≤ cap := by omega
      have hb3 : i ≤ N := by omega
      have hb4 : (i : Int) ≤ (i : Int) + (m : Int) := by omega
      have hne : ¬ cap = i := by omega
      gi_wp2
      refine wpIn_wide.2 ?_
      go_quiet (fail)
      obtain ⟨V, hV⟩ : ∃ V, wr.drewN nq = V := ⟨_, rfl⟩
      have e0 : V.cell? ⟨Bx, 0, none⟩ = some (.slice (some ⟨b, off, none⟩) N cap) := by rw [← hV]; exact c0
      have e1 : V.cell? ⟨By, 0, none⟩ = some (.int .i64 127) := by rw [← hV]; exact c1
      have hBV : Below wr.heap.size wr V := by rw [← hV]; exact below_drewN (Below.refl _ _) _
      have HSV := Lib.hid (show Same [Bx, By] W V from hS.trans (by rw [← hV]; exact fun _ _ => rfl))
      have hJV := HA.out _ _ _ hJk hBV
      obtain ⟨fn, tmps, assign, body, hy, hR⟩ := HY.out k V hJV (by omega)
      have henc : chEnc b off N k = #[.slice (some ⟨b, off + i, none⟩) m m] := by unfold chEnc; rw [hm, hi]
      rw [henc] at hy
      rw [hV, show min (127 : Int) ((N - i : Nat) : Int) = (m : Int) by omega]
      have hm127 : m ≤ 127 := by omega
      have hm1 : 1 ≤ m := by omega
      have hm0 : ¬ m = 0 := by omega
      have hmi : ¬ i + m = i := by omega
      clear hV hBV hJV hJk henc hm d0 d1 c0 c1 hS hmin hm2
      have hnat : i + m - i = m := by omega
      have hk1 : i + 127 = 127 * (k + 1) := by omega
      have HK1 := Lib.hid hk1
      have HI := Lib.hid hi
      clear hi hk1
      gi_wp2
      refine hR.mono ?_
      rintro e W3 (⟨rfl, hJ3, hk3⟩ | ⟨rfl, hJx3⟩)
      · obtain ⟨q0, q1⟩ := HX.out W3 (HSV.out.trans hk3)
        gi_wp2
        go_roundw
        case rel => exact ⟨k + 1, by have := HI.out; omega, by rw [← HK1.out]; go_num, hJ3, HSV.out.trans hk3⟩
        case measure => simp [intOf]; omega
      · gi_wp2
        refine bodyPost_ret (results_none rfl _ _ _) rfl ?_
        exact ⟨⟨_, rfl⟩, .inr ⟨k, by have := HI.out; omega, hJx3⟩⟩
    · have hkk : (N + 126) / 127 = k := by omega
      have HJ : Hid (J ((N + 126) / 127) wr) := by rw [hkk]; exact hJk
      clear hi hJk hkk
      gi_wp2
      go_end0
      exact ⟨⟨_, rfl⟩, .inl HJ.out⟩
theorem chunk_in (n : Nat) (a : Option Addr) (N cap : Nat) (w : World) :
    CallsIn Fence.wide n Try.prog 29 #[.slice a N cap, .int .i64 127] w fun e w' => e = .returned (.func (.func 40) #[] #[.pointer (some ⟨w.heap.size, 0, none⟩), .pointer (some ⟨w.heap.size + 1, 0, none⟩)]) ∧ (w.alloc (.cells #[.slice a N cap] 31)).alloc (.cells #[.int .i64 127] 3) = w' := by
  refine callsIn_of_wp Try.func29 rfl trivial ?_ rfl
  simp only [Try.ntmps29, List.size_toArray, List.length_cons, List.length_nil, Nat.reduceAdd, Nat.reduceSub, Array.replicate_succ, Array.replicate_zero, List.push_toArray, List.append_toArray, List.nil_append, List.cons_append]
  gi_wp2
  go_ret
  exact ⟨rfl, rfl⟩
end
end Go.Proofs.Ytdakfdecfpebcaa.Bmp
