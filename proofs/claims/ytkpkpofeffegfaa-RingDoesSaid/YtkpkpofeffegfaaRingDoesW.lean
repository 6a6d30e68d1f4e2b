/- The walk of RingDoes: it answers true. -/
import Derived.Test.YtkpkpofeffegfaaRingArgs
namespace Go.Proofs.Ytkpkpofeffegfaa
open Go.RowKit Go.Shelf
open I (IsQ)
set_option linter.unusedVariables false

set_option maxRecDepth 100000 in
set_option maxHeartbeats 2000000 in
theorem RingDoes_walk (a0 : Int) (v : Value) (L : List (Int × Int)) (w : World) (w0 : (Lit.int .i64 a0).wf = true) (hL : Lies w v L.length 2 (opsOf L)) (wL : ∀ o ∈ L, (Lit.int .i64 o.1).wf = true) :
    Calls Try.prog 3 #[.int .i64 a0, v] w fun e w' => e = .returned (.bool true) ∧ Below w.heap.size w w' := by
  obtain ⟨a, cap, rfl, HL, hn, hm⟩ := hL.parts
  obtain ⟨N, hN⟩ : ∃ N, L.length = N := ⟨_, rfl⟩
  rw [hN] at HL hn ⊢
  clear hL
  by_cases hr : 1 ≤ a0 ∧ a0 ≤ 1024
  · obtain ⟨size, rfl⟩ := Int.eq_ofNat_of_zero_le (show 0 ≤ a0 by omega)
    have hs1 : 1 ≤ size := by omega
    have hs2 : size ≤ 1024 := by omega
    have d1 : ¬ ((size : Int) < 1) := by omega
    have d2 : ¬ ((1024 : Int) < (size : Int)) := by omega
    clear w0
    go_enter Try.func3, Try.ntmps3
    go_wp2_with (first
      | (go_at_call 8; refine (shown_any _).mono ?_; rintro e w1 ⟨rfl, hB1⟩)
      | (go_at_call 9; refine (I.new_q size _ hs1 hs2).mono ?_; rintro e w2 ⟨rfl, hq0, hB2, _⟩))
    have HB2 : Below w.heap.size w w2 := hB1.trans (hB2.mono hB1.size)
    have HL2 : Hid (Lies w2 (.slice a N cap) N 2 (opsOf L)) := (HL.out.below hB1).below hB2
    have hsz1 := hB1.size
    clear HL hB1 hB2
    go_loopw [7, 8] (fun vl i wr => ∃ (k : Nat) (l : List Int) (al : Option Addr) (cl : Nat), k ≤ N ∧ i = .int .i64 k ∧ vl = .slice al l.length cl ∧ cl ≤ 9223372036854775807 ∧ Hid (IsQ wr (w1.heap.size + 1) w1.heap.size size l) ∧ Hid (Lies wr (.slice al l.length cl) l.length 1 (I.valsOf l)) ∧ Below w.heap.size w wr ∧ Hid (Lies wr (.slice a N cap) N 2 (opsOf L)))
      (fun _ i _ => N - (intOf i).toNat)
    case atStart => exact ⟨0, [], none, 0, Nat.zero_le _, rfl, rfl, by omega, hq0, Lies.nil _ _, HB2, HL2⟩
    case round =>
      obtain ⟨k, l, al, cl, hk, rfl, rfl, hcl, hq, hl, hB, hS⟩ := hrel
      clear hq0 HL2 HB2
      by_cases hlt : k < N
      · obtain ⟨x, hx⟩ : ∃ x, L[k]? = some x := ⟨L[k]'(by omega), by simp⟩
        obtain ⟨u0, u1⟩ := opsOf_at L k x hx
        have hwx := wL x (List.mem_of_getElem? hx)
        obtain ⟨b, off, rfl, hc⟩ : ∃ b off, a = some ⟨b, off, none⟩ ∧ ∀ j u, (opsOf L)[j]? = some u → wr.cell? ⟨b, off + j, none⟩ = some u := by
          obtain ⟨_, _, h1, _, _, _, h5⟩ := hS.out
          cases h1
          exact h5 (by omega)
        have c0 := hc _ _ u0
        have c1 := hc _ _ u1
        rw [← Nat.add_assoc] at c1
        have hll : l.length ≤ 1024 := Nat.le_trans hq.out.fits hq.out.most
        have hD := fun W h1 h2 => does_any (w1.heap.size + 1) w1.heap.size size l (.slice al l.length cl) x.1 x.2 W hwx h1 h2
        by_cases h3 : k < 300
        · clear hc u0 u1 hx hwx
          go_wp2_with (first
            | (go_at_call 10; refine (hD _ hq.out hl.out).mono ?_; rintro e w3 ⟨l3, al3, cl3, rfl, hq3, hl3, hcl3, hg3⟩; have hll3 : l3.length ≤ 1024 := Nat.le_trans hq3.out.fits hq3.out.most)
            | (go_at_call 11; refine (I.len_q _ _ _ _ _ hq3.out).mono ?_; rintro e w4 ⟨rfl, rfl⟩)
            | (go_at_call 12; refine (I.size_q _ _ _ _ _ hq3.out).mono ?_; rintro e w5 ⟨rfl, rfl⟩))
          have hB3 : Below w.heap.size w w3 := hB.grown hg3 hB.size (fun k e => by cases e; exact hsz1)
          have hS3 : Hid (Lies w3 (.slice (some ⟨b, off, none⟩) N cap) N 2 (opsOf L)) := hS.out.grown hg3 (IsQ.chan_only hq.out)
          clear hD hq hl hS hg3 hB c0 c1
          go_roundw
          case rel => exact ⟨k + 1, l3, al3, cl3, by omega, by go_num, rfl, hcl3, hq3, hl3, hB3, hS3⟩
          case measure => simp [intOf]; omega
        · clear hc u0 u1 hx hwx hD
          go_wp2
          go_ret
          exact ⟨rfl, hB⟩
      · obtain rfl : k = N := by omega
        go_wp2
        all_goals
          go_ret
          exact ⟨rfl, hB⟩
  · have hno : a0 < 1 ∨ 1024 < a0 := by omega
    by_cases h1 : a0 < 1
    all_goals
      go_enter Try.func3, Try.ntmps3
      go_wp2_with (first
        | (go_at_call 8; refine (shown_any _).mono ?_; rintro e w1 ⟨rfl, hB1⟩)
        | (go_at_call 9; refine (I.new_not a0 _ hno).mono ?_; rintro e w2 ⟨rfl, rfl⟩))
      all_goals
        go_ret
        exact ⟨rfl, hB1⟩
end Go.Proofs.Ytkpkpofeffegfaa
