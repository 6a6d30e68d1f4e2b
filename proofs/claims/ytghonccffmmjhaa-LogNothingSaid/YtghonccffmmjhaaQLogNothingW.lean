/- On an empty disk nothing is found: the walk. -/
import Derived.Test.YtghonccffmmjhaaPk29
import Derived.Test.YtghonccffmmjhaaPk30
import Derived.Test.YtghonccffmmjhaaPk31
namespace Go.Proofs.Ytghonccffmmjhaa.Log
open Go.RowKit Go.Shelf
open Disk (D IsDisk)
open Record (below_al below_new)
attribute [local go_sem] Oper.semAt_some
set_option linter.unusedVariables false
section
set_option maxRecDepth 100000
set_option maxHeartbeats 4000000
theorem LogNothing_walk (a0 a1 a2 : Int) (w : World) (w0 : (Lit.int .i64 a0).wf = true) (w1 : (Lit.int .u64 a1).wf = true) (w2 : (Lit.int .i64 a2).wf = true) : Calls Try.prog 6 #[.int .i64 a0, .int .u64 a1, .int .i64 a2] w fun e w' => e = .returned (.bool true) ∧ Below w.heap.size w w' := by
  obtain ⟨b1, b2⟩ := bounds64 w0
  have HS := Lib.hid (shown_any w)
  obtain ⟨d0, hd0⟩ : ∃ d, D.of (List.replicate 128 (zeros 512)) = d := ⟨_, rfl⟩
  have hlen : d0.B.length = 128 := by rw [← hd0]; exact List.length_replicate
  have hops : d0.ops = 0 := by rw [← hd0]; rfl
  have hnow : d0.now = List.replicate 128 (zeros 512) := by rw [← hd0]; rfl
  have HN : Hid (∀ W, Calls Try.prog 9 #[.int .i64 128] W (NewPost 0 128 W)) := fun W => new_disk 128 (by decide) W
  unfold NewPost at HN
  simp only [hd0] at HN
  clear hd0
  by_cases hP : beginP 128 a0 a1 a2
  · obtain ⟨⟨p1, p2, p3⟩, ⟨p4, p5⟩, p6⟩ := id hP
    have hn2 : 0 ≤ a2 := p6.elim (fun h => by omega) (fun h => by have := h.1; omega)
    obtain ⟨a, rfl⟩ := Int.eq_ofNat_of_zero_le (show 0 ≤ a0 by omega)
    obtain ⟨s, rfl⟩ := Int.eq_ofNat_of_zero_le (show 0 ≤ a1 by omega)
    obtain ⟨x, rfl⟩ := Int.eq_ofNat_of_zero_le hn2
    have HB : Hid (∀ W p G, IsDisk W p G d0 → Calls Try.prog 10 #[.pointer (some ⟨p, 0, none⟩), .int .i64 (a : Int), .int .u64 (s : Int), .int .i64 (x : Int)] W fun e w' => ∃ q, e = .returned (.tuple #[.pointer (some ⟨q, 0, none⟩), .int .i64 0]) ∧ LAt w' q p ⟨a, s, x⟩ ∧ Below W.heap.size W w') := fun W p G h => (begin_yes (⟨a, s, x⟩ : Lg) h (by rw [hlen]; exact hP)).mono fun e w' ⟨h1, h2⟩ => by subst h2; exact ⟨_, h1, LAt.new W p ⟨a, s, x⟩, below_new W _⟩
    have HC : Hid (∀ W p G, IsDisk W p G d0 → Calls Try.prog 19 #[.pointer (some ⟨p, 0, none⟩), .int .i64 (a : Int), .int .u64 (s : Int), .int .i64 (x : Int)] W fun e w' => ∃ c cap q, e = .returned (.tuple #[.slice c 0 cap, .pointer (some ⟨q, 0, none⟩), .int .i64 0]) ∧ LAt w' q p ⟨a, s, x⟩ ∧ Below W.heap.size W w') := fun W p G h =>
      (sys_scan (n0 := 0) (⟨a, s, x⟩ : Lg) h (by rw [hlen]; exact hP) (by rw [hlen]) ⟨fun k hk => by omega, zeros_not (by rw [hnow]; exact blk_zero 128 a (by omega))⟩ (by decide)).mono fun e w' hP => by
        obtain ⟨v, q, h1, h2, h3, _, h4⟩ := hP
        obtain ⟨c, cap, rfl, _, _⟩ := h2.parts
        exact ⟨c, cap, q, h1, h3, h4⟩
    have e1 : ((a : Int) == (a : Int)) = true := by simp
    clear hP p1 p2 p3 p4 p5 p6 hnow
    go_enter Try.func6, Try.ntmps6
    go_wp2_with (first
      | (go_at_call 8; (with_reducible refine Calls.mono HS.out ?_); rintro e w1 ⟨rfl, hB1⟩)
      | (go_at_call 9; (with_reducible refine Calls.mono (HN.out _) ?_); rintro e w2 ⟨p, G, rfl, hD2, _, _, hB2⟩; have hA2 := below_th hB1 hB2)
      | (go_at_call 10; (with_reducible refine Calls.mono (HB.out _ _ _ hD2) ?_); rintro e w3 ⟨q3, rfl, hL3, hB3⟩; have hA3 := below_th hA2 hB3; have hD3 := hD2.below hB3)
      | (go_at_call 19; (with_reducible refine Calls.mono (HC.out _ _ _ hD3) ?_); rintro e w4 ⟨c4, cap4, q4, rfl, hL4, hB4⟩; have hA4 := below_th hA3 hB4; have hL5 := hL3.th hB4; have hD5 := hD3.below hB4; have hat := at_l hL4; have hsq := seq_l hL4; have hnx := next_l hL4; have hat3 := at_l hL5; have hop := Disk.ops_d hD5; dsimp only at hat hsq hnx hat3; rw [hops] at hop)
      | (go_at_call 17; (with_reducible refine Calls.mono hat ?_); rintro e w5 ⟨rfl, rfl⟩)
      | (go_at_call 17; (with_reducible refine Calls.mono hat3 ?_); rintro e w5 ⟨rfl, rfl⟩)
      | (go_at_call 21; (with_reducible refine Calls.mono hsq ?_); rintro e w5 ⟨rfl, rfl⟩)
      | (go_at_call 13; (with_reducible refine Calls.mono hnx ?_); rintro e w5 ⟨rfl, rfl⟩)
      | (go_at_call 26; (with_reducible refine Calls.mono hop ?_); rintro e w5 ⟨rfl, rfl⟩))
    go_ret
    exact ⟨by simp, hA4⟩
  · have HB : Hid (∀ W p G, IsDisk W p G d0 → Calls Try.prog 10 #[.pointer (some ⟨p, 0, none⟩), .int .i64 a0, .int .u64 a1, .int .i64 a2] W fun e w' => e = .returned (.tuple #[.pointer none, .int .i64 151]) ∧ W = w') := fun W p G h => begin_no a0 a1 a2 b1 b2 h (by rw [hlen]; exact hP)
    have HC : Hid (∀ W p G, IsDisk W p G d0 → Calls Try.prog 19 #[.pointer (some ⟨p, 0, none⟩), .int .i64 a0, .int .u64 a1, .int .i64 a2] W fun e w' => e = .returned (.tuple #[.slice none 0 0, .pointer none, .int .i64 151]) ∧ Below W.heap.size W w') := fun W p G h => scan_err (.pointer (some ⟨p, 0, none⟩)) a0 a1 a2 151 (by decide) (begin_no a0 a1 a2 b1 b2 h (by rw [hlen]; exact hP))
    clear hP hnow
    go_enter Try.func6, Try.ntmps6
    go_wp2_with (first
      | (go_at_call 8; (with_reducible refine Calls.mono HS.out ?_); rintro e w1 ⟨rfl, hB1⟩)
      | (go_at_call 9; (with_reducible refine Calls.mono (HN.out _) ?_); rintro e w2 ⟨p, G, rfl, hD2, _, _, hB2⟩; have hA2 := below_th hB1 hB2)
      | (go_at_call 10; (with_reducible refine Calls.mono (HB.out _ _ _ hD2) ?_); rintro e w3 ⟨rfl, rfl⟩)
      | (go_at_call 19; (with_reducible refine Calls.mono (HC.out _ _ _ hD2) ?_); rintro e w4 ⟨rfl, hB4⟩; have hA4 := below_th hA2 hB4))
    go_ret
    exact ⟨rfl, hA4⟩
end
end Go.Proofs.Ytghonccffmmjhaa.Log
