/- The bag's law: a call that asks for the numbers. -/
import Derived.Deep.RegionHeld3
import Derived.Test.YtkhbfjncamobdaaBagAsk
namespace Go.Proofs.Ytkhbfjncamobdaa.S
open Go.RowKit Go.Shelf
set_option linter.unusedVariables false

section
set_option maxRecDepth 100000
set_option maxHeartbeats 4000000
theorem asks_keys (ks : List Int) (k a t : Int) (s : ByteArray) (va : Option Addr) (vn vc p : Nat) (w W0 : World) (hW0 : w.alloc (.cells #[.int .i64 k, .int .i64 a, .int .i64 t, .string s] 30) = W0)
    (e5 : (k == 5) = true) (c0 : W0.cell? ⟨w.heap.size, 0, none⟩ = some (.int .i64 k)) (c1 : W0.cell? ⟨w.heap.size, 1, none⟩ = some (.int .i64 a)) (c2 : W0.cell? ⟨w.heap.size, 2, none⟩ = some (.int .i64 t)) (hBa : Below w.heap.size w W0)
    (HOB : Hid (∀ W, Below W0.heap.size W0 W → W.cell? ⟨w.heap.size, 1, none⟩ = some (.int .i64 a) ∧ W.cell? ⟨w.heap.size, 2, none⟩ = some (.int .i64 t)))
    (HK : Hid (∀ W, Below W0.heap.size W0 W → Calls Try.prog 24 #[.pointer (some ⟨p, 0, none⟩), .int .i64 a, .int .i64 t] W (KeysPost ks W)))
    (HKr : Hid (∀ W, Below W0.heap.size W0 W → Calls Try.prog 25 #[.slice va vn vc, .int .i64 a, .int .i64 t] W (KeysPost ks W)))
    (HSm : Hid (∀ u1 u2 W, Lies W u1 ks.length 1 (intsOf ks) → Lies W u2 ks.length 1 (intsOf ks) → Calls Try.prog 23 #[u1, u2] W fun e w' => e = .returned (.bool true) ∧ Below W.heap.size W w')) :
    Calls Try.prog 16 #[.pointer (some ⟨p, 0, none⟩), .slice va vn vc, .agg #[.int .i64 k, .int .i64 a, .int .i64 t, .string s]] w fun e w' => e = .returned (.bool true) ∧ Below w.heap.size w w' := by
  have hBd : Below W0.heap.size W0 W0.drew := (Below.refl _ _).drew
  go_enter Try.func16, Try.ntmps16
  go_wp2
  go_region_held3 (fun w' => w'.cell? ⟨w.heap.size, 1, none⟩ = some (.int .i64 a) ∧ w'.cell? ⟨w.heap.size, 2, none⟩ = some (.int .i64 t)) (first | exact HOB.out _ (below_th hBe hBz) | exact HOB.out _ hBe | exact HOB.out _ hBr | exact HOB.out _ hBd2 | exact HOB.out _ hBd) (first
    | (go_at_call 23; ((with_reducible refine Calls.mono (HSm.out _ _ _ L1 L2) ?_); rintro e wz ⟨rfl, hBz⟩))
    | (go_at_call 24; ((with_reducible refine Calls.mono (HK.out _ hBr) ?_); rintro e wd ⟨u1, rfl, ho1, hBx⟩; have hBe : Below W0.heap.size W0 wd := below_th hBr hBx; have L1 := Lies.own ho1; have L2 := (Lies.own ho2').below hBx))
    | (go_at_call 24; ((with_reducible refine Calls.mono (HK.out _ hBd) ?_); rintro e wd ⟨u1, rfl, ho1', hBx⟩; have hBd2 : Below W0.heap.size W0 wd := below_th hBd hBx; obtain ⟨y1, y2⟩ := HOB.out _ hBd2))
    | (go_at_call 25; ((with_reducible refine Calls.mono (HKr.out _ hBd2) ?_); rintro e wr ⟨u2, rfl, ho2, hBy⟩; have hBe : Below W0.heap.size W0 wr := below_th hBd2 hBy; have L2 := Lies.own ho2; have L1 := (Lies.own ho1').below hBy))
    | (go_at_call 25; ((with_reducible refine Calls.mono (HKr.out _ hBd) ?_); rintro e wr ⟨u2, rfl, ho2', hBy⟩; have hBr : Below W0.heap.size W0 wr := below_th hBd hBy; obtain ⟨y1, y2⟩ := HOB.out _ hBr)))
  all_goals
    go_wp2
    go_ret
    exact ⟨rfl, below_th hBa (below_th hBe hBz)⟩
end
end Go.Proofs.Ytkhbfjncamobdaa.S
