/- Several texts in one, each under its own heading. -/
import Derived.Test.YteopcjfakhmifaaPk27
import Derived.Test.YteopcjfakhmifaaPk15
import Derived.Test.YteopcjfakhmifaaPk18
import Derived.Test.YteopcjfakhmifaaPk29
/- Node of the program. -/
namespace Go.Proofs.Yteopcjfakhmifaa.Vol
open Go.RowKit
open Ino (I M IOk RightP rightB)
open Pln (Nd nd)
attribute [local go_sem] Oper.semAt_some
set_option linter.unusedVariables false
set_option linter.unusedSimpArgs false
section
set_option maxRecDepth 100000
set_option maxHeartbeats 4000000
theorem node_any (x : I) (d : ByteArray) (w : World) (hx : IOk x) (hd : d.size ≤ 281474976710656) : Calls Try.prog 22 #[x.val, .string d] w (Ans w (.tuple #[(ndV x d).val, .int .i64 (ndE x d)])) := by
  have hr := fun W => Ino.right_any x hx W
  have HCL := Lib.hid (fun W => clone_any d W hd)
  have hA := Ino.At.new w x
  have hB1 := below_new w (Ino.boxO x)
  obtain ⟨O, hO⟩ : ∃ O : Obj, O = .cells #[.int .i64 0, .int .u16 0, .int .u16 0, .int .u64 0, .string ⟨#[]⟩] 38 := ⟨_, rfl⟩
  have hZ : Pln.At ((w.alloc (Ino.boxO x)).alloc O) (w.alloc (Ino.boxO x)).heap.size Nd.zero := by rw [hO]; exact Pln.At.new (w.alloc (Ino.boxO x)) Nd.zero
  have hB2 := below_new (w.alloc (Ino.boxO x)) O
  have hA2 := hA.th hB2
  have hB := below_th hB1 hB2
  rw [World.size_alloc] at hZ
  obtain ⟨W1, hW1⟩ : ∃ W1, (w.alloc (Ino.boxO x)).alloc O = W1 := ⟨_, rfl⟩
  have hc := hA2.c
  rw [hW1] at hA2 hB hZ hc
  rw [hO] at hW1
  unfold Ino.boxO at hW1
  have HA := Lib.hid hA2
  have HZ := Lib.hid hZ
  have HB := Lib.hid hB
  have hsz : x.size < 4294967296 := hx.size
  have hu1 : IntKind.u64.wrap (d.size : Int) = (d.size : Int) := by rw [IntKind.wrap_u64]; omega
  have hu2 : IntKind.u64.wrap (x.size : Int) = (x.size : Int) := by rw [IntKind.wrap_u64]; omega
  clear hA hB1 hB2 hA2 hZ hB
  by_cases h1 : RightP x
  · have hrr : rightB x = true := decide_eq_true h1
    rw [hrr] at hr
    by_cases h2 : d.size = x.size
    · obtain ⟨v1, v2⟩ := nd_yes ⟨h1, h2⟩
      rw [v1, v2]
      have g3 : ((d.size : Int) != (x.size : Int)) = false := by simp [h2]
      have hS : ∀ W, Below (w.heap.size + 1) W1 W → W.cell? ⟨w.heap.size, 0, none⟩ = some (.int .i64 x.kind) ∧ W.cell? ⟨w.heap.size, 1, none⟩ = some (.int .u16 x.mode) ∧ W.cell? ⟨w.heap.size, 2, none⟩ = some (.int .u16 x.links) ∧ W.cell? ⟨w.heap.size, 4, none⟩ = some (.int .u64 x.time) := fun W h => by
        obtain ⟨c0, c1, c2, c3, c4, c5⟩ := HA.out.c
        have hb := h.block w.heap.size (by omega)
        exact ⟨(World.cell?_of_block (w := W1) hb).trans c0, (World.cell?_of_block (w := W1) hb).trans c1, (World.cell?_of_block (w := W1) hb).trans c2, (World.cell?_of_block (w := W1) hb).trans c4⟩
      have hwz : w.heap.size + 1 ≤ W1.heap.size := by have := HZ.out.lt; omega
      have HS := Lib.hid hS
      have HU : Hid (d.size = x.size) := h2
      obtain ⟨a0, a1, a2, a3, a4, a5, a6, a7, a8, a9, a10, a11⟩ := hc
      unfold ndOf Pln.Nd.val
      unfold Ino.I.val at hr ⊢
      have HR := Lib.hid hr
      clear hr h1 h2 hrr v1 v2 hx hd hS hsz
      go_enter Try.func22, Try.ntmps22
      go_wp2_with (go_at_call 45; refine Calls.mono (HR.out _) ?_; rintro e w2 ⟨rfl, hb⟩; have HB2 := Lib.hid hb; obtain ⟨d0, d1, d2, d3, d4, d5, d6, d7, d8, d9, d10, d11⟩ := (HA.out.th hb).c)
      have hself : Below (w.heap.size + 1) W1 w2 := HB2.out.mono hwz
      have hself2 : Below (w.heap.size + 1) W1 w2.drew := hself.drew
      have HSELF := Lib.hid HB2.out.drew
      go_region_held3 (fun w' => (w'.cell? ⟨w.heap.size, 0, none⟩ = some (.int .i64 x.kind) ∧ w'.cell? ⟨w.heap.size, 1, none⟩ = some (.int .u16 x.mode) ∧ w'.cell? ⟨w.heap.size, 2, none⟩ = some (.int .u16 x.links) ∧ w'.cell? ⟨w.heap.size, 4, none⟩ = some (.int .u64 x.time))) (exact HS.out _ (by assumption)) ((go_at_call 40; (with_reducible refine Calls.mono (HCL.out _) ?_); rintro e w3 ⟨rfl, hb3⟩; have hb4 := below_th HSELF.out hb3; have hB3 : Below (w.heap.size + 1) W1 w3 := hb4.mono hwz; have HZ3 := Lib.hid (HZ.out.th hb4); obtain ⟨z0, z1, z2, z3, z4⟩ := zcN HZ3.out; have f0 := HZ3.out.f 0; have f1 := HZ3.out.f 1; have f2 := HZ3.out.f 2; have f3 := HZ3.out.f 3; have f4 := HZ3.out.f 4; obtain ⟨hAp, hBp⟩ := HZ3.out.put5 ⟨x.kind, x.mode, x.links, x.time, d⟩; have HAp := Lib.hid hAp; have hB5 := hB3.trans hBp; clear hAp hBp))
      go_wp2
      refine bodyPost_ret (results_node rfl _ _ rfl HAp.out) rfl ?_
      exact ⟨rfl, HB.out.trans (hB5.mono (by omega))⟩
    · obtain ⟨v1, v2⟩ := nd_no (x := x) (d := d) (fun h => h2 h.2)
      rw [v1, v2]
      have g3 : ((d.size : Int) != (x.size : Int)) = true := by simp; omega
      obtain ⟨a0, a1, a2, a3, a4, a5, a6, a7, a8, a9, a10, a11⟩ := hc
      have HV : Hid (Nd.zero.val = Nd.zero.val) := rfl
      unfold Ino.I.val at hr ⊢
      have HR := Lib.hid hr
      clear hr h1 h2 hrr v1 v2 hx hd hsz HCL
      go_enter Try.func22, Try.ntmps22
      go_wp2_with (go_at_call 45; refine Calls.mono (HR.out _) ?_; rintro e w2 ⟨rfl, hb⟩; have HB2 := Lib.hid hb; obtain ⟨d0, d1, d2, d3, d4, d5, d6, d7, d8, d9, d10, d11⟩ := (HA.out.th hb).c; have HZ2 := Lib.hid (HZ.out.th hb); obtain ⟨z0, z1, z2, z3, z4⟩ := zcN HZ2.out; have f0 := HZ2.out.f 0; have f1 := HZ2.out.f 1; have f2 := HZ2.out.f 2; have f3 := HZ2.out.f 3; have f4 := HZ2.out.f 4; obtain ⟨hAp, hBp⟩ := putZN HZ2.out; have HAp := Lib.hid hAp; have HBp := Lib.hid hBp; clear hAp hBp hb)
      refine bodyPost_ret (results_node rfl _ _ rfl HAp.out) rfl ?_
      exact ⟨rfl, (below_th HB.out HB2.out).trans (HBp.out.mono (by omega))⟩
  · have hrr : rightB x = false := decide_eq_false h1
    rw [hrr] at hr
    obtain ⟨v1, v2⟩ := nd_no (x := x) (d := d) (fun h => h1 h.1)
    rw [v1, v2]
    obtain ⟨a0, a1, a2, a3, a4, a5, a6, a7, a8, a9, a10, a11⟩ := hc
    have HV : Hid (Nd.zero.val = Nd.zero.val) := rfl
    unfold Ino.I.val at hr ⊢
    have HR := Lib.hid hr
    clear hr h1 hrr v1 v2 hx hd hsz HCL
    go_enter Try.func22, Try.ntmps22
    go_wp2_with (go_at_call 45; refine Calls.mono (HR.out _) ?_; rintro e w2 ⟨rfl, hb⟩; have HB2 := Lib.hid hb; obtain ⟨d0, d1, d2, d3, d4, d5, d6, d7, d8, d9, d10, d11⟩ := (HA.out.th hb).c; have HZ2 := Lib.hid (HZ.out.th hb); obtain ⟨z0, z1, z2, z3, z4⟩ := zcN HZ2.out; have f0 := HZ2.out.f 0; have f1 := HZ2.out.f 1; have f2 := HZ2.out.f 2; have f3 := HZ2.out.f 3; have f4 := HZ2.out.f 4; obtain ⟨hAp, hBp⟩ := putZN HZ2.out; have HAp := Lib.hid hAp; have HBp := Lib.hid hBp; clear hAp hBp hb)
    refine bodyPost_ret (results_node rfl _ _ rfl HAp.out) rfl ?_
    exact ⟨rfl, (below_th HB.out HB2.out).trans (HBp.out.mono (by omega))⟩
end
end Go.Proofs.Yteopcjfakhmifaa.Vol
/- The library's All hands out inodes. -/
namespace Go.Proofs.Yteopcjfakhmifaa.Vol
open Go.RowKit
open Ino (I M)
attribute [local go_sem] Oper.semAt_some
set_option linter.unusedVariables false
set_option linter.unusedSimpArgs false
section
set_option maxRecDepth 100000
set_option maxHeartbeats 4000000
theorem allI1_in (n : Nat) (hn : 1 ≤ n) (l Bx m : Nat) (v : Value) (L : List I) (J Jx : Nat → World → Prop) (B0 : Nat) (hJ : AbidesFrom B0 J)
    (hY : ∀ k W, J k W → k < L.length → YieldAt Fence.wide (n - 1) Try.prog l (encI L k) W fun e W' => (e = .returned (.bool true) ∧ J (k + 1) W' ∧ KeptN m W W') ∨ (e = .returned (.bool false) ∧ Jx k W'))
    (W : World) (hbx : W.cell? ⟨Bx, 0, none⟩ = some v) (hL : ∀ W', KeptN m W W' → Inos W' v L) (hmW : m ≤ W.heap.size) (h0 : J 0 W) :
    CallsIn Fence.wide n Try.prog 72 #[.func (.yield l) #[] #[], .pointer (some ⟨Bx, 0, none⟩)] W fun e W' => (∃ v, e = .returned v) ∧ (J L.length W' ∨ ∃ k, k < L.length ∧ Jx k W') := by
  have hfn : ∀ f, Fence.wide.fn f := fun _ => trivial
  have hJa : ∀ k W1 W2, J k W1 → Below W1.heap.size W1 W2 → J k W2 := fun k W1 W2 h hB => hJ _ _ _ none h (grown_of_below hB) (fun r e => by cases e)
  have HA := Lib.hid hJa
  have HY := Lib.hid hY
  have HL := Lib.hid hL
  obtain ⟨a, cap, rfl, hcap1, hcap2⟩ := (hL W (KeptN.refl _ _)).parts
  obtain ⟨N, hN⟩ : ∃ N, L.length = N := ⟨_, rfl⟩
  simp only [hN] at HY HL hcap1 hbx ⊢
  have HN := Lib.hid hN
  have HMW := Lib.hid hmW
  clear hJa hY hJ hL hN hmW
  refine callsIn_of_wp Try.func72 rfl trivial ?_ rfl
  simp only [Try.ntmps72, List.size_toArray, List.length_cons, List.length_nil, Nat.reduceAdd, Nat.reduceSub, Array.replicate_succ, Array.replicate_zero, List.push_toArray, List.append_toArray, List.nil_append, List.cons_append]
  gi_wp2
  gi_loopw [3, 4, 7] (fun _ _ i wr => ∃ k : Nat, k ≤ N ∧ i = .int .i64 (k : Int) ∧ J k wr ∧ KeptN m W wr) (fun _ _ i _ => N - (intOf i).toNat)
  case atStart => exact ⟨0, by omega, rfl, h0, KeptN.refl _ _⟩
  case round =>
    obtain ⟨k, hkN, rfl, hJk, hS⟩ := hrel
    by_cases hltk : k < N
    · have hkI : (k : Int) < (N : Int) := by omega
      obtain ⟨b, off, e2, hc0⟩ := (HL.out _ hS).at HN.out hltk
      cases e2
      obtain ⟨x, hx⟩ : ∃ x, ino L k = x := ⟨_, rfl⟩
      obtain ⟨c0, c1, c2, c3, c4, c5, c6, c7, c8, c9, c10, c11⟩ := hc0 x hx.symm
      have hAt := Ino.At.new wr x
      have hB1 := below_new wr (Ino.boxO x)
      have hJ1 := HA.out _ _ _ hJk hB1
      have hS1 := hS.trans (KeptN.below hB1 (Nat.le_trans HMW.out hS.2))
      obtain ⟨fn, tmps, assign, body, hy, hR⟩ := HY.out k _ hJ1 hltk
      unfold encI at hy
      obtain ⟨d0, d1, d2, d3, d4, d5, d6, d7, d8, d9, d10, d11⟩ := hAt.c
      have HS1 := Lib.hid hS1
      rw [hx] at hy
      clear hx hc0 hAt hJk hS hB1 hS1 hJ1
      unfold Ino.boxO at HS1 d0 d1 d2 d3 d4 d5 d6 d7 d8 d9 d10 d11 hy hR
      unfold Ino.I.val at hy
      try dsimp only at c0 c1 c2 c3 c4 c5 c6 c7 c8 c9 c10 c11 HS1 d0 d1 d2 d3 d4 d5 d6 d7 d8 d9 d10 d11 hy hR
      gi_wp2
      refine hR.mono ?_
      rintro e W3 (⟨rfl, hJ3, hk3⟩ | ⟨rfl, hJx3⟩)
      · gi_wp2
        go_roundw
        case rel => exact ⟨k + 1, by omega, by go_num, hJ3, HS1.out.trans hk3⟩
        case measure => simp [intOf]; omega
      · gi_wp2
        refine bodyPost_ret (results_none rfl _ _ _) rfl ?_
        exact ⟨⟨_, rfl⟩, .inr ⟨k, hltk, hJx3⟩⟩
    · obtain rfl : N = k := by omega
      gi_wp2
      go_end0
      exact ⟨⟨_, rfl⟩, .inl hJk⟩
theorem allI_in (n : Nat) (a : Option Addr) (N cap : Nat) (w : World) :
    CallsIn Fence.wide n Try.prog 64 #[.slice a N cap] w fun e w' => e = .returned (.func (.func 72) #[] #[.pointer (some ⟨w.heap.size, 0, none⟩)]) ∧ w.alloc (.cells #[.slice a N cap] 50) = w' := by
  refine callsIn_of_wp Try.func64 rfl trivial ?_ rfl
  simp only [Try.ntmps64, List.size_toArray, List.length_cons, List.length_nil, Nat.reduceAdd, Nat.reduceSub, Array.replicate_succ, Array.replicate_zero, List.push_toArray, List.append_toArray, List.nil_append, List.cons_append]
  gi_wp2
  go_ret
  exact ⟨rfl, rfl⟩
end
end Go.Proofs.Yteopcjfakhmifaa.Vol
