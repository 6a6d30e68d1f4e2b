/- The iterator of the program's package record hands out the fifteen entries that a record in a block may have. -/
import Derived.RangeFuncBound
import Derived.RangeFuncCalls
import Derived.RangeFuncLeaves
import Derived.OwnWalkIn
import Derived.TacticsInMore
import Derived.LoopNIn
import Derived.LoopIn
import Derived.Test.YtblejaimafdhpaaBagSeq
import Derived.Test.YtblejaimafdhpaaRecEnc
namespace Go.Proofs.Ytblejaimafdhpaa.Record
open Go.RowKit Go.Shelf
attribute [local go_sem] Oper.semAt_some
set_option linter.unusedVariables false

theorem grown_of_below {W W' : World} (h : Below W.heap.size W W') : W.grownBy W' none := ⟨h.1, h.2, h.3, h.4, fun k hk _ => h.5 k hk⟩
/-- an entry lies in a block that is newer than wr, which stands as it stood -/
structure Box (wr W : World) (b : Nat) (e : E) : Prop where
  le : wr.heap.size ≤ b
  at_ : At W b e
  below : Below wr.heap.size wr W
theorem Box.new {wr w : World} (h : Below wr.heap.size wr w) (e : E) : Box wr (w.alloc (boxE e)) w.heap.size e := ⟨h.size, At.new w e, below_al h _⟩
theorem Box.th {wr W W' : World} {b : Nat} {e : E} (h : Box wr W b e) (hB : Below W.heap.size W W') : Box wr W' b e := ⟨h.le, h.at_.th hB, below_th h.below hB⟩
theorem Box.drew {wr W : World} {b : Nat} {e : E} (h : Box wr W b e) : Box wr W.drew b e := ⟨h.le, h.at_, h.below.drew⟩
theorem Box.put {wr W : World} {b : Nat} {e : E} (h : Box wr W b e) (t : E) : Box wr ((((W.setCell ⟨b, 0, none⟩ (.int .i64 t.kind)).setCell ⟨b, 1, none⟩ (.int .u32 t.file)).setCell ⟨b, 2, none⟩ (.int .u32 t.index)).setCell ⟨b, 3, none⟩ (.int .u32 t.vbn)) b t :=
  ⟨h.le, (h.at_.put4 t).1, h.below.trans ((h.at_.put4 t).2.mono h.le)⟩
/-- what the k-th round is handed -/
def enc (b : ByteArray) (k : Nat) : Array Value := #[(entAt b k).val]

section
set_option maxRecDepth 100000
set_option maxHeartbeats 4000000
theorem ents1_in (n : Nat) (hn : 1 ≤ n) (l Bb : Nat) (b : ByteArray) (hb : b.size = 512) (J Jx : Nat → World → Prop) (B0 : Nat) (hJ : AbidesFrom B0 J)
    (hY : ∀ k W, J k W → k < 15 → YieldAt Fence.wide (n - 1) Try.prog l (enc b k) W fun e W' => (e = .returned (.bool true) ∧ J (k + 1) W' ∧ Same [Bb] W W') ∨ (e = .returned (.bool false) ∧ Jx k W'))
    (W : World) (hbx : W.cell? ⟨Bb, 0, none⟩ = some (.string b)) (h0 : J 0 W) :
    CallsIn Fence.wide n Try.prog 49 #[.func (.yield l) #[] #[], .pointer (some ⟨Bb, 0, none⟩)] W fun e W' => (∃ v, e = .returned v) ∧ (J 15 W' ∨ ∃ k, k < 15 ∧ Jx k W') := by
  have hfn : ∀ f, Fence.wide.fn f := fun _ => trivial
  have hJa : ∀ k W1 W2, J k W1 → Below W1.heap.size W1 W2 → J k W2 := fun k W1 W2 h hB => hJ _ _ _ none h (grown_of_below hB) (fun r e => by cases e)
  have hlt := World.block_lt_of_cell? _ _ hbx
  have HA := Lib.hid hJa
  have HY := Lib.hid hY
  have HBX := Lib.hid hbx
  clear hJa hY hJ hbx
  refine callsIn_of_wp Try.func49 rfl trivial ?_ rfl
  simp only [Try.ntmps49, List.size_toArray, List.length_cons, List.length_nil, Nat.reduceAdd, Nat.reduceSub, Array.replicate_succ, Array.replicate_zero, List.push_toArray, List.append_toArray, List.nil_append, List.cons_append]
  gi_wp2
  gi_loopw [3, 4, 5, 6] (fun _ _ _ i wr => ∃ k : Nat, k ≤ 15 ∧ i = .int .i64 (k : Int) ∧ J k wr ∧ Same [Bb] W wr ∧ Bb < wr.heap.size) (fun _ _ _ i _ => 15 - (intOf i).toNat)
  case atStart => exact ⟨0, by omega, rfl, h0, Same.refl _ _, hlt⟩
  case round =>
    obtain ⟨k, hk, rfl, hJk, hS, hbl⟩ := hrel
    by_cases hltk : k < 15
    · have hcb : wr.cell? ⟨Bb, 0, none⟩ = some (.string b) := (hS.cell (p := ⟨Bb, 0, none⟩) (by simp)).trans HBX.out
      obtain ⟨p, hp⟩ : ∃ p : Nat, 17 + k * 13 = p := ⟨_, rfl⟩
      obtain ⟨p1, hp1⟩ : ∃ p1 : Nat, p + 1 = p1 := ⟨_, rfl⟩
      obtain ⟨p5, hp5⟩ : ∃ p5 : Nat, p + 5 = p5 := ⟨_, rfl⟩
      obtain ⟨p9, hp9⟩ : ∃ p9 : Nat, p + 9 = p9 := ⟨_, rfl⟩
      have w0 : IntKind.i64.wrap ((k : Int) * 13) = (k : Int) * 13 := by rw [IntKind.wrap_i64]; omega
      have w00 : IntKind.i64.wrap (17 + (k : Int) * 13) = (p : Int) := by rw [IntKind.wrap_i64]; omega
      have w1 : IntKind.i64.wrap ((p : Int) + 1) = (p1 : Int) := by rw [IntKind.wrap_i64]; omega
      have w5 : IntKind.i64.wrap ((p : Int) + 5) = (p5 : Int) := by rw [IntKind.wrap_i64]; omega
      have w9 : IntKind.i64.wrap ((p : Int) + 9) = (p9 : Int) := by rw [IntKind.wrap_i64]; omega
      have T0 := Lib.hid (fun W => rtake_any b p 1 W (by omega) (by omega) (by omega) (by omega))
      have T1 := Lib.hid (fun W => rtake_any b p1 4 W (by omega) (by omega) (by omega) (by omega))
      have T2 := Lib.hid (fun W => rtake_any b p5 4 W (by omega) (by omega) (by omega) (by omega))
      have T3 := Lib.hid (fun W => rtake_any b p9 4 W (by omega) (by omega) (by omega) (by omega))
      have e1 : (256 : Nat) ^ 1 = 256 := by decide
      have e4 : (256 : Nat) ^ 4 = 4294967296 := by decide
      have l0 := takeN_lt b p 1
      have l1 := takeN_lt b p1 4
      have l2 := takeN_lt b p5 4
      have l3 := takeN_lt b p9 4
      rw [e1] at l0
      rw [e4] at l1 l2 l3
      have hev : entAt b k = ⟨takeN b p 1, takeN b p1 4, takeN b p5 4, takeN b p9 4⟩ := by unfold entAt; rw [hp, hp1, hp5, hp9]
      obtain ⟨x0, hx0⟩ : ∃ x, takeN b p 1 = x := ⟨_, rfl⟩
      obtain ⟨x1, hx1⟩ : ∃ x, takeN b p1 4 = x := ⟨_, rfl⟩
      obtain ⟨x2, hx2⟩ : ∃ x, takeN b p5 4 = x := ⟨_, rfl⟩
      obtain ⟨x3, hx3⟩ : ∃ x, takeN b p9 4 = x := ⟨_, rfl⟩
      simp only [hx0, hx1, hx2, hx3] at T0 T1 T2 T3 l0 l1 l2 l3 hev
      have v0 : IntKind.i64.wrap (x0 : Int) = x0 := by rw [IntKind.wrap_i64]; omega
      have v1 : IntKind.u32.wrap (x1 : Int) = x1 := by rw [IntKind.wrap_u32]; omega
      have v2 : IntKind.u32.wrap (x2 : Int) = x2 := by rw [IntKind.wrap_u32]; omega
      have v3 : IntKind.u32.wrap (x3 : Int) = x3 := by rw [IntKind.wrap_u32]; omega
      have hYk := fun W h => HY.out k W h hltk
      unfold enc at hYk
      rw [hev] at hYk
      unfold E.val at hYk
      dsimp only at hYk
      have HYK := Lib.hid hYk
      clear hx0 hx1 hx2 hx3 hp hp1 hp5 hp9 l0 l1 l2 l3 e1 e4 hev hYk
      have HC : Hid (∀ W', Below wr.heap.size wr W' → W'.cell? ⟨Bb, 0, none⟩ = some (.string b)) := fun W' h => (h.cell (p := ⟨Bb, 0, none⟩) hbl).trans hcb
      have hself : Below wr.heap.size wr wr := Below.refl _ _
      have hself2 : Below wr.heap.size wr wr.drew := hself.drew
      gi_wp2
      refine wpIn_wide.2 ?_
      refine Code.wp_mono (Q := fun e a' w' => e = .normal ∧ ∃ Bx, Box wr w' Bx ⟨x0, x1, x2, x3⟩ ∧ a' = { tmps := #[.func (.yield l) #[] #[], .pointer (some ⟨Bb, 0, none⟩), undef, .int .i64 k, .int .i64 p, .pointer (some ⟨Bx, 0, none⟩), .int .i64 k, .bool true, .int .i64 k, .int .i64 k, .int .i64 ((k : Int) * 13), .int .i64 p, .string b, .int .i64 p, .int .u64 x0, .int .i64 x0, .string b, .int .i64 p, .int .i64 p1, .int .u64 x1, .int .u32 x1, .string b, .int .i64 p, .int .i64 p5, .int .u64 x2, .int .u32 x2, .string b, .int .i64 p, .int .i64 p9, .int .u64 x3, .int .u32 x3, .agg #[.int .i64 x0, .int .u32 x1, .int .u32 x2, .int .u32 x3], u32, u33, u34, u35, u36], defers := [] }) ?imp ?_
      case imp =>
        rintro e a' w' ⟨rfl, Bx, hBX, rfl⟩
        obtain ⟨d0, d1, d2, d3⟩ := hBX.at_.c
        dsimp only at d0 d1 d2 d3
        have hS2 : Same [Bb] W w' := hS.trans (Same.below hBX.below (by simpa using hbl))
        have hb2 : Bb < w'.heap.size := Nat.lt_of_lt_of_le hbl hBX.below.size
        obtain ⟨fn, tmps, assign, body, hy, hR⟩ := HYK.out _ (HA.out _ _ _ hJk hBX.below)
        have HS2 := Lib.hid hS2
        clear hS2 hBX hcb hself hself2 hJk hS T0 T1 T2 T3
        gi_wp2
        refine hR.mono ?_
        rintro e W3 (⟨rfl, hJ3, hk3⟩ | ⟨rfl, hJx3⟩)
        · have hb3 : Bb < W3.heap.size := by
            have h1 := hk3 Bb (by simp)
            rw [Array.getElem?_eq_getElem hb2] at h1
            exact (Array.getElem?_eq_some_iff.1 h1).1
          gi_wp2
          go_roundw
          case rel => exact ⟨k + 1, by omega, by go_num, hJ3, HS2.out.trans hk3, hb3⟩
          case measure => simp [intOf]; omega
        · gi_wp2
          refine bodyPost_ret (results_none rfl _ _ _) rfl ?_
          exact ⟨⟨_, rfl⟩, .inr ⟨k, hltk, hJx3⟩⟩
      go_region_held3 (fun w' => w'.cell? ⟨Bb, 0, none⟩ = some (.string b)) (first | exact HC.out _ (by assumption) | exact HC.out _ (below_al (by assumption : Below wr.heap.size wr _) _) | exact HC.out _ (below_drew (below_al hself _)) | exact HC.out _ ((by assumption : Box wr _ _ E.zero).put ⟨x0, x1, x2, x3⟩).below) (first
        | (go_at_call 28; (with_reducible refine Calls.mono (T0.out _) ?_); rintro e w' ⟨rfl, hBn⟩; (first | (have hat := Box.th (by assumption : Box wr _ _ E.zero) hBn; have hbb := hat.below; obtain ⟨c0, c1, c2, c3⟩ := hat.at_.c; have f0 := hat.at_.f 0; have f1 := hat.at_.f 1; have f2 := hat.at_.f 2; have f3 := hat.at_.f 3) | (have hat := (Box.new (by assumption : Below wr.heap.size wr _) E.zero).th hBn; have hbb := hat.below; obtain ⟨c0, c1, c2, c3⟩ := hat.at_.c; have f0 := hat.at_.f 0; have f1 := hat.at_.f 1; have f2 := hat.at_.f 2; have f3 := hat.at_.f 3) | (have hat := (Box.new hself E.zero).drew.th hBn; have hbb := hat.below; obtain ⟨c0, c1, c2, c3⟩ := hat.at_.c; have f0 := hat.at_.f 0; have f1 := hat.at_.f 1; have f2 := hat.at_.f 2; have f3 := hat.at_.f 3) | (have hbb := below_th (by assumption : Below wr.heap.size wr _) hBn)))
        | (go_at_call 28; (with_reducible refine Calls.mono (T1.out _) ?_); rintro e w' ⟨rfl, hBn⟩; (first | (have hat := Box.th (by assumption : Box wr _ _ E.zero) hBn; have hbb := hat.below; obtain ⟨c0, c1, c2, c3⟩ := hat.at_.c; have f0 := hat.at_.f 0; have f1 := hat.at_.f 1; have f2 := hat.at_.f 2; have f3 := hat.at_.f 3) | (have hat := (Box.new (by assumption : Below wr.heap.size wr _) E.zero).th hBn; have hbb := hat.below; obtain ⟨c0, c1, c2, c3⟩ := hat.at_.c; have f0 := hat.at_.f 0; have f1 := hat.at_.f 1; have f2 := hat.at_.f 2; have f3 := hat.at_.f 3) | (have hat := (Box.new hself E.zero).drew.th hBn; have hbb := hat.below; obtain ⟨c0, c1, c2, c3⟩ := hat.at_.c; have f0 := hat.at_.f 0; have f1 := hat.at_.f 1; have f2 := hat.at_.f 2; have f3 := hat.at_.f 3) | (have hbb := below_th (by assumption : Below wr.heap.size wr _) hBn)))
        | (go_at_call 28; (with_reducible refine Calls.mono (T2.out _) ?_); rintro e w' ⟨rfl, hBn⟩; (first | (have hat := Box.th (by assumption : Box wr _ _ E.zero) hBn; have hbb := hat.below; obtain ⟨c0, c1, c2, c3⟩ := hat.at_.c; have f0 := hat.at_.f 0; have f1 := hat.at_.f 1; have f2 := hat.at_.f 2; have f3 := hat.at_.f 3) | (have hat := (Box.new (by assumption : Below wr.heap.size wr _) E.zero).th hBn; have hbb := hat.below; obtain ⟨c0, c1, c2, c3⟩ := hat.at_.c; have f0 := hat.at_.f 0; have f1 := hat.at_.f 1; have f2 := hat.at_.f 2; have f3 := hat.at_.f 3) | (have hat := (Box.new hself E.zero).drew.th hBn; have hbb := hat.below; obtain ⟨c0, c1, c2, c3⟩ := hat.at_.c; have f0 := hat.at_.f 0; have f1 := hat.at_.f 1; have f2 := hat.at_.f 2; have f3 := hat.at_.f 3) | (have hbb := below_th (by assumption : Below wr.heap.size wr _) hBn)))
        | (go_at_call 28; (with_reducible refine Calls.mono (T3.out _) ?_); rintro e w' ⟨rfl, hBn⟩; (first | (have hat := Box.th (by assumption : Box wr _ _ E.zero) hBn; have hbb := hat.below; obtain ⟨c0, c1, c2, c3⟩ := hat.at_.c; have f0 := hat.at_.f 0; have f1 := hat.at_.f 1; have f2 := hat.at_.f 2; have f3 := hat.at_.f 3) | (have hat := (Box.new (by assumption : Below wr.heap.size wr _) E.zero).th hBn; have hbb := hat.below; obtain ⟨c0, c1, c2, c3⟩ := hat.at_.c; have f0 := hat.at_.f 0; have f1 := hat.at_.f 1; have f2 := hat.at_.f 2; have f3 := hat.at_.f 3) | (have hat := (Box.new hself E.zero).drew.th hBn; have hbb := hat.below; obtain ⟨c0, c1, c2, c3⟩ := hat.at_.c; have f0 := hat.at_.f 0; have f1 := hat.at_.f 1; have f2 := hat.at_.f 2; have f3 := hat.at_.f 3) | (have hbb := below_th (by assumption : Below wr.heap.size wr _) hBn))))
      all_goals first
        | exact ⟨rfl, _, (by assumption : Box wr _ _ E.zero).put ⟨x0, x1, x2, x3⟩, rfl⟩
        | exact ⟨rfl, _, Box.new (by assumption : Below wr.heap.size wr _) ⟨x0, x1, x2, x3⟩, rfl⟩
    · obtain rfl : k = 15 := by omega
      gi_wp2
      go_end0
      exact ⟨⟨_, rfl⟩, .inl hJk⟩
end
end Go.Proofs.Ytblejaimafdhpaa.Record
