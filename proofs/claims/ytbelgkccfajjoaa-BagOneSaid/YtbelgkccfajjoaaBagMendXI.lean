/- mend, walked. -/
import Derived.Deep.QuietTactic
import Derived.BigQuiet
import Derived.Test.YtbelgkccfajjoaaBagMendWI
namespace Go.Proofs.Ytbelgkccfajjoaa.I
open Go.RowKit
set_option linter.unusedVariables false

/-- what a look at a place below reads -/
theorem look {w : World} {L : List (Rec Int)} {t K : T Int} {f : Nat × Nat} {k i : Nat} (hm : Mem w L) (ht : t.r ∈ L) (hK : K.r ∈ L) (hw : T.wf (k + 1) t) (hkv : t.r.kv = some f) (hi : t.ks[i]? = some K) :
    w.cell? ⟨f.1, i, none⟩ = some (.pointer (some ⟨K.r.b, 0, none⟩)) ∧ w.cell? ⟨K.r.b, 0, none⟩ = some (.slice (some ⟨K.r.g, 0, none⟩) K.r.items.length K.r.cap) ∧ i < t.r.kids.length :=
  have hk := kid_b hw hi rfl
  ⟨(hm.ok _ ht).kid hkv hk, (hm.ok _ hK).c0, (List.getElem?_eq_some_iff.1 hk).1⟩

set_option maxRecDepth 100000 in
set_option maxHeartbeats 8000000 in
theorem mend_zero_left (w : World) (b f1 f2 n kb kg kl kc lb lg ll lc tg tl tc j : Nat) (Q : World → Prop)
    (n1 : w.cell? ⟨b, 1, none⟩ = some (.slice (some ⟨f1, 0, none⟩) n f2)) (n0 : w.cell? ⟨b, 0, none⟩ = some (.slice (some ⟨tg, 0, none⟩) tl tc))
    (k0 : w.cell? ⟨f1, 1, none⟩ = some (.pointer (some ⟨kb, 0, none⟩))) (l0 : w.cell? ⟨kb, 0, none⟩ = some (.slice (some ⟨kg, 0, none⟩) kl kc)) (hb : (1 : Int) < (n : Int)) (hp : (0 : Int) < (tl : Int)) (hl : (3 : Int) < (kl : Int))
    (cM : Calls Try.prog 78 #[ptrV b, .int .i64 0] w fun e W => e = .returned (.tuple #[]) ∧ Q W) :
    Calls Try.prog 58 #[ptrV b, .int .i64 0] w fun e W => e = .returned (.tuple #[]) ∧ Q W := by
  unfold ptrV at cM ⊢
  go_enter Try.func58, Try.ntmps58
  go_wp2_with (go_at_call 78; refine cM.mono ?_; rintro e w' ⟨rfl, hQ⟩)
  go_end0
  exact ⟨rfl, hQ⟩

set_option maxRecDepth 100000 in
set_option maxHeartbeats 8000000 in
theorem mend_zero_join (w : World) (b f1 f2 n kb kg kl kc lb lg ll lc tg tl tc j : Nat) (Q : World → Prop)
    (n1 : w.cell? ⟨b, 1, none⟩ = some (.slice (some ⟨f1, 0, none⟩) n f2)) (n0 : w.cell? ⟨b, 0, none⟩ = some (.slice (some ⟨tg, 0, none⟩) tl tc))
    (k0 : w.cell? ⟨f1, 1, none⟩ = some (.pointer (some ⟨kb, 0, none⟩))) (l0 : w.cell? ⟨kb, 0, none⟩ = some (.slice (some ⟨kg, 0, none⟩) kl kc)) (hb : (1 : Int) < (n : Int)) (hp : (0 : Int) < (tl : Int)) (hl : decide ((3 : Int) < (kl : Int)) = false)
    (cM : Calls Try.prog 79 #[ptrV b, .int .i64 0] w fun e W => e = .returned (.tuple #[]) ∧ Q W) :
    Calls Try.prog 58 #[ptrV b, .int .i64 0] w fun e W => e = .returned (.tuple #[]) ∧ Q W := by
  unfold ptrV at cM ⊢
  go_enter Try.func58, Try.ntmps58
  go_wp2_with (go_at_call 79; refine cM.mono ?_; rintro e w' ⟨rfl, hQ⟩)
  go_end0
  exact ⟨rfl, hQ⟩

set_option maxRecDepth 100000 in
set_option maxHeartbeats 8000000 in
theorem mend_right (w : World) (b f1 f2 n kb kg kl kc lb lg ll lc tg tl tc j : Nat) (Q : World → Prop)
    (n1 : w.cell? ⟨b, 1, none⟩ = some (.slice (some ⟨f1, 0, none⟩) n f2)) (n0 : w.cell? ⟨b, 0, none⟩ = some (.slice (some ⟨tg, 0, none⟩) tl tc))
    (k0 : w.cell? ⟨f1, j, none⟩ = some (.pointer (some ⟨lb, 0, none⟩))) (l0 : w.cell? ⟨lb, 0, none⟩ = some (.slice (some ⟨lg, 0, none⟩) ll lc)) (hb : (j : Int) < (n : Int)) (h0 : (0 : Int) < (j : Int) + 1) (hz : (0 : Int) ≤ (j : Int)) (hw : IntKind.i64.wrap (j : Int) = (j : Int)) (hl : (3 : Int) < (ll : Int))
    (cM : Calls Try.prog 77 #[ptrV b, .int .i64 j] w fun e W => e = .returned (.tuple #[]) ∧ Q W) :
    Calls Try.prog 58 #[ptrV b, .int .i64 ((j : Int) + 1)] w fun e W => e = .returned (.tuple #[]) ∧ Q W := by
  unfold ptrV at cM ⊢
  go_enter Try.func58, Try.ntmps58
  go_wp2_with (go_at_call 77; refine cM.mono ?_; rintro e w' ⟨rfl, hQ⟩)
  go_end0
  exact ⟨rfl, hQ⟩

set_option maxRecDepth 100000 in
set_option maxHeartbeats 8000000 in
theorem mend_left (w : World) (b f1 f2 n kb kg kl kc lb lg ll lc tg tl tc j : Nat) (Q : World → Prop)
    (n1 : w.cell? ⟨b, 1, none⟩ = some (.slice (some ⟨f1, 0, none⟩) n f2)) (n0 : w.cell? ⟨b, 0, none⟩ = some (.slice (some ⟨tg, 0, none⟩) tl tc))
    (k0 : w.cell? ⟨f1, j, none⟩ = some (.pointer (some ⟨lb, 0, none⟩))) (l0 : w.cell? ⟨lb, 0, none⟩ = some (.slice (some ⟨lg, 0, none⟩) ll lc)) (hb : (j : Int) < (n : Int)) (h0 : (0 : Int) < (j : Int) + 1) (hz : (0 : Int) ≤ (j : Int)) (hw : IntKind.i64.wrap (j : Int) = (j : Int)) (hl : decide ((3 : Int) < (ll : Int)) = false) (k2 : w.cell? ⟨f1, j + 2, none⟩ = some (.pointer (some ⟨kb, 0, none⟩))) (l2 : w.cell? ⟨kb, 0, none⟩ = some (.slice (some ⟨kg, 0, none⟩) kl kc)) (hb2 : (j : Int) + 2 < (n : Int)) (hp : (j : Int) + 1 < (tl : Int)) (hw2 : IntKind.i64.wrap ((j : Int) + 1 + 1) = (j : Int) + 2) (hw3 : IntKind.i64.wrap ((j : Int) + 2) = (j : Int) + 2) (hr : (3 : Int) < (kl : Int))
    (cM : Calls Try.prog 78 #[ptrV b, .int .i64 ((j : Int) + 1)] w fun e W => e = .returned (.tuple #[]) ∧ Q W) :
    Calls Try.prog 58 #[ptrV b, .int .i64 ((j : Int) + 1)] w fun e W => e = .returned (.tuple #[]) ∧ Q W := by
  unfold ptrV at cM ⊢
  go_enter Try.func58, Try.ntmps58
  go_wp2_with (go_at_call 78; refine cM.mono ?_; rintro e w' ⟨rfl, hQ⟩)
  go_end0
  exact ⟨rfl, hQ⟩

set_option maxRecDepth 100000 in
set_option maxHeartbeats 8000000 in
theorem mend_join (w : World) (b f1 f2 n kb kg kl kc lb lg ll lc tg tl tc j : Nat) (Q : World → Prop)
    (n1 : w.cell? ⟨b, 1, none⟩ = some (.slice (some ⟨f1, 0, none⟩) n f2)) (n0 : w.cell? ⟨b, 0, none⟩ = some (.slice (some ⟨tg, 0, none⟩) tl tc))
    (k0 : w.cell? ⟨f1, j, none⟩ = some (.pointer (some ⟨lb, 0, none⟩))) (l0 : w.cell? ⟨lb, 0, none⟩ = some (.slice (some ⟨lg, 0, none⟩) ll lc)) (hb : (j : Int) < (n : Int)) (h0 : (0 : Int) < (j : Int) + 1) (hz : (0 : Int) ≤ (j : Int)) (hw : IntKind.i64.wrap (j : Int) = (j : Int)) (hl : decide ((3 : Int) < (ll : Int)) = false) (k2 : w.cell? ⟨f1, j + 2, none⟩ = some (.pointer (some ⟨kb, 0, none⟩))) (l2 : w.cell? ⟨kb, 0, none⟩ = some (.slice (some ⟨kg, 0, none⟩) kl kc)) (hb2 : (j : Int) + 2 < (n : Int)) (hp : (j : Int) + 1 < (tl : Int)) (hw2 : IntKind.i64.wrap ((j : Int) + 1 + 1) = (j : Int) + 2) (hw3 : IntKind.i64.wrap ((j : Int) + 2) = (j : Int) + 2) (hr : decide ((3 : Int) < (kl : Int)) = false)
    (cM : Calls Try.prog 79 #[ptrV b, .int .i64 j] w fun e W => e = .returned (.tuple #[]) ∧ Q W) :
    Calls Try.prog 58 #[ptrV b, .int .i64 ((j : Int) + 1)] w fun e W => e = .returned (.tuple #[]) ∧ Q W := by
  unfold ptrV at cM ⊢
  go_enter Try.func58, Try.ntmps58
  go_wp2_with (go_at_call 79; refine cM.mono ?_; rintro e w' ⟨rfl, hQ⟩)
  go_end0
  exact ⟨rfl, hQ⟩

set_option maxRecDepth 100000 in
set_option maxHeartbeats 8000000 in
theorem mend_join_last (w : World) (b f1 f2 n kb kg kl kc lb lg ll lc tg tl tc j : Nat) (Q : World → Prop)
    (n1 : w.cell? ⟨b, 1, none⟩ = some (.slice (some ⟨f1, 0, none⟩) n f2)) (n0 : w.cell? ⟨b, 0, none⟩ = some (.slice (some ⟨tg, 0, none⟩) tl tc))
    (k0 : w.cell? ⟨f1, j, none⟩ = some (.pointer (some ⟨lb, 0, none⟩))) (l0 : w.cell? ⟨lb, 0, none⟩ = some (.slice (some ⟨lg, 0, none⟩) ll lc)) (hb : (j : Int) < (n : Int)) (h0 : (0 : Int) < (j : Int) + 1) (hz : (0 : Int) ≤ (j : Int)) (hw : IntKind.i64.wrap (j : Int) = (j : Int)) (hl : decide ((3 : Int) < (ll : Int)) = false) (hp : decide ((j : Int) + 1 < (tl : Int)) = false)
    (cM : Calls Try.prog 79 #[ptrV b, .int .i64 j] w fun e W => e = .returned (.tuple #[]) ∧ Q W) :
    Calls Try.prog 58 #[ptrV b, .int .i64 ((j : Int) + 1)] w fun e W => e = .returned (.tuple #[]) ∧ Q W := by
  unfold ptrV at cM ⊢
  go_enter Try.func58, Try.ntmps58
  go_wp2_with (go_at_call 79; refine cM.mono ?_; rintro e w' ⟨rfl, hQ⟩)
  go_end0
  exact ⟨rfl, hQ⟩

end Go.Proofs.Ytbelgkccfajjoaa.I
