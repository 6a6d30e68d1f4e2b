/- Several texts in one, each under its own heading. -/
import Derived.Deep.Cut
import Derived.Deep.DeepCutAuto
import Derived.Test.YteopcjfakhmifaaPk15
import Derived.Test.YteopcjfakhmifaaPk19
import Derived.Test.YteopcjfakhmifaaPk12
import Derived.Test.YteopcjfakhmifaaPk21
/- The document's Inode. -/
namespace Go.Proofs.Yteopcjfakhmifaa.Vol
open Go.RowKit
open Ino (I M RightP IOk MOk dpN UsedP)
open Pln (Nd nd)
attribute [local go_sem] Oper.semAt_some
set_option linter.unusedVariables false
set_option linter.unusedSimpArgs false
/-- numbers of their types -/
structure NdOk (n : Nd) : Prop where
  kind : -9223372036854775808 ≤ n.kind ∧ n.kind ≤ 9223372036854775807
  mode : n.mode < 65536
  links : n.links < 65536
  time : n.time < 18446744073709551616
theorem inoOf_ok {n : Nd} {m : M} (hn : NdOk n) (hm : MOk m) (hd : n.data.size ≤ 100000) : IOk (inoOf n m) := by
  have := Ino.dp_le n.data.size
  exact ⟨hn.kind, hn.mode, hn.links, by show n.data.size < _; omega, hn.time, by show _ ≤ (dpN n.data.size : Int) ∧ (dpN n.data.size : Int) ≤ _; omega, hm⟩
theorem neqM (a b : M) (w : World) : (binOp .neq 39 a.val b.val).run Try.prog w = .ok (.bool (!decide (a = b))) w := by
  have h := Ino.run_eqM 9998 a b w
  unfold Ino.M.val at h ⊢
  rw [run_neq_struct, h]
  rfl
namespace R
section
set_option maxRecDepth 100000
set_option maxHeartbeats 2000000
theorem inode_any (n : Nd) (m : M) (hn : NdOk n) (hm : MOk m) (hd : n.data.size ≤ 100000) (w : World) : Calls Try.prog 21 #[n.val, m.val] w (Ans w (.tuple #[(inV n m).val, .int .i64 (inE n m)])) := by
  have hok := inoOf_ok hn hm hd
  have hr := fun W => Ino.R.right_any (inoOf n m) hok W
  have hdp := fun W => Ino.R.depth_any n.data.size W (by omega)
  obtain ⟨O, hO⟩ : ∃ O : Obj, O = .cells #[.int .i64 0, .int .u16 0, .int .u16 0, .int .u32 0, .int .u64 0, .int .i64 0, .int .u32 0, .int .u32 0, .int .u32 0, .int .u32 0, .int .u32 0, .int .u32 0] 41 := ⟨_, rfl⟩
  obtain ⟨Wa, hWa⟩ : ∃ W, w.alloc (Pln.boxO n) = W := ⟨_, rfl⟩
  obtain ⟨Wb, hWb⟩ : ∃ W, Wa.alloc (Ino.boxM m) = W := ⟨_, rfl⟩
  obtain ⟨W1, hW1⟩ : ∃ W, Wb.alloc O = W := ⟨_, rfl⟩
  have sa : Wa.heap.size = w.heap.size + 1 := by rw [← hWa]; exact World.size_alloc ..
  have sb : Wb.heap.size = w.heap.size + 1 + 1 := by rw [← hWb, World.size_alloc, sa]
  have s1 : W1.heap.size = w.heap.size + 1 + 1 + 1 := by rw [← hW1, World.size_alloc, sb]
  have ba : Below w.heap.size w Wa := by rw [← hWa]; exact below_new _ _
  have bb : Below Wa.heap.size Wa Wb := by rw [← hWb]; exact below_new _ _
  have b1 : Below Wb.heap.size Wb W1 := by rw [← hW1]; exact below_new _ _
  have HB := Lib.hid (below_th (below_th ba bb) b1)
  have HA : Hid (Pln.At W1 w.heap.size n) := ((show Pln.At Wa w.heap.size n by rw [← hWa]; exact Pln.At.new w n).th bb).th b1
  have HM : Hid (Ino.AtM W1 (w.heap.size + 1) m) := (show Ino.AtM Wb (w.heap.size + 1) m by rw [← hWb, ← sa]; exact Ino.AtM.new Wa m).th b1
  have HZ : Hid (Ino.At W1 (w.heap.size + 1 + 1) I.zero) := by rw [← sb, ← hW1, hO]; exact Ino.At.new Wb I.zero
  have HS := Lib.hid s1
  subst hWa hWb
  unfold Pln.boxO Ino.boxM at hW1
  rw [hO] at hW1
  clear sa sb s1 ba bb b1 hO
  have hqn : ∀ W, (binOp .eql 38 (.agg #[.int .i64 n.kind, .int .u16 n.mode, .int .u16 n.links, .int .u64 n.time, .string n.data]) (.agg #[.int .i64 0, .int .u16 0, .int .u16 0, .int .u64 0, .string ⟨#[]⟩])).run Try.prog W = .ok (.bool (decide (n = Nd.zero))) W := fun W => Pln.eqlN n Nd.zero W
  have hqm : ∀ W, (binOp .neq 39 (.agg #[.int .u32 m.a, .int .u32 m.b, .int .u32 m.c, .int .u32 m.d, .int .u32 m.e, .int .u32 m.f]) (.agg #[.int .u32 0, .int .u32 0, .int .u32 0, .int .u32 0, .int .u32 0, .int .u32 0])).run Try.prog W = .ok (.bool (!decide (m = M.zero))) W := fun W => neqM m M.zero W
  obtain ⟨c0, c1, c2, c3, c4⟩ := HA.out.c
  obtain ⟨m0, m1, m2, m3, m4, m5⟩ := HM.out.c
  unfold Pln.Nd.val Ino.M.val
  by_cases hz : n = Nd.zero
  · rw [decide_eq_true hz] at hqn
    have HV := Lib.hid (in_zero m)
    rw [← hz] at HV
    obtain ⟨z0, z1, z2, z3, z4, z5, z6, z7, z8, z9, z10, z11⟩ := HZ.out.zc
    have g0 := HZ.out.f 0; have g1 := HZ.out.f 1; have g2 := HZ.out.f 2; have g3 := HZ.out.f 3; have g4 := HZ.out.f 4; have g5 := HZ.out.f 5; have g6 := HZ.out.f 6; have g7 := HZ.out.f 7; have g8 := HZ.out.f 8; have g9 := HZ.out.f 9; have g10 := HZ.out.f 10; have g11 := HZ.out.f 11
    obtain ⟨hAp, hBp⟩ := HZ.out.putZ
    have HAp := Lib.hid hAp
    have HBp := Lib.hid hBp
    by_cases hm0 : m = M.zero
    · rw [decide_eq_true hm0] at hqm
      have hqm1 : ∀ W, (binOp .neq 39 (.agg #[.int .u32 m.a, .int .u32 m.b, .int .u32 m.c, .int .u32 m.d, .int .u32 m.e, .int .u32 m.f]) (.agg #[.int .u32 0, .int .u32 0, .int .u32 0, .int .u32 0, .int .u32 0, .int .u32 0])).run Try.prog W = .ok (.bool false) W := hqm
      have HE := Lib.hid (show Value.tuple #[I.zero.val, .int .i64 0] = .tuple #[(inV n m).val, .int .i64 (inE n m)] by rw [HV.out.1, HV.out.2.1 hm0])
      clear hz hm0 hqm hr hok hn hm hAp hBp hdp
      go_enter Try.func21, Try.ntmps21
      go_wp2
      refine bodyPost_ret (Ino.results_inode rfl _ _ rfl HAp.out) rfl ?_
      exact Ans.eq HE.out ⟨rfl, HB.out.trans (HBp.out.mono (by omega))⟩
    · rw [decide_eq_false hm0] at hqm
      have hqm1 : ∀ W, (binOp .neq 39 (.agg #[.int .u32 m.a, .int .u32 m.b, .int .u32 m.c, .int .u32 m.d, .int .u32 m.e, .int .u32 m.f]) (.agg #[.int .u32 0, .int .u32 0, .int .u32 0, .int .u32 0, .int .u32 0, .int .u32 0])).run Try.prog W = .ok (.bool true) W := hqm
      have HE := Lib.hid (show Value.tuple #[I.zero.val, .int .i64 154] = .tuple #[(inV n m).val, .int .i64 (inE n m)] by rw [HV.out.1, HV.out.2.2 hm0])
      clear hz hm0 hqm hr hok hn hm hAp hBp hdp
      go_enter Try.func21, Try.ntmps21
      go_wp2
      refine bodyPost_ret (Ino.results_inode rfl _ _ rfl HAp.out) rfl ?_
      exact Ans.eq HE.out ⟨rfl, HB.out.trans (HBp.out.mono (by omega))⟩
  · rw [decide_eq_false hz] at hqn
    have g1 : decide ((n.data.size : Int) > 8193532) = false := decide_eq_false (by omega)
    have g2 : ¬ (8193532 : Int) < (n.data.size : Int) := by omega
    have hw : IntKind.u32.wrap (n.data.size : Int) = (n.data.size : Int) := by rw [IntKind.wrap_u32]; omega
    have HC : Hid (∀ W, Below W1.heap.size W1 W → W.cell? ⟨w.heap.size, 0, none⟩ = some (.int .i64 n.kind) ∧ W.cell? ⟨w.heap.size, 1, none⟩ = some (.int .u16 n.mode) ∧ W.cell? ⟨w.heap.size, 2, none⟩ = some (.int .u16 n.links) ∧ W.cell? ⟨w.heap.size, 3, none⟩ = some (.int .u64 n.time) ∧ W.cell? ⟨w.heap.size + 1, 0, none⟩ = some (.int .u32 m.a) ∧ W.cell? ⟨w.heap.size + 1, 1, none⟩ = some (.int .u32 m.b) ∧ W.cell? ⟨w.heap.size + 1, 2, none⟩ = some (.int .u32 m.c) ∧ W.cell? ⟨w.heap.size + 1, 3, none⟩ = some (.int .u32 m.d) ∧ W.cell? ⟨w.heap.size + 1, 4, none⟩ = some (.int .u32 m.e) ∧ W.cell? ⟨w.heap.size + 1, 5, none⟩ = some (.int .u32 m.f)) := fun W hW => by
      obtain ⟨c0, c1, c2, c3, c4⟩ := (HA.out.th hW).c
      obtain ⟨m0, m1, m2, m3, m4, m5⟩ := (HM.out.th hW).c
      exact ⟨c0, c1, c2, c3, m0, m1, m2, m3, m4, m5⟩
    have HDP := Lib.hid hdp
    have hd1 : Below W1.heap.size W1 W1.drew := below_drew (Below.refl _ _)
    clear hdp
    have HX : Hid (Ino.At ((W1.alloc (.cells #[.int .i64 n.kind, .int .u16 n.mode, .int .u16 n.links, .int .u32 n.data.size, .int .u64 n.time, .int .i64 (dpN n.data.size), .int .u32 m.a, .int .u32 m.b, .int .u32 m.c, .int .u32 m.d, .int .u32 m.e, .int .u32 m.f] 41)).drew) W1.heap.size (inoOf n m)) := Ino.At.new W1 (inoOf n m)
    have HB2 : Hid (Below W1.heap.size W1 ((W1.alloc (.cells #[.int .i64 n.kind, .int .u16 n.mode, .int .u16 n.links, .int .u32 n.data.size, .int .u64 n.time, .int .i64 (dpN n.data.size), .int .u32 m.a, .int .u32 m.b, .int .u32 m.c, .int .u32 m.d, .int .u32 m.e, .int .u32 m.f] 41)).drew)) := below_drew (below_new W1 _)
    have hqx : ∀ W, (binOp .eql 41 (.agg #[.int .i64 n.kind, .int .u16 n.mode, .int .u16 n.links, .int .u32 n.data.size, .int .u64 n.time, .int .i64 (dpN n.data.size), .int .u32 m.a, .int .u32 m.b, .int .u32 m.c, .int .u32 m.d, .int .u32 m.e, .int .u32 m.f]) (.agg #[.int .i64 0, .int .u16 0, .int .u16 0, .int .u32 0, .int .u64 0, .int .i64 0, .int .u32 0, .int .u32 0, .int .u32 0, .int .u32 0, .int .u32 0, .int .u32 0])).run Try.prog W = .ok (.bool false) W := fun W => by
      have h := Ino.eqlI (inoOf n m) I.zero W
      rw [decide_eq_false (fun e => hz (inoOf_zero e))] at h
      exact h
    have HR : Hid (∀ W, Calls Try.prog 47 #[.agg #[.int .i64 n.kind, .int .u16 n.mode, .int .u16 n.links, .int .u32 n.data.size, .int .u64 n.time, .int .i64 (dpN n.data.size), .int .u32 m.a, .int .u32 m.b, .int .u32 m.c, .int .u32 m.d, .int .u32 m.e, .int .u32 m.f]] W (Ino.Ans W (.bool (Ino.rightB (inoOf n m))))) := hr
    have HY : Hid (RightP (inoOf n m) → Value.tuple #[(inoOf n m).val, .int .i64 0] = .tuple #[(inV n m).val, .int .i64 (inE n m)]) := fun h => by rw [(in_yes hz h).1, (in_yes hz h).2]
    have HN : Hid (¬ RightP (inoOf n m) → Value.tuple #[I.zero.val, .int .i64 154] = .tuple #[(inV n m).val, .int .i64 (inE n m)]) := fun h => by rw [(in_no hz h).1, (in_no hz h).2]
    clear hr hok hn hm hd hqm c0 c1 c2 c3 m0 m1 m2 m3 m4 m5
    obtain ⟨c0, c1, c2, c3, m0, m1, m2, m3, m4, m5⟩ := HC.out W1 (Below.refl _ _)
    go_enter Try.func21, Try.ntmps21
    go_upto_region 8 with fail
    go_region_held3 (fun w' => w'.cell? ⟨w.heap.size, 0, none⟩ = some (.int .i64 n.kind) ∧ w'.cell? ⟨w.heap.size, 1, none⟩ = some (.int .u16 n.mode) ∧ w'.cell? ⟨w.heap.size, 2, none⟩ = some (.int .u16 n.links) ∧ w'.cell? ⟨w.heap.size, 3, none⟩ = some (.int .u64 n.time) ∧ w'.cell? ⟨w.heap.size + 1, 0, none⟩ = some (.int .u32 m.a) ∧ w'.cell? ⟨w.heap.size + 1, 1, none⟩ = some (.int .u32 m.b) ∧ w'.cell? ⟨w.heap.size + 1, 2, none⟩ = some (.int .u32 m.c) ∧ w'.cell? ⟨w.heap.size + 1, 3, none⟩ = some (.int .u32 m.d) ∧ w'.cell? ⟨w.heap.size + 1, 4, none⟩ = some (.int .u32 m.e) ∧ w'.cell? ⟨w.heap.size + 1, 5, none⟩ = some (.int .u32 m.f)) (first | exact HC.out _ hd1 | exact HC.out _ (below_drew (below_new _ _))) (first
      | (go_at_call 46; (with_reducible refine Calls.mono (HDP.out _) ?_); rintro e w2 ⟨rfl, rfl⟩; have := hd1))
    all_goals
      obtain ⟨W2, hW2⟩ : ∃ W2, (W1.alloc (.cells #[.int .i64 n.kind, .int .u16 n.mode, .int .u16 n.links, .int .u32 n.data.size, .int .u64 n.time, .int .i64 (dpN n.data.size), .int .u32 m.a, .int .u32 m.b, .int .u32 m.c, .int .u32 m.d, .int .u32 m.e, .int .u32 m.f] 41)).drew = W2 := ⟨_, rfl⟩
      rw [hW2] at HX HB2 ⊢
      have HBW := Lib.hid (below_th HB.out HB2.out)
      have HZ2 := Lib.hid (HZ.out.th HB2.out)
      obtain ⟨x0, x1, x2, x3, x4, x5, x6, x7, x8, x9, x10, x11⟩ := HX.out.c
      dsimp only [inoOf] at x0 x1 x2 x3 x4 x5 x6 x7 x8 x9 x10 x11
      clear hW2 hqn hd1 c0 c1 c2 c3 m0 m1 m2 m3 m4 m5 hW1 HDP
      by_cases h1 : RightP (inoOf n m)
      · have HE := Lib.hid (HY.out h1)
        have hrb := Ino.rightB_yes h1
        rw [hrb] at HR
        clear h1 hrb HY HN hz
        go_wp2_with (go_at_call 47; (with_reducible refine Calls.mono (HR.out _) ?_); rintro e w3 ⟨rfl, hb⟩; have HX3 := Lib.hid (HX.out.th hb); obtain ⟨y0, y1, y2, y3, y4, y5, y6, y7, y8, y9, y10, y11⟩ := HX3.out.c; dsimp only [inoOf] at y0 y1 y2 y3 y4 y5 y6 y7 y8 y9 y10 y11; have HZ3 := Lib.hid (HZ2.out.th hb); obtain ⟨z0, z1, z2, z3, z4, z5, z6, z7, z8, z9, z10, z11⟩ := HZ3.out.zc; have g0 := HZ3.out.f 0; have g1 := HZ3.out.f 1; have g2 := HZ3.out.f 2; have g3 := HZ3.out.f 3; have g4 := HZ3.out.f 4; have g5 := HZ3.out.f 5; have g6 := HZ3.out.f 6; have g7 := HZ3.out.f 7; have g8 := HZ3.out.f 8; have g9 := HZ3.out.f 9; have g10 := HZ3.out.f 10; have g11 := HZ3.out.f 11; obtain ⟨hAp, hBp⟩ := HZ3.out.put12 (inoOf n m); have HAp := Lib.hid hAp; have HBp := Lib.hid hBp; have HB3 := Lib.hid (below_th HBW.out hb); clear hAp hBp hb)
        refine bodyPost_ret (Ino.results_inode rfl _ _ rfl HAp.out) rfl ?_
        exact Ans.eq HE.out ⟨rfl, HB3.out.trans (HBp.out.mono (by omega))⟩
      · have HE := Lib.hid (HN.out h1)
        have hrb := Ino.rightB_no h1
        rw [hrb] at HR
        clear h1 hrb HY HN hz
        go_wp2_with (go_at_call 47; (with_reducible refine Calls.mono (HR.out _) ?_); rintro e w3 ⟨rfl, hb⟩; have HZ3 := Lib.hid (HZ2.out.th hb); obtain ⟨z0, z1, z2, z3, z4, z5, z6, z7, z8, z9, z10, z11⟩ := HZ3.out.zc; have g0 := HZ3.out.f 0; have g1 := HZ3.out.f 1; have g2 := HZ3.out.f 2; have g3 := HZ3.out.f 3; have g4 := HZ3.out.f 4; have g5 := HZ3.out.f 5; have g6 := HZ3.out.f 6; have g7 := HZ3.out.f 7; have g8 := HZ3.out.f 8; have g9 := HZ3.out.f 9; have g10 := HZ3.out.f 10; have g11 := HZ3.out.f 11; obtain ⟨hAp, hBp⟩ := HZ3.out.putZ; have HAp := Lib.hid hAp; have HBp := Lib.hid hBp; have HB3 := Lib.hid (below_th HBW.out hb); clear hAp hBp hb)
        refine bodyPost_ret (Ino.results_inode rfl _ _ rfl HAp.out) rfl ?_
        exact Ans.eq HE.out ⟨rfl, HB3.out.trans (HBp.out.mono (by omega))⟩
end
end R
end Go.Proofs.Yteopcjfakhmifaa.Vol
/- The document's Trim. -/
namespace Go.Proofs.Yteopcjfakhmifaa.Vol
open Go.RowKit
open Pln (Nd nd Nodes)
attribute [local go_sem] Oper.semAt_some
set_option linter.unusedVariables false
set_option linter.unusedSimpArgs false
/-- files are answered, trimmed -/
def TrimPost (l : List Nd) (w : World) (e : Ending) (w' : World) : Prop := ∃ v, e = .returned v ∧ Nodes w' v (trm l) ∧ Below w.heap.size w w'
namespace R
section
set_option maxRecDepth 100000
set_option maxHeartbeats 2000000
theorem trim_any (v : Value) (l : List Nd) (w : World) (hL : Nodes w v l) (hl : l.length ≤ 100000) : Calls Try.prog 26 #[v] w (TrimPost l w) := by
  obtain ⟨a, cap, rfl, m1, m2⟩ := hL.parts
  obtain ⟨N, hN⟩ : ∃ N, l.length = N := ⟨_, rfl⟩
  have HR : Hid (∀ k w', k = trimN l N → Below w.heap.size w w' → TrimPost l w (.returned (.slice a k cap)) w') := fun k w' hk hB => by
    refine ⟨_, rfl, ?_, hB⟩
    unfold trm
    rw [hN, ← hk]
    exact (hL.below hB).cut k (by rw [hk, hN]; exact trimN_le _ _)
  rw [hN] at hL m1 hl ⊢
  have HL := Lib.hid hL
  have HN := Lib.hid hN
  clear hL hN
  go_enter Try.func26, Try.ntmps26
  go_wp2
  go_loopw [3] (fun i wr => ∃ k : Nat, i = .int .i64 (k : Int) ∧ k ≤ N ∧ Hid (trimN l k = trimN l N) ∧ Hid (Below w.heap.size w wr)) (fun i _ => (intOf i).toNat)
  case atStart => exact ⟨N, rfl, Nat.le_refl _, rfl, Below.refl _ _⟩
  case round =>
    obtain ⟨k, rfl, hk, HT, HB⟩ := hrel
    by_cases h3 : 3 < k
    · have h3I : (3 : Int) < (k : Int) := by omega
      obtain ⟨j, rfl⟩ : ∃ j, k = j + 1 := ⟨k - 1, by omega⟩
      have hw : IntKind.i64.wrap ((j : Int) + 1 - 1) = (j : Int) := by rw [IntKind.wrap_i64]; omega
      have hjN : (j : Int) < (N : Int) := by omega
      obtain ⟨b, off, cap2, ea, c0, c1, c2, c3, c4⟩ := (HL.out.below HB.out).at (k := j) (by rw [HN.out]; omega)
      rw [HN.out] at ea
      cases ea
      have hq : ∀ W, (binOp .eql 38 (.agg #[.int .i64 (nd l j).kind, .int .u16 (nd l j).mode, .int .u16 (nd l j).links, .int .u64 (nd l j).time, .string (nd l j).data]) (.agg #[.int .i64 0, .int .u16 0, .int .u16 0, .int .u64 0, .string ⟨#[]⟩])).run Try.prog W = .ok (.bool (decide (nd l j = Nd.zero))) W := fun W => Pln.eqlN (nd l j) Nd.zero W
      by_cases hz : nd l j = Nd.zero
      · rw [decide_eq_true hz] at hq
        have HT2 : Hid (trimN l j = trimN l N) := (trimN_go (by omega) hz).symm.trans HT.out
        clear hz
        obtain ⟨x, hx⟩ : ∃ x, nd l j = x := ⟨_, rfl⟩
        rw [hx] at hq c0 c1 c2 c3 c4
        clear hx
        go_wp2
        go_roundw
        case rel => exact ⟨j, by go_num, by omega, HT2.out, HB.out⟩
        case measure => simp [intOf]; try omega
      · rw [decide_eq_false hz] at hq
        have HT2 : Hid (j + 1 = trimN l N) := (trimN_stop (fun h => hz h.2)).symm.trans HT.out
        have HFIN := Lib.hid (HR.out (j + 1) wr HT2.out HB.out)
        clear hz
        obtain ⟨x, hx⟩ : ∃ x, nd l j = x := ⟨_, rfl⟩
        rw [hx] at hq c0 c1 c2 c3 c4
        clear hx
        go_wp2
        go_ret
        exact HFIN.out
    · have h3I : ¬ (3 : Int) < (k : Int) := by omega
      have HT2 : Hid (k = trimN l N) := (trimN_small (by omega)).symm.trans HT.out
      have HFIN := Lib.hid (HR.out k wr HT2.out HB.out)
      go_wp2
      go_ret
      exact HFIN.out
end
end R
end Go.Proofs.Yteopcjfakhmifaa.Vol
