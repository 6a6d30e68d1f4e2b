/- Several texts in one, each under its own heading. -/
import Derived.Test.YteopcjfakhmifaaPk17
/- Right of the program. -/
namespace Go.Proofs.Yteopcjfakhmifaa.Ino
open Go.RowKit
attribute [local go_sem] Oper.semAt_some
set_option linter.unusedVariables false
set_option linter.unusedSimpArgs false

def rightB (n : I) : Bool := decide (RightP n)
theorem rightB_yes {n : I} (h : RightP n) : rightB n = true := decide_eq_true h
theorem rightB_no {n : I} (h : ¬ RightP n) : rightB n = false := decide_eq_false h
section
set_option maxRecDepth 100000
set_option maxHeartbeats 4000000
theorem eqlZ (n : I) (w : World) : (binOp .eql 41 n.val (.agg #[.int .i64 0, .int .u16 0, .int .u16 0, .int .u32 0, .int .u64 0, .int .i64 0, .int .u32 0, .int .u32 0, .int .u32 0, .int .u32 0, .int .u32 0, .int .u32 0])).run Try.prog w = .ok (.bool (decide (n = I.zero))) w := eqlI n I.zero w
/-- the walk of one case: what the guards are is in the context -/
theorem right_any (n : I) (hn : IOk n) (w : World) : Calls Try.prog 45 #[n.val] w (Ans w (.bool (rightB n))) := by
  have hE := fun W => eqlZ n W
  have hK := fun W => isKind_any n.kind W
  have hd := fun W => depth_any n.size W hn.size
  have hM := fun W => isMap_any n.m n.size hn.size W
  have hA := At.new w n
  have hZ := At.new (w.alloc (boxO n)) I.zero
  have hB := below_al (below_new w (boxO n)) (boxO I.zero)
  have hR : rightB n = decide (RightP n) := rfl
  have hR2 : RightP n ↔ n = I.zero ∨ (1 ≤ n.kind ∧ n.kind ≤ 3) ∧ n.mode ≤ 4095 ∧ n.size ≤ 8193532 ∧ n.time < 281474976710656 ∧ n.depth = dpN n.size ∧ mapP n.m n.size := Iff.rfl
  rw [World.size_alloc] at hZ
  have hA2 := hA.below (hB.mono (Nat.le_refl _) |> fun _ => below_new (w.alloc (boxO n)) (boxO I.zero)) (by simp)
  unfold boxO at hA2 hZ hB
  obtain ⟨W0, hW0⟩ : ∃ W0, (w.alloc (.cells #[.int .i64 n.kind, .int .u16 n.mode, .int .u16 n.links, .int .u32 n.size, .int .u64 n.time, .int .i64 n.depth, .int .u32 n.m.a, .int .u32 n.m.b, .int .u32 n.m.c, .int .u32 n.m.d, .int .u32 n.m.e, .int .u32 n.m.f] 41)).alloc (.cells #[.int .i64 0, .int .u16 0, .int .u16 0, .int .u32 0, .int .u64 0, .int .i64 0, .int .u32 0, .int .u32 0, .int .u32 0, .int .u32 0, .int .u32 0, .int .u32 0] 41) = W0 := ⟨_, rfl⟩
  replace hA2 : At W0 w.heap.size n := by rw [← hW0]; exact hA2
  replace hZ : At W0 (w.heap.size + 1) I.zero := by rw [← hW0]; exact hZ
  replace hB : Below w.heap.size w W0 := by rw [← hW0]; exact hB
  have HB := Lib.hid hB
  obtain ⟨c0, c1, c2, c3, c4, c5, c6, c7, c8, c9, c10, c11⟩ := hA2.c
  obtain ⟨z0, z1, z2, z3, z4, z5, z6, z7, z8, z9, z10, z11⟩ := hZ.c
  replace z0 : W0.cell? ⟨w.heap.size + 1, 0, none⟩ = some (.int .i64 0) := z0
  replace z1 : W0.cell? ⟨w.heap.size + 1, 1, none⟩ = some (.int .u16 0) := z1
  replace z2 : W0.cell? ⟨w.heap.size + 1, 2, none⟩ = some (.int .u16 0) := z2
  replace z3 : W0.cell? ⟨w.heap.size + 1, 3, none⟩ = some (.int .u32 0) := z3
  replace z4 : W0.cell? ⟨w.heap.size + 1, 4, none⟩ = some (.int .u64 0) := z4
  replace z5 : W0.cell? ⟨w.heap.size + 1, 5, none⟩ = some (.int .i64 0) := z5
  replace z6 : W0.cell? ⟨w.heap.size + 1, 6, none⟩ = some (.int .u32 0) := z6
  replace z7 : W0.cell? ⟨w.heap.size + 1, 7, none⟩ = some (.int .u32 0) := z7
  replace z8 : W0.cell? ⟨w.heap.size + 1, 8, none⟩ = some (.int .u32 0) := z8
  replace z9 : W0.cell? ⟨w.heap.size + 1, 9, none⟩ = some (.int .u32 0) := z9
  replace z10 : W0.cell? ⟨w.heap.size + 1, 10, none⟩ = some (.int .u32 0) := z10
  replace z11 : W0.cell? ⟨w.heap.size + 1, 11, none⟩ = some (.int .u32 0) := z11
  have hC : ∀ W, Below W0.heap.size W0 W → Reads W w.heap.size n ∧ Reads W (w.heap.size + 1) I.zero := fun W hW => ⟨(hA2.th hW).c, (hZ.th hW).c⟩
  have hD1 : Below W0.heap.size W0 W0.drew := (Below.refl _ _).drew
  unfold I.val at hE ⊢
  unfold M.val at hM
  generalize hX : decide (mapP n.m n.size) = x at hM
  have HW := Lib.hid hW0
  clear hA hA2 hZ hB hW0
  obtain ⟨kind, mode, links, size, time, depth, a, b, c, d, e, f⟩ := n
  dsimp only at hE hK hd hM hR hR2 c0 c1 c2 c3 c4 c5 c6 c7 c8 c9 c10 c11 hX HW ⊢
  by_cases h0 : (⟨kind, mode, links, size, time, depth, a, b, c, d, e, f⟩ : I) = I.zero
  · rw [decide_eq_true h0] at hE
    have HR := Lib.hid (hR.trans (decide_eq_true (hR2.2 (.inl h0))))
    clear hR hR2 hX h0 hC hn
    go_enter Try.func45, Try.ntmps45
    go_wp2
    rw [HW.out]
    go_quiet (fail)
    go_wp2
    go_ret
    exact ⟨by rw [HR.out]; rfl, below_drewN HB.out _⟩
  · rw [decide_eq_false h0] at hE
    have kq : ∀ m, Calls Try.prog 59 #[.int .i64 kind] (W0.drewN m) fun e w' => e = .returned (.bool (decide (1 ≤ kind ∧ kind ≤ 3))) ∧ w' = W0.drewN m := fun m => (hK _).mono fun e w' h => ⟨h.1, h.2.symm⟩
    have dq : ∀ m, Calls Try.prog 44 #[.int .u32 size] (W0.drewN m) fun e w' => e = .returned (.int .i64 (dpN size)) ∧ w' = W0.drewN m := fun m => (hd _).mono fun e w' h => ⟨h.1, h.2.symm⟩
    have HK := Lib.hid hK
    have HDD := Lib.hid hd
    have HMM := Lib.hid hM
    clear hK hd hM
    by_cases h1 : 1 ≤ kind ∧ kind ≤ 3
    rotate_left 1
    · rw [decide_eq_false h1] at kq
      have HR := Lib.hid (hR.trans (decide_eq_false (fun hh => (hR2.1 hh).elim h0 (fun hu => h1 hu.1))))
      have KQ := Lib.hid kq
      have DQ := Lib.hid dq
      clear hR hR2 hX h0 hC hn h1 kq dq
      go_enter Try.func45, Try.ntmps45
      go_wp2
      rw [HW.out]
      go_quiet ((first | (go_at_call 59; exact Calls.quiet_of_same (KQ.out _)) | (go_at_call 44; exact Calls.quiet_of_same (DQ.out _))))
      go_wp2
      go_ret
      exact ⟨by rw [HR.out]; rfl, below_drewN HB.out _⟩
    rw [decide_eq_true h1] at kq HK
    by_cases h2 : mode ≤ 4095
    rotate_left 1
    · have g2 : decide (mode ≤ 4095) = false := decide_eq_false h2
      have g2b : decide ((mode : Int) ≤ 4095) = false := decide_eq_false (by omega)
      have HR := Lib.hid (hR.trans (decide_eq_false (fun hh => (hR2.1 hh).elim h0 (fun hu => h2 hu.2.1))))
      have KQ := Lib.hid kq
      have DQ := Lib.hid dq
      clear hR hR2 hX h0 hC hn h1 h2 kq dq
      go_enter Try.func45, Try.ntmps45
      go_wp2
      rw [HW.out]
      go_quiet ((first | (go_at_call 59; exact Calls.quiet_of_same (KQ.out _)) | (go_at_call 44; exact Calls.quiet_of_same (DQ.out _))))
      go_wp2
      go_ret
      exact ⟨by rw [HR.out]; rfl, below_drewN HB.out _⟩
    have g2 : (mode : Int) ≤ 4095 := by omega
    by_cases h3 : size ≤ 8193532
    rotate_left 1
    · have g3 : decide (size ≤ 8193532) = false := decide_eq_false h3
      have g3b : decide ((size : Int) ≤ 8193532) = false := decide_eq_false (by omega)
      have HR := Lib.hid (hR.trans (decide_eq_false (fun hh => (hR2.1 hh).elim h0 (fun hu => h3 hu.2.2.1))))
      have KQ := Lib.hid kq
      have DQ := Lib.hid dq
      clear hR hR2 hX h0 hC hn h1 h2 h3 kq dq
      go_enter Try.func45, Try.ntmps45
      go_wp2
      rw [HW.out]
      go_quiet ((first | (go_at_call 59; exact Calls.quiet_of_same (KQ.out _)) | (go_at_call 44; exact Calls.quiet_of_same (DQ.out _))))
      go_wp2
      go_ret
      exact ⟨by rw [HR.out]; rfl, below_drewN HB.out _⟩
    have g3 : (size : Int) ≤ 8193532 := by omega
    by_cases h4 : time < 281474976710656
    rotate_left 1
    · have g4 : decide (time < 281474976710656) = false := decide_eq_false h4
      have g4b : decide ((time : Int) < 281474976710656) = false := decide_eq_false (by omega)
      have HR := Lib.hid (hR.trans (decide_eq_false (fun hh => (hR2.1 hh).elim h0 (fun hu => h4 hu.2.2.2.1))))
      have KQ := Lib.hid kq
      have DQ := Lib.hid dq
      clear hR hR2 hX h0 hC hn h1 h2 h3 h4 kq dq
      go_enter Try.func45, Try.ntmps45
      go_wp2
      rw [HW.out]
      go_quiet ((first | (go_at_call 59; exact Calls.quiet_of_same (KQ.out _)) | (go_at_call 44; exact Calls.quiet_of_same (DQ.out _))))
      go_wp2
      go_ret
      exact ⟨by rw [HR.out]; rfl, below_drewN HB.out _⟩
    have g4 : (time : Int) < 281474976710656 := by omega
    by_cases h5 : depth = dpN size
    rotate_left 1
    · have g5 : (depth == ((dpN size : Nat) : Int)) = false := beq_eq_false_iff_ne.2 h5
      have HR := Lib.hid (hR.trans (decide_eq_false (fun hh => (hR2.1 hh).elim h0 (fun hu => h5 hu.2.2.2.2.1))))
      generalize dpN size = D at *
      have KQ := Lib.hid kq
      have DQ := Lib.hid dq
      clear hR hR2 hX h0 hC hn h1 h2 h3 h4 h5 kq dq
      go_enter Try.func45, Try.ntmps45
      go_wp2
      rw [HW.out]
      go_quiet ((first | (go_at_call 59; exact Calls.quiet_of_same (KQ.out _)) | (go_at_call 44; exact Calls.quiet_of_same (DQ.out _))))
      go_wp2
      go_ret
      exact ⟨by rw [HR.out]; rfl, below_drewN HB.out _⟩
    have g5 : (depth == ((dpN size : Nat) : Int)) = true := by rw [h5]; simp
    have HR : Hid (rightB ⟨kind, mode, links, size, time, depth, a, b, c, d, e, f⟩ = x) := by
      unfold Hid
      rw [hR, ← hX]
      exact decide_eq_decide.2 ⟨fun hh => (hR2.1 hh).elim (fun hz => absurd hz h0) (fun hu => hu.2.2.2.2.2), fun hm => hR2.2 (.inr ⟨h1, h2, h3, h4, h5, hm⟩)⟩
    have HC : Hid (∀ W, Below W0.heap.size W0 W → W.cell? ⟨w.heap.size, 0, none⟩ = some (Value.int .i64 kind) ∧ W.cell? ⟨w.heap.size, 1, none⟩ = some (Value.int .u16 mode) ∧ W.cell? ⟨w.heap.size, 2, none⟩ = some (Value.int .u16 links) ∧ W.cell? ⟨w.heap.size, 3, none⟩ = some (Value.int .u32 size) ∧ W.cell? ⟨w.heap.size, 4, none⟩ = some (Value.int .u64 time) ∧ W.cell? ⟨w.heap.size, 5, none⟩ = some (Value.int .i64 depth) ∧ W.cell? ⟨w.heap.size, 6, none⟩ = some (Value.int .u32 a) ∧ W.cell? ⟨w.heap.size, 7, none⟩ = some (Value.int .u32 b) ∧ W.cell? ⟨w.heap.size, 8, none⟩ = some (Value.int .u32 c) ∧ W.cell? ⟨w.heap.size, 9, none⟩ = some (Value.int .u32 d) ∧ W.cell? ⟨w.heap.size, 10, none⟩ = some (Value.int .u32 e) ∧ W.cell? ⟨w.heap.size, 11, none⟩ = some (Value.int .u32 f) ∧ W.cell? ⟨w.heap.size + 1, 0, none⟩ = some (Value.int .i64 0) ∧ W.cell? ⟨w.heap.size + 1, 1, none⟩ = some (Value.int .u16 0) ∧ W.cell? ⟨w.heap.size + 1, 2, none⟩ = some (Value.int .u16 0) ∧ W.cell? ⟨w.heap.size + 1, 3, none⟩ = some (Value.int .u32 0) ∧ W.cell? ⟨w.heap.size + 1, 4, none⟩ = some (Value.int .u64 0) ∧ W.cell? ⟨w.heap.size + 1, 5, none⟩ = some (Value.int .i64 0) ∧ W.cell? ⟨w.heap.size + 1, 6, none⟩ = some (Value.int .u32 0) ∧ W.cell? ⟨w.heap.size + 1, 7, none⟩ = some (Value.int .u32 0) ∧ W.cell? ⟨w.heap.size + 1, 8, none⟩ = some (Value.int .u32 0) ∧ W.cell? ⟨w.heap.size + 1, 9, none⟩ = some (Value.int .u32 0) ∧ W.cell? ⟨w.heap.size + 1, 10, none⟩ = some (Value.int .u32 0) ∧ W.cell? ⟨w.heap.size + 1, 11, none⟩ = some (Value.int .u32 0)) := fun W hW => by
      obtain ⟨⟨a0, a1, a2, a3, a4, a5, a6, a7, a8, a9, a10, a11⟩, b0, b1, b2, b3, b4, b5, b6, b7, b8, b9, b10, b11⟩ := hC W hW
      exact ⟨a0, a1, a2, a3, a4, a5, a6, a7, a8, a9, a10, a11, b0, b1, b2, b3, b4, b5, b6, b7, b8, b9, b10, b11⟩
    generalize dpN size = D at *
    have KQ := Lib.hid kq
    have DQ := Lib.hid dq
    clear hR hR2 hX h0 hC hn h1 h2 h3 h4 h5 kq dq
    go_enter Try.func45, Try.ntmps45
    go_wp2
    rw [HW.out]
    go_region_held3 (fun w' => w'.cell? ⟨w.heap.size, 0, none⟩ = some (Value.int .i64 kind) ∧ w'.cell? ⟨w.heap.size, 1, none⟩ = some (Value.int .u16 mode) ∧ w'.cell? ⟨w.heap.size, 2, none⟩ = some (Value.int .u16 links) ∧ w'.cell? ⟨w.heap.size, 3, none⟩ = some (Value.int .u32 size) ∧ w'.cell? ⟨w.heap.size, 4, none⟩ = some (Value.int .u64 time) ∧ w'.cell? ⟨w.heap.size, 5, none⟩ = some (Value.int .i64 depth) ∧ w'.cell? ⟨w.heap.size, 6, none⟩ = some (Value.int .u32 a) ∧ w'.cell? ⟨w.heap.size, 7, none⟩ = some (Value.int .u32 b) ∧ w'.cell? ⟨w.heap.size, 8, none⟩ = some (Value.int .u32 c) ∧ w'.cell? ⟨w.heap.size, 9, none⟩ = some (Value.int .u32 d) ∧ w'.cell? ⟨w.heap.size, 10, none⟩ = some (Value.int .u32 e) ∧ w'.cell? ⟨w.heap.size, 11, none⟩ = some (Value.int .u32 f) ∧ w'.cell? ⟨w.heap.size + 1, 0, none⟩ = some (Value.int .i64 0) ∧ w'.cell? ⟨w.heap.size + 1, 1, none⟩ = some (Value.int .u16 0) ∧ w'.cell? ⟨w.heap.size + 1, 2, none⟩ = some (Value.int .u16 0) ∧ w'.cell? ⟨w.heap.size + 1, 3, none⟩ = some (Value.int .u32 0) ∧ w'.cell? ⟨w.heap.size + 1, 4, none⟩ = some (Value.int .u64 0) ∧ w'.cell? ⟨w.heap.size + 1, 5, none⟩ = some (Value.int .i64 0) ∧ w'.cell? ⟨w.heap.size + 1, 6, none⟩ = some (Value.int .u32 0) ∧ w'.cell? ⟨w.heap.size + 1, 7, none⟩ = some (Value.int .u32 0) ∧ w'.cell? ⟨w.heap.size + 1, 8, none⟩ = some (Value.int .u32 0) ∧ w'.cell? ⟨w.heap.size + 1, 9, none⟩ = some (Value.int .u32 0) ∧ w'.cell? ⟨w.heap.size + 1, 10, none⟩ = some (Value.int .u32 0) ∧ w'.cell? ⟨w.heap.size + 1, 11, none⟩ = some (Value.int .u32 0)) (first | exact HC.out _ hD1 | exact HC.out _ (by assumption)) (first
      | (go_at_call 59; (with_reducible refine Calls.mono (HK.out _) ?_); rintro e w1 ⟨rfl, rfl⟩; have := hD1)
      | (go_at_call 44; (with_reducible refine Calls.mono (HDD.out _) ?_); rintro e w1 ⟨rfl, rfl⟩; have := hD1)
      | (go_at_call 60; (with_reducible refine Calls.mono (HMM.out _) ?_); rintro e w2 ⟨rfl, hBn⟩; have := below_th hD1 hBn))
    go_wp2
    go_ret
    exact ⟨by rw [HR.out]; rfl, below_th HB.out (by assumption)⟩
end
end Go.Proofs.Yteopcjfakhmifaa.Ino
/- Right of the document. -/
namespace Go.Proofs.Yteopcjfakhmifaa.Ino.R
open Go.RowKit
attribute [local go_sem] Oper.semAt_some
set_option linter.unusedVariables false
set_option linter.unusedSimpArgs false

theorem cut_iff (m : M) (k : Nat) : m = cutM m k ↔ ∀ i, k ≤ i → i < 6 → m.at' i = 0 := by
  constructor
  · intro h i h1 h2
    rw [h, cutM_at m k i h2, if_neg (by omega)]
  · intro h
    apply M.ext'
    intro i hi
    rw [cutM_at m k i hi]
    by_cases hk : i < k
    · rw [if_pos hk]
    · rw [if_neg hk, h i (by omega) hi]
section
set_option maxRecDepth 100000
set_option maxHeartbeats 4000000
theorem mapped_any (m : M) (s : Nat) (hs : s < 4294967296) (w : World) : Calls Try.prog 61 #[m.val, .int .u32 s] w (Ans w (.bool (decide (mapP m s)))) := by
  have hd := fun W => R.depth_any s W hs
  have hb := fun W => R.blocks_any s W hs
  have hm : mapP m s = if dpN s = 0 then m = cutM m (blN s) else ¬ m.a = 0 ∧ m = cutM m 1 := rfl
  have hb6 : dpN s = 0 → blN s ≤ 6 := fun h => by
    unfold dpN at h
    by_cases h6 : blN s ≤ 6
    · exact h6
    · rw [if_neg h6] at h
      split at h <;> omega
  generalize dpN s = d at hd hm hb6
  generalize blN s = b at hb hm hb6
  generalize hX : decide (mapP m s) = x
  have hA := AtM.new w m
  have HB := Lib.hid (below_new w (boxM m))
  unfold boxM at hA HB
  have HCC := Lib.hid (fun j (hj : j < 6) => hA.cell hj)
  have hc0 := hA.cell (i := 0) (by omega)
  unfold M.val
  clear hA hs
  by_cases h0 : d = 0
  · have hb7 := hb6 h0
    have hq : ¬ 0 < d := by omega
    have hq2 : ¬ (0 : Int) < (d : Int) := by omega
    rw [if_pos h0, cut_iff] at hm
    have HT : Hid ((∀ q, b ≤ q → q < 6 → m.at' q = 0) → x = true) := fun h => by rw [← hX]; exact decide_eq_true (by rw [hm]; exact h)
    have HF : Hid ((∃ q, b ≤ q ∧ q < 6 ∧ ¬ m.at' q = 0) → x = false) := fun ⟨q, q1, q2, q3⟩ => by rw [← hX]; exact decide_eq_false (by rw [hm]; exact fun h => q3 (h q q1 q2))
    clear hm hX hc0 hb6 h0
    go_enter Try.func61, Try.ntmps61
    go_wp2_with (first
      | (go_at_call 37; refine (hb _).mono ?_; rintro e w1 ⟨rfl, rfl⟩)
      | (go_at_call 46; refine (hd _).mono ?_; rintro e w1 ⟨rfl, rfl⟩))
    go_loop [6] (fun i => ∃ j : Nat, i = .int .i64 (j : Int) ∧ b ≤ j ∧ j ≤ 6 ∧ Hid (∀ q, b ≤ q → q < j → m.at' q = 0)) (fun i => 6 - (intOf i).toNat)
    case atStart => exact ⟨b, rfl, by omega, by omega, fun q h1 h2 => by omega⟩
    case round =>
      obtain ⟨j, rfl, hfj, hj6, HQ⟩ := hrel
      by_cases hlt : j < 6
      · have hcj := HCC.out j hlt
        have hli : (j : Int) < 6 := by omega
        by_cases hz : m.at' j = 0
        · have hb : ((m.at' j : Int) != 0) = false := by rw [hz]; rfl
          have HN : Hid (∀ q, b ≤ q → q < j + 1 → m.at' q = 0) := fun q h1 h2 => by
            by_cases h : q < j
            · exact HQ.out q h1 h
            · have e : q = j := by omega
              rw [e]; exact hz
          clear hz
          go_wp2
          go_round
          case rel => exact ⟨j + 1, by go_num, by omega, by omega, HN⟩
          case measure => simp [intOf]; omega
        · have hb : ((m.at' j : Int) != 0) = true := by rw [bne_iff_ne]; omega
          have HN := Lib.hid (HF.out ⟨j, hfj, hlt, hz⟩)
          clear hz
          go_wp2
          go_ret
          exact ⟨by rw [HN.out]; rfl, HB.out⟩
      · obtain rfl : j = 6 := by omega
        have HN := Lib.hid (HT.out HQ.out)
        go_wp2
        go_ret
        exact ⟨by rw [HN.out]; rfl, HB.out⟩
  · have hq : 0 < d := by omega
    have hq2 : (0 : Int) < (d : Int) := by omega
    rw [if_neg h0, cut_iff] at hm
    replace hc0 : (w.alloc (.cells #[.int .u32 m.a, .int .u32 m.b, .int .u32 m.c, .int .u32 m.d, .int .u32 m.e, .int .u32 m.f] 39)).cell? ⟨w.heap.size, 0, none⟩ = some (.int .u32 m.a) := hc0
    by_cases ha : m.a = 0
    · have hz : ((m.a : Int) == 0) = true := by simp [ha]
      have HN : Hid (x = false) := by unfold Hid; rw [← hX]; exact decide_eq_false (by rw [hm]; exact fun h => h.1 ha)
      clear hm hX hb6 h0 ha
      go_enter Try.func61, Try.ntmps61
      go_wp2_with (first
        | (go_at_call 37; refine (hb _).mono ?_; rintro e w1 ⟨rfl, rfl⟩)
        | (go_at_call 46; refine (hd _).mono ?_; rintro e w1 ⟨rfl, rfl⟩))
      go_ret
      exact ⟨by rw [HN.out]; rfl, HB.out⟩
    · have hz : ((m.a : Int) == 0) = false := beq_eq_false_iff_ne.2 (by omega)
      have HT : Hid ((∀ q, 1 ≤ q → q < 6 → m.at' q = 0) → x = true) := fun h => by rw [← hX]; exact decide_eq_true (by rw [hm]; exact ⟨ha, h⟩)
      have HF : Hid ((∃ q, 1 ≤ q ∧ q < 6 ∧ ¬ m.at' q = 0) → x = false) := fun ⟨q, q1, q2, q3⟩ => by rw [← hX]; exact decide_eq_false (by rw [hm]; exact fun h => q3 (h.2 q q1 q2))
      clear hm hX hb6 h0 ha
      go_enter Try.func61, Try.ntmps61
      go_wp2_with (first
        | (go_at_call 37; refine (hb _).mono ?_; rintro e w1 ⟨rfl, rfl⟩)
        | (go_at_call 46; refine (hd _).mono ?_; rintro e w1 ⟨rfl, rfl⟩))
      go_loop [6] (fun i => ∃ j : Nat, i = .int .i64 (j : Int) ∧ 1 ≤ j ∧ j ≤ 6 ∧ Hid (∀ q, 1 ≤ q → q < j → m.at' q = 0)) (fun i => 6 - (intOf i).toNat)
      case atStart => exact ⟨1, rfl, by omega, by omega, fun q h1 h2 => by omega⟩
      case round =>
        obtain ⟨j, rfl, hfj, hj6, HQ⟩ := hrel
        by_cases hlt : j < 6
        · have hcj := HCC.out j hlt
          have hli : (j : Int) < 6 := by omega
          by_cases hz : m.at' j = 0
          · have hb : ((m.at' j : Int) != 0) = false := by rw [hz]; rfl
            have HN : Hid (∀ q, 1 ≤ q → q < j + 1 → m.at' q = 0) := fun q h1 h2 => by
              by_cases h : q < j
              · exact HQ.out q h1 h
              · have e : q = j := by omega
                rw [e]; exact hz
            clear hz
            go_wp2
            go_round
            case rel => exact ⟨j + 1, by go_num, by omega, by omega, HN⟩
            case measure => simp [intOf]; omega
          · have hb : ((m.at' j : Int) != 0) = true := by rw [bne_iff_ne]; omega
            have HN := Lib.hid (HF.out ⟨j, hfj, hlt, hz⟩)
            clear hz
            go_wp2
            go_ret
            exact ⟨by rw [HN.out]; rfl, HB.out⟩
        · obtain rfl : j = 6 := by omega
          have HN := Lib.hid (HT.out HQ.out)
          go_wp2
          go_ret
          exact ⟨by rw [HN.out]; rfl, HB.out⟩
end
end Go.Proofs.Yteopcjfakhmifaa.Ino.R
