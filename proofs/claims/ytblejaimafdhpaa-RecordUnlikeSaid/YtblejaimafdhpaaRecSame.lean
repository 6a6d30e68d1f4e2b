/- Same of the document: are two records the same? -/
import Derived.Test.YtblejaimafdhpaaOnly
import Derived.Test.YtblejaimafdhpaaRecMem
namespace Go.Proofs.Ytblejaimafdhpaa.Record
open Go.RowKit
attribute [local go_sem] Oper.semAt_some
set_option linter.unusedVariables false

section
set_option maxRecDepth 100000
set_option maxHeartbeats 2000000
theorem eqlG (a b : E) (w : World) : (binOp .eql 46 a.val b.val).run Try.prog w = .ok (.bool (decide (a = b))) w := by
  obtain ⟨l1, b1, s1, v1⟩ := a
  obtain ⟨l2, b2, s2, v2⟩ := b
  have he : (Op.equalIn 10000 46 (.agg #[.int .i64 l1, .int .u32 b1, .int .u32 s1, .int .u32 v1]) (.agg #[.int .i64 l2, .int .u32 b2, .int .u32 s2, .int .u32 v2])).run Try.prog w = .ok (decide ((⟨l1, b1, s1, v1⟩ : E) = ⟨l2, b2, s2, v2⟩)) w := by
    rw [run_equalIn_agg w 9999 46 _ _ (by kernel_rfl) (by kernel_rfl)]
    simp only [E.mk.injEq]
    by_cases h1 : l1 = l2
    · by_cases h2 : b1 = b2
      · by_cases h3 : s1 = s2
        · by_cases h4 : v1 = v2
          · simp [go_sem, h1, h2, h3, h4]
          · have h4' : ¬ (v1 : Int) = v2 := by omega
            simp [go_sem, h1, h2, h3, h4, h4']
        · have h3' : ¬ (s1 : Int) = s2 := by omega
          simp [go_sem, h1, h2, h3, h3']
      · have h2' : ¬ (b1 : Int) = b2 := by omega
        simp [go_sem, h1, h2, h2']
    · simp [go_sem, h1]
  unfold E.val
  dsimp only
  rw [run_eql_struct, he]
  rfl
theorem neqG (a b : E) (w : World) : (binOp .neq 46 a.val b.val).run Try.prog w = .ok (.bool (!decide (a = b))) w := by
  have h := eqlG a b w
  unfold E.val at h ⊢
  rw [run_eql_struct] at h
  rw [run_neq_struct]
  revert h
  generalize (Op.equalIn 10000 46 (.agg #[.int .i64 a.kind, .int .u32 a.file, .int .u32 a.index, .int .u32 a.vbn]) (.agg #[.int .i64 b.kind, .int .u32 b.file, .int .u32 b.index, .int .u32 b.vbn])).run Try.prog w = r
  intro h
  cases r with
  | ok x w1 =>
    simp only [Result.andThen] at h ⊢
    injection h with h1 h2
    injection h1 with h3
    rw [h3, h2]
  | halt x w1 => simp [Result.andThen] at h

/-- two records at two boxes -/
theorem boxes (w : World) (a b : R) (v u : Value) : RAt ((w.alloc (boxR a v)).alloc (boxR b u)) w.heap.size a v ∧ RAt ((w.alloc (boxR a v)).alloc (boxR b u)) (w.heap.size + 1) b u := by
  refine ⟨(RAt.new w a v).th (below_new _ _), ?_⟩
  have := RAt.new (w.alloc (boxR a v)) b u
  rw [World.size_alloc] at this
  exact this
theorem same_any (a b : R) (v u : Value) (w : World) (h1 : Ents w v a.l) (h2 : Ents w u b.l) : Calls Try.prog 16 #[a.val v, b.val u] w (Ans w (.bool (decide (a = b)))) := by
  have hB := below_al (below_new w (boxR a v)) (boxR b u)
  obtain ⟨hA1, hA2⟩ := boxes w a b v u
  have h1' := h1.below hB
  have h2' := h2.below hB
  have HNE : Hid (¬ a = b → decide (a = b) = false) := fun h => decide_eq_false h
  have HEQ : Hid (a.seq = b.seq → a.cp = b.cp → a.ends = b.ends → a.sync = b.sync → a.next = b.next → a.l.length = b.l.length → (∀ j, j < a.l.length → ent a.l j = ent b.l j) → decide (a = b) = true) := fun k1 k2 k3 k4 k5 k6 k7 => decide_eq_true (R.ext' k1 k2 k3 k4 k5 (ent_ext k6 k7))
  have HN1 : Hid (¬ a.seq = b.seq → ¬ a = b) := fun h e => h (by rw [e])
  have HN2 : Hid (¬ a.cp = b.cp → ¬ a = b) := fun h e => h (by rw [e])
  have HN3 : Hid (¬ a.ends = b.ends → ¬ a = b) := fun h e => h (by rw [e])
  have HN4 : Hid (¬ a.sync = b.sync → ¬ a = b) := fun h e => h (by rw [e])
  have HN5 : Hid (¬ a.next = b.next → ¬ a = b) := fun h e => h (by rw [e])
  have HN6 : Hid (¬ a.l.length = b.l.length → ¬ a = b) := fun h e => h (by rw [e])
  have HN7 : Hid (∀ j, ¬ ent a.l j = ent b.l j → ¬ a = b) := fun j h e => h (by rw [e])
  obtain ⟨x, hx⟩ : ∃ x, decide (a = b) = x := ⟨_, rfl⟩
  rw [hx] at HNE HEQ ⊢
  have hN : Hid (¬ a = b → x = false) := HNE.out
  obtain ⟨D, hD⟩ : ∃ D : Prop, (¬ a = b) = D := ⟨_, rfl⟩
  rw [hD] at HNE HN1 HN2 HN3 HN4 HN5 HN6 HN7
  clear hN hD hx
  obtain ⟨s, c, en, sy, nx, A⟩ := a
  obtain ⟨s2, c2, en2, sy2, nx2, B⟩ := b
  dsimp only at h1 h2 h1' h2' HEQ HN1 HN2 HN3 HN4 HN5 HN6 HN7
  obtain ⟨a1, cap1, rfl, hn1, hm1⟩ := h1.parts
  obtain ⟨a2, cap2, rfl, hn2, hm2⟩ := h2.parts
  obtain ⟨g0, g1, g2, g3, g4, g5⟩ := hA1.c
  obtain ⟨k0, k1, k2, k3, k4, k5⟩ := hA2.c
  unfold R.val
  unfold boxR at hB hA1 hA2 h1' h2' g0 g1 g2 g3 g4 g5 k0 k1 k2 k3 k4 k5
  dsimp only at hB hA1 hA2 h1' h2' g0 g1 g2 g3 g4 g5 k0 k1 k2 k3 k4 k5 ⊢
  have H1 := Lib.hid h1'
  have H2 := Lib.hid h2'
  have HBB := Lib.hid hB
  clear h1 h2 h1' h2' hA1 hA2
  by_cases e1 : s = s2
  · subst e1
    by_cases e2 : c = c2
    · subst e2
      by_cases e3 : en = en2
      · subst e3
        by_cases e4 : sy = sy2
        · subst e4
          by_cases e5 : nx = nx2
          · subst e5
            by_cases e6 : A.length = B.length
            · have HX := Lib.hid (HEQ.out rfl rfl rfl rfl rfl e6)
              obtain ⟨N, hN⟩ : ∃ N, A.length = N := ⟨_, rfl⟩
              rw [← e6] at H2 hn2 hB HBB g5 k5 g0 g1 g2 g3 g4 k0 k1 k2 k3 k4 H1 ⊢
              have hBN : B.length = N := by omega
              rw [hN] at H1 H2 hn1 hn2 hB HBB HX g5 k5 g0 g1 g2 g3 g4 k0 k1 k2 k3 k4 ⊢
              have HNA := Lib.hid hN
              have HNB := Lib.hid hBN
              clear hN hBN e6 HEQ HN1 HN2 HN3 HN4 HN5 HN6
              have hca := fun W (hW : Below ((w.alloc (.cells #[.int .u64 (s : Int), .int .u64 (c : Int), .bool en, .bool sy, .int .i64 nx, .slice a1 N cap1] 25)).alloc (.cells #[.int .u64 (s : Int), .int .u64 (c : Int), .bool en, .bool sy, .int .i64 nx, .slice a2 N cap2] 25)).heap.size _ W) => And.intro ((hW.cell (World.block_lt_of_cell? _ _ g5)).trans g5) ((hW.cell (World.block_lt_of_cell? _ _ k5)).trans k5)
              obtain ⟨W1, hW1⟩ : ∃ W1, (w.alloc (.cells #[.int .u64 (s : Int), .int .u64 (c : Int), .bool en, .bool sy, .int .i64 nx, .slice a1 N cap1] 25)).alloc (.cells #[.int .u64 (s : Int), .int .u64 (c : Int), .bool en, .bool sy, .int .i64 nx, .slice a2 N cap2] 25) = W1 := ⟨_, rfl⟩
              rw [hW1] at H1 H2 HBB hB g0 g1 g2 g3 g4 g5 k0 k1 k2 k3 k4 k5
              simp only [hW1] at hca
              have HCA := Lib.hid hca
              clear hca
              go_enter Try.func16, Try.ntmps16
              go_wp2
              go_loopw [5] (fun i wr => ∃ k : Nat, k ≤ N ∧ i = .int .i64 (k : Int) ∧ Hid (∀ j, j < k → ent A j = ent B j) ∧ Below W1.heap.size W1 wr) (fun i _ => N - (intOf i).toNat)
              case atStart => exact ⟨0, by omega, rfl, fun j hj => by omega, Below.refl _ _⟩
              case round =>
                obtain ⟨k, hk, rfl, HU, hBr⟩ := hrel
                obtain ⟨y5, z5⟩ := HCA.out _ hBr
                by_cases hlt : k < N
                · obtain ⟨b1, off1, cap3, f1, c0, c1, c2, c3⟩ := (H1.out.below hBr).at (k := k) (by rw [HNA.out]; exact hlt)
                  obtain ⟨b2, off2, cap4, f2, d0, d1, d2, d3⟩ := (H2.out.below hBr).at (k := k) (by rw [HNB.out]; exact hlt)
                  rw [HNA.out] at f1
                  rw [HNB.out] at f2
                  cases f1
                  cases f2
                  have HBr := Lib.hid hBr
                  have hq := fun W => neqG (ent A k) (ent B k) W
                  unfold E.val at hq
                  by_cases hx : ent A k = ent B k
                  · rw [decide_eq_true hx] at hq
                    have hq1 : ∀ W, (binOp .neq 46 (.agg #[.int .i64 (ent A k).kind, .int .u32 (ent A k).file, .int .u32 (ent A k).index, .int .u32 (ent A k).vbn]) (.agg #[.int .i64 (ent B k).kind, .int .u32 (ent B k).file, .int .u32 (ent B k).index, .int .u32 (ent B k).vbn])).run Try.prog W = .ok (.bool false) W := hq
                    have HXX := Lib.hid hx
                    clear hx hq
                    go_wp2
                    go_quiet (fail)
                    go_wp2
                    go_roundw
                    case rel => exact ⟨k + 1, by omega, by go_num, fun j hj => (by rcases Nat.lt_succ_iff_lt_or_eq.1 hj with h | h; exact HU.out j h; rw [h]; exact HXX.out), below_drewN HBr.out _⟩
                    case measure => simp [intOf]; omega
                  · rw [decide_eq_false hx] at hq
                    have hq1 : ∀ W, (binOp .neq 46 (.agg #[.int .i64 (ent A k).kind, .int .u32 (ent A k).file, .int .u32 (ent A k).index, .int .u32 (ent A k).vbn]) (.agg #[.int .i64 (ent B k).kind, .int .u32 (ent B k).file, .int .u32 (ent B k).index, .int .u32 (ent B k).vbn])).run Try.prog W = .ok (.bool true) W := hq
                    have HXX := Lib.hid (HNE.out (HN7.out k hx))
                    clear hx hq
                    go_wp2
                    go_quiet (fail)
                    go_wp2
                    go_ret
                    exact ⟨by rw [HXX.out]; rfl, below_drewN (below_th HBB.out HBr.out) _⟩
                · obtain rfl : k = N := by omega
                  have HA := Lib.hid (HX.out HU.out)
                  go_wp2
                  go_ret
                  exact ⟨by rw [HA.out]; rfl, below_th HBB.out hBr⟩
            · have q6 : ((A.length : Int) == (B.length : Int)) = false := by simp; omega
              have HX := Lib.hid (HNE.out (HN6.out e6))
              obtain ⟨NA, hNA⟩ : ∃ NA, A.length = NA := ⟨_, rfl⟩
              obtain ⟨NB, hNB⟩ : ∃ NB, B.length = NB := ⟨_, rfl⟩
              rw [hNA, hNB] at q6
              simp only [hNA, hNB] at g5 k5 hn1 hn2 HBB hB g0 g1 g2 g3 g4 k0 k1 k2 k3 k4 ⊢
              clear e6 hNA hNB H1 H2
              go_enter Try.func16, Try.ntmps16
              go_wp2
              go_ret
              exact ⟨by rw [HX.out]; rfl, HBB.out⟩
          · have q5 : (nx == nx2) = false := by simp [e5]
            have HX := Lib.hid (HNE.out (HN5.out e5))
            clear e5
            go_enter Try.func16, Try.ntmps16
            go_wp2
            go_ret
            exact ⟨by rw [HX.out]; rfl, HBB.out⟩
        · have HX := Lib.hid (HNE.out (HN4.out e4))
          cases sy <;> cases sy2 <;> first | exact absurd rfl e4 | skip
          all_goals
            clear e4
            go_enter Try.func16, Try.ntmps16
            go_wp2
            go_ret
            exact ⟨by rw [HX.out]; rfl, HBB.out⟩
      · have HX := Lib.hid (HNE.out (HN3.out e3))
        cases en <;> cases en2 <;> first | exact absurd rfl e3 | skip
        all_goals
          clear e3
          go_enter Try.func16, Try.ntmps16
          go_wp2
          go_ret
          exact ⟨by rw [HX.out]; rfl, HBB.out⟩
    · have q2 : (c == c2) = false := by simp [e2]
      have HX := Lib.hid (HNE.out (HN2.out e2))
      go_enter Try.func16, Try.ntmps16
      go_wp2
      go_ret
      exact ⟨by rw [HX.out]; rfl, HBB.out⟩
  · have q1 : (s == s2) = false := by simp [e1]
    have HX := Lib.hid (HNE.out (HN1.out e1))
    go_enter Try.func16, Try.ntmps16
    go_wp2
    go_ret
    exact ⟨by rw [HX.out]; rfl, HBB.out⟩
end
end Go.Proofs.Ytblejaimafdhpaa.Record
