/- Which checkpoints are dropped: the program's closures. -/
import Derived.Test.YtoedjemelblpaaaCpsTable
namespace Go.Proofs.Ytoedjemelblpaaa.Cps
open Go.RowKit
attribute [local go_sem] Oper.semAt_some
set_option linter.unusedVariables false
set_option linter.unusedSimpArgs false
section
set_option maxRecDepth 100000
set_option maxHeartbeats 2000000
theorem isOver_any (t now keep : Nat) (w : World) (hn : now < 18446744073709551616) : Calls Try.prog 47 #[.int .u64 t, .int .u64 now, .int .u64 keep] w fun e w' => e = .returned (.bool (decide (t + keep < now))) ∧ w = w' := by
  by_cases h1 : keep < now
  · have g1 : (keep : Int) < now := by omega
    have g1' : decide ((keep : Int) < (now : Int)) = true := decide_eq_true g1
    have hw : IntKind.u64.wrap ((now : Int) - (keep : Int)) = ((now - keep : Nat) : Int) := by rw [IntKind.wrap_u64]; omega
    by_cases h2 : t + keep < now
    · have g2 : (t : Int) < ((now - keep : Nat) : Int) := by omega
      have g2' : decide ((t : Int) < ((now - keep : Nat) : Int)) = true := decide_eq_true g2
      have HD : Hid (decide (t + keep < now) = true) := decide_eq_true h2
      generalize now - keep = d at hw g2 g2'
      clear h1 h2
      go_enter Try.func47, Try.ntmps47
      go_wp2
      go_ret
      exact ⟨by rw [HD.out]; rfl, rfl⟩
    · have g2 : ¬ (t : Int) < ((now - keep : Nat) : Int) := by omega
      have g2' : decide ((t : Int) < ((now - keep : Nat) : Int)) = false := decide_eq_false g2
      have HD : Hid (decide (t + keep < now) = false) := decide_eq_false h2
      generalize now - keep = d at hw g2 g2'
      clear h1 h2
      go_enter Try.func47, Try.ntmps47
      go_wp2
      go_ret
      exact ⟨by rw [HD.out]; rfl, rfl⟩
  · have g1 : ¬ (keep : Int) < now := by omega
    have g1' : decide ((keep : Int) < (now : Int)) = false := decide_eq_false g1
    have HD : Hid (decide (t + keep < now) = false) := decide_eq_false (by omega)
    clear h1
    go_enter Try.func47, Try.ntmps47
    go_wp2
    go_ret
    exact ⟨by rw [HD.out]; rfl, rfl⟩
theorem del1_any (c : C) (cp b : Nat) (w : World) (hb : w.cell? ⟨b, 0, none⟩ = some (.int .u64 cp)) : Calls Try.prog 43 #[c.val, .pointer (some ⟨b, 0, none⟩)] w (Ans w (.bool (isB cp c))) := by
  have HB := below_new w (boxO c)
  have hlt := World.block_lt_of_cell? _ _ hb
  have d0 : (w.alloc (boxO c)).cell? ⟨b, 0, none⟩ = some (.int .u64 cp) := (HB.cell (p := ⟨b, 0, none⟩) hlt).trans hb
  obtain ⟨x, hx⟩ : ∃ x, isB cp c = x := ⟨_, rfl⟩
  have hq : ((c.cp : Int) == (cp : Int)) = x := by
    rw [← hx]
    unfold isB
    rw [Bool.eq_iff_iff, decide_eq_true_iff]
    simp
    omega
  rw [hx]
  clear hb hlt hx
  obtain ⟨n, ti, sn, ro⟩ := c
  unfold C.val
  unfold boxO at HB d0
  dsimp only at HB d0 hq ⊢
  have HBB := Lib.hid HB
  cases x with
  | true =>
    have hq' : (n == cp) = true := by simp at hq ⊢; omega
    go_enter Try.func43, Try.ntmps43
    go_wp2
    go_ret
    exact ⟨rfl, HBB.out⟩
  | false =>
    have hq' : (n == cp) = false := by simp at hq ⊢; omega
    go_enter Try.func43, Try.ntmps43
    go_wp2
    go_ret
    exact ⟨rfl, HBB.out⟩
theorem exp1_any (c : C) (last now keep q1 q2 q3 : Nat) (w : World) (hn : now < 18446744073709551616) (h1 : w.cell? ⟨q1, 0, none⟩ = some (.int .u64 last)) (h2 : w.cell? ⟨q2, 0, none⟩ = some (.int .u64 now)) (h3 : w.cell? ⟨q3, 0, none⟩ = some (.int .u64 keep)) :
    Calls Try.prog 46 #[c.val, .pointer (some ⟨q1, 0, none⟩), .pointer (some ⟨q2, 0, none⟩), .pointer (some ⟨q3, 0, none⟩)] w (Ans w (.bool (dropB last now keep c))) := by
  have HB := below_new w (boxO c)
  have d1 : (w.alloc (boxO c)).cell? ⟨q1, 0, none⟩ = some (.int .u64 last) := (HB.cell (p := ⟨q1, 0, none⟩) (World.block_lt_of_cell? _ _ h1)).trans h1
  have d2 : (w.alloc (boxO c)).cell? ⟨q2, 0, none⟩ = some (.int .u64 now) := (HB.cell (p := ⟨q2, 0, none⟩) (World.block_lt_of_cell? _ _ h2)).trans h2
  have d3 : (w.alloc (boxO c)).cell? ⟨q3, 0, none⟩ = some (.int .u64 keep) := (HB.cell (p := ⟨q3, 0, none⟩) (World.block_lt_of_cell? _ _ h3)).trans h3
  have ho := fun W => isOver_any c.tick now keep W hn
  obtain ⟨x, hx⟩ : ∃ x, decide (c.tick + keep < now) = x := ⟨_, rfl⟩
  obtain ⟨y, hy⟩ : ∃ y, decide (¬ c.cp = last) = y := ⟨_, rfl⟩
  have hV : dropB last now keep c = (!c.snap && (y && x)) := by rw [← hx, ← hy]; rfl
  rw [hx] at ho
  rw [hV]
  have HO := Lib.hid ho
  clear h1 h2 h3 ho hx hV
  obtain ⟨n, ti, sn, ro⟩ := c
  unfold C.val
  unfold boxO at HB d1 d2 d3
  dsimp only at HB d1 d2 d3 HO hy ⊢
  have HBB := Lib.hid HB
  cases sn with
  | true =>
    clear hy
    go_enter Try.func46, Try.ntmps46
    go_wp2
    go_ret
    exact ⟨rfl, HBB.out⟩
  | false =>
    cases y with
    | false =>
      have e : n = last := by simpa using hy
      subst e
      clear hy
      go_enter Try.func46, Try.ntmps46
      go_wp2
      go_ret
      exact ⟨rfl, HBB.out⟩
    | true =>
      have e : ¬ n = last := by simpa using hy
      have g1 : (n == last) = false := by simp [e]
      have g2 : ((n : Int) != (last : Int)) = true := by simp; omega
      clear hy
      go_enter Try.func46, Try.ntmps46
      go_wp2_with (go_at_call 47; (with_reducible refine Calls.mono (HO.out _) ?_); rintro e w2 ⟨rfl, rfl⟩)
      go_ret
      exact ⟨by cases x <;> rfl, HBB.out⟩
theorem newest_any (v : Value) (L : List C) (w : World) (hL : Chs w v L) : Calls Try.prog 45 #[v] w fun e w' => e = .returned (.int .u64 (lastCp L : Nat)) ∧ w = w' := by
  rcases hL.open with ⟨a, cap, rfl, rfl⟩ | ⟨b, off, cap, rfl, h0, h1, h2⟩
  · clear hL
    go_enter Try.func45, Try.ntmps45
    go_wp2
    go_ret
    exact ⟨rfl, rfl⟩
  · obtain ⟨m, hm⟩ : ∃ m, L.length = m + 1 := ⟨L.length - 1, by omega⟩
    have hc := (hL.get rfl (k := m) (by omega)).1
    have HV : Hid (lastCp L = (ck L m).cp) := by unfold Hid lastCp; rw [hm]; rfl
    have hw : IntKind.i64.wrap (((m + 1 : Nat) : Int) - 1) = (m : Int) := by rw [IntKind.wrap_i64]; omega
    have hw2 : IntKind.i64.wrap (m : Int) = (m : Int) := by rw [IntKind.wrap_i64]; omega
    rw [hm] at h1 ⊢
    clear hL h0 hm
    go_enter Try.func45, Try.ntmps45
    go_wp2
    go_ret
    exact ⟨by rw [HV.out]; rfl, rfl⟩
end
end Go.Proofs.Ytoedjemelblpaaa.Cps
