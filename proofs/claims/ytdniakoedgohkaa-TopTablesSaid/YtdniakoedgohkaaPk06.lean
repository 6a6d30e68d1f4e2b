/- Several texts in one, each under its own heading. -/
import Derived.Test.YtdniakoedgohkaaPk05
/- Right of the program. -/
namespace Go.Proofs.Ytdniakoedgohkaa.Record
open Go.RowKit
attribute [local go_sem] Oper.semAt_some
set_option linter.unusedVariables false

def oneB (ends : Bool) (e : E) : Bool := decide (oneP ends e)
def oneUpto (ends : Bool) (L : List E) (k : Nat) : Prop := ∀ j, j < k → oneB ends (ent L j) = true
theorem all_one {ends : Bool} {L : List E} : (∀ e ∈ L, oneP ends e) ↔ oneUpto ends L L.length :=
  ⟨fun h j hj => decide_eq_true (h _ (ent_mem hj)), fun h s hs => by obtain ⟨i, hi, rfl⟩ := mem_ent hs; exact of_decide_eq_true (h i hi)⟩
def entsB (L : List E) (ends : Bool) : Bool := decide (entriesP L ends)
theorem oneUpto.succ {ends : Bool} {L : List E} {k : Nat} (h : oneUpto ends L k) (hk : oneB ends (ent L k) = true) : oneUpto ends L (k + 1) := fun j hj => by
  rcases Nat.lt_succ_iff_lt_or_eq.1 hj with h1 | h1
  · exact h j h1
  · rw [h1]; exact hk
theorem one_yes {ends : Bool} {e : E} (h : entryB e = true) (hk : e.kind = 5 → ends = true) : oneB ends e = true := decide_eq_true ⟨of_decide_eq_true h, fun hh => by have := hk hh.1; rw [hh.2] at this; cases this⟩
theorem one_no1 {ends : Bool} {e : E} (h : entryB e = false) : oneB ends e = false := decide_eq_false fun hh => of_decide_eq_false h hh.1
theorem one_no2 {e : E} (h : e.kind = 5) : oneB false e = false := decide_eq_false fun hh => hh.2 ⟨h, rfl⟩
theorem ents_no {ends : Bool} {L : List E} {k : Nat} (hk : k < L.length) (h : oneB ends (ent L k) = false) : entsB L ends = false := decide_eq_false fun hh => by
  have := all_one.1 hh.2.2.1 k hk
  rw [h] at this
  cases this

section
set_option maxRecDepth 100000
set_option maxHeartbeats 2000000
theorem areEntries_few (v : Value) (L : List E) (ends : Bool) (w : World) (hL : Ents w v L) (h : ¬ (1 ≤ L.length ∧ L.length ≤ 15)) : Calls Try.prog 108 #[v, .bool ends] w (Ans w (.bool (entsB L ends))) := by
  obtain ⟨a, cap, rfl, hn, hm⟩ := hL.parts
  have HD := Lib.hid (show entsB L ends = false from decide_eq_false fun hh => h ⟨hh.1, hh.2.1⟩)
  obtain ⟨N, hN⟩ : ∃ N, L.length = N := ⟨_, rfl⟩
  rw [hN] at h hn ⊢
  clear hL hN
  by_cases h1 : 1 ≤ N
  · have g1 : ¬ (N : Int) < 1 := by omega
    have g2 : (15 : Int) < N := by omega
    go_enter Try.func108, Try.ntmps108
    go_wp2
    go_ret
    exact ⟨by rw [HD.out]; rfl, Below.refl _ _⟩
  · have g1 : (N : Int) < 1 := by omega
    go_enter Try.func108, Try.ntmps108
    go_wp2
    go_ret
    exact ⟨by rw [HD.out]; rfl, Below.refl _ _⟩

theorem areEntries_true (v : Value) (L : List E) (w : World) (hL : Ents w v L) (h : 1 ≤ L.length ∧ L.length ≤ 15) : Calls Try.prog 108 #[v, .bool true] w (Ans w (.bool (entsB L true))) := by
  obtain ⟨a, cap, rfl, hn, hm⟩ := hL.parts
  have HNO := Lib.hid (fun k (hk : k < L.length) => ents_no (ends := true) hk)
  have HY : Hid (oneUpto true L L.length → entsB L true = decide ((ent L (L.length - 1)).kind = 5)) := fun hh => by
    show decide (entriesP L true) = _
    rw [decide_eq_decide]
    exact ⟨fun h => by simpa using h.2.2.2, fun hk => ⟨h.1, h.2, all_one.2 hh, .inr hk⟩⟩
  obtain ⟨N, hN⟩ : ∃ N, L.length = N := ⟨_, rfl⟩
  have HL := Lib.hid hL
  rw [hN] at HL HNO HY hn h ⊢
  have HN := Lib.hid hN
  obtain ⟨n1, n2⟩ := h
  have g1 : ¬ (N : Int) < 1 := by omega
  have g2 : ¬ (15 : Int) < N := by omega
  have HX := Lib.hid (fun s W => isEntry_any s W)
  unfold E.val at HX
  clear hL hN
  obtain ⟨W0, rfl⟩ : ∃ W0 : World, W0 = w := ⟨_, rfl⟩
  go_enter Try.func108, Try.ntmps108
  go_wp2
  go_loopw [6, 17] (fun _ i wr => ∃ k : Nat, k ≤ N ∧ i = .int .i64 (k : Int) ∧ Hid (oneUpto true L k) ∧ Below W0.heap.size W0 wr) (fun _ i _ => N - (intOf i).toNat)
  case atStart => exact ⟨0, by omega, rfl, fun j hj => by omega, Below.refl _ _⟩
  case round =>
    obtain ⟨k, hk, rfl, HW, hB⟩ := hrel
    by_cases hlt : k < N
    · obtain ⟨b, off, cap2, e2, c0, c1, c2, c3⟩ := ((HL.out).below hB).at (k := k) (by rw [HN.out]; exact hlt)
      cases e2
      have hNO := HNO.out k hlt
      have hX := HX.out (ent L k)
      have hA := At.new wr (ent L k)
      have hB1 := below_al hB (boxE (ent L k))
      have hSU : oneB true (ent L k) = true → Hid (oneUpto true L (k + 1)) := fun hh => HW.out.succ hh
      obtain ⟨s, hs⟩ : ∃ s, ent L k = s := ⟨_, rfl⟩
      rw [hs] at c0 c1 c2 c3 hNO hX hA hB1 hSU
      obtain ⟨d0, d1, d2, d3⟩ := hA.c
      have HB1 := Lib.hid hB1
      have HA := Lib.hid hA
      have HX1 := Lib.hid hX
      clear hs hA hB hB1 hX
      obtain ⟨kd, f, ix, vb⟩ := s
      unfold boxE at HB1 HA
      dsimp only at c0 c1 c2 c3 d0 d1 d2 d3 HA HB1 HX1
      cases h1 : entryB ⟨kd, f, ix, vb⟩ with
      | true =>
        rw [h1] at HX1
        have HS := hSU (one_yes h1 (fun _ => rfl))
        clear hNO hSU h1
        by_cases h5 : kd = 5
        · have q5 : (kd == 5) = true := by simp [h5]
          clear h5
          go_wp2_with (go_at_call 109; refine (HX1.out _).mono ?_; rintro e w' ⟨rfl, hB2⟩; obtain ⟨z0, z1, z2, z3⟩ := (HA.out.th hB2).c)
          go_roundw
          case rel => exact ⟨k + 1, by omega, by go_num, HS, below_th HB1.out hB2⟩
          case measure => simp [intOf]; omega
        · have q5 : (kd == 5) = false := by simp [h5]
          clear h5
          go_wp2_with (go_at_call 109; refine (HX1.out _).mono ?_; rintro e w' ⟨rfl, hB2⟩; obtain ⟨z0, z1, z2, z3⟩ := (HA.out.th hB2).c)
          go_roundw
          case rel => exact ⟨k + 1, by omega, by go_num, HS, below_th HB1.out hB2⟩
          case measure => simp [intOf]; omega
      | false =>
        rw [h1] at HX1
        have HF := Lib.hid (hNO (one_no1 h1))
        clear hNO hSU h1
        go_wp2_with (go_at_call 109; refine (HX1.out _).mono ?_; rintro e w' ⟨rfl, hB2⟩; obtain ⟨z0, z1, z2, z3⟩ := (HA.out.th hB2).c)
        go_ret
        exact ⟨by rw [HF.out]; rfl, below_th HB1.out hB2⟩
    · obtain rfl : k = N := by omega
      have HF := Lib.hid (HY.out HW.out)
      obtain ⟨j, rfl⟩ : ∃ j, k = j + 1 := ⟨k - 1, by omega⟩
      have hw1 : IntKind.i64.wrap (((j + 1 : Nat) : Int) - 1) = (j : Int) := by rw [IntKind.wrap_i64]; omega
      have hw2 : IntKind.i64.wrap (j : Int) = (j : Int) := by rw [IntKind.wrap_i64]; omega
      obtain ⟨b, off, cap2, e2, c0, c1, c2, c3⟩ := ((HL.out).below hB).at (k := j) (by rw [HN.out]; omega)
      rw [HN.out] at e2
      cases e2
      rw [show j + 1 - 1 = j from rfl] at HF
      obtain ⟨s, hs⟩ : ∃ s, (ent L j).kind = s := ⟨_, rfl⟩
      rw [hs] at c0 HF
      by_cases h5 : s = 5
      · have q5 : (s == 5) = true := by simp [h5]
        rw [decide_eq_true h5] at HF
        clear h5 hs
        go_wp2
        go_ret
        exact ⟨by rw [HF.out]; rfl, hB⟩
      · have q5 : (s == 5) = false := by simp [h5]
        rw [decide_eq_false h5] at HF
        clear h5 hs
        go_wp2
        go_ret
        exact ⟨by rw [HF.out]; rfl, hB⟩

theorem areEntries_false (v : Value) (L : List E) (w : World) (hL : Ents w v L) (h : 1 ≤ L.length ∧ L.length ≤ 15) : Calls Try.prog 108 #[v, .bool false] w (Ans w (.bool (entsB L false))) := by
  obtain ⟨a, cap, rfl, hn, hm⟩ := hL.parts
  have HNO := Lib.hid (fun k (hk : k < L.length) => ents_no (ends := false) hk)
  have HY : Hid (oneUpto false L L.length → entsB L false = true) := fun hh => decide_eq_true ⟨h.1, h.2, all_one.2 hh, .inl rfl⟩
  obtain ⟨N, hN⟩ : ∃ N, L.length = N := ⟨_, rfl⟩
  have HL := Lib.hid hL
  rw [hN] at HL HNO HY hn h ⊢
  have HN := Lib.hid hN
  obtain ⟨n1, n2⟩ := h
  have g1 : ¬ (N : Int) < 1 := by omega
  have g2 : ¬ (15 : Int) < N := by omega
  have HX := Lib.hid (fun s W => isEntry_any s W)
  unfold E.val at HX
  clear hL hN
  obtain ⟨W0, rfl⟩ : ∃ W0 : World, W0 = w := ⟨_, rfl⟩
  go_enter Try.func108, Try.ntmps108
  go_wp2
  go_loopw [6, 17] (fun _ i wr => ∃ k : Nat, k ≤ N ∧ i = .int .i64 (k : Int) ∧ Hid (oneUpto false L k) ∧ Below W0.heap.size W0 wr) (fun _ i _ => N - (intOf i).toNat)
  case atStart => exact ⟨0, by omega, rfl, fun j hj => by omega, Below.refl _ _⟩
  case round =>
    obtain ⟨k, hk, rfl, HW, hB⟩ := hrel
    by_cases hlt : k < N
    · obtain ⟨b, off, cap2, e2, c0, c1, c2, c3⟩ := ((HL.out).below hB).at (k := k) (by rw [HN.out]; exact hlt)
      cases e2
      have hNO := HNO.out k hlt
      have hX := HX.out (ent L k)
      have hA := At.new wr (ent L k)
      have hB1 := below_al hB (boxE (ent L k))
      have hSU : oneB false (ent L k) = true → Hid (oneUpto false L (k + 1)) := fun hh => HW.out.succ hh
      obtain ⟨s, hs⟩ : ∃ s, ent L k = s := ⟨_, rfl⟩
      rw [hs] at c0 c1 c2 c3 hNO hX hA hB1 hSU
      obtain ⟨d0, d1, d2, d3⟩ := hA.c
      have HB1 := Lib.hid hB1
      have HA := Lib.hid hA
      have HX1 := Lib.hid hX
      clear hs hA hB hB1 hX
      obtain ⟨kd, f, ix, vb⟩ := s
      unfold boxE at HB1 HA
      dsimp only at c0 c1 c2 c3 d0 d1 d2 d3 HA HB1 HX1
      cases h1 : entryB ⟨kd, f, ix, vb⟩ with
      | true =>
        rw [h1] at HX1
        by_cases h5 : kd = 5
        · have q5 : (kd == 5) = true := by simp [h5]
          have HF := Lib.hid (hNO (one_no2 h5))
          clear hNO hSU h1 h5
          go_wp2_with (go_at_call 109; refine (HX1.out _).mono ?_; rintro e w' ⟨rfl, hB2⟩; obtain ⟨z0, z1, z2, z3⟩ := (HA.out.th hB2).c)
          go_ret
          exact ⟨by rw [HF.out]; rfl, below_th HB1.out hB2⟩
        · have q5 : (kd == 5) = false := by simp [h5]
          have HS := hSU (one_yes h1 (fun h => absurd h h5))
          clear hNO hSU h1 h5
          go_wp2_with (go_at_call 109; refine (HX1.out _).mono ?_; rintro e w' ⟨rfl, hB2⟩; obtain ⟨z0, z1, z2, z3⟩ := (HA.out.th hB2).c)
          go_roundw
          case rel => exact ⟨k + 1, by omega, by go_num, HS, below_th HB1.out hB2⟩
          case measure => simp [intOf]; omega
      | false =>
        rw [h1] at HX1
        have HF := Lib.hid (hNO (one_no1 h1))
        clear hNO hSU h1
        go_wp2_with (go_at_call 109; refine (HX1.out _).mono ?_; rintro e w' ⟨rfl, hB2⟩; obtain ⟨z0, z1, z2, z3⟩ := (HA.out.th hB2).c)
        go_ret
        exact ⟨by rw [HF.out]; rfl, below_th HB1.out hB2⟩
    · obtain rfl : k = N := by omega
      have HF := Lib.hid (HY.out HW.out)
      go_wp2
      go_ret
      exact ⟨by rw [HF.out]; rfl, hB⟩

theorem areEntries_any (v : Value) (L : List E) (ends : Bool) (w : World) (hL : Ents w v L) : Calls Try.prog 108 #[v, .bool ends] w (Ans w (.bool (entsB L ends))) := by
  by_cases h : 1 ≤ L.length ∧ L.length ≤ 15
  · cases ends with
    | true => exact areEntries_true v L w hL h
    | false => exact areEntries_false v L w hL h
  · exact areEntries_few v L ends w hL h

def rightB (r : R) : Bool := decide (RightP r)
theorem rightB_yes {r : R} (h : RightP r) : rightB r = true := decide_eq_true h
theorem rightB_no {r : R} (h : ¬ RightP r) : rightB r = false := decide_eq_false h
theorem rightB_split (r : R) : rightB r = (longB r.seq && longB r.cp && decide (0 ≤ r.next) && decide (r.next ≤ 255) && !(r.ends && r.sync) && entsB r.l r.ends) := by
  unfold rightB longB entsB
  rw [Bool.eq_iff_iff]
  simp only [decide_eq_true_iff, Bool.and_eq_true, Bool.not_eq_true', Bool.and_eq_false_iff]
  unfold RightP
  constructor
  · rintro ⟨h1, h2, h3, h4, h5, h6⟩
    exact ⟨⟨⟨⟨⟨h1, h2⟩, h3⟩, h4⟩, by cases h : r.ends <;> cases k : r.sync <;> simp_all⟩, h6⟩
  · rintro ⟨⟨⟨⟨⟨h1, h2⟩, h3⟩, h4⟩, h5⟩, h6⟩
    exact ⟨h1, h2, h3, h4, by cases h : r.ends <;> cases k : r.sync <;> simp_all, h6⟩
theorem right_any (r : R) (v : Value) (w : World) (hL : Ents w v r.l) : Calls Try.prog 96 #[r.val v] w (Ans w (.bool (rightB r))) := by
  have HR := Lib.hid (rightB_split r)
  have HB := below_new w (boxR r v)
  have hA := RAt.new w r v
  have hE : ∀ W, Below w.heap.size w W → Calls Try.prog 108 #[v, .bool r.ends] W (Ans W (.bool (entsB r.l r.ends))) := fun W h => areEntries_any v r.l r.ends W (hL.below h)
  obtain ⟨s, c, en, sy, nx, L⟩ := r
  have go : ∀ (x : Bool), Hid (rightB ⟨s, c, en, sy, nx, L⟩ = x) → Calls Try.prog 96 #[R.val ⟨s, c, en, sy, nx, L⟩ v] w (Ans w (.bool x)) → Calls Try.prog 96 #[R.val ⟨s, c, en, sy, nx, L⟩ v] w (Ans w (.bool (rightB ⟨s, c, en, sy, nx, L⟩))) := fun x hb hc => by rw [hb.out]; exact hc
  obtain ⟨g0, g1, g2, g3, g4, g5⟩ := hA.c
  unfold R.val at go ⊢
  unfold boxR at HB hA
  dsimp only at HR HB hE go g0 g1 g2 g3 g4 g5 ⊢
  obtain ⟨eb, heb⟩ : ∃ eb, entsB L en = eb := ⟨_, rfl⟩
  rw [heb] at HR hE
  unfold Ans at hE
  have HL1 := Lib.hid (fun W => isLong_any s W)
  have HL2 := Lib.hid (fun W => isLong_any c W)
  have HE := Lib.hid hE
  have HBB := Lib.hid HB
  clear heb hE hL hA
  cases h1 : longB s with
  | false =>
    rw [h1] at HL1
    refine go false (by unfold Hid; rw [HR.out, h1]; rfl) ?_
    clear go
    go_enter Try.func96, Try.ntmps96
    go_wp2_with (go_at_call 107; with_reducible refine Calls.mono (HL1.out _) ?_; rintro e w' ⟨rfl, rfl⟩)
    go_ret
    exact ⟨rfl, HB⟩
  | true =>
    rw [h1] at HL1
    cases h2 : longB c with
    | false =>
      rw [h2] at HL2
      refine go false (by unfold Hid; rw [HR.out, h1, h2]; rfl) ?_
      clear go
      go_enter Try.func96, Try.ntmps96
      go_wp2_with (first | (go_at_call 107; with_reducible refine Calls.mono (HL1.out _) ?_; rintro e w' ⟨rfl, rfl⟩) | (go_at_call 107; with_reducible refine Calls.mono (HL2.out _) ?_; rintro e w' ⟨rfl, rfl⟩))
      go_ret
      exact ⟨rfl, HB⟩
    | true =>
      rw [h2] at HL2
      by_cases h3 : 0 ≤ nx
      · by_cases h4 : nx ≤ 255
        · cases en with
          | true =>
            cases sy with
            | true =>
              refine go false (by unfold Hid; rw [HR.out]; simp) ?_
              clear go
              go_enter Try.func96, Try.ntmps96
              go_wp2_with (first | (go_at_call 107; with_reducible refine Calls.mono (HL1.out _) ?_; rintro e w' ⟨rfl, rfl⟩) | (go_at_call 107; with_reducible refine Calls.mono (HL2.out _) ?_; rintro e w' ⟨rfl, rfl⟩))
              go_ret
              exact ⟨rfl, HB⟩
            | false =>
              refine go eb (by unfold Hid; rw [HR.out, h1, h2]; simp [h3, h4]) ?_
              clear go
              go_enter Try.func96, Try.ntmps96
              go_wp2_with (first | (go_at_call 107; with_reducible refine Calls.mono (HL1.out _) ?_; rintro e w' ⟨rfl, rfl⟩) | (go_at_call 107; with_reducible refine Calls.mono (HL2.out _) ?_; rintro e w' ⟨rfl, rfl⟩) | (go_at_call 108; with_reducible refine Calls.mono (HE.out _ HBB.out) ?_; rintro e w' ⟨rfl, hB2⟩))
              go_ret
              exact ⟨rfl, below_th HBB.out hB2⟩
          | false =>
            refine go eb (by unfold Hid; rw [HR.out, h1, h2]; simp [h3, h4]) ?_
            clear go
            go_enter Try.func96, Try.ntmps96
            go_wp2_with (first | (go_at_call 107; with_reducible refine Calls.mono (HL1.out _) ?_; rintro e w' ⟨rfl, rfl⟩) | (go_at_call 107; with_reducible refine Calls.mono (HL2.out _) ?_; rintro e w' ⟨rfl, rfl⟩) | (go_at_call 108; with_reducible refine Calls.mono (HE.out _ HBB.out) ?_; rintro e w' ⟨rfl, hB2⟩))
            go_ret
            exact ⟨rfl, below_th HBB.out hB2⟩
        · refine go false (by unfold Hid; rw [HR.out]; simp [h4]) ?_
          clear go
          go_enter Try.func96, Try.ntmps96
          go_wp2_with (first | (go_at_call 107; with_reducible refine Calls.mono (HL1.out _) ?_; rintro e w' ⟨rfl, rfl⟩) | (go_at_call 107; with_reducible refine Calls.mono (HL2.out _) ?_; rintro e w' ⟨rfl, rfl⟩))
          go_ret
          exact ⟨rfl, HB⟩
      · refine go false (by unfold Hid; rw [HR.out]; simp [h3]) ?_
        clear go
        go_enter Try.func96, Try.ntmps96
        go_wp2_with (first | (go_at_call 107; with_reducible refine Calls.mono (HL1.out _) ?_; rintro e w' ⟨rfl, rfl⟩) | (go_at_call 107; with_reducible refine Calls.mono (HL2.out _) ?_; rintro e w' ⟨rfl, rfl⟩))
        go_ret
        exact ⟨rfl, HB⟩
end
end Go.Proofs.Ytdniakoedgohkaa.Record
/- Encode of the program. -/
namespace Go.Proofs.Ytdniakoedgohkaa.Record
open Go.RowKit Go.Shelf
attribute [local go_sem] Oper.semAt_some
set_option linter.unusedVariables false

section
set_option maxRecDepth 100000
theorem rput_any (n : Nat) (k : Nat) (w : World) (hn : n < 256 ^ k) (h1 : 1 ≤ k) (h2 : k ≤ 8) : Calls Try.prog 97 #[.int .u64 n, .int .i64 k] w fun e w' => e = .returned (.string (numB n k)) ∧ Below w.heap.size w w' := by
  have hok : putOk n k := ⟨by omega, by omega, by simpa using hn⟩
  have hp := put_any n k w (Nat.lt_of_lt_of_le hn (Nat.pow_le_pow_right (by decide) h2))
  rw [putS_yes hok, putE_yes hok, Int.toNat_natCast] at hp
  clear hok hn
  go_enter Try.func97, Try.ntmps97
  go_wp2_with (go_at_call 59; refine hp.mono ?_; rintro e w' ⟨rfl, hB⟩)
  go_ret
  exact ⟨rfl, hB⟩
theorem rtake_any (s : ByteArray) (a k : Nat) (w : World) (hs : s.size ≤ 281474976710656) (h1 : 1 ≤ k) (h2 : k ≤ 8) (hk : a + k ≤ s.size) : Calls Try.prog 76 #[.string s, .int .i64 a, .int .i64 k] w fun e w' => e = .returned (.int .u64 (takeN s a k)) ∧ Below w.heap.size w w' := by
  have hok : takeOk s a k := ⟨by omega, by omega, by omega, by omega⟩
  have hp := take_any s a k w hs (by omega)
  rw [takeV_yes hok, takeE_yes hok, Int.toNat_natCast, Int.toNat_natCast] at hp
  clear hok
  go_enter Try.func76, Try.ntmps76
  go_wp2_with (go_at_call 61; refine hp.mono ?_; rintro e w' ⟨rfl, hB⟩)
  go_ret
  exact ⟨rfl, hB⟩
theorem flagOf_any (r : R) (v : Value) (w : World) : Calls Try.prog 98 #[r.val v] w fun e w' => e = .returned (.int .u64 (flagN r)) ∧ Below w.heap.size w w' := by
  have HB := below_new w (boxR r v)
  obtain ⟨s, c, en, sy, nx, L⟩ := r
  unfold R.val
  unfold boxR at HB
  dsimp only at HB ⊢
  cases en with
  | true =>
    go_enter Try.func98, Try.ntmps98
    go_wp2
    go_ret
    exact ⟨rfl, HB⟩
  | false =>
    cases sy with
    | true =>
      go_enter Try.func98, Try.ntmps98
      go_wp2
      go_ret
      exact ⟨rfl, HB⟩
    | false =>
      go_enter Try.func98, Try.ntmps98
      go_wp2
      go_ret
      exact ⟨rfl, HB⟩

theorem encode_no (r : R) (v : Value) (w : World) (hL : Ents w v r.l) (h : ¬ RightP r) : Calls Try.prog 78 #[r.val v] w (Ans w (.tuple #[.string (encS r), .int .i64 (encE r)])) := by
  have HS := Lib.hid (encS_no h)
  have HE := Lib.hid (encE_no h)
  have hr : ∀ W, Below w.heap.size w W → Calls Try.prog 96 #[r.val v] W (Ans W (.bool (rightB r))) := fun W hB => right_any r v W (hL.below hB)
  rw [rightB_no h] at hr
  have HB := below_new w (boxR r v)
  have hA := RAt.new w r v
  obtain ⟨g0, g1, g2, g3, g4, g5⟩ := hA.c
  clear h hL hA
  obtain ⟨s, c, en, sy, nx, L⟩ := r
  unfold R.val at hr ⊢
  unfold boxR at HB g0 g1 g2 g3 g4 g5
  dsimp only at HB hr g0 g1 g2 g3 g4 g5 ⊢
  go_enter Try.func78, Try.ntmps78
  go_wp2_with (go_at_call 96; refine (hr _ HB).mono ?_; rintro e w' ⟨rfl, hB⟩)
  go_ret2
  exact ⟨ret_se HS.out HE.out, below_th HB hB⟩
end
end Go.Proofs.Ytdniakoedgohkaa.Record
/- Encode of the program, of a right record. -/
namespace Go.Proofs.Ytdniakoedgohkaa.Record
open Go.RowKit Go.Shelf
attribute [local go_sem] Oper.semAt_some
set_option linter.unusedVariables false

section
set_option maxRecDepth 100000
theorem saidK_succ (r : R) (k : Nat) : saidK r (k + 1) = saidK r k ++ (numB (ent r.l k).kind.toNat 1 ++ numB (ent r.l k).file 4 ++ numB (ent r.l k).index 4 ++ numB (ent r.l k).vbn 4) := rfl
set_option maxHeartbeats 4000000 in
theorem encode_yes (r : R) (v : Value) (w : World) (hL : Ents w v r.l) (ho : AllOk r.l) (h : RightP r) : Calls Try.prog 78 #[r.val v] w (Ans w (.tuple #[.string (encS r), .int .i64 (encE r)])) := by
  have HS := Lib.hid (encS_yes h)
  have HE := Lib.hid (encE_yes h)
  have hlen := h.len
  have hr : ∀ W, Below w.heap.size w W → Calls Try.prog 96 #[r.val v] W (Ans W (.bool (rightB r))) := fun W hB => right_any r v W (hL.below hB)
  rw [rightB_yes h] at hr
  unfold Ans at hr
  have hfl := fun W => flagOf_any r v W
  have hB0 := below_new w (boxR r v)
  have hA := RAt.new w r v
  have hone : ∀ k, k < r.l.length → EOk (ent r.l k) ∧ entryP (ent r.l k) := fun k hk => ⟨ho _ (ent_mem hk), (h.2.2.2.2.2.2.2.1 _ (ent_mem hk)).1⟩
  obtain ⟨⟨s1, s2⟩, ⟨c1, c2⟩, x1, x2, _, _⟩ := h
  have e1 : (256 : Nat) ^ 1 = 256 := by decide
  have e2 : (256 : Nat) ^ 2 = 65536 := by decide
  have e4 : (256 : Nat) ^ 4 = 4294967296 := by decide
  have e6 : (256 : Nat) ^ 6 = 281474976710656 := by decide
  have hflt := flag_lt r
  -- the parts ahead of the entries
  have P1 := Lib.hid (fun W => rput_any r.seq 6 W (by omega) (by omega) (by omega))
  have P2 := Lib.hid (fun W => rput_any r.cp 6 W (by omega) (by omega) (by omega))
  have P3 := Lib.hid (fun W => rput_any (flagN r) 1 W (by omega) (by omega) (by omega))
  have P4 := Lib.hid (fun W => rput_any r.next.toNat 2 W (by omega) (by omega) (by omega))
  have P5 := Lib.hid (fun W => rput_any r.l.length 1 W (by omega) (by omega) (by omega))
  have hhead : saidK r 0 = mk ++ numB r.seq 6 ++ numB r.cp 6 ++ numB (flagN r) 1 ++ numB r.next.toNat 2 ++ numB r.l.length 1 := rfl
  have hsucc := fun k => saidK_succ r k
  have hsz := saidK_size r
  -- the end
  have hss := said_size r
  have hok : fitOk (said r) 512 := ⟨by rw [hss]; omega, by decide⟩
  have hf := fun W => fit_any (said r) 512 W (by rw [hss]; omega)
  have hfe : fitS (said r) 512 = encB r := by rw [fitS_yes hok, hss]; rfl
  rw [hfe, fitE_yes hok] at hf
  have hsd : said r = saidK r r.l.length := rfl
  rw [hsd] at hf
  obtain ⟨sk, hsk⟩ : ∃ sk, saidK r = sk := ⟨_, rfl⟩
  rw [hsk] at hf hhead
  simp only [hsk] at hsucc hsz
  obtain ⟨ec, hec⟩ : ∃ ec, encB r = ec := ⟨_, rfl⟩
  rw [hec] at HS hf
  obtain ⟨W0, hW0⟩ : ∃ W0, w.alloc (boxR r v) = W0 := ⟨_, rfl⟩
  rw [hW0] at hB0 hA
  have hL0 := hL.below hB0
  have hr0 := hr W0 hB0
  obtain ⟨fl, hfleq⟩ : ∃ fl, flagN r = fl := ⟨_, rfl⟩
  rw [hfleq] at hhead hfl P3
  clear hsd hok hfe hss hec hsk hfleq hr hflt hL
  obtain ⟨s, c, en, sy, nx, L⟩ := r
  unfold R.val at hr0 hfl ⊢
  unfold boxR at hW0
  dsimp only at HS HE hlen hr0 hfl hA hone s1 s2 c1 c2 x1 x2 P1 P2 P3 P4 P5 hhead hsucc hf hL0 hW0 ⊢
  obtain ⟨nn, rfl⟩ := Int.eq_ofNat_of_zero_le x1
  obtain ⟨a, cap, rfl, hn, hm⟩ := hL0.parts
  obtain ⟨N, hN⟩ : ∃ N, L.length = N := ⟨_, rfl⟩
  have HL := Lib.hid hL0
  have HONE := Lib.hid hone
  rw [hN] at HL HONE hlen hn hA hr0 hfl P5 hhead hf hW0 ⊢
  have HN := Lib.hid hN
  clear hone hL0 hN
  have v1 : IntKind.u64.wrap (nn : Int) = nn := by rw [IntKind.wrap_u64]; omega
  have v2 : IntKind.u64.wrap (N : Int) = N := by rw [IntKind.wrap_u64]; omega
  have HC : Hid (∀ W, Below W0.heap.size W0 W → W.cell? ⟨w.heap.size, 0, none⟩ = some (.int .u64 (s : Int)) ∧ W.cell? ⟨w.heap.size, 1, none⟩ = some (.int .u64 (c : Int)) ∧ W.cell? ⟨w.heap.size, 2, none⟩ = some (.bool en) ∧ W.cell? ⟨w.heap.size, 3, none⟩ = some (.bool sy) ∧ W.cell? ⟨w.heap.size, 4, none⟩ = some (.int .i64 (nn : Int)) ∧ W.cell? ⟨w.heap.size, 5, none⟩ = some (.slice a N cap)) := fun W hW => (hA.th hW).c
  obtain ⟨g0, g1, g2, g3, g4, g5⟩ := hA.c
  dsimp only at g0 g1 g2 g3 g4 g5
  have HFL := Lib.hid hfl
  have HHEAD := Lib.hid hhead
  have HSUCC := Lib.hid hsucc
  have HSZ := Lib.hid hsz
  have HF := Lib.hid hf
  clear hfl hhead hsucc hsz hf hA
  rw [Int.toNat_natCast] at P4 HHEAD
  unfold mk at HHEAD
  obtain ⟨B1, hB1⟩ : ∃ x, numB s 6 = x := ⟨_, rfl⟩
  obtain ⟨B2, hB2⟩ : ∃ x, numB c 6 = x := ⟨_, rfl⟩
  obtain ⟨B3, hB3⟩ : ∃ x, numB fl 1 = x := ⟨_, rfl⟩
  obtain ⟨B4, hB4⟩ : ∃ x, numB nn 2 = x := ⟨_, rfl⟩
  obtain ⟨B5, hB5⟩ : ∃ x, numB N 1 = x := ⟨_, rfl⟩
  have z1 : B1.size = 6 := by rw [← hB1, numB_size]
  have z2 : B2.size = 6 := by rw [← hB2, numB_size]
  have z3 : B3.size = 1 := by rw [← hB3, numB_size]
  have z4 : B4.size = 2 := by rw [← hB4, numB_size]
  have z5 : B5.size = 1 := by rw [← hB5, numB_size]
  simp only [hB1, hB2, hB3, hB4, hB5] at P1 P2 P3 P4 P5 HHEAD
  clear hB1 hB2 hB3 hB4 hB5
  go_enter Try.func78, Try.ntmps78
  go_wp2_with (go_at_call 96; refine hr0.mono ?_; rintro e W1 ⟨rfl, hB1⟩)
  have hD1 : Below W0.heap.size W0 W1.drew := hB1.drew
  go_region_held3 (fun w' => (w'.cell? ⟨w.heap.size, 0, none⟩ = some (.int .u64 (s : Int)) ∧ w'.cell? ⟨w.heap.size, 1, none⟩ = some (.int .u64 (c : Int)) ∧ w'.cell? ⟨w.heap.size, 2, none⟩ = some (.bool en) ∧ w'.cell? ⟨w.heap.size, 3, none⟩ = some (.bool sy) ∧ w'.cell? ⟨w.heap.size, 4, none⟩ = some (.int .i64 (nn : Int)) ∧ w'.cell? ⟨w.heap.size, 5, none⟩ = some (.slice a N cap))) (first | exact HC.out _ hB1 | exact HC.out _ (by assumption)) (first
    | (go_at_call 97; with_reducible refine Calls.mono (P1.out _) ?_; rintro e w' ⟨rfl, hBn⟩; have := below_th (by assumption : Below W0.heap.size W0 _) hBn)
    | (go_at_call 97; with_reducible refine Calls.mono (P2.out _) ?_; rintro e w' ⟨rfl, hBn⟩; have := below_th (by assumption : Below W0.heap.size W0 _) hBn)
    | (go_at_call 97; with_reducible refine Calls.mono (P3.out _) ?_; rintro e w' ⟨rfl, hBn⟩; have := below_th (by assumption : Below W0.heap.size W0 _) hBn)
    | (go_at_call 97; with_reducible refine Calls.mono (P4.out _) ?_; rintro e w' ⟨rfl, hBn⟩; have := below_th (by assumption : Below W0.heap.size W0 _) hBn)
    | (go_at_call 97; with_reducible refine Calls.mono (P5.out _) ?_; rintro e w' ⟨rfl, hBn⟩; have := below_th (by assumption : Below W0.heap.size W0 _) hBn)
    | (go_at_call 98; with_reducible refine Calls.mono (HFL.out _) ?_; rintro e w' ⟨rfl, hBn⟩; have := below_th (by assumption : Below W0.heap.size W0 _) hBn))
  have hBz := (by assumption : Below W0.heap.size W0 _)
  obtain ⟨y0, y1, y2, y3, y4, y5⟩ := HC.out _ hBz
  have HBZ := Lib.hid hBz
  go_wp2
  clear P1 P2 P3 P4 P5 HFL HC y0 y1 y2 y3 y4 y5 g0 g1 g2 g3 g4 g5 hr0 hD1 z1 z2 z3 z4 z5 hBz
  go_loopw [4, 6, 36] (fun t _ i wr => ∃ k : Nat, k ≤ N ∧ i = .int .i64 (k : Int) ∧ t = .string (sk k) ∧ Below W0.heap.size W0 wr) (fun _ _ i _ => N - (intOf i).toNat)
  case atStart => exact ⟨0, by omega, rfl, by rw [HHEAD.out], HBZ.out⟩
  case round =>
    obtain ⟨k, hk, rfl, rfl, hB⟩ := hrel
    have hskz := HSZ.out k
    by_cases hlt : k < N
    · obtain ⟨b, off, cap2, e2, c0, c1, c2, c3⟩ := ((HL.out).below hB).at (k := k) (by rw [HN.out]; exact hlt)
      rw [HN.out] at e2
      cases e2
      have hEO := HONE.out k hlt
      have hS := HSUCC.out k
      obtain ⟨st, hst⟩ : ∃ st, sk k = st := ⟨_, rfl⟩
      obtain ⟨q, hq⟩ : ∃ q, sk (k + 1) = q := ⟨_, rfl⟩
      rw [hst, hq] at hS
      rw [hst] at hskz
      obtain ⟨W2, hW2⟩ : ∃ W2, wr.alloc (boxE (ent L k)) = W2 := ⟨_, rfl⟩
      have hA : At W2 wr.heap.size (ent L k) := by rw [← hW2]; exact At.new wr _
      have hB2 : Below W0.heap.size W0 W2 := by rw [← hW2]; exact below_al hB _
      obtain ⟨x, hx⟩ : ∃ x, ent L k = x := ⟨_, rfl⟩
      rw [hx] at c0 c1 c2 c3 hEO hS hA hW2
      obtain ⟨kd, f, ix, vb⟩ := x
      obtain ⟨⟨_, o1, o2, o3⟩, oe⟩ := hEO
      have okd := oe.kind
      unfold boxE at hW2
      dsimp only at c0 c1 c2 c3 hS hW2 o1 o2 o3 okd
      obtain ⟨m, rfl⟩ := Int.eq_ofNat_of_zero_le (show 0 ≤ kd by omega)
      rw [Int.toNat_natCast] at hS
      have P1 := Lib.hid (fun W => rput_any m 1 W (by omega) (by omega) (by omega))
      have P2 := Lib.hid (fun W => rput_any f 4 W (by omega) (by omega) (by omega))
      have P3 := Lib.hid (fun W => rput_any ix 4 W (by omega) (by omega) (by omega))
      have P4 := Lib.hid (fun W => rput_any vb 4 W (by omega) (by omega) (by omega))
      have q1 : IntKind.u64.wrap (m : Int) = m := by rw [IntKind.wrap_u64]; omega
      have q2 : IntKind.u64.wrap (f : Int) = f := by rw [IntKind.wrap_u64]; omega
      have q3 : IntKind.u64.wrap (ix : Int) = ix := by rw [IntKind.wrap_u64]; omega
      have q4 : IntKind.u64.wrap (vb : Int) = vb := by rw [IntKind.wrap_u64]; omega
      obtain ⟨C1, hC1⟩ : ∃ x, numB m 1 = x := ⟨_, rfl⟩
      obtain ⟨C2, hC2⟩ : ∃ x, numB f 4 = x := ⟨_, rfl⟩
      obtain ⟨C3, hC3⟩ : ∃ x, numB ix 4 = x := ⟨_, rfl⟩
      obtain ⟨C4, hC4⟩ : ∃ x, numB vb 4 = x := ⟨_, rfl⟩
      have z1 : C1.size = 1 := by rw [← hC1, numB_size]
      have z2 : C2.size = 4 := by rw [← hC2, numB_size]
      have z3 : C3.size = 4 := by rw [← hC3, numB_size]
      have z4 : C4.size = 4 := by rw [← hC4, numB_size]
      simp only [hC1, hC2, hC3, hC4] at P1 P2 P3 P4 hS
      have HCE : Hid (∀ W, Below W2.heap.size W2 W → W.cell? ⟨wr.heap.size, 0, none⟩ = some (.int .i64 (m : Int)) ∧ W.cell? ⟨wr.heap.size, 1, none⟩ = some (.int .u32 (f : Int)) ∧ W.cell? ⟨wr.heap.size, 2, none⟩ = some (.int .u32 (ix : Int)) ∧ W.cell? ⟨wr.heap.size, 3, none⟩ = some (.int .u32 (vb : Int))) := fun W hW => (hA.th hW).c
      have HSS := Lib.hid hS
      have HQ := Lib.hid hq
      have HB2 := Lib.hid hB2
      have hself : Below W2.heap.size W2 W2 := Below.refl _ _
      have hself2 : Below W2.heap.size W2 W2.drew := hself.drew
      have hcat : st.size + (C1 ++ C2 ++ C3 ++ C4).size ≤ 1000 := by simp only [ByteArray.size_append]; omega
      have hadd := fun W => run_string_add_sum (P := Try.prog) (w := W) st (C1 ++ C2 ++ C3 ++ C4) (by omega)
      clear hC1 hC2 hC3 hC4 hS hq hA hB2 hx oe hB hcat
      go_wp2
      go_region_held3 (fun w' => (w'.cell? ⟨wr.heap.size, 0, none⟩ = some (.int .i64 (m : Int)) ∧ w'.cell? ⟨wr.heap.size, 1, none⟩ = some (.int .u32 (f : Int)) ∧ w'.cell? ⟨wr.heap.size, 2, none⟩ = some (.int .u32 (ix : Int)) ∧ w'.cell? ⟨wr.heap.size, 3, none⟩ = some (.int .u32 (vb : Int)))) (exact HCE.out _ (by assumption)) (first
        | (go_at_call 97; with_reducible refine Calls.mono (P1.out _) ?_; rintro e w' ⟨rfl, hBn⟩; have := below_th (by assumption : Below W2.heap.size W2 _) hBn)
        | (go_at_call 97; with_reducible refine Calls.mono (P2.out _) ?_; rintro e w' ⟨rfl, hBn⟩; have := below_th (by assumption : Below W2.heap.size W2 _) hBn)
        | (go_at_call 97; with_reducible refine Calls.mono (P3.out _) ?_; rintro e w' ⟨rfl, hBn⟩; have := below_th (by assumption : Below W2.heap.size W2 _) hBn)
        | (go_at_call 97; with_reducible refine Calls.mono (P4.out _) ?_; rintro e w' ⟨rfl, hBn⟩; have := below_th (by assumption : Below W2.heap.size W2 _) hBn))
      have HBZ2 := Lib.hid (below_th HB2.out (by assumption : Below W2.heap.size W2 _))
      go_wp2
      go_roundw
      case rel => exact ⟨k + 1, by omega, by go_num, by rw [HQ.out, HSS.out], HBZ2.out⟩
      case measure => simp [intOf]; omega
    · obtain rfl : k = N := by omega
      go_wp2_with (go_at_call 30; refine (HF.out _).mono ?_; rintro e w' ⟨rfl, hBf⟩)
      go_ret2
      exact ⟨ret_se HS.out HE.out, below_th hB0 (below_th hB hBf)⟩

theorem encode_any (r : R) (v : Value) (w : World) (hL : Ents w v r.l) (ho : AllOk r.l) : Calls Try.prog 78 #[r.val v] w (Ans w (.tuple #[.string (encS r), .int .i64 (encE r)])) := by
  by_cases h : RightP r
  · exact encode_yes r v w hL ho h
  · exact encode_no r v w hL h
end
end Go.Proofs.Ytdniakoedgohkaa.Record
