/- Several texts in one, each under its own heading. -/
import Derived.Test.YtghonccffmmjhaaPk15
/- Right of the program. -/
namespace Go.Proofs.Ytghonccffmmjhaa.Record
open Go.RowKit
attribute [local go_sem] Oper.semAt_some
set_option linter.unusedVariables false

def oneB (ends : Bool) (e : E) : Bool := decide (oneP ends e)
def oneUpto (ends : Bool) (L : List E) (k : Nat) : Prop := ∀ j, j < k → oneB ends (ent L j) = true
theorem all_one {ends : Bool} {L : List E} : (∀ e ∈ L, oneP ends e) ↔ oneUpto ends L L.length :=
  ⟨fun h j hj => decide_eq_true (h _ (ent_mem hj)), fun h s hs => by obtain ⟨i, hi, rfl⟩ := mem_ent hs; exact of_decide_eq_true (h i hi)⟩
def entsB (L : List E) (ends : Bool) : Bool := decide (entriesP L ends)
theorem oneUpto.succ {ends : Bool} {L : List E} {k : Nat} (h : oneUpto ends L k) (hk : oneB ends (ent L k) = true) : oneUpto ends L (k + 1) := fun j hj => by
  rcases Nat.lt_succ_iff_lt_or_eq.1 hj with h1 | h1
  · exact h j h1
  · rw [h1]; exact hk
theorem one_yes {ends : Bool} {e : E} (h : entryB e = true) (hk : e.kind = 5 → ends = true) : oneB ends e = true := decide_eq_true ⟨of_decide_eq_true h, fun hh => by have := hk hh.1; rw [hh.2] at this; cases this⟩
theorem one_no1 {ends : Bool} {e : E} (h : entryB e = false) : oneB ends e = false := decide_eq_false fun hh => of_decide_eq_false h hh.1
theorem one_no2 {e : E} (h : e.kind = 5) : oneB false e = false := decide_eq_false fun hh => hh.2 ⟨h, rfl⟩
theorem ents_no {ends : Bool} {L : List E} {k : Nat} (hk : k < L.length) (h : oneB ends (ent L k) = false) : entsB L ends = false := decide_eq_false fun hh => by
  have := all_one.1 hh.2.2.1 k hk
  rw [h] at this
  cases this

section
set_option maxRecDepth 100000
set_option maxHeartbeats 2000000
theorem areEntries_few (v : Value) (L : List E) (ends : Bool) (w : World) (hL : Ents w v L) (h : ¬ (1 ≤ L.length ∧ L.length ≤ 15)) : Calls Try.prog 73 #[v, .bool ends] w (Ans w (.bool (entsB L ends))) := by
  obtain ⟨a, cap, rfl, hn, hm⟩ := hL.parts
  have HD := Lib.hid (show entsB L ends = false from decide_eq_false fun hh => h ⟨hh.1, hh.2.1⟩)
  obtain ⟨N, hN⟩ : ∃ N, L.length = N := ⟨_, rfl⟩
  rw [hN] at h hn ⊢
  clear hL hN
  by_cases h1 : 1 ≤ N
  · have g1 : ¬ (N : Int) < 1 := by omega
    have g2 : (15 : Int) < N := by omega
    go_enter Try.func73, Try.ntmps73
    go_wp2
    go_ret
    exact ⟨by rw [HD.out]; rfl, Below.refl _ _⟩
  · have g1 : (N : Int) < 1 := by omega
    go_enter Try.func73, Try.ntmps73
    go_wp2
    go_ret
    exact ⟨by rw [HD.out]; rfl, Below.refl _ _⟩

theorem areEntries_true (v : Value) (L : List E) (w : World) (hL : Ents w v L) (h : 1 ≤ L.length ∧ L.length ≤ 15) : Calls Try.prog 73 #[v, .bool true] w (Ans w (.bool (entsB L true))) := by
  obtain ⟨a, cap, rfl, hn, hm⟩ := hL.parts
  have HNO := Lib.hid (fun k (hk : k < L.length) => ents_no (ends := true) hk)
  have HY : Hid (oneUpto true L L.length → entsB L true = decide ((ent L (L.length - 1)).kind = 5)) := fun hh => by
    show decide (entriesP L true) = _
    rw [decide_eq_decide]
    exact ⟨fun h => by simpa using h.2.2.2, fun hk => ⟨h.1, h.2, all_one.2 hh, .inr hk⟩⟩
  obtain ⟨N, hN⟩ : ∃ N, L.length = N := ⟨_, rfl⟩
  have HL := Lib.hid hL
  rw [hN] at HL HNO HY hn h ⊢
  have HN := Lib.hid hN
  obtain ⟨n1, n2⟩ := h
  have g1 : ¬ (N : Int) < 1 := by omega
  have g2 : ¬ (15 : Int) < N := by omega
  have HX := Lib.hid (fun s W => isEntry_any s W)
  unfold E.val at HX
  clear hL hN
  obtain ⟨W0, rfl⟩ : ∃ W0 : World, W0 = w := ⟨_, rfl⟩
  go_enter Try.func73, Try.ntmps73
  go_wp2
  go_loopw [6, 17] (fun _ i wr => ∃ k : Nat, k ≤ N ∧ i = .int .i64 (k : Int) ∧ Hid (oneUpto true L k) ∧ Below W0.heap.size W0 wr) (fun _ i _ => N - (intOf i).toNat)
  case atStart => exact ⟨0, by omega, rfl, fun j hj => by omega, Below.refl _ _⟩
  case round =>
    obtain ⟨k, hk, rfl, HW, hB⟩ := hrel
    by_cases hlt : k < N
    · obtain ⟨b, off, cap2, e2, c0, c1, c2, c3⟩ := ((HL.out).below hB).at (k := k) (by rw [HN.out]; exact hlt)
      cases e2
      have hNO := HNO.out k hlt
      have hX := HX.out (ent L k)
      have hA := At.new wr (ent L k)
      have hB1 := below_al hB (boxE (ent L k))
      have hSU : oneB true (ent L k) = true → Hid (oneUpto true L (k + 1)) := fun hh => HW.out.succ hh
      obtain ⟨s, hs⟩ : ∃ s, ent L k = s := ⟨_, rfl⟩
      rw [hs] at c0 c1 c2 c3 hNO hX hA hB1 hSU
      obtain ⟨d0, d1, d2, d3⟩ := hA.c
      have HB1 := Lib.hid hB1
      have HA := Lib.hid hA
      have HX1 := Lib.hid hX
      clear hs hA hB hB1 hX
      obtain ⟨kd, f, ix, vb⟩ := s
      unfold boxE at HB1 HA
      dsimp only at c0 c1 c2 c3 d0 d1 d2 d3 HA HB1 HX1
      cases h1 : entryB ⟨kd, f, ix, vb⟩ with
      | true =>
        rw [h1] at HX1
        have HS := hSU (one_yes h1 (fun _ => rfl))
        clear hNO hSU h1
        by_cases h5 : kd = 5
        · have q5 : (kd == 5) = true := by simp [h5]
          clear h5
          go_wp2_with (go_at_call 78; refine (HX1.out _).mono ?_; rintro e w' ⟨rfl, hB2⟩; obtain ⟨z0, z1, z2, z3⟩ := (HA.out.th hB2).c)
          go_roundw
          case rel => exact ⟨k + 1, by omega, by go_num, HS, below_th HB1.out hB2⟩
          case measure => simp [intOf]; omega
        · have q5 : (kd == 5) = false := by simp [h5]
          clear h5
          go_wp2_with (go_at_call 78; refine (HX1.out _).mono ?_; rintro e w' ⟨rfl, hB2⟩; obtain ⟨z0, z1, z2, z3⟩ := (HA.out.th hB2).c)
          go_roundw
          case rel => exact ⟨k + 1, by omega, by go_num, HS, below_th HB1.out hB2⟩
          case measure => simp [intOf]; omega
      | false =>
        rw [h1] at HX1
        have HF := Lib.hid (hNO (one_no1 h1))
        clear hNO hSU h1
        go_wp2_with (go_at_call 78; refine (HX1.out _).mono ?_; rintro e w' ⟨rfl, hB2⟩; obtain ⟨z0, z1, z2, z3⟩ := (HA.out.th hB2).c)
        go_ret
        exact ⟨by rw [HF.out]; rfl, below_th HB1.out hB2⟩
    · obtain rfl : k = N := by omega
      have HF := Lib.hid (HY.out HW.out)
      obtain ⟨j, rfl⟩ : ∃ j, k = j + 1 := ⟨k - 1, by omega⟩
      have hw1 : IntKind.i64.wrap (((j + 1 : Nat) : Int) - 1) = (j : Int) := by rw [IntKind.wrap_i64]; omega
      have hw2 : IntKind.i64.wrap (j : Int) = (j : Int) := by rw [IntKind.wrap_i64]; omega
      obtain ⟨b, off, cap2, e2, c0, c1, c2, c3⟩ := ((HL.out).below hB).at (k := j) (by rw [HN.out]; omega)
      rw [HN.out] at e2
      cases e2
      rw [show j + 1 - 1 = j from rfl] at HF
      obtain ⟨s, hs⟩ : ∃ s, (ent L j).kind = s := ⟨_, rfl⟩
      rw [hs] at c0 HF
      by_cases h5 : s = 5
      · have q5 : (s == 5) = true := by simp [h5]
        rw [decide_eq_true h5] at HF
        clear h5 hs
        go_wp2
        go_ret
        exact ⟨by rw [HF.out]; rfl, hB⟩
      · have q5 : (s == 5) = false := by simp [h5]
        rw [decide_eq_false h5] at HF
        clear h5 hs
        go_wp2
        go_ret
        exact ⟨by rw [HF.out]; rfl, hB⟩

theorem areEntries_false (v : Value) (L : List E) (w : World) (hL : Ents w v L) (h : 1 ≤ L.length ∧ L.length ≤ 15) : Calls Try.prog 73 #[v, .bool false] w (Ans w (.bool (entsB L false))) := by
  obtain ⟨a, cap, rfl, hn, hm⟩ := hL.parts
  have HNO := Lib.hid (fun k (hk : k < L.length) => ents_no (ends := false) hk)
  have HY : Hid (oneUpto false L L.length → entsB L false = true) := fun hh => decide_eq_true ⟨h.1, h.2, all_one.2 hh, .inl rfl⟩
  obtain ⟨N, hN⟩ : ∃ N, L.length = N := ⟨_, rfl⟩
  have HL := Lib.hid hL
  rw [hN] at HL HNO HY hn h ⊢
  have HN := Lib.hid hN
  obtain ⟨n1, n2⟩ := h
  have g1 : ¬ (N : Int) < 1 := by omega
  have g2 : ¬ (15 : Int) < N := by omega
  have HX := Lib.hid (fun s W => isEntry_any s W)
  unfold E.val at HX
  clear hL hN
  obtain ⟨W0, rfl⟩ : ∃ W0 : World, W0 = w := ⟨_, rfl⟩
  go_enter Try.func73, Try.ntmps73
  go_wp2
  go_loopw [6, 17] (fun _ i wr => ∃ k : Nat, k ≤ N ∧ i = .int .i64 (k : Int) ∧ Hid (oneUpto false L k) ∧ Below W0.heap.size W0 wr) (fun _ i _ => N - (intOf i).toNat)
  case atStart => exact ⟨0, by omega, rfl, fun j hj => by omega, Below.refl _ _⟩
  case round =>
    obtain ⟨k, hk, rfl, HW, hB⟩ := hrel
    by_cases hlt : k < N
    · obtain ⟨b, off, cap2, e2, c0, c1, c2, c3⟩ := ((HL.out).below hB).at (k := k) (by rw [HN.out]; exact hlt)
      cases e2
      have hNO := HNO.out k hlt
      have hX := HX.out (ent L k)
      have hA := At.new wr (ent L k)
      have hB1 := below_al hB (boxE (ent L k))
      have hSU : oneB false (ent L k) = true → Hid (oneUpto false L (k + 1)) := fun hh => HW.out.succ hh
      obtain ⟨s, hs⟩ : ∃ s, ent L k = s := ⟨_, rfl⟩
      rw [hs] at c0 c1 c2 c3 hNO hX hA hB1 hSU
      obtain ⟨d0, d1, d2, d3⟩ := hA.c
      have HB1 := Lib.hid hB1
      have HA := Lib.hid hA
      have HX1 := Lib.hid hX
      clear hs hA hB hB1 hX
      obtain ⟨kd, f, ix, vb⟩ := s
      unfold boxE at HB1 HA
      dsimp only at c0 c1 c2 c3 d0 d1 d2 d3 HA HB1 HX1
      cases h1 : entryB ⟨kd, f, ix, vb⟩ with
      | true =>
        rw [h1] at HX1
        by_cases h5 : kd = 5
        · have q5 : (kd == 5) = true := by simp [h5]
          have HF := Lib.hid (hNO (one_no2 h5))
          clear hNO hSU h1 h5
          go_wp2_with (go_at_call 78; refine (HX1.out _).mono ?_; rintro e w' ⟨rfl, hB2⟩; obtain ⟨z0, z1, z2, z3⟩ := (HA.out.th hB2).c)
          go_ret
          exact ⟨by rw [HF.out]; rfl, below_th HB1.out hB2⟩
        · have q5 : (kd == 5) = false := by simp [h5]
          have HS := hSU (one_yes h1 (fun h => absurd h h5))
          clear hNO hSU h1 h5
          go_wp2_with (go_at_call 78; refine (HX1.out _).mono ?_; rintro e w' ⟨rfl, hB2⟩; obtain ⟨z0, z1, z2, z3⟩ := (HA.out.th hB2).c)
          go_roundw
          case rel => exact ⟨k + 1, by omega, by go_num, HS, below_th HB1.out hB2⟩
          case measure => simp [intOf]; omega
      | false =>
        rw [h1] at HX1
        have HF := Lib.hid (hNO (one_no1 h1))
        clear hNO hSU h1
        go_wp2_with (go_at_call 78; refine (HX1.out _).mono ?_; rintro e w' ⟨rfl, hB2⟩; obtain ⟨z0, z1, z2, z3⟩ := (HA.out.th hB2).c)
        go_ret
        exact ⟨by rw [HF.out]; rfl, below_th HB1.out hB2⟩
    · obtain rfl : k = N := by omega
      have HF := Lib.hid (HY.out HW.out)
      go_wp2
      go_ret
      exact ⟨by rw [HF.out]; rfl, hB⟩

theorem areEntries_any (v : Value) (L : List E) (ends : Bool) (w : World) (hL : Ents w v L) : Calls Try.prog 73 #[v, .bool ends] w (Ans w (.bool (entsB L ends))) := by
  by_cases h : 1 ≤ L.length ∧ L.length ≤ 15
  · cases ends with
    | true => exact areEntries_true v L w hL h
    | false => exact areEntries_false v L w hL h
  · exact areEntries_few v L ends w hL h

def rightB (r : R) : Bool := decide (RightP r)
theorem rightB_yes {r : R} (h : RightP r) : rightB r = true := decide_eq_true h
theorem rightB_no {r : R} (h : ¬ RightP r) : rightB r = false := decide_eq_false h
theorem rightB_split (r : R) : rightB r = (longB r.seq && longB r.cp && decide (0 ≤ r.next) && decide (r.next ≤ 255) && !(r.ends && r.sync) && entsB r.l r.ends) := by
  unfold rightB longB entsB
  rw [Bool.eq_iff_iff]
  simp only [decide_eq_true_iff, Bool.and_eq_true, Bool.not_eq_true', Bool.and_eq_false_iff]
  unfold RightP
  constructor
  · rintro ⟨h1, h2, h3, h4, h5, h6⟩
    exact ⟨⟨⟨⟨⟨h1, h2⟩, h3⟩, h4⟩, by cases h : r.ends <;> cases k : r.sync <;> simp_all⟩, h6⟩
  · rintro ⟨⟨⟨⟨⟨h1, h2⟩, h3⟩, h4⟩, h5⟩, h6⟩
    exact ⟨h1, h2, h3, h4, by cases h : r.ends <;> cases k : r.sync <;> simp_all, h6⟩
theorem right_any (r : R) (v : Value) (w : World) (hL : Ents w v r.l) : Calls Try.prog 59 #[r.val v] w (Ans w (.bool (rightB r))) := by
  have HR := Lib.hid (rightB_split r)
  have HB := below_new w (boxR r v)
  have hA := RAt.new w r v
  have hE : ∀ W, Below w.heap.size w W → Calls Try.prog 73 #[v, .bool r.ends] W (Ans W (.bool (entsB r.l r.ends))) := fun W h => areEntries_any v r.l r.ends W (hL.below h)
  obtain ⟨s, c, en, sy, nx, L⟩ := r
  have go : ∀ (x : Bool), Hid (rightB ⟨s, c, en, sy, nx, L⟩ = x) → Calls Try.prog 59 #[R.val ⟨s, c, en, sy, nx, L⟩ v] w (Ans w (.bool x)) → Calls Try.prog 59 #[R.val ⟨s, c, en, sy, nx, L⟩ v] w (Ans w (.bool (rightB ⟨s, c, en, sy, nx, L⟩))) := fun x hb hc => by rw [hb.out]; exact hc
  obtain ⟨g0, g1, g2, g3, g4, g5⟩ := hA.c
  unfold R.val at go ⊢
  unfold boxR at HB hA
  dsimp only at HR HB hE go g0 g1 g2 g3 g4 g5 ⊢
  obtain ⟨eb, heb⟩ : ∃ eb, entsB L en = eb := ⟨_, rfl⟩
  rw [heb] at HR hE
  unfold Ans at hE
  have HL1 := Lib.hid (fun W => isLong_any s W)
  have HL2 := Lib.hid (fun W => isLong_any c W)
  have HE := Lib.hid hE
  have HBB := Lib.hid HB
  clear heb hE hL hA
  cases h1 : longB s with
  | false =>
    rw [h1] at HL1
    refine go false (by unfold Hid; rw [HR.out, h1]; rfl) ?_
    clear go
    go_enter Try.func59, Try.ntmps59
    go_wp2_with (go_at_call 72; with_reducible refine Calls.mono (HL1.out _) ?_; rintro e w' ⟨rfl, rfl⟩)
    go_ret
    exact ⟨rfl, HB⟩
  | true =>
    rw [h1] at HL1
    cases h2 : longB c with
    | false =>
      rw [h2] at HL2
      refine go false (by unfold Hid; rw [HR.out, h1, h2]; rfl) ?_
      clear go
      go_enter Try.func59, Try.ntmps59
      go_wp2_with (first | (go_at_call 72; with_reducible refine Calls.mono (HL1.out _) ?_; rintro e w' ⟨rfl, rfl⟩) | (go_at_call 72; with_reducible refine Calls.mono (HL2.out _) ?_; rintro e w' ⟨rfl, rfl⟩))
      go_ret
      exact ⟨rfl, HB⟩
    | true =>
      rw [h2] at HL2
      by_cases h3 : 0 ≤ nx
      · by_cases h4 : nx ≤ 255
        · cases en with
          | true =>
            cases sy with
            | true =>
              refine go false (by unfold Hid; rw [HR.out]; simp) ?_
              clear go
              go_enter Try.func59, Try.ntmps59
              go_wp2_with (first | (go_at_call 72; with_reducible refine Calls.mono (HL1.out _) ?_; rintro e w' ⟨rfl, rfl⟩) | (go_at_call 72; with_reducible refine Calls.mono (HL2.out _) ?_; rintro e w' ⟨rfl, rfl⟩))
              go_ret
              exact ⟨rfl, HB⟩
            | false =>
              refine go eb (by unfold Hid; rw [HR.out, h1, h2]; simp [h3, h4]) ?_
              clear go
              go_enter Try.func59, Try.ntmps59
              go_wp2_with (first | (go_at_call 72; with_reducible refine Calls.mono (HL1.out _) ?_; rintro e w' ⟨rfl, rfl⟩) | (go_at_call 72; with_reducible refine Calls.mono (HL2.out _) ?_; rintro e w' ⟨rfl, rfl⟩) | (go_at_call 73; with_reducible refine Calls.mono (HE.out _ HBB.out) ?_; rintro e w' ⟨rfl, hB2⟩))
              go_ret
              exact ⟨rfl, below_th HBB.out hB2⟩
          | false =>
            refine go eb (by unfold Hid; rw [HR.out, h1, h2]; simp [h3, h4]) ?_
            clear go
            go_enter Try.func59, Try.ntmps59
            go_wp2_with (first | (go_at_call 72; with_reducible refine Calls.mono (HL1.out _) ?_; rintro e w' ⟨rfl, rfl⟩) | (go_at_call 72; with_reducible refine Calls.mono (HL2.out _) ?_; rintro e w' ⟨rfl, rfl⟩) | (go_at_call 73; with_reducible refine Calls.mono (HE.out _ HBB.out) ?_; rintro e w' ⟨rfl, hB2⟩))
            go_ret
            exact ⟨rfl, below_th HBB.out hB2⟩
        · refine go false (by unfold Hid; rw [HR.out]; simp [h4]) ?_
          clear go
          go_enter Try.func59, Try.ntmps59
          go_wp2_with (first | (go_at_call 72; with_reducible refine Calls.mono (HL1.out _) ?_; rintro e w' ⟨rfl, rfl⟩) | (go_at_call 72; with_reducible refine Calls.mono (HL2.out _) ?_; rintro e w' ⟨rfl, rfl⟩))
          go_ret
          exact ⟨rfl, HB⟩
      · refine go false (by unfold Hid; rw [HR.out]; simp [h3]) ?_
        clear go
        go_enter Try.func59, Try.ntmps59
        go_wp2_with (first | (go_at_call 72; with_reducible refine Calls.mono (HL1.out _) ?_; rintro e w' ⟨rfl, rfl⟩) | (go_at_call 72; with_reducible refine Calls.mono (HL2.out _) ?_; rintro e w' ⟨rfl, rfl⟩))
        go_ret
        exact ⟨rfl, HB⟩
end
end Go.Proofs.Ytghonccffmmjhaa.Record
/- Encode of the program. -/
namespace Go.Proofs.Ytghonccffmmjhaa.Record
open Go.RowKit Go.Shelf
attribute [local go_sem] Oper.semAt_some
set_option linter.unusedVariables false

section
set_option maxRecDepth 100000
theorem rput_any (n : Nat) (k : Nat) (w : World) (hn : n < 256 ^ k) (h1 : 1 ≤ k) (h2 : k ≤ 8) : Calls Try.prog 60 #[.int .u64 n, .int .i64 k] w fun e w' => e = .returned (.string (numB n k)) ∧ Below w.heap.size w w' := by
  have hok : putOk n k := ⟨by omega, by omega, by simpa using hn⟩
  have hp := put_any n k w (Nat.lt_of_lt_of_le hn (Nat.pow_le_pow_right (by decide) h2))
  rw [putS_yes hok, putE_yes hok, Int.toNat_natCast] at hp
  clear hok hn
  go_enter Try.func60, Try.ntmps60
  go_wp2_with (go_at_call 74; refine hp.mono ?_; rintro e w' ⟨rfl, hB⟩)
  go_ret
  exact ⟨rfl, hB⟩
theorem rtake_any (s : ByteArray) (a k : Nat) (w : World) (hs : s.size ≤ 281474976710656) (h1 : 1 ≤ k) (h2 : k ≤ 8) (hk : a + k ≤ s.size) : Calls Try.prog 81 #[.string s, .int .i64 a, .int .i64 k] w fun e w' => e = .returned (.int .u64 (takeN s a k)) ∧ Below w.heap.size w w' := by
  have hok : takeOk s a k := ⟨by omega, by omega, by omega, by omega⟩
  have hp := take_any s a k w hs (by omega)
  rw [takeV_yes hok, takeE_yes hok, Int.toNat_natCast, Int.toNat_natCast] at hp
  clear hok
  go_enter Try.func81, Try.ntmps81
  go_wp2_with (go_at_call 84; refine hp.mono ?_; rintro e w' ⟨rfl, hB⟩)
  go_ret
  exact ⟨rfl, hB⟩
theorem flagOf_any (r : R) (v : Value) (w : World) : Calls Try.prog 61 #[r.val v] w fun e w' => e = .returned (.int .u64 (flagN r)) ∧ Below w.heap.size w w' := by
  have HB := below_new w (boxR r v)
  obtain ⟨s, c, en, sy, nx, L⟩ := r
  unfold R.val
  unfold boxR at HB
  dsimp only at HB ⊢
  cases en with
  | true =>
    go_enter Try.func61, Try.ntmps61
    go_wp2
    go_ret
    exact ⟨rfl, HB⟩
  | false =>
    cases sy with
    | true =>
      go_enter Try.func61, Try.ntmps61
      go_wp2
      go_ret
      exact ⟨rfl, HB⟩
    | false =>
      go_enter Try.func61, Try.ntmps61
      go_wp2
      go_ret
      exact ⟨rfl, HB⟩

theorem encode_no (r : R) (v : Value) (w : World) (hL : Ents w v r.l) (h : ¬ RightP r) : Calls Try.prog 42 #[r.val v] w (Ans w (.tuple #[.string (encS r), .int .i64 (encE r)])) := by
  have HS := Lib.hid (encS_no h)
  have HE := Lib.hid (encE_no h)
  have hr : ∀ W, Below w.heap.size w W → Calls Try.prog 59 #[r.val v] W (Ans W (.bool (rightB r))) := fun W hB => right_any r v W (hL.below hB)
  rw [rightB_no h] at hr
  have HB := below_new w (boxR r v)
  have hA := RAt.new w r v
  obtain ⟨g0, g1, g2, g3, g4, g5⟩ := hA.c
  clear h hL hA
  obtain ⟨s, c, en, sy, nx, L⟩ := r
  unfold R.val at hr ⊢
  unfold boxR at HB g0 g1 g2 g3 g4 g5
  dsimp only at HB hr g0 g1 g2 g3 g4 g5 ⊢
  go_enter Try.func42, Try.ntmps42
  go_wp2_with (go_at_call 59; refine (hr _ HB).mono ?_; rintro e w' ⟨rfl, hB⟩)
  go_ret2
  exact ⟨ret_se HS.out HE.out, below_th HB hB⟩
end
end Go.Proofs.Ytghonccffmmjhaa.Record
