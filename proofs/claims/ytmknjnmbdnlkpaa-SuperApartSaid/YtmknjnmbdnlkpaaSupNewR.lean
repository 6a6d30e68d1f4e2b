/- Newest of the document. -/
import Derived.Test.YtmknjnmbdnlkpaaSupLaw
namespace Go.Proofs.Ytmknjnmbdnlkpaa.Super
open Go.RowKit Go.Shelf
attribute [local go_sem] Oper.semAt_some
set_option linter.unusedVariables false

/-- what Newest answers -/
def NewPost (w : World) (Z : S × Int × Int) (e : Ending) (w' : World) : Prop := e = .returned (.tuple #[Z.1.val, .int .i64 Z.2.1, .int .i64 Z.2.2]) ∧ Below w.heap.size w w'
/-- one of the two, as it is held against a number of blocks -/
def Held (V : S) (E n : Int) (x : Bool) : Prop := (E = 50 ∧ x = false) ∨ (E = 0 ∧ (V.blocks == n) = false ∧ x = false) ∨ (E = 0 ∧ (V.blocks == n) = true ∧ x = true)
theorem held_of (b : ByteArray) (n : Int) : Held (decV b) (decE b) n (decide (first b n)) := by
  by_cases h : decOk b
  · rw [decV_yes h, decE_yes h]
    by_cases hn : (decS b).blocks = n
    · exact .inr (.inr ⟨rfl, by simp [hn], by simp [first, h, hn]⟩)
    · exact .inr (.inl ⟨rfl, by simp [hn], by simp [first, hn]⟩)
  · rw [decE_no h]
    exact .inl ⟨rfl, by simp [first, h]⟩
/-- which of the two it is -/
def Which (V1 V2 : S) (x y : Bool) (Z : S × Int × Int) : Prop :=
  (x = true → y = false → Z = (V1, 0, 0)) ∧ (x = true → y = true → V2.seq ≤ V1.seq → Z = (V1, 0, 0)) ∧ (x = true → y = true → V1.seq < V2.seq → Z = (V2, 1, 0)) ∧ (x = false → y = true → Z = (V2, 1, 0)) ∧ (x = false → y = false → Z = (S.none, 0, 50))
theorem which_of (one two : ByteArray) (n : Int) : Which (decV one) (decV two) (decide (first one n)) (decide (first two n)) (New one two n) := by
  simp only [Which, decide_eq_true_iff, decide_eq_false_iff_not]
  refine ⟨fun h k => ?_, fun h k l => ?_, fun h k l => ?_, fun h k => ?_, fun h k => new_none h k⟩
  · rw [decV_yes h.1]; exact new_one h (.inl k)
  · rw [decV_yes h.1] at l ⊢; rw [decV_yes k.1] at l; exact new_one h (.inr l)
  · rw [decV_yes h.1, decV_yes k.1] at l; rw [decV_yes k.1]; exact new_two (.inr l) k
  · rw [decV_yes k.1]; exact new_two (.inl h) k

theorem below_al2 {w W : World} (h : Below w.heap.size w W) (o : Obj) : Below w.heap.size w (W.alloc o) := h.alloc h.size _
section
set_option maxRecDepth 100000
theorem results_three {fn : Func} {r t u : Tmp} (h : fn.results = #[.cell r 24, .tmp t, .tmp u]) (tmps : Array Value) (w : World) {b : Nat} {s : S} (hp : tmps.getD r undef = .pointer (some ⟨b, 0, none⟩)) (hA : At w b s) :
    (results fn tmps).run Try.prog w = .ok (.tuple #[s.val, tmps.getD t undef, tmps.getD u undef]) w := by
  obtain ⟨c0, c1, c2, c3⟩ := hA.c
  rw [Array.getD_eq_getD_getElem?] at hp
  simp [results, h, hp, go_sem, c0, c1, c2, c3]
  rfl
theorem new_end {w w' : World} {V : S} {i e : Int} {Z : S × Int × Int} (h : Z = (V, i, e)) (hB : Below w.heap.size w w') : NewPost w Z (.returned (.tuple #[V.val, .int .i64 i, .int .i64 e])) w' := by subst h; exact ⟨rfl, hB⟩

set_option maxHeartbeats 4000000 in
theorem R.newest_walk (one two : ByteArray) (n : Int) (w : World) (V1 V2 : S) (E1 E2 : Int) (x y : Bool) (Z : S × Int × Int)
    (hd1 : ∀ W, Calls Try.prog 12 #[.string one] W fun e w' => e = .returned (.tuple #[V1.val, .int .i64 E1]) ∧ Below W.heap.size W w')
    (hd2 : ∀ W, Calls Try.prog 12 #[.string two] W fun e w' => e = .returned (.tuple #[V2.val, .int .i64 E2]) ∧ Below W.heap.size W w')
    (H1 : Held V1 E1 n x) (H2 : Held V2 E2 n y) (HW : Which V1 V2 x y Z) :
    Calls Try.prog 16 #[.string one, .string two, .int .i64 n] w (NewPost w Z) := by
  obtain ⟨o1, o2, o3, o4, o5⟩ := HW
  have D1 := Lib.hid (hd1 (w.alloc (.cells #[.int .i64 0, .int .u64 0, .int .i64 0, .int .u64 0] 24)))
  clear hd1
  have HG : Hid (∀ w1 w2, Below (w.alloc (.cells #[.int .i64 0, .int .u64 0, .int .i64 0, .int .u64 0] 24)).heap.size (w.alloc (.cells #[.int .i64 0, .int .u64 0, .int .i64 0, .int .u64 0] 24)) w1 → Below (w1.alloc (boxO V1)).heap.size (w1.alloc (boxO V1)) w2 →
      At (w2.alloc (boxO V2)) w.heap.size S.none ∧ At (w2.alloc (boxO V2)) w1.heap.size V1 ∧ At (w2.alloc (boxO V2)) w2.heap.size V2 ∧ Below w.heap.size w (w2.alloc (boxO V2))) := fun w1 w2 h1 h2 => by
    have a0 : At (w.alloc (.cells #[.int .i64 0, .int .u64 0, .int .i64 0, .int .u64 0] 24)) w.heap.size S.none := At.new w S.none
    have b0 := (Below.refl w.heap.size w).alloc (Nat.le_refl _) (.cells #[.int .i64 0, .int .u64 0, .int .i64 0, .int .u64 0] 24)
    have b1 := below_th b0 h1
    have b2 := below_th (below_al2 b1 _) h2
    have z1 : ∀ (W : World) (o : Obj), Below W.heap.size W (W.alloc o) := fun W o => (Below.refl _ _).alloc (Nat.le_refl _) _
    exact ⟨(((a0.th h1).th (z1 _ _)).th h2).th (z1 _ _), ((At.new w1 V1).th h2).th (z1 _ _), At.new w2 V2, below_al2 b2 _⟩
  obtain ⟨b1, q1, a1, p1⟩ := V1
  obtain ⟨b2, q2, a2, p2⟩ := V2
  have D2 := Lib.hid hd2
  clear hd2
  unfold S.val at D1 D2
  unfold boxO at HG
  dsimp only at D1 D2 HG o1 o2 o3 o4 o5
  rcases H1 with ⟨rfl, rfl⟩ | ⟨rfl, h1, rfl⟩ | ⟨rfl, h1, rfl⟩ <;> rcases H2 with ⟨rfl, rfl⟩ | ⟨rfl, h2, rfl⟩ | ⟨rfl, h2, rfl⟩
  case inl.inl =>
    have hR := Lib.hid (o5 rfl rfl)
    clear o1 o2 o3 o4 o5
    go_enter Try.func16, Try.ntmps16
    go_wp2_with (first
      | (go_at_call 12; with_reducible refine Calls.mono D1.out ?_; rintro e w1 ⟨rfl, hB1⟩)
      | (go_at_call 12; with_reducible refine Calls.mono (D2.out _) ?_; rintro e w2 ⟨rfl, hB2⟩; obtain ⟨m0, m1, m2, hBw⟩ := HG.out _ _ hB1 hB2; obtain ⟨x0, x1, x2, x3⟩ := m0.c; obtain ⟨y0, y1, y2, y3⟩ := m1.c; obtain ⟨u0, u1, u2, u3⟩ := m2.c; have f0 := m0.f 0; have f1 := m0.f 1; have f2 := m0.f 2; have f3 := m0.f 3; obtain ⟨k0, k1, k2, k3, hAp, hBp⟩ := m0.put4 S.none; dsimp only [S.none] at x0 x1 x2 x3 y0 y1 y2 y3 u0 u1 u2 u3 k0 k1 k2 k3 hBp))
    refine bodyPost_ret (results_three rfl _ _ rfl hAp) rfl ?_
    exact new_end hR.out (hBw.trans hBp)
  case inl.inr.inl =>
    have hR := Lib.hid (o5 rfl rfl)
    clear o1 o2 o3 o4 o5
    go_enter Try.func16, Try.ntmps16
    go_wp2_with (first
      | (go_at_call 12; with_reducible refine Calls.mono D1.out ?_; rintro e w1 ⟨rfl, hB1⟩)
      | (go_at_call 12; with_reducible refine Calls.mono (D2.out _) ?_; rintro e w2 ⟨rfl, hB2⟩; obtain ⟨m0, m1, m2, hBw⟩ := HG.out _ _ hB1 hB2; obtain ⟨x0, x1, x2, x3⟩ := m0.c; obtain ⟨y0, y1, y2, y3⟩ := m1.c; obtain ⟨u0, u1, u2, u3⟩ := m2.c; have f0 := m0.f 0; have f1 := m0.f 1; have f2 := m0.f 2; have f3 := m0.f 3; obtain ⟨k0, k1, k2, k3, hAp, hBp⟩ := m0.put4 S.none; dsimp only [S.none] at x0 x1 x2 x3 y0 y1 y2 y3 u0 u1 u2 u3 k0 k1 k2 k3 hBp))
    refine bodyPost_ret (results_three rfl _ _ rfl hAp) rfl ?_
    exact new_end hR.out (hBw.trans hBp)
  case inl.inr.inr =>
    have hR := Lib.hid (o4 rfl rfl)
    clear o1 o2 o3 o4 o5
    go_enter Try.func16, Try.ntmps16
    go_wp2_with (first
      | (go_at_call 12; with_reducible refine Calls.mono D1.out ?_; rintro e w1 ⟨rfl, hB1⟩)
      | (go_at_call 12; with_reducible refine Calls.mono (D2.out _) ?_; rintro e w2 ⟨rfl, hB2⟩; obtain ⟨m0, m1, m2, hBw⟩ := HG.out _ _ hB1 hB2; obtain ⟨x0, x1, x2, x3⟩ := m0.c; obtain ⟨y0, y1, y2, y3⟩ := m1.c; obtain ⟨u0, u1, u2, u3⟩ := m2.c; have f0 := m0.f 0; have f1 := m0.f 1; have f2 := m0.f 2; have f3 := m0.f 3; obtain ⟨k0, k1, k2, k3, hAp, hBp⟩ := m0.put4 ⟨b2, q2, a2, p2⟩; dsimp only [S.none] at x0 x1 x2 x3 y0 y1 y2 y3 u0 u1 u2 u3 k0 k1 k2 k3 hBp))
    refine bodyPost_ret (results_three rfl _ _ rfl hAp) rfl ?_
    exact new_end hR.out (hBw.trans hBp)
  case inr.inl.inl =>
    have hR := Lib.hid (o5 rfl rfl)
    clear o1 o2 o3 o4 o5
    go_enter Try.func16, Try.ntmps16
    go_wp2_with (first
      | (go_at_call 12; with_reducible refine Calls.mono D1.out ?_; rintro e w1 ⟨rfl, hB1⟩)
      | (go_at_call 12; with_reducible refine Calls.mono (D2.out _) ?_; rintro e w2 ⟨rfl, hB2⟩; obtain ⟨m0, m1, m2, hBw⟩ := HG.out _ _ hB1 hB2; obtain ⟨x0, x1, x2, x3⟩ := m0.c; obtain ⟨y0, y1, y2, y3⟩ := m1.c; obtain ⟨u0, u1, u2, u3⟩ := m2.c; have f0 := m0.f 0; have f1 := m0.f 1; have f2 := m0.f 2; have f3 := m0.f 3; obtain ⟨k0, k1, k2, k3, hAp, hBp⟩ := m0.put4 S.none; dsimp only [S.none] at x0 x1 x2 x3 y0 y1 y2 y3 u0 u1 u2 u3 k0 k1 k2 k3 hBp))
    refine bodyPost_ret (results_three rfl _ _ rfl hAp) rfl ?_
    exact new_end hR.out (hBw.trans hBp)
  case inr.inl.inr.inl =>
    have hR := Lib.hid (o5 rfl rfl)
    clear o1 o2 o3 o4 o5
    go_enter Try.func16, Try.ntmps16
    go_wp2_with (first
      | (go_at_call 12; with_reducible refine Calls.mono D1.out ?_; rintro e w1 ⟨rfl, hB1⟩)
      | (go_at_call 12; with_reducible refine Calls.mono (D2.out _) ?_; rintro e w2 ⟨rfl, hB2⟩; obtain ⟨m0, m1, m2, hBw⟩ := HG.out _ _ hB1 hB2; obtain ⟨x0, x1, x2, x3⟩ := m0.c; obtain ⟨y0, y1, y2, y3⟩ := m1.c; obtain ⟨u0, u1, u2, u3⟩ := m2.c; have f0 := m0.f 0; have f1 := m0.f 1; have f2 := m0.f 2; have f3 := m0.f 3; obtain ⟨k0, k1, k2, k3, hAp, hBp⟩ := m0.put4 S.none; dsimp only [S.none] at x0 x1 x2 x3 y0 y1 y2 y3 u0 u1 u2 u3 k0 k1 k2 k3 hBp))
    refine bodyPost_ret (results_three rfl _ _ rfl hAp) rfl ?_
    exact new_end hR.out (hBw.trans hBp)
  case inr.inl.inr.inr =>
    have hR := Lib.hid (o4 rfl rfl)
    clear o1 o2 o3 o4 o5
    go_enter Try.func16, Try.ntmps16
    go_wp2_with (first
      | (go_at_call 12; with_reducible refine Calls.mono D1.out ?_; rintro e w1 ⟨rfl, hB1⟩)
      | (go_at_call 12; with_reducible refine Calls.mono (D2.out _) ?_; rintro e w2 ⟨rfl, hB2⟩; obtain ⟨m0, m1, m2, hBw⟩ := HG.out _ _ hB1 hB2; obtain ⟨x0, x1, x2, x3⟩ := m0.c; obtain ⟨y0, y1, y2, y3⟩ := m1.c; obtain ⟨u0, u1, u2, u3⟩ := m2.c; have f0 := m0.f 0; have f1 := m0.f 1; have f2 := m0.f 2; have f3 := m0.f 3; obtain ⟨k0, k1, k2, k3, hAp, hBp⟩ := m0.put4 ⟨b2, q2, a2, p2⟩; dsimp only [S.none] at x0 x1 x2 x3 y0 y1 y2 y3 u0 u1 u2 u3 k0 k1 k2 k3 hBp))
    refine bodyPost_ret (results_three rfl _ _ rfl hAp) rfl ?_
    exact new_end hR.out (hBw.trans hBp)
  case inr.inr.inl =>
    have hR := Lib.hid (o1 rfl rfl)
    clear o1 o2 o3 o4 o5
    go_enter Try.func16, Try.ntmps16
    go_wp2_with (first
      | (go_at_call 12; with_reducible refine Calls.mono D1.out ?_; rintro e w1 ⟨rfl, hB1⟩)
      | (go_at_call 12; with_reducible refine Calls.mono (D2.out _) ?_; rintro e w2 ⟨rfl, hB2⟩; obtain ⟨m0, m1, m2, hBw⟩ := HG.out _ _ hB1 hB2; obtain ⟨x0, x1, x2, x3⟩ := m0.c; obtain ⟨y0, y1, y2, y3⟩ := m1.c; obtain ⟨u0, u1, u2, u3⟩ := m2.c; have f0 := m0.f 0; have f1 := m0.f 1; have f2 := m0.f 2; have f3 := m0.f 3; obtain ⟨k0, k1, k2, k3, hAp, hBp⟩ := m0.put4 ⟨b1, q1, a1, p1⟩; dsimp only [S.none] at x0 x1 x2 x3 y0 y1 y2 y3 u0 u1 u2 u3 k0 k1 k2 k3 hBp))
    refine bodyPost_ret (results_three rfl _ _ rfl hAp) rfl ?_
    exact new_end hR.out (hBw.trans hBp)
  case inr.inr.inr.inl =>
    have hR := Lib.hid (o1 rfl rfl)
    clear o1 o2 o3 o4 o5
    go_enter Try.func16, Try.ntmps16
    go_wp2_with (first
      | (go_at_call 12; with_reducible refine Calls.mono D1.out ?_; rintro e w1 ⟨rfl, hB1⟩)
      | (go_at_call 12; with_reducible refine Calls.mono (D2.out _) ?_; rintro e w2 ⟨rfl, hB2⟩; obtain ⟨m0, m1, m2, hBw⟩ := HG.out _ _ hB1 hB2; obtain ⟨x0, x1, x2, x3⟩ := m0.c; obtain ⟨y0, y1, y2, y3⟩ := m1.c; obtain ⟨u0, u1, u2, u3⟩ := m2.c; have f0 := m0.f 0; have f1 := m0.f 1; have f2 := m0.f 2; have f3 := m0.f 3; obtain ⟨k0, k1, k2, k3, hAp, hBp⟩ := m0.put4 ⟨b1, q1, a1, p1⟩; dsimp only [S.none] at x0 x1 x2 x3 y0 y1 y2 y3 u0 u1 u2 u3 k0 k1 k2 k3 hBp))
    refine bodyPost_ret (results_three rfl _ _ rfl hAp) rfl ?_
    exact new_end hR.out (hBw.trans hBp)
  case inr.inr.inr.inr =>
    by_cases hg : q2 ≤ q1
    · have hg2 : (q2 : Int) ≤ (q1 : Int) := by omega
      have hR := Lib.hid (o2 rfl rfl hg)
      clear o1 o2 o3 o4 o5
      go_enter Try.func16, Try.ntmps16
      go_wp2_with (first
        | (go_at_call 12; with_reducible refine Calls.mono D1.out ?_; rintro e w1 ⟨rfl, hB1⟩)
        | (go_at_call 12; with_reducible refine Calls.mono (D2.out _) ?_; rintro e w2 ⟨rfl, hB2⟩; obtain ⟨m0, m1, m2, hBw⟩ := HG.out _ _ hB1 hB2; obtain ⟨x0, x1, x2, x3⟩ := m0.c; obtain ⟨y0, y1, y2, y3⟩ := m1.c; obtain ⟨u0, u1, u2, u3⟩ := m2.c; have f0 := m0.f 0; have f1 := m0.f 1; have f2 := m0.f 2; have f3 := m0.f 3; obtain ⟨k0, k1, k2, k3, hAp, hBp⟩ := m0.put4 ⟨b1, q1, a1, p1⟩; dsimp only [S.none] at x0 x1 x2 x3 y0 y1 y2 y3 u0 u1 u2 u3 k0 k1 k2 k3 hBp))
      refine bodyPost_ret (results_three rfl _ _ rfl hAp) rfl ?_
      exact new_end hR.out (hBw.trans hBp)
    · have hg2 : ¬ (q2 : Int) ≤ (q1 : Int) := by omega
      have hR := Lib.hid (o3 rfl rfl (by show q1 < q2; omega))
      clear o1 o2 o3 o4 o5
      go_enter Try.func16, Try.ntmps16
      go_wp2_with (first
        | (go_at_call 12; with_reducible refine Calls.mono D1.out ?_; rintro e w1 ⟨rfl, hB1⟩)
        | (go_at_call 12; with_reducible refine Calls.mono (D2.out _) ?_; rintro e w2 ⟨rfl, hB2⟩; obtain ⟨m0, m1, m2, hBw⟩ := HG.out _ _ hB1 hB2; obtain ⟨x0, x1, x2, x3⟩ := m0.c; obtain ⟨y0, y1, y2, y3⟩ := m1.c; obtain ⟨u0, u1, u2, u3⟩ := m2.c; have f0 := m0.f 0; have f1 := m0.f 1; have f2 := m0.f 2; have f3 := m0.f 3; obtain ⟨k0, k1, k2, k3, hAp, hBp⟩ := m0.put4 ⟨b2, q2, a2, p2⟩; dsimp only [S.none] at x0 x1 x2 x3 y0 y1 y2 y3 u0 u1 u2 u3 k0 k1 k2 k3 hBp))
      refine bodyPost_ret (results_three rfl _ _ rfl hAp) rfl ?_
      exact new_end hR.out (hBw.trans hBp)
theorem R.newest_any (one two : ByteArray) (n : Int) (w : World) (h1 : one.size ≤ 281474976710656) (h2 : two.size ≤ 281474976710656) :
    Calls Try.prog 16 #[.string one, .string two, .int .i64 n] w (NewPost w (New one two n)) :=
  R.newest_walk one two n w _ _ _ _ _ _ _ (fun W => R.decode_any one W h1) (fun W => R.decode_any two W h2) (held_of one n) (held_of two n) (which_of one two n)
end
end Go.Proofs.Ytmknjnmbdnlkpaa.Super
