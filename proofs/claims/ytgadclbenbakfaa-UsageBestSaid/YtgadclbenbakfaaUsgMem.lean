/- Segments in memory: one, and a slice of them. -/
import Derived.StillTailTactics
import Derived.Deep.RegionWith
import Derived.Deep.RegionHeld3
import Derived.BigQuiet
import Derived.Handy
import Derived.Test.YtgadclbenbakfaaRow
import Derived.Test.YtgadclbenbakfaaFlat
import Derived.Test.YtgadclbenbakfaaUsgMath
namespace Go.Proofs.Ytgadclbenbakfaa.Usage
open Go.RowKit
attribute [local go_sem] Oper.semAt_some
set_option linter.unusedVariables false

def S.cells (s : S) : List Value := [.int .i64 s.live, .int .u64 s.begun, .int .i64 s.state]
def S.val (s : S) : Value := .agg #[.int .i64 s.live, .int .u64 s.begun, .int .i64 s.state]
/-- a segment's cells -/
def boxO (s : S) : Obj := .cells #[.int .i64 s.live, .int .u64 s.begun, .int .i64 s.state] 35

/-- a segment lies at block b -/
def At (W : World) (b : Nat) (s : S) : Prop := W.heap[b]? = some (.cells #[.int .i64 s.live, .int .u64 s.begun, .int .i64 s.state] 35 (0, 0))
theorem At.c {W : World} {b : Nat} {s : S} (h : At W b s) : W.cell? ⟨b, 0, none⟩ = some (.int .i64 s.live) ∧ W.cell? ⟨b, 1, none⟩ = some (.int .u64 s.begun) ∧ W.cell? ⟨b, 2, none⟩ = some (.int .i64 s.state) := by
  unfold At at h
  simp only [World.cell?, h]
  exact ⟨rfl, rfl, rfl⟩
theorem At.f {W : World} {b : Nat} {s : S} (h : At W b s) (i : Nat) : W.frozen? ⟨b, i, none⟩ = false := by
  unfold At at h
  simp [World.frozen?, h]
theorem At.below {W W' : World} {b n : Nat} {s : S} (h : At W b s) (hB : Below n W W') (hb : b < n) : At W' b s := (hB.block b hb).trans h
theorem At.new (w : World) (s : S) : At (w.alloc (boxO s)) w.heap.size s := World.alloc_heap_new w _
theorem At.lt {W : World} {b : Nat} {s : S} (h : At W b s) : b < W.heap.size := (Array.getElem?_eq_some_iff.1 h).1
theorem At.th {W W' : World} {b : Nat} {s : S} (h : At W b s) (hB : Below W.heap.size W W') : At W' b s := h.below hB h.lt
theorem At.of_heap {W W' : World} {b : Nat} {s : S} (h : At W b s) (hb : W'.heap[b]? = W.heap[b]?) : At W' b s := hb.trans h
theorem At.drew {W : World} {b : Nat} {s : S} (h : At W b s) : At W.drew b s := h
theorem below_al {w W : World} (h : Below w.heap.size w W) (o : Obj) : Below w.heap.size w (W.alloc o) := h.alloc h.size _
theorem below_new (w : World) (o : Obj) : Below w.heap.size w (w.alloc o) := (Below.refl _ _).alloc (Nat.le_refl _) _

/-- a slice of segments -/
def Segs (w : World) (v : Value) (L : List S) : Prop := Lies w v L.length 3 (L.flatMap S.cells)
theorem Segs.below {w w' : World} {v : Value} {L : List S} (h : Segs w v L) (hB : Below w.heap.size w w') : Segs w' v L := Lies.below h hB
theorem Segs.parts {w : World} {v : Value} {L : List S} (h : Segs w v L) : ∃ a cap, v = .slice a L.length cap ∧ L.length ≤ cap ∧ cap ≤ 9223372036854775807 := by
  obtain ⟨a, cap, e, _, h1, h2⟩ := Lies.parts h
  exact ⟨a, cap, e, h1, h2⟩
theorem Segs.at {w : World} {v : Value} {L : List S} (h : Segs w v L) {k : Nat} (hk : k < L.length) :
    ∃ b off cap, v = .slice (some ⟨b, off, none⟩) L.length cap ∧ w.cell? ⟨b, off + k * 3, none⟩ = some (.int .i64 (seg L k).live) ∧ w.cell? ⟨b, off + k * 3 + 1, none⟩ = some (.int .u64 (seg L k).begun) ∧ w.cell? ⟨b, off + k * 3 + 2, none⟩ = some (.int .i64 (seg L k).state) := by
  obtain ⟨a, cap, rfl, _, _, _, h5⟩ := h
  obtain ⟨b, off, rfl, hc⟩ := h5 (by omega)
  have hf := fun j (hj : j < 3) => flat_at S.cells 3 L (fun o _ => rfl) k j (seg L k) (seg_get hk) hj
  refine ⟨b, off, cap, rfl, ?_, ?_, ?_⟩
  · exact hc (k * 3) _ (hf 0 (by omega))
  · have := hc _ _ (hf 1 (by omega)); rwa [← Nat.add_assoc] at this
  · have := hc _ _ (hf 2 (by omega)); rwa [← Nat.add_assoc] at this
/-- the same, of a slice that is known by its parts -/
theorem Segs.get {w : World} {b off n cap : Nat} {L : List S} (hn : L.length = n) (h : Segs w (.slice (some ⟨b, off, none⟩) n cap) L) {k : Nat} (hk : k < n) :
    w.cell? ⟨b, off + k * 3, none⟩ = some (.int .i64 (seg L k).live) ∧ w.cell? ⟨b, off + k * 3 + 1, none⟩ = some (.int .u64 (seg L k).begun) ∧ w.cell? ⟨b, off + k * 3 + 2, none⟩ = some (.int .i64 (seg L k).state) := by
  obtain ⟨b2, off2, cap2, e, h1⟩ := h.at (hn ▸ hk)
  cases e
  exact h1
/-- a slice, taken apart: none at all, or an address -/
theorem Segs.open {w : World} {v : Value} {L : List S} (h : Segs w v L) : (∃ a cap, v = .slice a 0 cap ∧ L = []) ∨ ∃ b off cap, v = .slice (some ⟨b, off, none⟩) L.length cap ∧ 0 < L.length ∧ L.length ≤ cap ∧ cap ≤ 9223372036854775807 := by
  obtain ⟨a, cap, rfl, h1, h2⟩ := h.parts
  rcases Nat.eq_zero_or_pos L.length with hz | hz
  · exact .inl ⟨a, cap, by rw [hz], List.eq_nil_of_length_eq_zero hz⟩
  · obtain ⟨b, off, cap2, e, _⟩ := h.at hz
    cases e
    exact .inr ⟨b, off, cap, rfl, hz, h1, h2⟩

def stateB (n : Int) : Bool := decide (0 ≤ n ∧ n ≤ 2)
def oneB (s : S) : Bool := decide (oneP s)
def hasB (n : Nat) (i : Int) : Bool := decide (0 ≤ i ∧ i < n)
theorem hasB_yes {n : Nat} {i : Int} (h : 0 ≤ i ∧ i < n) : hasB n i = true := decide_eq_true h
theorem hasB_no {n : Nat} {i : Int} (h : ¬ (0 ≤ i ∧ i < n)) : hasB n i = false := decide_eq_false h
section
set_option maxRecDepth 100000
theorem isState_any (n : Int) (w : World) : Calls Try.prog 32 #[.int .i64 n] w fun e w' => e = .returned (.bool (stateB n)) ∧ w = w' := by
  by_cases h0 : n = 0
  · subst h0
    go_enter Try.func32, Try.ntmps32
    go_wp2
    go_ret
    exact ⟨rfl, rfl⟩
  · by_cases h1 : n = 1
    · subst h1
      go_enter Try.func32, Try.ntmps32
      go_wp2
      go_ret
      exact ⟨rfl, rfl⟩
    · by_cases h2 : n = 2
      · subst h2
        go_enter Try.func32, Try.ntmps32
        go_wp2
        go_ret
        exact ⟨rfl, rfl⟩
      · have HD : Hid (stateB n = false) := by unfold Hid stateB; simp; omega
        have q0 : (n == 0) = false := by simp [h0]
        have q1 : (n == 1) = false := by simp [h1]
        have q2 : (n == 2) = false := by simp [h2]
        go_enter Try.func32, Try.ntmps32
        go_wp2
        go_ret
        exact ⟨by rw [HD.out]; rfl, rfl⟩
theorem isWay_any (n : Int) (w : World) : Calls Try.prog 26 #[.int .i64 n] w fun e w' => e = .returned (.bool (decide (isWayP n))) ∧ w = w' := by
  by_cases h0 : n = 0
  · subst h0
    go_enter Try.func26, Try.ntmps26
    go_wp2
    go_ret
    exact ⟨rfl, rfl⟩
  · by_cases h1 : n = 1
    · subst h1
      go_enter Try.func26, Try.ntmps26
      go_wp2
      go_ret
      exact ⟨rfl, rfl⟩
    · by_cases h2 : n = 2
      · subst h2
        go_enter Try.func26, Try.ntmps26
        go_wp2
        go_ret
        exact ⟨rfl, rfl⟩
      · have HD : Hid (decide (isWayP n) = false) := decide_eq_false (fun h => by unfold isWayP at h; omega)
        have q0 : (n == 0) = false := by simp [h0]
        have q1 : (n == 1) = false := by simp [h1]
        have q2 : (n == 2) = false := by simp [h2]
        go_enter Try.func26, Try.ntmps26
        go_wp2
        go_ret
        exact ⟨by rw [HD.out]; rfl, rfl⟩
theorem has_any (a : Option Addr) (n cap : Nat) (i : Int) (w : World) : Calls Try.prog 22 #[.slice a n cap, .int .i64 i] w fun e w' => e = .returned (.bool (hasB n i)) ∧ w = w' := by
  by_cases h0 : 0 ≤ i
  · by_cases h1 : i < (n : Int)
    · have HD : Hid (hasB n i = true) := hasB_yes ⟨h0, h1⟩
      go_enter Try.func22, Try.ntmps22
      go_wp2
      go_ret
      exact ⟨by rw [HD.out]; rfl, rfl⟩
    · have HD : Hid (hasB n i = false) := hasB_no (by omega)
      go_enter Try.func22, Try.ntmps22
      go_wp2
      go_ret
      exact ⟨by rw [HD.out]; rfl, rfl⟩
  · have HD : Hid (hasB n i = false) := hasB_no (by omega)
    go_enter Try.func22, Try.ntmps22
    go_wp2
    go_ret
    exact ⟨by rw [HD.out]; rfl, rfl⟩
theorem oneB_split (s : S) : oneB s = (stateB s.state && (decide (0 ≤ s.live) && (decide (s.live ≤ 16) && decide (s.begun < 281474976710656)))) := by
  unfold oneB
  rw [Bool.eq_iff_iff, decide_eq_true_iff]
  simp [oneP, stateB]
theorem isWrong_any (s : S) (w : World) : Calls Try.prog 24 #[s.val] w fun e w' => e = .returned (.bool (!oneB s)) ∧ Below w.heap.size w w' := by
  obtain ⟨l, b, st⟩ := s
  have HR := Lib.hid (oneB_split ⟨l, b, st⟩)
  have HB := below_new w (boxO ⟨l, b, st⟩)
  have hx := fun W => isState_any st W
  unfold S.val
  unfold boxO at HB
  dsimp only at HR HB ⊢
  have HX := Lib.hid hx
  clear hx
  have go : ∀ (x : Bool), Hid (oneB ⟨l, b, st⟩ = x) → Calls Try.prog 24 #[.agg #[.int .i64 l, .int .u64 b, .int .i64 st]] w (fun e w' => e = .returned (.bool (!x)) ∧ Below w.heap.size w w') → Calls Try.prog 24 #[.agg #[.int .i64 l, .int .u64 b, .int .i64 st]] w fun e w' => e = .returned (.bool (!oneB ⟨l, b, st⟩)) ∧ Below w.heap.size w w' := fun x hb hc => hc.mono fun e w' ⟨h, k⟩ => ⟨by rw [h, hb.out], k⟩
  cases h1 : stateB st with
  | false =>
    refine go false (by unfold Hid; rw [HR.out, h1]; rfl) ?_
    rw [h1] at HX
    go_enter Try.func24, Try.ntmps24
    go_wp2_with (go_at_call 32; refine (HX.out _).mono ?_; rintro e w' ⟨rfl, rfl⟩)
    go_ret
    exact ⟨rfl, HB⟩
  | true =>
    rw [h1] at HX
    by_cases h2 : 0 ≤ l
    · by_cases h3 : l ≤ 16
      · by_cases h4 : b < 281474976710656
        · refine go true (by unfold Hid; rw [HR.out, h1]; simp [*]) ?_
          have HE : Hid ((decide (l < 0) || decide (16 < l) || decide ((281474976710656 : Int) ≤ (b : Int))) = false) := by unfold Hid; simp; omega
          go_enter Try.func24, Try.ntmps24
          go_wp2_with (go_at_call 32; refine (HX.out _).mono ?_; rintro e w' ⟨rfl, rfl⟩)
          go_ret
          exact ⟨by rw [HE.out]; rfl, HB⟩
        · refine go false (by unfold Hid; rw [HR.out, h1]; simp [h4]) ?_
          have h4' : ¬ (b : Int) < 281474976710656 := by omega
          go_enter Try.func24, Try.ntmps24
          go_wp2_with (go_at_call 32; refine (HX.out _).mono ?_; rintro e w' ⟨rfl, rfl⟩)
          go_ret
          exact ⟨rfl, HB⟩
      · refine go false (by unfold Hid; rw [HR.out, h1]; simp [h3]) ?_
        go_enter Try.func24, Try.ntmps24
        go_wp2_with (go_at_call 32; refine (HX.out _).mono ?_; rintro e w' ⟨rfl, rfl⟩)
        go_ret
        exact ⟨rfl, HB⟩
    · refine go false (by unfold Hid; rw [HR.out, h1]; simp [h2]) ?_
      go_enter Try.func24, Try.ntmps24
      go_wp2_with (go_at_call 32; refine (HX.out _).mono ?_; rintro e w' ⟨rfl, rfl⟩)
      go_ret
      exact ⟨rfl, HB⟩
end
end Go.Proofs.Ytgadclbenbakfaa.Usage
