/- Entries and records in memory: one, and a slice of entries; which entries may be. -/
import Derived.StillTailTactics
import Derived.Deep.RegionWith
import Derived.Deep.RegionHeld3
import Derived.BigQuiet
import Derived.Handy
import Derived.Test.YtblejaimafdhpaaRow
import Derived.Test.YtblejaimafdhpaaFlat
import Derived.Test.YtblejaimafdhpaaRecMath
namespace Go.Proofs.Ytblejaimafdhpaa.Record
open Go.RowKit
attribute [local go_sem] Oper.semAt_some
set_option linter.unusedVariables false

def E.cells (s : E) : List Value := [.int .i64 s.kind, .int .u32 s.file, .int .u32 s.index, .int .u32 s.vbn]
def E.val (s : E) : Value := .agg #[.int .i64 s.kind, .int .u32 s.file, .int .u32 s.index, .int .u32 s.vbn]
/-- an entry's cells -/
def boxE (s : E) : Obj := .cells #[.int .i64 s.kind, .int .u32 s.file, .int .u32 s.index, .int .u32 s.vbn] 46

/-- an entry lies at block b -/
def At (W : World) (b : Nat) (s : E) : Prop := W.heap[b]? = some (.cells #[.int .i64 s.kind, .int .u32 s.file, .int .u32 s.index, .int .u32 s.vbn] 46 (0, 0))
theorem At.c {W : World} {b : Nat} {s : E} (h : At W b s) : W.cell? ⟨b, 0, none⟩ = some (.int .i64 s.kind) ∧ W.cell? ⟨b, 1, none⟩ = some (.int .u32 s.file) ∧ W.cell? ⟨b, 2, none⟩ = some (.int .u32 s.index) ∧ W.cell? ⟨b, 3, none⟩ = some (.int .u32 s.vbn) := by
  unfold At at h
  simp only [World.cell?, h]
  exact ⟨rfl, rfl, rfl, rfl⟩
theorem At.f {W : World} {b : Nat} {s : E} (h : At W b s) (i : Nat) : W.frozen? ⟨b, i, none⟩ = false := by
  unfold At at h
  simp [World.frozen?, h]
theorem At.below {W W' : World} {b n : Nat} {s : E} (h : At W b s) (hB : Below n W W') (hb : b < n) : At W' b s := (hB.block b hb).trans h
theorem At.new (w : World) (s : E) : At (w.alloc (boxE s)) w.heap.size s := World.alloc_heap_new w _
theorem At.lt {W : World} {b : Nat} {s : E} (h : At W b s) : b < W.heap.size := (Array.getElem?_eq_some_iff.1 h).1
theorem At.th {W W' : World} {b : Nat} {s : E} (h : At W b s) (hB : Below W.heap.size W W') : At W' b s := h.below hB h.lt
theorem At.of_heap {W W' : World} {b : Nat} {s : E} (h : At W b s) (hb : W'.heap[b]? = W.heap[b]?) : At W' b s := hb.trans h
theorem At.drew {W : World} {b : Nat} {s : E} (h : At W b s) : At W.drew b s := h
/-- an entry is laid over another one, part by part -/
theorem At.put4 {W : World} {b : Nat} {s : E} (h : At W b s) (t : E) :
    At ((((W.setCell ⟨b, 0, none⟩ (.int .i64 t.kind)).setCell ⟨b, 1, none⟩ (.int .u32 t.file)).setCell ⟨b, 2, none⟩ (.int .u32 t.index)).setCell ⟨b, 3, none⟩ (.int .u32 t.vbn)) b t ∧
    Below b W ((((W.setCell ⟨b, 0, none⟩ (.int .i64 t.kind)).setCell ⟨b, 1, none⟩ (.int .u32 t.file)).setCell ⟨b, 2, none⟩ (.int .u32 t.index)).setCell ⟨b, 3, none⟩ (.int .u32 t.vbn)) := by
  unfold At at h
  have h0 := heap_setCell_same W b 0 _ _ (.int .i64 t.kind) h
  have h1 := heap_setCell_same _ b 1 _ _ (.int .u32 t.file) h0
  have h2 := heap_setCell_same _ b 2 _ _ (.int .u32 t.index) h1
  have h3 := heap_setCell_same _ b 3 _ _ (.int .u32 t.vbn) h2
  refine ⟨h3, ?_⟩
  exact ((((Below.refl b W).setCell (p := ⟨b, 0, none⟩) (Nat.le_refl _) _).setCell (p := ⟨b, 1, none⟩) (Nat.le_refl _) _).setCell (p := ⟨b, 2, none⟩) (Nat.le_refl _) _).setCell (p := ⟨b, 3, none⟩) (Nat.le_refl _) _
theorem below_al {w W : World} (h : Below w.heap.size w W) (o : Obj) : Below w.heap.size w (W.alloc o) := h.alloc h.size _
theorem below_new (w : World) (o : Obj) : Below w.heap.size w (w.alloc o) := (Below.refl _ _).alloc (Nat.le_refl _) _

/-- a slice of entries -/
def Ents (w : World) (v : Value) (L : List E) : Prop := Lies w v L.length 4 (L.flatMap E.cells)
theorem Ents.below {w w' : World} {v : Value} {L : List E} (h : Ents w v L) (hB : Below w.heap.size w w') : Ents w' v L := Lies.below h hB
theorem Ents.nil (w : World) : Ents w (.slice none 0 0) [] := Lies.nil w 4
theorem Ents.parts {w : World} {v : Value} {L : List E} (h : Ents w v L) : ∃ a cap, v = .slice a L.length cap ∧ L.length ≤ cap ∧ cap ≤ 9223372036854775807 := by
  obtain ⟨a, cap, e, _, h1, h2⟩ := Lies.parts h
  exact ⟨a, cap, e, h1, h2⟩
theorem Ents.at {w : World} {v : Value} {L : List E} (h : Ents w v L) {k : Nat} (hk : k < L.length) :
    ∃ b off cap, v = .slice (some ⟨b, off, none⟩) L.length cap ∧ w.cell? ⟨b, off + k * 4, none⟩ = some (.int .i64 (ent L k).kind) ∧ w.cell? ⟨b, off + k * 4 + 1, none⟩ = some (.int .u32 (ent L k).file) ∧ w.cell? ⟨b, off + k * 4 + 2, none⟩ = some (.int .u32 (ent L k).index) ∧ w.cell? ⟨b, off + k * 4 + 3, none⟩ = some (.int .u32 (ent L k).vbn) := by
  obtain ⟨a, cap, rfl, _, _, _, h5⟩ := h
  obtain ⟨b, off, rfl, hc⟩ := h5 (by omega)
  have hf := fun j (hj : j < 4) => flat_at E.cells 4 L (fun o _ => rfl) k j (ent L k) (ent_get hk) hj
  refine ⟨b, off, cap, rfl, ?_, ?_, ?_, ?_⟩
  · exact hc (k * 4) _ (hf 0 (by omega))
  · have := hc _ _ (hf 1 (by omega)); rwa [← Nat.add_assoc] at this
  · have := hc _ _ (hf 2 (by omega)); rwa [← Nat.add_assoc] at this
  · have := hc _ _ (hf 3 (by omega)); rwa [← Nat.add_assoc] at this
/-- the same, of a slice that is known by its parts -/
theorem Ents.get {w : World} {b off n cap : Nat} {L : List E} (hn : L.length = n) (h : Ents w (.slice (some ⟨b, off, none⟩) n cap) L) {k : Nat} (hk : k < n) :
    w.cell? ⟨b, off + k * 4, none⟩ = some (.int .i64 (ent L k).kind) ∧ w.cell? ⟨b, off + k * 4 + 1, none⟩ = some (.int .u32 (ent L k).file) ∧ w.cell? ⟨b, off + k * 4 + 2, none⟩ = some (.int .u32 (ent L k).index) ∧ w.cell? ⟨b, off + k * 4 + 3, none⟩ = some (.int .u32 (ent L k).vbn) := by
  obtain ⟨b2, off2, cap2, e, h1⟩ := h.at (hn ▸ hk)
  cases e
  exact h1
/-- a slice stands where its block does -/
theorem Ents.keep {W W' : World} {v : Value} {L : List E} (h : Ents W v L) (hk : ∀ g o k c, v = .slice (some ⟨g, o, none⟩) k c → 0 < k → W'.heap[g]? = W.heap[g]?) : Ents W' v L := by
  obtain ⟨a, cap, rfl, h2, h3, h4, h5⟩ := h
  refine ⟨a, cap, rfl, h2, h3, h4, fun hn => ?_⟩
  obtain ⟨b, off, rfl, hc⟩ := h5 hn
  refine ⟨b, off, rfl, fun j u hj => ?_⟩
  have he : W'.cell? ⟨b, off + j, none⟩ = W.cell? ⟨b, off + j, none⟩ := World.cell?_of_block (w := W) (hk b off _ _ rfl hn)
  exact he.trans (hc j u hj)
/-- a slice, taken apart: none at all, or an address -/
theorem Ents.open {w : World} {v : Value} {L : List E} (h : Ents w v L) : (∃ a cap, v = .slice a 0 cap ∧ L = []) ∨ ∃ b off cap, v = .slice (some ⟨b, off, none⟩) L.length cap ∧ 0 < L.length ∧ L.length ≤ cap ∧ cap ≤ 9223372036854775807 := by
  obtain ⟨a, cap, rfl, h1, h2⟩ := h.parts
  rcases Nat.eq_zero_or_pos L.length with hz | hz
  · exact .inl ⟨a, cap, by rw [hz], List.eq_nil_of_length_eq_zero hz⟩
  · obtain ⟨b, off, cap2, e, _⟩ := h.at hz
    cases e
    exact .inr ⟨b, off, cap, rfl, hz, h1, h2⟩

/-! ### a record -/
def R.val (r : R) (v : Value) : Value := .agg #[.int .u64 r.seq, .int .u64 r.cp, .bool r.ends, .bool r.sync, .int .i64 r.next, v]
def boxR (r : R) (v : Value) : Obj := .cells #[.int .u64 r.seq, .int .u64 r.cp, .bool r.ends, .bool r.sync, .int .i64 r.next, v] 25
/-- a record lies at block b, its entries in the slice v -/
def RAt (W : World) (b : Nat) (r : R) (v : Value) : Prop := W.heap[b]? = some (.cells #[.int .u64 r.seq, .int .u64 r.cp, .bool r.ends, .bool r.sync, .int .i64 r.next, v] 25 (0, 0))
theorem RAt.c {W : World} {b : Nat} {r : R} {v : Value} (h : RAt W b r v) : W.cell? ⟨b, 0, none⟩ = some (.int .u64 r.seq) ∧ W.cell? ⟨b, 1, none⟩ = some (.int .u64 r.cp) ∧ W.cell? ⟨b, 2, none⟩ = some (.bool r.ends) ∧ W.cell? ⟨b, 3, none⟩ = some (.bool r.sync) ∧ W.cell? ⟨b, 4, none⟩ = some (.int .i64 r.next) ∧ W.cell? ⟨b, 5, none⟩ = some v := by
  unfold RAt at h
  simp only [World.cell?, h]
  exact ⟨rfl, rfl, rfl, rfl, rfl, rfl⟩
theorem RAt.f {W : World} {b : Nat} {r : R} {v : Value} (h : RAt W b r v) (i : Nat) : W.frozen? ⟨b, i, none⟩ = false := by
  unfold RAt at h
  simp [World.frozen?, h]
theorem RAt.below {W W' : World} {b n : Nat} {r : R} {v : Value} (h : RAt W b r v) (hB : Below n W W') (hb : b < n) : RAt W' b r v := (hB.block b hb).trans h
theorem RAt.new (w : World) (r : R) (v : Value) : RAt (w.alloc (boxR r v)) w.heap.size r v := World.alloc_heap_new w _
theorem RAt.lt {W : World} {b : Nat} {r : R} {v : Value} (h : RAt W b r v) : b < W.heap.size := (Array.getElem?_eq_some_iff.1 h).1
theorem RAt.th {W W' : World} {b : Nat} {r : R} {v : Value} (h : RAt W b r v) (hB : Below W.heap.size W W') : RAt W' b r v := h.below hB h.lt
theorem RAt.of_heap {W W' : World} {b : Nat} {r : R} {v : Value} (h : RAt W b r v) (hb : W'.heap[b]? = W.heap[b]?) : RAt W' b r v := hb.trans h
theorem RAt.drew {W : World} {b : Nat} {r : R} {v : Value} (h : RAt W b r v) : RAt W.drew b r v := h

/-- what asks answers: only what is new is written -/
def Ans (w : World) (v : Value) (e : Ending) (w' : World) : Prop := e = .returned v ∧ Below w.heap.size w w'
theorem Ans.eq {w w' : World} {e : Ending} {v u : Value} (h : v = u) (k : Ans w v e w') : Ans w u e w' := h ▸ k

def longB (n : Nat) : Bool := decide (1 ≤ n ∧ n < 281474976710656)
def entryB (e : E) : Bool := decide (entryP e)
section
set_option maxRecDepth 100000
theorem isLong_any (n : Nat) (w : World) : Calls Try.prog 31 #[.int .u64 n] w fun e w' => e = .returned (.bool (longB n)) ∧ w = w' := by
  by_cases h1 : 1 ≤ n
  · by_cases h2 : n < 281474976710656
    · have HD : Hid (longB n = true) := by unfold Hid longB; simp [*]
      have g1 : (1 : Int) ≤ n := by omega
      have g2 : (n : Int) < 281474976710656 := by omega
      go_enter Try.func31, Try.ntmps31
      go_wp2
      go_ret
      exact ⟨by rw [HD.out]; rfl, rfl⟩
    · have HD : Hid (longB n = false) := by unfold Hid longB; simp [*]
      have g1 : (1 : Int) ≤ n := by omega
      have g2 : ¬ (n : Int) < 281474976710656 := by omega
      go_enter Try.func31, Try.ntmps31
      go_wp2
      go_ret
      exact ⟨by rw [HD.out]; rfl, rfl⟩
  · have HD : Hid (longB n = false) := by unfold Hid longB; simp [*]
    have g1 : ¬ (1 : Int) ≤ n := by omega
    go_enter Try.func31, Try.ntmps31
    go_wp2
    go_ret
    exact ⟨by rw [HD.out]; rfl, rfl⟩

set_option maxHeartbeats 2000000 in
theorem isEntry_any (s : E) (w : World) : Calls Try.prog 42 #[s.val] w (Ans w (.bool (entryB s))) := by
  obtain ⟨k, f, i, v⟩ := s
  have HB := below_new w (boxE ⟨k, f, i, v⟩)
  unfold E.val
  unfold boxE at HB
  dsimp only at HB ⊢
  have go : ∀ (x : Bool), Hid (entryB ⟨k, f, i, v⟩ = x) → Calls Try.prog 42 #[.agg #[.int .i64 k, .int .u32 f, .int .u32 i, .int .u32 v]] w (Ans w (.bool x)) → Calls Try.prog 42 #[.agg #[.int .i64 k, .int .u32 f, .int .u32 i, .int .u32 v]] w (Ans w (.bool (entryB ⟨k, f, i, v⟩))) := fun x hb hc => by rw [hb.out]; exact hc
  have HD : Hid (entryB ⟨k, f, i, v⟩ = decide ((k = 1 ∨ k = 2) ∧ 1 ≤ f ∧ 1 ≤ v ∨ (k = 3 ∨ k = 4 ∨ k = 5) ∧ f = 0 ∧ v = 0)) := rfl
  by_cases h12 : k = 1 ∨ k = 2
  · by_cases hf : 1 ≤ f
    · have hf' : (1 : Int) ≤ f := by omega
      by_cases hv : 1 ≤ v
      · have hv' : (1 : Int) ≤ v := by omega
        refine go true (by unfold Hid; rw [HD.out]; exact decide_eq_true (.inl ⟨h12, hf, hv⟩)) ?_
        clear go HD hf hv
        rcases h12 with rfl | rfl
        all_goals
          go_enter Try.func42, Try.ntmps42
          go_wp2
          go_ret
          exact ⟨rfl, HB⟩
      · have hv' : ¬ (1 : Int) ≤ v := by omega
        refine go false (by unfold Hid; rw [HD.out]; exact decide_eq_false (by omega)) ?_
        clear go HD hf hv
        rcases h12 with rfl | rfl
        all_goals
          go_enter Try.func42, Try.ntmps42
          go_wp2
          go_ret
          exact ⟨rfl, HB⟩
    · have hf' : ¬ (1 : Int) ≤ f := by omega
      refine go false (by unfold Hid; rw [HD.out]; exact decide_eq_false (by omega)) ?_
      clear go HD hf
      rcases h12 with rfl | rfl
      all_goals
        go_enter Try.func42, Try.ntmps42
        go_wp2
        go_ret
        exact ⟨rfl, HB⟩
  · by_cases h345 : k = 3 ∨ k = 4 ∨ k = 5
    · by_cases hf : f = 0
      · by_cases hv : v = 0
        · refine go true (by unfold Hid; rw [HD.out]; exact decide_eq_true (.inr ⟨h345, hf, hv⟩)) ?_
          have hf' : ((f : Int) == 0) = true := by simp [hf]
          have hv' : ((v : Int) == 0) = true := by simp [hv]
          clear go HD hf hv
          rcases h345 with rfl | rfl | rfl
          all_goals
            go_enter Try.func42, Try.ntmps42
            go_wp2
            go_ret
            exact ⟨rfl, HB⟩
        · refine go false (by unfold Hid; rw [HD.out]; exact decide_eq_false (by omega)) ?_
          have hv' : ((v : Int) == 0) = false := by simp [hv]
          clear go HD hf hv
          rcases h345 with rfl | rfl | rfl
          all_goals
            go_enter Try.func42, Try.ntmps42
            go_wp2
            go_ret
            exact ⟨rfl, HB⟩
      · refine go false (by unfold Hid; rw [HD.out]; exact decide_eq_false (by omega)) ?_
        have hf' : ((f : Int) == 0) = false := by simp [hf]
        clear go HD hf
        rcases h345 with rfl | rfl | rfl
        all_goals
          go_enter Try.func42, Try.ntmps42
          go_wp2
          go_ret
          exact ⟨rfl, HB⟩
    · refine go false (by unfold Hid; rw [HD.out]; exact decide_eq_false (by omega)) ?_
      have q1 : (k == 1) = false := by simp; omega
      have q2 : (k == 2) = false := by simp; omega
      have q3 : (k == 3) = false := by simp; omega
      have q4 : (k == 4) = false := by simp; omega
      have q5 : (k == 5) = false := by simp; omega
      clear go HD h12 h345
      go_enter Try.func42, Try.ntmps42
      go_wp2
      go_ret
      exact ⟨rfl, HB⟩
end
end Go.Proofs.Ytblejaimafdhpaa.Record
