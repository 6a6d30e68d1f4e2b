/- The reference's disk as it lies in memory, and its calls. -/
import Derived.Test.YtbidhiefgbddeaaDiskCrash
namespace Go.Proofs.Ytbidhiefgbddeaa.Disk.R
open Go.RowKit Go.Shelf
set_option linter.unusedVariables false

def topR (vb vl : Value) (ops : Nat) (cut : Int) (gone : Bool) : Obj := .cells #[vb, vl, .int .i64 (ops : Int), .int .i64 cut, .bool gone] 42 (0, 0)
structure At (w : World) (q : Nat) (vb vl : Value) (gone : Bool) (d : D) : Prop where
  top : w.heap[q]? = some (topR vb vl d.ops d.cut gone)
  bs : w.ownsRow 0 9 1 vb d.B.length (strs d.B)
  ls : w.ownsRow 0 84 2 vl d.L.length (cellsW d.L)
def Foot (q : Nat) (vb vl : Value) (k : Nat) : Prop := k = q ∨ vb.ownBlock = some k ∨ vl.ownBlock = some k
namespace At
variable {w w' : World} {q : Nat} {vb vl : Value} {gone : Bool} {d : D}
theorem kinds (h : At w q vb vl gone d) : vb.ownBlock ≠ some q ∧ vl.ownBlock ≠ some q ∧ (∀ g, vb.ownBlock = some g → vl.ownBlock ≠ some g) := by
  have h1 := h.top
  unfold topR at h1
  refine ⟨fun e => ?_, fun e => ?_, fun g hg e => ?_⟩
  · obtain ⟨cur, h4⟩ := own_heap h.bs e
    rw [h1] at h4; simp only [Option.some.injEq, Obj.cells.injEq] at h4; exact absurd h4.2.1 (by decide)
  · obtain ⟨cur, h4⟩ := own_heap h.ls e
    rw [h1] at h4; simp only [Option.some.injEq, Obj.cells.injEq] at h4; exact absurd h4.2.1 (by decide)
  · obtain ⟨c1, h4⟩ := own_heap h.bs hg
    obtain ⟨c2, h5⟩ := own_heap h.ls e
    rw [h4] at h5; simp only [Option.some.injEq, Obj.cells.injEq] at h5; exact absurd h5.2.1 (by decide)
theorem lt (h : At w q vb vl gone d) : ∀ k, Foot q vb vl k → k < w.heap.size := by
  rintro k (rfl | hk | hk)
  · exact (Array.getElem?_eq_some_iff.1 h.top).1
  · exact (h.bs.lt k hk).2
  · exact (h.ls.lt k hk).2
theorem same (h : At w q vb vl gone d) (hk : ∀ k, Foot q vb vl k → w'.heap[k]? = w.heap[k]?) : At w' q vb vl gone d :=
  ⟨(hk q (.inl rfl)).trans h.top, own_same h.bs fun g hg => hk g (.inr (.inl hg)), own_same h.ls fun g hg => hk g (.inr (.inr hg))⟩
theorem below (h : At w q vb vl gone d) (hB : Below w.heap.size w w') : At w' q vb vl gone d := h.same fun k hk => hB.block k (h.lt k hk)
theorem c0 (h : At w q vb vl gone d) : w.cell? ⟨q, 0, none⟩ = some vb := by have := h.top; simp only [World.cell?, this]; rfl
theorem c1 (h : At w q vb vl gone d) : w.cell? ⟨q, 1, none⟩ = some vl := by have := h.top; simp only [World.cell?, this]; rfl
theorem c2 (h : At w q vb vl gone d) : w.cell? ⟨q, 2, none⟩ = some (.int .i64 (d.ops : Int)) := by have := h.top; simp only [World.cell?, this]; rfl
theorem c3 (h : At w q vb vl gone d) : w.cell? ⟨q, 3, none⟩ = some (.int .i64 d.cut) := by have := h.top; simp only [World.cell?, this]; rfl
theorem c4 (h : At w q vb vl gone d) : w.cell? ⟨q, 4, none⟩ = some (.bool gone) := by have := h.top; simp only [World.cell?, this]; rfl
theorem fr (h : At w q vb vl gone d) (i : Nat) : w.frozen? ⟨q, i, none⟩ = false := by have := h.top; simp [World.frozen?, this, topR]
theorem slb (h : At w q vb vl gone d) : ∃ a c, vb = .slice a d.B.length c := by
  rcases h.bs.2 with ⟨rfl, h2⟩ | ⟨g, cap, _, rfl, _⟩
  · exact ⟨_, _, by rw [h2]⟩
  · exact ⟨_, _, rfl⟩
theorem sll (h : At w q vb vl gone d) : ∃ a c, vl = .slice a d.L.length c := by
  rcases h.ls.2 with ⟨rfl, h2⟩ | ⟨g, cap, _, rfl, _⟩
  · exact ⟨_, _, by rw [h2]⟩
  · exact ⟨_, _, rfl⟩
end At

/-- the reference's disk at q, in the blocks of G -/
structure IsRef (w : World) (q : Nat) (G : Nat → Prop) (d : D) : Prop where
  ok : d.Ok
  mem : ∃ vb vl gone, At w q vb vl gone d ∧ (gone = true → d.off) ∧ ∀ k, Foot q vb vl k → G k
theorem IsRef.same {w w' : World} {q : Nat} {G : Nat → Prop} {d : D} (h : IsRef w q G d) (hk : ∀ k, G k → k < w.heap.size → w'.heap[k]? = w.heap[k]?) : IsRef w' q G d := by
  obtain ⟨vb, vl, gone, hA, hg, hF⟩ := h.mem
  exact ⟨h.ok, vb, vl, gone, hA.same fun k hk' => hk k (hF k hk') (hA.lt k hk'), hg, hF⟩
theorem IsRef.below {w w' : World} {q : Nat} {G : Nat → Prop} {d : D} (h : IsRef w q G d) (hB : Below w.heap.size w w') : IsRef w' q G d := h.same fun k _ hl => hB.block k hl
theorem IsRef.only {w w' : World} {q : Nat} {F G : Nat → Prop} {d : D} (h : IsRef w q G d) (ho : Only F w w') (hd : ∀ k, F k → ¬ G k) : IsRef w' q G d := h.same fun k hk hl => ho.block k hl (fun hf => hd k hf hk)
def Left (q : Nat) (G : Nat → Prop) (d : D) (w w' : World) : Prop := ∃ G', IsRef w' q G' d ∧ Only G w w' ∧ ∀ k, G' k → G k ∨ w.heap.size ≤ k

theorem top_gone {w : World} {q ops : Nat} {vb vl : Value} {c : Int} {g g' : Bool} (h : w.heap[q]? = some (topR vb vl ops c g)) : (w.setCell ⟨q, 4, none⟩ (.bool g')).heap[q]? = some (topR vb vl ops c g') := by
  unfold topR at h ⊢
  rw [heap_setCell_same _ _ _ _ _ _ h]; simp
theorem top_cut {w : World} {q ops : Nat} {vb vl : Value} {c c' : Int} {g : Bool} (h : w.heap[q]? = some (topR vb vl ops c g)) : (w.setCell ⟨q, 3, none⟩ (.int .i64 c')).heap[q]? = some (topR vb vl ops c' g) := by
  unfold topR at h ⊢
  rw [heap_setCell_same _ _ _ _ _ _ h]; simp
theorem top_ops {w : World} {q ops ops' : Nat} {vb vl : Value} {c : Int} {g : Bool} (h : w.heap[q]? = some (topR vb vl ops c g)) : (w.setCell ⟨q, 2, none⟩ (.int .i64 (ops' : Int))).heap[q]? = some (topR vb vl ops' c g) := by
  unfold topR at h ⊢
  rw [heap_setCell_same _ _ _ _ _ _ h]; simp
theorem top_l {w : World} {q ops : Nat} {vb vl vl' : Value} {c : Int} {g : Bool} (h : w.heap[q]? = some (topR vb vl ops c g)) : (w.setCell ⟨q, 1, none⟩ vl').heap[q]? = some (topR vb vl' ops c g) := by
  unfold topR at h ⊢
  rw [heap_setCell_same _ _ _ _ _ _ h]; simp
theorem top_b {w : World} {q ops : Nat} {vb vb' vl : Value} {c : Int} {g : Bool} (h : w.heap[q]? = some (topR vb vl ops c g)) : (w.setCell ⟨q, 0, none⟩ vb').heap[q]? = some (topR vb' vl ops c g) := by
  unfold topR at h ⊢
  rw [heap_setCell_same _ _ _ _ _ _ h]; simp
theorem cell_topR {w : World} {q ops : Nat} {vb vl : Value} {c : Int} {g : Bool} (h : w.heap[q]? = some (topR vb vl ops c g)) : w.cell? ⟨q, 0, none⟩ = some vb ∧ w.cell? ⟨q, 1, none⟩ = some vl ∧ w.cell? ⟨q, 2, none⟩ = some (.int .i64 (ops : Int)) ∧ ∀ i, w.frozen? ⟨q, i, none⟩ = false := by
  refine ⟨?_, ?_, ?_, fun i => ?_⟩
  · simp only [World.cell?, h]; rfl
  · simp only [World.cell?, h]; rfl
  · simp only [World.cell?, h]; rfl
  · simp [World.frozen?, h, topR]

section
set_option maxRecDepth 100000
set_option maxHeartbeats 1000000
/-- the power, asked for: what is told is written down -/
theorem off_any (q : Nat) (vb vl : Value) (gone : Bool) (d : D) (w : World) (h : At w q vb vl gone d) (hg : gone = true → d.off) (b : Bool) (hb : decide d.off = b) :
    Calls Try.prog 50 #[.pointer (some ⟨q, 0, none⟩)] w fun e w' => e = .returned (.bool b) ∧ At w' q vb vl b d ∧ Only (fun k => k = q) w w' := by
  have c2 := h.c2
  have c3 := h.c3
  have c4 := h.c4
  have f4 := h.fr 4
  have hfin : At ((w.setCell ⟨q, 4, none⟩ (.bool b)).drew) q vb vl b d ∧ Only (fun k => k = q) w ((w.setCell ⟨q, 4, none⟩ (.bool b)).drew) := by
    obtain ⟨k1, k2, k3⟩ := h.kinds
    have hset : ∀ k, k ≠ q → ((w.setCell ⟨q, 4, none⟩ (.bool b)).drew).heap[k]? = w.heap[k]? := fun k hk => Below.heap_setCell _ _ _ _ hk
    exact ⟨⟨top_gone h.top, own_same h.bs (fun g hg => hset g (fun e => k1 (e ▸ hg))), own_same h.ls (fun g hg => hset g (fun e => k2 (e ▸ hg)))⟩, ((Only.refl (fun k => k = q) w).setCell (p := ⟨q, 4, none⟩) (.inr rfl) _).drew⟩
  have HF := Lib.hid hfin
  have c5 : ((w.setCell ⟨q, 4, none⟩ (.bool b)).drew).cell? ⟨q, 4, none⟩ = some (.bool b) := HF.out.1.c4
  clear hfin
  cases gone with
  | true =>
    obtain rfl : b = true := by rw [← hb]; exact decide_eq_true (hg rfl)
    clear hb hg
    go_enter Try.func50, Try.ntmps50
    go_wp2
    go_region
    all_goals
      go_wp2
      go_ret
      exact ⟨rfl, HF.out.1, HF.out.2⟩
  | false =>
    clear hg
    unfold D.off at hb
    obtain ⟨o, ho⟩ : ∃ o, d.ops = o := ⟨_, rfl⟩
    obtain ⟨c, hc⟩ : ∃ c, d.cut = c := ⟨_, rfl⟩
    rw [ho] at c2
    rw [hc] at c3
    by_cases h0 : 0 ≤ c
    · by_cases h1 : c ≤ (o : Int)
      · obtain rfl : b = true := by rw [← hb]; exact decide_eq_true (by rw [ho, hc]; exact ⟨h0, h1⟩)
        clear hb ho hc
        go_enter Try.func50, Try.ntmps50
        go_wp2
        go_region
        all_goals
          go_wp2
          go_ret
          exact ⟨rfl, HF.out.1, HF.out.2⟩
      · obtain rfl : b = false := by rw [← hb]; exact decide_eq_false (by rw [ho, hc]; exact fun hh => h1 hh.2)
        have h1' : decide (c ≤ (o : Int)) = false := decide_eq_false h1
        clear hb ho hc
        go_enter Try.func50, Try.ntmps50
        go_wp2
        go_region
        all_goals
          go_wp2
          go_ret
          exact ⟨rfl, HF.out.1, HF.out.2⟩
    · obtain rfl : b = false := by rw [← hb]; exact decide_eq_false (by rw [ho, hc]; exact fun hh => h0 hh.1)
      have h0' : decide (0 ≤ c) = false := decide_eq_false h0
      clear hb ho hc
      go_enter Try.func50, Try.ntmps50
      go_wp2
      go_region
      all_goals
        go_wp2
        go_ret
        exact ⟨rfl, HF.out.1, HF.out.2⟩
end
end Go.Proofs.Ytbidhiefgbddeaa.Disk.R
