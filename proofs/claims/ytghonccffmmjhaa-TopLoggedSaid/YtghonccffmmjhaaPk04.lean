/- Several texts in one, each under its own heading. -/
import Derived.Deep.QuietTactic
import Derived.BigQuiet
import Derived.Maps.AppendAt
import Derived.Outline
import Derived.Test.YtghonccffmmjhaaPk02
import Derived.Test.YtghonccffmmjhaaPk03
/- A disk of the program as it lies in memory, and its calls that only read. -/
namespace Go.Proofs.Ytghonccffmmjhaa.Disk
open Go.RowKit Go.Shelf
set_option linter.unusedVariables false

def strs (B : List ByteArray) : List Value := B.map .string
theorem strs_length (B : List ByteArray) : (strs B).length = B.length := by simp [strs]
theorem strs_at (B : List ByteArray) (k : Nat) (s : ByteArray) (h : B[k]? = some s) : (strs B)[k]? = some (.string s) := by simp [strs, h]
theorem strs_set (B : List ByteArray) (k : Nat) (s : ByteArray) : strs (B.set k s) = (strs B).set k (.string s) := by simp [strs, List.map_set]
abbrev Wr := Nat × ByteArray
def cellsW (L : List Wr) : List Value := L.flatMap fun x => [.int .i64 (x.1 : Int), .string x.2]
theorem cellsW_length (l : List Wr) : (cellsW l).length = l.length * 2 := by
  induction l with
  | nil => rfl
  | cons x l ih => simp only [cellsW, List.flatMap_cons, List.length_append, List.length_cons, List.length_nil] at ih ⊢; omega
theorem cellsW_append (a b : List Wr) : cellsW (a ++ b) = cellsW a ++ cellsW b := by simp [cellsW]
theorem cellsW_at (l : List Wr) (k : Nat) (x : Wr) (h : l[k]? = some x) : (cellsW l)[k * 2]? = some (.int .i64 (x.1 : Int)) ∧ (cellsW l)[k * 2 + 1]? = some (.string x.2) := by
  induction l generalizing k with
  | nil => simp at h
  | cons y l ih =>
    cases k with
    | zero => obtain rfl : y = x := by simpa using h
              exact ⟨rfl, rfl⟩
    | succ k =>
      have := ih k (by simpa using h)
      rw [show (k + 1) * 2 = k * 2 + 2 from by omega]
      exact this

/-- a slice of its whole block -/
def whole (b n : Nat) : Value := .slice (some ⟨b, 0, none⟩) n n
def topO (a b n : Nat) (v : Value) (ops : Nat) (cut : Int) : Obj := .cells #[whole a n, whole b n, v, .int .i64 (ops : Int), .int .i64 cut] 81 (0, 0)

/-- a disk at p: its blocks at the last flush lie in a, as they are read in b, its loose writes are v's -/
structure At (w : World) (p a b : Nat) (v : Value) (d : D) : Prop where
  top : w.heap[p]? = some (topO a b d.B.length v d.ops d.cut)
  fl : Row w a 9 (strs d.B)
  nw : Row w b 9 (strs d.now)
  ls : w.ownsRow 0 98 2 v d.L.length (cellsW d.L)
  ne : a ≠ b

def Foot (p a b : Nat) (v : Value) (k : Nat) : Prop := k = p ∨ k = a ∨ k = b ∨ v.ownBlock = some k
theorem own_heap {w : World} {base size n : Nat} {e : TypeId} {v : Value} {xs : List Value} (h : w.ownsRow base e size v n xs) {g : Nat} (hg : v.ownBlock = some g) : ∃ cur, w.heap[g]? = some (.cells cur e (0, 0)) := by
  rcases h.2 with ⟨rfl, _⟩ | ⟨g', cap, cur, rfl, _, hh, _⟩
  · simp [Value.ownBlock] at hg
  · obtain rfl : g' = g := by simpa [Value.ownBlock] using hg
    exact ⟨cur, hh⟩
theorem own_same {w w' : World} {base size n : Nat} {e : TypeId} {v : Value} {xs : List Value} (h : w.ownsRow base e size v n xs) (hk : ∀ g, v.ownBlock = some g → w'.heap[g]? = w.heap[g]?) : w'.ownsRow base e size v n xs := by
  refine ⟨h.1, ?_⟩
  rcases h.2 with hn | ⟨g, cap, cur, hv, hb, hg, rest⟩
  · exact .inl hn
  · exact .inr ⟨g, cap, cur, hv, hb, (hk g (by rw [hv]; rfl)).trans hg, rest⟩
namespace At
variable {w w' : World} {p a b : Nat} {v : Value} {d : D}
theorem kinds (h : At w p a b v d) : p ≠ a ∧ p ≠ b ∧ (∀ g, v.ownBlock = some g → g ≠ p ∧ g ≠ a ∧ g ≠ b) := by
  have h1 := h.top
  have h2 := h.fl
  have h3 := h.nw
  unfold Row at h2 h3
  unfold topO at h1
  refine ⟨fun e => ?_, fun e => ?_, fun g hg => ?_⟩
  · subst e; rw [h1] at h2; simp only [Option.some.injEq, Obj.cells.injEq] at h2; exact absurd h2.2.1 (by decide)
  · subst e; rw [h1] at h3; simp only [Option.some.injEq, Obj.cells.injEq] at h3; exact absurd h3.2.1 (by decide)
  · obtain ⟨cur, h4⟩ := own_heap h.ls hg
    refine ⟨fun e => ?_, fun e => ?_, fun e => ?_⟩
    · subst e; rw [h1] at h4; cases h4
    · subst e; rw [h2] at h4; cases h4
    · subst e; rw [h3] at h4; cases h4
theorem lt (h : At w p a b v d) : ∀ k, Foot p a b v k → k < w.heap.size := by
  rintro k (rfl | rfl | rfl | hk)
  · exact (Array.getElem?_eq_some_iff.1 h.top).1
  · exact h.fl.lt
  · exact h.nw.lt
  · exact (h.ls.lt k hk).2
theorem same (h : At w p a b v d) (hk : ∀ k, Foot p a b v k → w'.heap[k]? = w.heap[k]?) : At w' p a b v d :=
  ⟨(hk p (.inl rfl)).trans h.top, h.fl.of_heap (hk a (.inr (.inl rfl))), h.nw.of_heap (hk b (.inr (.inr (.inl rfl)))), own_same h.ls fun g hg => hk g (.inr (.inr (.inr hg))), h.ne⟩
theorem below (h : At w p a b v d) (hB : Below w.heap.size w w') : At w' p a b v d := h.same fun k hk => hB.block k (h.lt k hk)
theorem c0 (h : At w p a b v d) : w.cell? ⟨p, 0, none⟩ = some (.slice (some ⟨a, 0, none⟩) d.B.length d.B.length) := by have := h.top; simp only [World.cell?, this]; rfl
theorem c1 (h : At w p a b v d) : w.cell? ⟨p, 1, none⟩ = some (.slice (some ⟨b, 0, none⟩) d.B.length d.B.length) := by have := h.top; simp only [World.cell?, this]; rfl
theorem c2 (h : At w p a b v d) : w.cell? ⟨p, 2, none⟩ = some v := by have := h.top; simp only [World.cell?, this]; rfl
theorem c3 (h : At w p a b v d) : w.cell? ⟨p, 3, none⟩ = some (.int .i64 (d.ops : Int)) := by have := h.top; simp only [World.cell?, this]; rfl
theorem c4 (h : At w p a b v d) : w.cell? ⟨p, 4, none⟩ = some (.int .i64 d.cut) := by have := h.top; simp only [World.cell?, this]; rfl
theorem fr (h : At w p a b v d) (i : Nat) : w.frozen? ⟨p, i, none⟩ = false := by have := h.top; simp [World.frozen?, this, topO]
theorem slice (h : At w p a b v d) : ∃ va vc, v = .slice va d.L.length vc := by
  rcases h.ls.2 with ⟨rfl, h2⟩ | ⟨g, cap, _, rfl, _⟩
  · exact ⟨_, _, by rw [h2]⟩
  · exact ⟨_, _, rfl⟩
end At

/-- a disk at p, in the blocks of F -/
structure IsDisk (w : World) (p : Nat) (F : Nat → Prop) (d : D) : Prop where
  ok : d.Ok
  mem : ∃ a b v, At w p a b v d ∧ ∀ k, Foot p a b v k → F k
theorem IsDisk.same {w w' : World} {p : Nat} {F : Nat → Prop} {d : D} (h : IsDisk w p F d) (hk : ∀ k, F k → k < w.heap.size → w'.heap[k]? = w.heap[k]?) : IsDisk w' p F d := by
  obtain ⟨a, b, v, hA, hF⟩ := h.mem
  exact ⟨h.ok, a, b, v, hA.same fun k hk' => hk k (hF k hk') (hA.lt k hk'), hF⟩
theorem IsDisk.below {w w' : World} {p : Nat} {F : Nat → Prop} {d : D} (h : IsDisk w p F d) (hB : Below w.heap.size w w') : IsDisk w' p F d := h.same fun k _ hl => hB.block k hl
/-- what another piece of work leaves -/
theorem IsDisk.only {w w' : World} {p : Nat} {F G : Nat → Prop} {d : D} (h : IsDisk w p F d) (ho : Only G w w') (hd : ∀ k, F k → ¬ G k) : IsDisk w' p F d := h.same fun k hk hl => ho.block k hl (hd k hk)
/-- behind a call that may have written to the disk: in its blocks, or new ones -/
def Left (p : Nat) (F : Nat → Prop) (d : D) (w w' : World) : Prop := ∃ F', IsDisk w' p F' d ∧ Only F w w' ∧ ∀ k, F' k → F k ∨ w.heap.size ≤ k

/-! ### calls that only read -/
set_option maxRecDepth 100000 in
theorem isNone_nil (w : World) : Calls Try.prog 38 #[.pointer none] w fun e w' => e = .returned (.bool true) ∧ w = w' := by
  go_enter Try.func38, Try.ntmps38
  go_wp2
  go_ret
  exact ⟨rfl, rfl⟩
set_option maxRecDepth 100000 in
theorem isNone_not (p a b : Nat) (v : Value) (d : D) (w : World) (h : At w p a b v d) (hn : 0 < d.B.length) (hm : d.B.length ≤ 4096) : Calls Try.prog 38 #[.pointer (some ⟨p, 0, none⟩)] w fun e w' => e = .returned (.bool false) ∧ w = w' := by
  have c1 := h.c1
  obtain ⟨n, hN⟩ : ∃ n, d.B.length = n := ⟨_, rfl⟩
  rw [hN] at c1 hn hm
  have hz : ((n : Int) == 0) = false := by simp; omega
  clear hN
  go_enter Try.func38, Try.ntmps38
  go_wp2
  go_ret
  exact ⟨rfl, rfl⟩
set_option maxRecDepth 100000 in
theorem has_yes (p a b : Nat) (v : Value) (d : D) (at0 : Nat) (w : World) (h : At w p a b v d) (hm : d.B.length ≤ 4096) (hat : at0 < d.B.length) : Calls Try.prog 56 #[.pointer (some ⟨p, 0, none⟩), .int .i64 at0] w fun e w' => e = .returned (.bool true) ∧ w = w' := by
  have c1 := h.c1
  obtain ⟨n, hN⟩ : ∃ n, d.B.length = n := ⟨_, rfl⟩
  rw [hN] at c1 hm hat
  clear hN
  go_enter Try.func56, Try.ntmps56
  go_wp2
  go_ret
  exact ⟨rfl, rfl⟩
set_option maxRecDepth 100000 in
theorem has_no (p a b : Nat) (v : Value) (d : D) (at0 : Int) (w : World) (h : At w p a b v d) (hm : d.B.length ≤ 4096) (hat : at0 < 0 ∨ (d.B.length : Int) ≤ at0) : Calls Try.prog 56 #[.pointer (some ⟨p, 0, none⟩), .int .i64 at0] w fun e w' => e = .returned (.bool false) ∧ w = w' := by
  have c1 := h.c1
  obtain ⟨n, hN⟩ : ∃ n, d.B.length = n := ⟨_, rfl⟩
  rw [hN] at c1 hm hat
  clear hN
  by_cases h0 : 0 ≤ at0
  · have h1 : ¬ at0 < (n : Int) := by omega
    clear hat
    go_enter Try.func56, Try.ntmps56
    go_wp2
    go_ret
    exact ⟨rfl, rfl⟩
  · clear hat
    go_enter Try.func56, Try.ntmps56
    go_wp2
    go_ret
    exact ⟨rfl, rfl⟩
set_option maxRecDepth 100000 in
theorem isOff_yes (p a b : Nat) (v : Value) (d : D) (w : World) (h : At w p a b v d) (ho : d.off) : Calls Try.prog 64 #[.pointer (some ⟨p, 0, none⟩)] w fun e w' => e = .returned (.bool true) ∧ ∃ n, w.drewN n = w' := by
  have c3 := h.c3
  have c4 := h.c4
  obtain ⟨h0, h1⟩ := ho
  obtain ⟨o, ho⟩ : ∃ o, d.ops = o := ⟨_, rfl⟩
  obtain ⟨c, hc⟩ : ∃ c, d.cut = c := ⟨_, rfl⟩
  rw [ho] at c3 h1
  rw [hc] at c4 h0 h1
  clear ho hc
  go_enter Try.func64, Try.ntmps64
  go_wp2
  go_quiet (fail)
  go_wp2
  go_ret
  exact ⟨rfl, _, rfl⟩
set_option maxRecDepth 100000 in
theorem isOff_no (p a b : Nat) (v : Value) (d : D) (w : World) (h : At w p a b v d) (ho : ¬ d.off) : Calls Try.prog 64 #[.pointer (some ⟨p, 0, none⟩)] w fun e w' => e = .returned (.bool false) ∧ ∃ n, w.drewN n = w' := by
  have c3 := h.c3
  have c4 := h.c4
  unfold D.off at ho
  obtain ⟨o, ho'⟩ : ∃ o, d.ops = o := ⟨_, rfl⟩
  obtain ⟨c, hc⟩ : ∃ c, d.cut = c := ⟨_, rfl⟩
  rw [ho'] at c3 ho
  rw [hc] at c4 ho
  clear ho' hc
  by_cases h0 : 0 ≤ c
  · have h1 : decide (c ≤ (o : Int)) = false := by simp; omega
    clear ho
    go_enter Try.func64, Try.ntmps64
    go_wp2
    go_quiet (fail)
    go_wp2
    go_ret
    exact ⟨rfl, _, rfl⟩
  · have h0' : decide (0 ≤ c) = false := by simpa using h0
    clear ho
    go_enter Try.func64, Try.ntmps64
    go_wp2
    go_quiet (fail)
    go_wp2
    go_ret
    exact ⟨rfl, _, rfl⟩
end Go.Proofs.Ytghonccffmmjhaa.Disk
/- The disk's calls that answer what it has: Blocks, Ops, Loose, Read; CutAt; of a nil disk there is nothing. -/
namespace Go.Proofs.Ytghonccffmmjhaa.Disk
open Go.RowKit Go.Shelf
set_option linter.unusedVariables false

section nils
set_option maxRecDepth 100000
theorem blocks_nil (w : World) : Calls Try.prog 35 #[.pointer none] w fun e w' => e = .returned (.int .i64 0) ∧ w = w' := by
  go_enter Try.func35, Try.ntmps35
  go_wp2_with (go_at_call 38; refine (isNone_nil _).mono ?_; rintro e w' ⟨rfl, rfl⟩)
  go_ret
  exact ⟨rfl, rfl⟩
theorem ops_nil (w : World) : Calls Try.prog 26 #[.pointer none] w fun e w' => e = .returned (.int .i64 0) ∧ w = w' := by
  go_enter Try.func26, Try.ntmps26
  go_wp2_with (go_at_call 38; refine (isNone_nil _).mono ?_; rintro e w' ⟨rfl, rfl⟩)
  go_ret
  exact ⟨rfl, rfl⟩
theorem image_nil (w : World) : Calls Try.prog 25 #[.pointer none] w fun e w' => e = .returned (.slice none 0 0) ∧ w = w' := by
  go_enter Try.func25, Try.ntmps25
  go_wp2_with (go_at_call 38; refine (isNone_nil _).mono ?_; rintro e w' ⟨rfl, rfl⟩)
  go_ret
  exact ⟨rfl, rfl⟩
theorem cutAt_nil (n : Int) (w : World) : Calls Try.prog 11 #[.pointer none, .int .i64 n] w fun e w' => e = .returned (.tuple #[]) ∧ w = w' := by
  go_enter Try.func11, Try.ntmps11
  go_wp2_with (go_at_call 38; refine (isNone_nil _).mono ?_; rintro e w' ⟨rfl, rfl⟩)
  refine bodyPost_ret (results_none rfl _ _ _) rfl ?_
  exact ⟨rfl, rfl⟩
theorem read_nil (n : Int) (w : World) : Calls Try.prog 28 #[.pointer none, .int .i64 n] w fun e w' => e = .returned (.tuple #[.string ByteArray.empty, .int .i64 1]) ∧ w = w' := by
  go_enter Try.func28, Try.ntmps28
  go_wp2_with (go_at_call 38; refine (isNone_nil _).mono ?_; rintro e w' ⟨rfl, rfl⟩)
  go_ret2
  exact ⟨rfl, rfl⟩
theorem write_nil (n : Int) (s : ByteArray) (w : World) : Calls Try.prog 63 #[.pointer none, .int .i64 n, .string s] w fun e w' => e = .returned (.int .i64 1) ∧ w = w' := by
  go_enter Try.func63, Try.ntmps63
  go_wp2_with (go_at_call 38; refine (isNone_nil _).mono ?_; rintro e w' ⟨rfl, rfl⟩)
  go_ret
  exact ⟨rfl, rfl⟩
theorem flush_nil (w : World) : Calls Try.prog 46 #[.pointer none] w fun e w' => e = .returned (.int .i64 1) ∧ Below w.heap.size w w' := by
  go_enter Try.func46, Try.ntmps46
  go_wp2_with (go_at_call 38; refine (isNone_nil _).mono ?_; rintro e w' ⟨rfl, rfl⟩)
  go_ret
  exact ⟨rfl, (Below.refl _ _).alloc (Nat.le_refl _) _⟩
theorem crash_nil_any (k t : Int) (w : World) : Calls Try.prog 20 #[.pointer none, .agg #[.int .u64 k, .int .i64 t]] w fun e w' => e = .returned (.pointer none) ∧ Below w.heap.size w w' := by
  go_enter Try.func20, Try.ntmps20
  go_wp2
  try go_step3
  go_wp2_with (go_at_call 38; refine (isNone_nil _).mono ?_; rintro e w' ⟨rfl, rfl⟩)
  try rw [Exit.noGoto_ret]
  go_ret
  exact ⟨rfl, (Below.refl _ _).alloc (Nat.le_refl _) _⟩
end nils

section asks
variable {p : Nat} {F : Nat → Prop} {d : D} {w : World}
set_option maxRecDepth 100000
theorem blocks_d (h : IsDisk w p F d) : Calls Try.prog 35 #[.pointer (some ⟨p, 0, none⟩)] w fun e w' => e = .returned (.int .i64 (d.B.length : Nat)) ∧ w = w' := by
  obtain ⟨a, b, v, hA, hF⟩ := h.mem
  have hc := isNone_not p a b v d w hA h.ok.lo h.ok.hi
  have c1 := hA.c1
  go_enter Try.func35, Try.ntmps35
  go_wp2_with (go_at_call 38; refine hc.mono ?_; rintro e w' ⟨rfl, rfl⟩)
  go_ret
  exact ⟨rfl, rfl⟩
theorem ops_d (h : IsDisk w p F d) : Calls Try.prog 26 #[.pointer (some ⟨p, 0, none⟩)] w fun e w' => e = .returned (.int .i64 (d.ops : Nat)) ∧ w = w' := by
  obtain ⟨a, b, v, hA, hF⟩ := h.mem
  have hc := isNone_not p a b v d w hA h.ok.lo h.ok.hi
  have c1 := hA.c3
  go_enter Try.func26, Try.ntmps26
  go_wp2_with (go_at_call 38; refine hc.mono ?_; rintro e w' ⟨rfl, rfl⟩)
  go_ret
  exact ⟨rfl, rfl⟩
theorem read_no (n : Int) (h : IsDisk w p F d) (hn : n < 0 ∨ (d.B.length : Int) ≤ n) : Calls Try.prog 28 #[.pointer (some ⟨p, 0, none⟩), .int .i64 n] w fun e w' => e = .returned (.tuple #[.string ByteArray.empty, .int .i64 41]) ∧ w = w' := by
  obtain ⟨a, b, v, hA, hF⟩ := h.mem
  have hc := isNone_not p a b v d w hA h.ok.lo h.ok.hi
  have hh := has_no p a b v d n w hA h.ok.hi hn
  clear hn
  go_enter Try.func28, Try.ntmps28
  go_wp2_with (first | (go_at_call 38; refine hc.mono ?_; rintro e w' ⟨rfl, rfl⟩) | (go_at_call 56; refine hh.mono ?_; rintro e w' ⟨rfl, rfl⟩))
  go_ret2
  exact ⟨rfl, rfl⟩
theorem read_yes (n : Nat) (s : ByteArray) (h : IsDisk w p F d) (hn : n < d.B.length) (hs : d.now[n]? = some s) : Calls Try.prog 28 #[.pointer (some ⟨p, 0, none⟩), .int .i64 n] w fun e w' => e = .returned (.tuple #[.string s, .int .i64 0]) ∧ Below w.heap.size w w' := by
  obtain ⟨a, b, v, hA, hF⟩ := h.mem
  have hc := isNone_not p a b v d w hA h.ok.lo h.ok.hi
  have hh := has_yes p a b v d n w hA h.ok.hi hn
  have c1 := hA.c1
  have c2 : w.cell? ⟨b, n, none⟩ = some (.string s) := by rw [hA.nw.at_]; exact strs_at _ _ _ hs
  have h512 := h.ok.now_sizes s (List.mem_of_getElem? hs)
  have hlim := h.ok.hi
  have hcl := clone_any s w (by omega)
  obtain ⟨N, hN⟩ : ∃ N, d.B.length = N := ⟨_, rfl⟩
  rw [hN] at c1 hn hlim
  clear hs h512 hN
  go_enter Try.func28, Try.ntmps28
  go_wp2_with (first | (go_at_call 38; refine hc.mono ?_; rintro e w' ⟨rfl, rfl⟩) | (go_at_call 56; refine hh.mono ?_; rintro e w' ⟨rfl, rfl⟩) | (go_at_call 54; refine hcl.mono ?_; rintro e w' ⟨rfl, hB⟩))
  go_ret2
  exact ⟨rfl, hB⟩
theorem top_cut {a b n ops : Nat} {v : Value} {c c' : Int} (h : w.heap[p]? = some (topO a b n v ops c)) : (w.setCell ⟨p, 4, none⟩ (.int .i64 c')).heap[p]? = some (topO a b n v ops c') := by
  unfold topO at h ⊢
  rw [heap_setCell_same _ _ _ _ _ _ h]; simp
theorem cutAt_d (n : Int) (h : IsDisk w p F d) (h1 : -9223372036854775808 ≤ n) (h2 : n ≤ 9223372036854775807) : Calls Try.prog 11 #[.pointer (some ⟨p, 0, none⟩), .int .i64 n] w fun e w' => e = .returned (.tuple #[]) ∧ IsDisk w' p F (d.cutAt n) ∧ Only F w w' := by
  have hok := h.ok.cutAt h1 h2
  obtain ⟨a, b, v, hA, hF⟩ := h.mem
  have hc := isNone_not p a b v d w hA h.ok.lo h.ok.hi
  have c4 := hA.c4
  have f4 := hA.fr 4
  clear h1 h2
  go_enter Try.func11, Try.ntmps11
  go_wp2_with (go_at_call 38; refine hc.mono ?_; rintro e w' ⟨rfl, rfl⟩)
  go_end0
  obtain ⟨k1, k2, k3⟩ := hA.kinds
  have hset : ∀ k, k ≠ p → (w.setCell ⟨p, 4, none⟩ (.int .i64 n)).heap[k]? = w.heap[k]? := fun k hk => Below.heap_setCell _ _ _ _ hk
  refine ⟨rfl, ⟨hok, a, b, v, ⟨top_cut hA.top, hA.fl.of_heap (hset _ k1.symm), hA.nw.of_heap (hset _ k2.symm), own_same hA.ls (fun g hg => hset _ (k3 g hg).1), hA.ne⟩, hF⟩, (Only.refl _ w).setCell (.inr (hF _ (.inl rfl))) _⟩
end asks
end Go.Proofs.Ytghonccffmmjhaa.Disk
