/- The disk's calls that answer what it has: Blocks, Ops, Loose, Read; CutAt; of a nil disk there is nothing. -/
import Derived.Test.YtbidhiefgbddeaaDiskMem
namespace Go.Proofs.Ytbidhiefgbddeaa.Disk
open Go.RowKit Go.Shelf
set_option linter.unusedVariables false

section nils
set_option maxRecDepth 100000
theorem blocks_nil (w : World) : Calls Try.prog 18 #[.pointer none] w fun e w' => e = .returned (.int .i64 0) ∧ w = w' := by
  go_enter Try.func18, Try.ntmps18
  go_wp2_with (go_at_call 38; refine (isNone_nil _).mono ?_; rintro e w' ⟨rfl, rfl⟩)
  go_ret
  exact ⟨rfl, rfl⟩
theorem ops_nil (w : World) : Calls Try.prog 13 #[.pointer none] w fun e w' => e = .returned (.int .i64 0) ∧ w = w' := by
  go_enter Try.func13, Try.ntmps13
  go_wp2_with (go_at_call 38; refine (isNone_nil _).mono ?_; rintro e w' ⟨rfl, rfl⟩)
  go_ret
  exact ⟨rfl, rfl⟩
theorem loose_nil (w : World) : Calls Try.prog 14 #[.pointer none] w fun e w' => e = .returned (.int .i64 0) ∧ w = w' := by
  go_enter Try.func14, Try.ntmps14
  go_wp2_with (go_at_call 38; refine (isNone_nil _).mono ?_; rintro e w' ⟨rfl, rfl⟩)
  go_ret
  exact ⟨rfl, rfl⟩
theorem image_nil (w : World) : Calls Try.prog 16 #[.pointer none] w fun e w' => e = .returned (.slice none 0 0) ∧ w = w' := by
  go_enter Try.func16, Try.ntmps16
  go_wp2_with (go_at_call 38; refine (isNone_nil _).mono ?_; rintro e w' ⟨rfl, rfl⟩)
  go_ret
  exact ⟨rfl, rfl⟩
theorem cutAt_nil (n : Int) (w : World) : Calls Try.prog 22 #[.pointer none, .int .i64 n] w fun e w' => e = .returned (.tuple #[]) ∧ w = w' := by
  go_enter Try.func22, Try.ntmps22
  go_wp2_with (go_at_call 38; refine (isNone_nil _).mono ?_; rintro e w' ⟨rfl, rfl⟩)
  refine bodyPost_ret (results_none rfl _ _ _) rfl ?_
  exact ⟨rfl, rfl⟩
theorem read_nil (n : Int) (w : World) : Calls Try.prog 25 #[.pointer none, .int .i64 n] w fun e w' => e = .returned (.tuple #[.string ByteArray.empty, .int .i64 1]) ∧ w = w' := by
  go_enter Try.func25, Try.ntmps25
  go_wp2_with (go_at_call 38; refine (isNone_nil _).mono ?_; rintro e w' ⟨rfl, rfl⟩)
  go_ret2
  exact ⟨rfl, rfl⟩
theorem write_nil (n : Int) (s : ByteArray) (w : World) : Calls Try.prog 26 #[.pointer none, .int .i64 n, .string s] w fun e w' => e = .returned (.int .i64 1) ∧ w = w' := by
  go_enter Try.func26, Try.ntmps26
  go_wp2_with (go_at_call 38; refine (isNone_nil _).mono ?_; rintro e w' ⟨rfl, rfl⟩)
  go_ret
  exact ⟨rfl, rfl⟩
theorem flush_nil (w : World) : Calls Try.prog 24 #[.pointer none] w fun e w' => e = .returned (.int .i64 1) ∧ Below w.heap.size w w' := by
  go_enter Try.func24, Try.ntmps24
  go_wp2_with (go_at_call 38; refine (isNone_nil _).mono ?_; rintro e w' ⟨rfl, rfl⟩)
  go_ret
  exact ⟨rfl, (Below.refl _ _).alloc (Nat.le_refl _) _⟩
theorem crash_nil_any (k t : Int) (w : World) : Calls Try.prog 23 #[.pointer none, .agg #[.int .u64 k, .int .i64 t]] w fun e w' => e = .returned (.pointer none) ∧ Below w.heap.size w w' := by
  go_enter Try.func23, Try.ntmps23
  go_wp2
  try go_step3
  go_wp2_with (go_at_call 38; refine (isNone_nil _).mono ?_; rintro e w' ⟨rfl, rfl⟩)
  try rw [Exit.noGoto_ret]
  go_ret
  exact ⟨rfl, (Below.refl _ _).alloc (Nat.le_refl _) _⟩
end nils

section asks
variable {p : Nat} {F : Nat → Prop} {d : D} {w : World}
set_option maxRecDepth 100000
theorem blocks_d (h : IsDisk w p F d) : Calls Try.prog 18 #[.pointer (some ⟨p, 0, none⟩)] w fun e w' => e = .returned (.int .i64 (d.B.length : Nat)) ∧ w = w' := by
  obtain ⟨a, b, v, hA, hF⟩ := h.mem
  have hc := isNone_not p a b v d w hA h.ok.lo h.ok.hi
  have c1 := hA.c1
  go_enter Try.func18, Try.ntmps18
  go_wp2_with (go_at_call 38; refine hc.mono ?_; rintro e w' ⟨rfl, rfl⟩)
  go_ret
  exact ⟨rfl, rfl⟩
theorem ops_d (h : IsDisk w p F d) : Calls Try.prog 13 #[.pointer (some ⟨p, 0, none⟩)] w fun e w' => e = .returned (.int .i64 (d.ops : Nat)) ∧ w = w' := by
  obtain ⟨a, b, v, hA, hF⟩ := h.mem
  have hc := isNone_not p a b v d w hA h.ok.lo h.ok.hi
  have c1 := hA.c3
  go_enter Try.func13, Try.ntmps13
  go_wp2_with (go_at_call 38; refine hc.mono ?_; rintro e w' ⟨rfl, rfl⟩)
  go_ret
  exact ⟨rfl, rfl⟩
theorem loose_d (h : IsDisk w p F d) : Calls Try.prog 14 #[.pointer (some ⟨p, 0, none⟩)] w fun e w' => e = .returned (.int .i64 (d.L.length : Nat)) ∧ w = w' := by
  obtain ⟨a, b, v, hA, hF⟩ := h.mem
  have hc := isNone_not p a b v d w hA h.ok.lo h.ok.hi
  obtain ⟨va, vc, rfl⟩ := hA.slice
  have c1 := hA.c2
  go_enter Try.func14, Try.ntmps14
  go_wp2_with (go_at_call 38; refine hc.mono ?_; rintro e w' ⟨rfl, rfl⟩)
  go_ret
  exact ⟨rfl, rfl⟩
theorem read_no (n : Int) (h : IsDisk w p F d) (hn : n < 0 ∨ (d.B.length : Int) ≤ n) : Calls Try.prog 25 #[.pointer (some ⟨p, 0, none⟩), .int .i64 n] w fun e w' => e = .returned (.tuple #[.string ByteArray.empty, .int .i64 41]) ∧ w = w' := by
  obtain ⟨a, b, v, hA, hF⟩ := h.mem
  have hc := isNone_not p a b v d w hA h.ok.lo h.ok.hi
  have hh := has_no p a b v d n w hA h.ok.hi hn
  clear hn
  go_enter Try.func25, Try.ntmps25
  go_wp2_with (first | (go_at_call 38; refine hc.mono ?_; rintro e w' ⟨rfl, rfl⟩) | (go_at_call 48; refine hh.mono ?_; rintro e w' ⟨rfl, rfl⟩))
  go_ret2
  exact ⟨rfl, rfl⟩
theorem read_yes (n : Nat) (s : ByteArray) (h : IsDisk w p F d) (hn : n < d.B.length) (hs : d.now[n]? = some s) : Calls Try.prog 25 #[.pointer (some ⟨p, 0, none⟩), .int .i64 n] w fun e w' => e = .returned (.tuple #[.string s, .int .i64 0]) ∧ Below w.heap.size w w' := by
  obtain ⟨a, b, v, hA, hF⟩ := h.mem
  have hc := isNone_not p a b v d w hA h.ok.lo h.ok.hi
  have hh := has_yes p a b v d n w hA h.ok.hi hn
  have c1 := hA.c1
  have c2 : w.cell? ⟨b, n, none⟩ = some (.string s) := by rw [hA.nw.at_]; exact strs_at _ _ _ hs
  have h512 := h.ok.now_sizes s (List.mem_of_getElem? hs)
  have hlim := h.ok.hi
  have hcl := clone_any s w (by omega)
  obtain ⟨N, hN⟩ : ∃ N, d.B.length = N := ⟨_, rfl⟩
  rw [hN] at c1 hn hlim
  clear hs h512 hN
  go_enter Try.func25, Try.ntmps25
  go_wp2_with (first | (go_at_call 38; refine hc.mono ?_; rintro e w' ⟨rfl, rfl⟩) | (go_at_call 48; refine hh.mono ?_; rintro e w' ⟨rfl, rfl⟩) | (go_at_call 39; refine hcl.mono ?_; rintro e w' ⟨rfl, hB⟩))
  go_ret2
  exact ⟨rfl, hB⟩
theorem top_cut {a b n ops : Nat} {v : Value} {c c' : Int} (h : w.heap[p]? = some (topO a b n v ops c)) : (w.setCell ⟨p, 4, none⟩ (.int .i64 c')).heap[p]? = some (topO a b n v ops c') := by
  unfold topO at h ⊢
  rw [heap_setCell_same _ _ _ _ _ _ h]; simp
theorem cutAt_d (n : Int) (h : IsDisk w p F d) (h1 : -9223372036854775808 ≤ n) (h2 : n ≤ 9223372036854775807) : Calls Try.prog 22 #[.pointer (some ⟨p, 0, none⟩), .int .i64 n] w fun e w' => e = .returned (.tuple #[]) ∧ IsDisk w' p F (d.cutAt n) ∧ Only F w w' := by
  have hok := h.ok.cutAt h1 h2
  obtain ⟨a, b, v, hA, hF⟩ := h.mem
  have hc := isNone_not p a b v d w hA h.ok.lo h.ok.hi
  have c4 := hA.c4
  have f4 := hA.fr 4
  clear h1 h2
  go_enter Try.func22, Try.ntmps22
  go_wp2_with (go_at_call 38; refine hc.mono ?_; rintro e w' ⟨rfl, rfl⟩)
  go_end0
  obtain ⟨k1, k2, k3⟩ := hA.kinds
  have hset : ∀ k, k ≠ p → (w.setCell ⟨p, 4, none⟩ (.int .i64 n)).heap[k]? = w.heap[k]? := fun k hk => Below.heap_setCell _ _ _ _ hk
  refine ⟨rfl, ⟨hok, a, b, v, ⟨top_cut hA.top, hA.fl.of_heap (hset _ k1.symm), hA.nw.of_heap (hset _ k2.symm), own_same hA.ls (fun g hg => hset _ (k3 g hg).1), hA.ne⟩, hF⟩, (Only.refl _ w).setCell (.inr (hF _ (.inl rfl))) _⟩
end asks
end Go.Proofs.Ytbidhiefgbddeaa.Disk
