/- How a disk is made: isSize, copied, of. -/
import Derived.Test.YtbidhiefgbddeaaDiskFlush
namespace Go.Proofs.Ytbidhiefgbddeaa.Disk
open Go.RowKit Go.Shelf
set_option linter.unusedVariables false

/-- may a disk have so many blocks? -/
def sizeOk (n : Int) : Prop := 128 ≤ n ∧ n ≤ 4096 ∧ n % 16 = 0
instance (n : Int) : Decidable (sizeOk n) := by unfold sizeOk; infer_instance
section
set_option maxRecDepth 100000
theorem isSize_yes (n : Nat) (w : World) (h : sizeOk n) : Calls Try.prog 28 #[.int .i64 n] w fun e w' => e = .returned (.bool true) ∧ w = w' := by
  obtain ⟨h1, h2, h3⟩ := h
  have hm : ((n : Int) % 16 == 0) = true := by simp [h3]
  clear h3
  go_enter Try.func28, Try.ntmps28
  go_wp2
  go_ret
  exact ⟨rfl, rfl⟩
theorem isSize_no (n : Int) (w : World) (h : ¬ sizeOk n) : Calls Try.prog 28 #[.int .i64 n] w fun e w' => e = .returned (.bool false) ∧ w = w' := by
  unfold sizeOk at h
  by_cases h1 : 128 ≤ n
  · by_cases h2 : n ≤ 4096
    · have h3 : ¬ n % 16 = 0 := fun hh => h ⟨h1, h2, hh⟩
      have hm : (n % 16 == 0) = false := by simpa using h3
      clear h h3
      go_enter Try.func28, Try.ntmps28
      go_wp2
      go_ret
      exact ⟨rfl, rfl⟩
    · clear h
      go_enter Try.func28, Try.ntmps28
      go_wp2
      go_ret
      exact ⟨rfl, rfl⟩
  · clear h
    go_enter Try.func28, Try.ntmps28
    go_wp2
    go_ret
    exact ⟨rfl, rfl⟩
theorem size_yes (n : Nat) (w : World) (h : sizeOk n) : Calls Try.prog 32 #[.int .i64 n] w fun e w' => e = .returned (.bool true) ∧ w = w' := by
  obtain ⟨h1, h2, h3⟩ := h
  have hm : ((n : Int) % 16 == 0) = true := by simp [h3]
  clear h3
  go_enter Try.func32, Try.ntmps32
  go_wp2
  go_ret
  exact ⟨rfl, rfl⟩
theorem size_no (n : Int) (w : World) (h : ¬ sizeOk n) : Calls Try.prog 32 #[.int .i64 n] w fun e w' => e = .returned (.bool false) ∧ w = w' := by
  unfold sizeOk at h
  by_cases h1 : 128 ≤ n
  · by_cases h2 : n ≤ 4096
    · have h3 : ¬ n % 16 = 0 := fun hh => h ⟨h1, h2, hh⟩
      have hm : (n % 16 == 0) = false := by simpa using h3
      clear h h3
      go_enter Try.func32, Try.ntmps32
      go_wp2
      go_ret
      exact ⟨rfl, rfl⟩
    · clear h
      go_enter Try.func32, Try.ntmps32
      go_wp2
      go_ret
      exact ⟨rfl, rfl⟩
  · clear h
    go_enter Try.func32, Try.ntmps32
    go_wp2
    go_ret
    exact ⟨rfl, rfl⟩

theorem infoS : (Try.prog.info? 9).map (fun i => (i.zero, i.size, i.bytes)) = some (some (.string ByteArray.empty), 1, 16) := by kernel_rfl
theorem splice_all (cur cs : List Value) (h : cur.length = cs.length) : splice cur 0 cs = cs := by
  simp [splice, h]
theorem whole_def (b n : Nat) : whole b n = .slice (some ⟨b, 0, none⟩) n n := rfl
theorem copied_any (a n : Nat) (B : List ByteArray) (w : World) (hr : Row w a 9 (strs B)) (hB : B.length = n) (h0 : 0 < n) (hn : n ≤ 4096) :
    Calls Try.prog 44 #[.slice (some ⟨a, 0, none⟩) n n] w fun e w' => e = .returned (.slice (some ⟨w.heap.size, 0, none⟩) n n) ∧ Row w' w.heap.size 9 (strs B) ∧ Below w.heap.size w w' := by
  obtain ⟨i0, hi, hz0, hz1, hz2⟩ := info_parts infoS
  obtain ⟨M, hM⟩ : ∃ M : List Value, M = (madeCells #[Value.string ByteArray.empty] n).toList := ⟨_, rfl⟩
  have hMl : M.length = n := by rw [hM, Array.length_toList, size_madeCells]
  have hmk : ∀ W : World, (Instr.makeSlice 39 (.int .i64 (n : Int)) (.int .i64 (n : Int))).run Try.prog W = .ok (.slice (some ⟨W.heap.size, 0, none⟩) n n) (W.alloc (.cells M.toArray 9)) := fun W => by
    rw [hM, Array.toArray_toList]
    exact run_make_row' (P := Try.prog) 39 9 (.string ByteArray.empty) 16 Try.underlying39 infoS rfl .i64 .i64 n (by omega) (by omega) W
  obtain ⟨W1, hW1⟩ : ∃ W1, w.alloc (.cells M.toArray 9) = W1 := ⟨_, rfl⟩
  have hrow1 : Row W1 w.heap.size 9 M := by rw [← hW1]; exact heap_alloc_new w _
  have hB1 : Below w.heap.size w W1 := by rw [← hW1]; exact (Below.refl _ w).alloc (Nat.le_refl _) _
  have hsrc : Row W1 a 9 (strs B) := hr.of_heap (hB1.block a hr.lt)
  have hcp : ∀ ty, (Builtin.copy_ #[39, 39] ty #[.slice (some ⟨w.heap.size, 0, none⟩) n n, .slice (some ⟨a, 0, none⟩) n n]).run Try.prog W1 = .ok (goInt (Nat.min n n)) (W1.setRow w.heap.size (splice M 0 (strs B)).toArray) := fun ty =>
    run_copyR (P := Try.prog) W1 39 39 ty 9 i0 1 Try.underlying39 hi hz1 w.heap.size 0 n n ⟨a, 0, none⟩ n n M 9 (strs B) hrow1 (by rw [strs_length, hB]; show n = min n n * 1; omega)
      (fun j v hj => by rw [add_plain, Nat.zero_add, hsrc.at_]; exact hj) (by rw [strs_length, hMl]; omega) (by simp [strs, Value.oneCell'])
  rw [splice_all M (strs B) (by rw [strs_length, hMl, hB])] at hcp
  have hrow2 : Row (W1.setRow w.heap.size (strs B).toArray) w.heap.size 9 (strs B) := hrow1.set _
  have hB2 : Below w.heap.size w (W1.setRow w.heap.size (strs B).toArray) := hB1.trans ⟨rfl, rfl, rfl, by simp [World.setRow], fun k hk => setRow_other _ _ _ _ (by omega)⟩
  subst hW1
  have HCP := Lib.hid hcp
  have HR2 := Lib.hid hrow2
  have HB2 := Lib.hid hB2
  clear hcp hrow2 hB2 hrow1 hB1 hsrc hM hMl hB hr hi hz0 hz1 hz2
  go_enter Try.func44, Try.ntmps44
  go_wp2_with (refine wpList_copyR _ rfl (.tmp 7) (.tmp 8) _ _ rfl _ _ rfl rfl (HCP.out _) ?_)
  go_ret
  exact ⟨rfl, HR2.out, HB2.out⟩

/-- a disk of blocks that lie in a row of their own: it keeps them -/
theorem of_any (a n : Nat) (B : List ByteArray) (w : World) (hr : Row w a 9 (strs B)) (hB : B.length = n) (h0 : 0 < n) (hn : n ≤ 4096) (hs : ∀ s ∈ B, s.size = 512) :
    Calls Try.prog 29 #[.slice (some ⟨a, 0, none⟩) n n] w fun e w' => ∃ p, e = .returned (.pointer (some ⟨p, 0, none⟩)) ∧ IsDisk w' p (fun k => k = a ∨ w.heap.size ≤ k) (D.of B) ∧ w.heap.size ≤ p ∧ Below w.heap.size w w' := by
  have hc := copied_any a n B w hr hB h0 hn
  go_enter Try.func29, Try.ntmps29
  go_wp2_with (go_at_call 44; refine hc.mono ?_; rintro e w1 ⟨rfl, hrow, hB1⟩)
  go_ret
  have hlt := hB1.size
  have hrl := hrow.lt
  obtain ⟨W, hW⟩ : ∃ W, w1.alloc (.cells #[.slice (some ⟨a, 0, none⟩) n n, .slice (some ⟨w.heap.size, 0, none⟩) n n, .slice none 0 0, .int .i64 0, .int .i64 (-1)] 69) = W := ⟨_, rfl⟩
  have hBW : Below w1.heap.size w1 W := by rw [← hW]; exact (Below.refl _ w1).alloc (Nat.le_refl _) _
  have htop : W.heap[w1.heap.size]? = some (.cells #[.slice (some ⟨a, 0, none⟩) n n, .slice (some ⟨w.heap.size, 0, none⟩) n n, .slice none 0 0, .int .i64 0, .int .i64 (-1)] 69) := by rw [← hW]; exact heap_alloc_new w1 _
  subst hB
  refine ⟨w1.heap.size, rfl, ⟨D.of_ok h0 hn hs, a, w.heap.size, .slice none 0 0, ⟨?_, ?_, ?_, World.ownsRow_nil _ _ _ _, by have := hr.lt; omega⟩, ?_⟩, hlt, ?_⟩
  · rw [hW]; exact htop
  · rw [hW]; exact (hr.of_heap (hB1.block a hr.lt)).of_heap (hBW.block a (by have := hr.lt; omega))
  · rw [hW]; exact hrow.of_heap (hBW.block _ hrl)
  · rintro k (rfl | rfl | rfl | hk)
    · exact .inr hlt
    · exact .inl rfl
    · exact .inr (Nat.le_refl _)
    · simp [Value.ownBlock] at hk
  · rw [hW]; exact hB1.trans (hBW.mono hlt)
end
end Go.Proofs.Ytbidhiefgbddeaa.Disk
