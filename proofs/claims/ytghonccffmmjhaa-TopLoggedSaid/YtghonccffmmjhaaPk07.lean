/- Several texts in one, each under its own heading. -/
import Derived.Test.YtghonccffmmjhaaPk06
import Derived.Shelf.Bits.Mul64
/- How a disk is made: isSize, copied, of. -/
namespace Go.Proofs.Ytghonccffmmjhaa.Disk
open Go.RowKit Go.Shelf
set_option linter.unusedVariables false

/-- may a disk have so many blocks? -/
def sizeOk (n : Int) : Prop := 128 ≤ n ∧ n ≤ 4096 ∧ n % 16 = 0
instance (n : Int) : Decidable (sizeOk n) := by unfold sizeOk; infer_instance
section
set_option maxRecDepth 100000
theorem isSize_yes (n : Nat) (w : World) (h : sizeOk n) : Calls Try.prog 31 #[.int .i64 n] w fun e w' => e = .returned (.bool true) ∧ w = w' := by
  obtain ⟨h1, h2, h3⟩ := h
  have hm : ((n : Int) % 16 == 0) = true := by simp [h3]
  clear h3
  go_enter Try.func31, Try.ntmps31
  go_wp2
  go_ret
  exact ⟨rfl, rfl⟩
theorem isSize_no (n : Int) (w : World) (h : ¬ sizeOk n) : Calls Try.prog 31 #[.int .i64 n] w fun e w' => e = .returned (.bool false) ∧ w = w' := by
  unfold sizeOk at h
  by_cases h1 : 128 ≤ n
  · by_cases h2 : n ≤ 4096
    · have h3 : ¬ n % 16 = 0 := fun hh => h ⟨h1, h2, hh⟩
      have hm : (n % 16 == 0) = false := by simpa using h3
      clear h h3
      go_enter Try.func31, Try.ntmps31
      go_wp2
      go_ret
      exact ⟨rfl, rfl⟩
    · clear h
      go_enter Try.func31, Try.ntmps31
      go_wp2
      go_ret
      exact ⟨rfl, rfl⟩
  · clear h
    go_enter Try.func31, Try.ntmps31
    go_wp2
    go_ret
    exact ⟨rfl, rfl⟩
theorem infoS : (Try.prog.info? 9).map (fun i => (i.zero, i.size, i.bytes)) = some (some (.string ByteArray.empty), 1, 16) := by kernel_rfl
theorem splice_all (cur cs : List Value) (h : cur.length = cs.length) : splice cur 0 cs = cs := by
  simp [splice, h]
theorem whole_def (b n : Nat) : whole b n = .slice (some ⟨b, 0, none⟩) n n := rfl
theorem copied_any (a n : Nat) (B : List ByteArray) (w : World) (hr : Row w a 9 (strs B)) (hB : B.length = n) (h0 : 0 < n) (hn : n ≤ 4096) :
    Calls Try.prog 50 #[.slice (some ⟨a, 0, none⟩) n n] w fun e w' => e = .returned (.slice (some ⟨w.heap.size, 0, none⟩) n n) ∧ Row w' w.heap.size 9 (strs B) ∧ Below w.heap.size w w' := by
  obtain ⟨i0, hi, hz0, hz1, hz2⟩ := info_parts infoS
  obtain ⟨M, hM⟩ : ∃ M : List Value, M = (madeCells #[Value.string ByteArray.empty] n).toList := ⟨_, rfl⟩
  have hMl : M.length = n := by rw [hM, Array.length_toList, size_madeCells]
  have hmk : ∀ W : World, (Instr.makeSlice 50 (.int .i64 (n : Int)) (.int .i64 (n : Int))).run Try.prog W = .ok (.slice (some ⟨W.heap.size, 0, none⟩) n n) (W.alloc (.cells M.toArray 9)) := fun W => by
    rw [hM, Array.toArray_toList]
    exact run_make_row' (P := Try.prog) 50 9 (.string ByteArray.empty) 16 Try.underlying50 infoS rfl .i64 .i64 n (by omega) (by omega) W
  obtain ⟨W1, hW1⟩ : ∃ W1, w.alloc (.cells M.toArray 9) = W1 := ⟨_, rfl⟩
  have hrow1 : Row W1 w.heap.size 9 M := by rw [← hW1]; exact heap_alloc_new w _
  have hB1 : Below w.heap.size w W1 := by rw [← hW1]; exact (Below.refl _ w).alloc (Nat.le_refl _) _
  have hsrc : Row W1 a 9 (strs B) := hr.of_heap (hB1.block a hr.lt)
  have hcp : ∀ ty, (Builtin.copy_ #[50, 50] ty #[.slice (some ⟨w.heap.size, 0, none⟩) n n, .slice (some ⟨a, 0, none⟩) n n]).run Try.prog W1 = .ok (goInt (Nat.min n n)) (W1.setRow w.heap.size (splice M 0 (strs B)).toArray) := fun ty =>
    run_copyR (P := Try.prog) W1 50 50 ty 9 i0 1 Try.underlying50 hi hz1 w.heap.size 0 n n ⟨a, 0, none⟩ n n M 9 (strs B) hrow1 (by rw [strs_length, hB]; show n = min n n * 1; omega)
      (fun j v hj => by rw [add_plain, Nat.zero_add, hsrc.at_]; exact hj) (by rw [strs_length, hMl]; omega) (by simp [strs, Value.oneCell'])
  rw [splice_all M (strs B) (by rw [strs_length, hMl, hB])] at hcp
  have hrow2 : Row (W1.setRow w.heap.size (strs B).toArray) w.heap.size 9 (strs B) := hrow1.set _
  have hB2 : Below w.heap.size w (W1.setRow w.heap.size (strs B).toArray) := hB1.trans ⟨rfl, rfl, rfl, by simp [World.setRow], fun k hk => setRow_other _ _ _ _ (by omega)⟩
  subst hW1
  have HCP := Lib.hid hcp
  have HR2 := Lib.hid hrow2
  have HB2 := Lib.hid hB2
  clear hcp hrow2 hB2 hrow1 hB1 hsrc hM hMl hB hr hi hz0 hz1 hz2
  go_enter Try.func50, Try.ntmps50
  go_wp2_with (refine wpList_copyR _ rfl (.tmp 7) (.tmp 8) _ _ rfl _ _ rfl rfl (HCP.out _) ?_)
  go_ret
  exact ⟨rfl, HR2.out, HB2.out⟩

/-- a disk of blocks that lie in a row of their own: it keeps them -/
theorem of_any (a n : Nat) (B : List ByteArray) (w : World) (hr : Row w a 9 (strs B)) (hB : B.length = n) (h0 : 0 < n) (hn : n ≤ 4096) (hs : ∀ s ∈ B, s.size = 512) :
    Calls Try.prog 32 #[.slice (some ⟨a, 0, none⟩) n n] w fun e w' => ∃ p, e = .returned (.pointer (some ⟨p, 0, none⟩)) ∧ IsDisk w' p (fun k => k = a ∨ w.heap.size ≤ k) (D.of B) ∧ w.heap.size ≤ p ∧ Below w.heap.size w w' := by
  have hc := copied_any a n B w hr hB h0 hn
  go_enter Try.func32, Try.ntmps32
  go_wp2_with (go_at_call 50; refine hc.mono ?_; rintro e w1 ⟨rfl, hrow, hB1⟩)
  go_ret
  have hlt := hB1.size
  have hrl := hrow.lt
  obtain ⟨W, hW⟩ : ∃ W, w1.alloc (.cells #[.slice (some ⟨a, 0, none⟩) n n, .slice (some ⟨w.heap.size, 0, none⟩) n n, .slice none 0 0, .int .i64 0, .int .i64 (-1)] 81) = W := ⟨_, rfl⟩
  have hBW : Below w1.heap.size w1 W := by rw [← hW]; exact (Below.refl _ w1).alloc (Nat.le_refl _) _
  have htop : W.heap[w1.heap.size]? = some (.cells #[.slice (some ⟨a, 0, none⟩) n n, .slice (some ⟨w.heap.size, 0, none⟩) n n, .slice none 0 0, .int .i64 0, .int .i64 (-1)] 81) := by rw [← hW]; exact heap_alloc_new w1 _
  subst hB
  refine ⟨w1.heap.size, rfl, ⟨D.of_ok h0 hn hs, a, w.heap.size, .slice none 0 0, ⟨?_, ?_, ?_, World.ownsRow_nil _ _ _ _, by have := hr.lt; omega⟩, ?_⟩, hlt, ?_⟩
  · rw [hW]; exact htop
  · rw [hW]; exact (hr.of_heap (hB1.block a hr.lt)).of_heap (hBW.block a (by have := hr.lt; omega))
  · rw [hW]; exact hrow.of_heap (hBW.block _ hrl)
  · rintro k (rfl | rfl | rfl | hk)
    · exact .inr hlt
    · exact .inl rfl
    · exact .inr (Nat.le_refl _)
    · simp [Value.ownBlock] at hk
  · rw [hW]; exact hB1.trans (hBW.mono hlt)
end
end Go.Proofs.Ytghonccffmmjhaa.Disk
/- The library's Repeat of one text, and New: a disk of bytes 0. -/
namespace Go.Proofs.Ytghonccffmmjhaa.Disk
open Go.RowKit Go.Shelf
set_option linter.unusedVariables false

section
set_option maxRecDepth 100000
theorem mul64_one (n : Nat) (w : World) (hn : n < 4294967296) : Calls Try.prog 71 #[.int .u64 1, .int .u64 n] w fun e w' => e = .returned (.tuple #[.int .u64 0, .int .u64 n]) ∧ w = w' := by
  have h0 : bits BinOp.and IntKind.u64 (n : Int) 4294967295 = (n : Int) := by rw [Mul64.maskN n (by omega)]; omega
  have h1 : (n : Int) / 4294967296 = 0 := by omega
  have h3 : bits BinOp.and IntKind.u64 1 4294967295 = 1 := Mul64.maskN 1 (by omega)
  have h4 : bits BinOp.and IntKind.u64 0 4294967295 = 0 := Mul64.maskN 0 (by omega)
  have h5 : IntKind.u64.wrap 0 = 0 := rfl
  have h2 : IntKind.u64.wrap (n : Int) = (n : Int) := by rw [IntKind.wrap_u64]; omega
  go_enter Try.func71, Try.ntmps71
  go_wp2
  go_ret2
  exact ⟨rfl, rfl⟩
theorem mul_one (n : Nat) (w : World) (hn : n < 4294967296) : Calls Try.prog 58 #[.int .u64 1, .int .u64 n] w fun e w' => e = .returned (.tuple #[.int .u64 0, .int .u64 n]) ∧ w = w' := by
  have hc := mul64_one n w hn
  go_enter Try.func58, Try.ntmps58
  go_wp2_with (go_at_call 71; refine hc.mono ?_; rintro e w' ⟨rfl, rfl⟩)
  go_ret2
  exact ⟨rfl, rfl⟩

theorem take_splice (cur : List Value) (k m : Nat) (v : Value) (h : cur.take k = List.replicate k v) (hk : k + m ≤ cur.length) : (splice cur k (List.replicate m v)).take (k + m) = List.replicate (k + m) v := by
  rw [splice, h, ← List.append_assoc, List.take_append_of_le_length (by simp), List.take_of_length_le (by simp)]
  exact List.replicate_append_replicate
def RepI (w : World) (n : Nat) (s : ByteArray) (k : Nat) (wr : World) : Prop := ∃ cur, Row wr w.heap.size 9 cur ∧ cur.length = n ∧ cur.take k = List.replicate k (.string s) ∧ Below w.heap.size w wr
set_option maxHeartbeats 1000000 in
theorem repeat_any (g n : Nat) (s : ByteArray) (w : World) (hg : w.cell? ⟨g, 0, none⟩ = some (.string s)) (h1 : 1 ≤ n) (hn : n ≤ 4096) :
    Calls Try.prog 33 #[.slice (some ⟨g, 0, none⟩) 1 1, .int .i64 n] w fun e w' => e = .returned (.slice (some ⟨w.heap.size, 0, none⟩) n n) ∧ Row w' w.heap.size 9 (strs (List.replicate n s)) ∧ Below w.heap.size w w' := by
  obtain ⟨i0, hi, hz0, hz1, hz2⟩ := info_parts infoS
  obtain ⟨M, hM⟩ : ∃ M : List Value, M = (madeCells #[Value.string ByteArray.empty] n).toList := ⟨_, rfl⟩
  have hMl : M.length = n := by rw [hM, Array.length_toList, size_madeCells]
  have hmk : ∀ W : World, (Instr.makeSlice 50 (.int .i64 (n : Int)) (.int .i64 (n : Int))).run Try.prog W = .ok (.slice (some ⟨W.heap.size, 0, none⟩) n n) (W.alloc (.cells M.toArray 9)) := fun W => by
    rw [hM, Array.toArray_toList]
    exact run_make_row' (P := Try.prog) 50 9 (.string ByteArray.empty) 16 Try.underlying50 infoS rfl .i64 .i64 n (by omega) (by omega) W
  have hrow1 : Row (w.alloc (.cells M.toArray 9)) w.heap.size 9 M := heap_alloc_new w _
  have hB1 : Below w.heap.size w (w.alloc (.cells M.toArray 9)) := (Below.refl _ w).alloc (Nat.le_refl _) _
  have hgl : g < w.heap.size := World.block_lt_of_cell? _ _ hg
  have hmin : Nat.min 1 n = 1 := by show min 1 n = 1; omega
  have hcp : ∀ ty, (Builtin.copy_ #[50, 50] ty #[.slice (some ⟨w.heap.size, 0, none⟩) n n, .slice (some ⟨g, 0, none⟩) 1 1]).run Try.prog (w.alloc (.cells M.toArray 9)) = .ok (goInt 1) ((w.alloc (.cells M.toArray 9)).setRow w.heap.size (splice M 0 (List.replicate 1 (.string s))).toArray) := fun ty => by
    have := run_copyR (P := Try.prog) (w.alloc (.cells M.toArray 9)) 50 50 ty 9 i0 1 Try.underlying50 hi hz1 w.heap.size 0 n n ⟨g, 0, none⟩ 1 1 M 9 (List.replicate 1 (.string s)) hrow1 (by rw [hmin]; simp)
      (fun j v hj => by
        cases j with
        | zero => rw [add_plain]; simp at hj; subst hj; exact (hB1.cell (p := ⟨g, 0, none⟩) hgl).trans hg
        | succ j => simp at hj) (by simp [hMl]; omega) (by simp [Value.oneCell'])
    rwa [hmin] at this
  have h0 : RepI w n s 1 ((w.alloc (.cells M.toArray 9)).setRow w.heap.size (splice M 0 (List.replicate 1 (.string s))).toArray) :=
    ⟨_, hrow1.set _, by rw [length_splice _ _ _ (by simp [hMl]; omega), hMl], by have := take_splice M 0 1 (.string s) (by simp) (by omega); simpa using this, hB1.trans ⟨rfl, rfl, rfl, by simp [World.setRow], fun k hk => setRow_other _ _ _ _ (by omega)⟩⟩
  have HCP := Lib.hid hcp
  have H0 := Lib.hid h0
  have hmul := fun W => mul_one n W (by omega)
  have HMul := Lib.hid hmul
  have w1 : IntKind.u64.wrap (n : Int) = (n : Int) := by rw [IntKind.wrap_u64]; omega
  have w2 : IntKind.i64.wrap (n : Int) = (n : Int) := IntWalk.i64_in _ (by omega)
  clear hcp h0 hrow1 hB1 hM hMl hmul hmin hg
  go_enter Try.func33, Try.ntmps33
  go_wp2_with (first
    | (go_at_call 58; refine (HMul.out _).mono ?_; rintro e w' ⟨rfl, rfl⟩)
    | (refine wpList_copyR _ rfl (.tmp 31) (.tmp 32) _ _ rfl _ _ rfl rfl (HCP.out _) ?_))
  clear w1 w2
  go_loopw [8] (fun i wr => ∃ k : Nat, 1 ≤ k ∧ k ≤ n ∧ i = .int .i64 k ∧ RepI w n s k wr) (fun i _ => n - (intOf i).toNat)
  case atStart => exact ⟨1, Nat.le_refl _, h1, rfl, H0.out⟩
  case round =>
    obtain ⟨k, hk1, hk, rfl, cur, hrow, hlen, htk, hB⟩ := hrel
    by_cases hlt : k < n
    · obtain ⟨m, hm⟩ : ∃ m, Nat.min k (n - k) = m := ⟨_, rfl⟩
      have hm' : min k (n - k) = m := hm
      have hm1 : 1 ≤ m := by omega
      have hm2 : m ≤ k := by omega
      have hm3 : k + m ≤ n := by omega
      have hcp : ∀ ty, (Builtin.copy_ #[50, 50] ty #[.slice (some ⟨w.heap.size, k, none⟩) (n - k) (n - k), .slice (some ⟨w.heap.size, 0, none⟩) k n]).run Try.prog wr.drew = .ok (.int .i64 (m : Int)) (wr.drew.setRow w.heap.size (splice cur k (List.replicate m (.string s))).toArray) := fun ty => by
        have := run_copyR (P := Try.prog) wr.drew 50 50 ty 9 i0 1 Try.underlying50 hi hz1 w.heap.size k (n - k) (n - k) ⟨w.heap.size, 0, none⟩ k n cur 9 (List.replicate m (.string s)) hrow (by rw [hm]; simp)
          (fun j v hj => by
            have hjl := (List.getElem?_eq_some_iff.1 hj).1
            rw [List.length_replicate] at hjl
            rw [add_plain, Nat.zero_add]
            show wr.cell? _ = _
            rw [hrow.at_]
            have h2 : (cur.take k)[j]? = some (.string s) := by rw [htk, List.getElem?_replicate, if_pos (by omega)]
            rw [List.getElem?_take, if_pos (by omega)] at h2
            rw [h2]
            rw [List.getElem?_replicate, if_pos hjl] at hj
            exact hj) (by simp; omega) (by simp [Value.oneCell'])
        rwa [hm] at this
      have hnext : RepI w n s (k + m) ((wr.drew).setRow w.heap.size (splice cur k (List.replicate m (.string s))).toArray) :=
        ⟨_, Row.set (w := wr.drew) hrow _, by rw [length_splice _ _ _ (by simp; omega), hlen], take_splice cur k m _ htk (by omega), hB.trans ⟨rfl, rfl, rfl, by simp [World.setRow], fun q hq => setRow_other _ _ _ _ (by omega)⟩⟩
      have HCK := Lib.hid hcp
      have HNX := Lib.hid hnext
      have hsum : IntKind.i64.wrap ((k : Int) + (m : Int)) = (k : Int) + (m : Int) := IntWalk.i64_in _ (by omega)
      have hnk : ¬ n = k := by omega
      have hkle : k ≤ n := by omega
      clear hcp hnext hrow hlen htk hB hm hm'
      go_wp2
      go_region_law (refine step_copyR rfl (.tmp 41) (.tmp 44) 50 50 rfl (.slice (some ⟨w.heap.size, k, none⟩) (n - k) (n - k)) (.slice (some ⟨w.heap.size, 0, none⟩) k n) (by simp [Act.eval, Act.put]) (by simp [Act.eval, Act.put]) (HCK.out _) ?_)
      simp only [Act.put]
      go_simp
      go_wp2
      go_roundw
      case rel => exact ⟨k + m, by omega, hm3, by go_num, HNX.out⟩
      case measure => simp [intOf]; omega
    · obtain rfl : n = k := by omega
      go_wp2
      go_ret
      rw [List.take_of_length_le (by omega)] at htk
      exact ⟨rfl, by rw [htk] at hrow; simpa [strs] using hrow, hB⟩

/-- a block of bytes 0 -/
def zblock : ByteArray := fit ⟨#[]⟩
theorem zblock_size : zblock.size = 512 := fit_size _ (by decide)
theorem new_no (n : Int) (w : World) (h : ¬ sizeOk n) : Calls Try.prog 9 #[.int .i64 n] w fun e w' => e = .returned (.tuple #[.pointer none, .int .i64 40]) ∧ w = w' := by
  have hc := isSize_no n w h
  clear h
  go_enter Try.func9, Try.ntmps9
  go_wp2_with (go_at_call 31; refine hc.mono ?_; rintro e w' ⟨rfl, rfl⟩)
  go_ret2
  exact ⟨rfl, rfl⟩
/-- a disk of so many blocks of bytes 0 -/
def NewPost (n : Nat) (w : World) (e : Ending) (w' : World) : Prop := ∃ p, e = .returned (.tuple #[.pointer (some ⟨p, 0, none⟩), .int .i64 0]) ∧ IsDisk w' p (fun k => w.heap.size ≤ k) (D.of (List.replicate n zblock)) ∧ w.heap.size ≤ p ∧ Below w.heap.size w w'
theorem new_yes (n : Nat) (w : World) (h : sizeOk n) : Calls Try.prog 9 #[.int .i64 n] w (NewPost n w) := by
  have hc := isSize_yes n w h
  obtain ⟨h1, h2, _⟩ := h
  have hf : Calls Try.prog 34 #[.string ⟨#[]⟩] w fun e w' => e = .returned (.string zblock) ∧ Below w.heap.size w w' := fitted_any ⟨#[]⟩ w (by decide)
  have hrp := fun g W hg => repeat_any g n zblock W hg (by omega) (by omega)
  have hof := fun g W hr => of_any g n (List.replicate n zblock) W hr (by simp) (by omega) (by omega) (fun s hs => by rw [List.eq_of_mem_replicate hs]; exact zblock_size)
  clear h1 h2
  go_enter Try.func9, Try.ntmps9
  go_wp2_with (first
    | (go_at_call 31; refine hc.mono ?_; rintro e w' ⟨rfl, rfl⟩)
    | (go_at_call 34; refine hf.mono ?_; rintro e w1 ⟨rfl, hB1⟩)
    | (go_at_call 33; refine (hrp _ _ (cell_of_one (heap_alloc_new w1 _))).mono ?_; rintro e w2 ⟨rfl, hr2, hB2⟩; rw [World.size_alloc] at hr2)
    | (go_at_call 32; refine (hof _ _ hr2).mono ?_; rintro e w3 ⟨p, rfl, hd, hp, hB3⟩))
  go_ret2
  have e1 : w.heap.size ≤ w1.heap.size := hB1.size
  have e2 : w1.heap.size + 1 ≤ w2.heap.size := by have := hB2.size; rwa [World.size_alloc] at this
  have hBa : Below w.heap.size w (w1.alloc (.cells #[.string zblock] 9)) := hB1.alloc e1 _
  refine ⟨p, rfl, ⟨hd.ok, ?_⟩, by omega, (hBa.trans (hB2.mono (by rw [World.size_alloc]; omega))).trans (hB3.mono (by omega))⟩
  obtain ⟨a, b, v, hA, hF⟩ := hd.mem
  refine ⟨a, b, v, hA, fun k hk => ?_⟩
  rcases hF k hk with h | h
  · omega
  · omega
end
end Go.Proofs.Ytghonccffmmjhaa.Disk
