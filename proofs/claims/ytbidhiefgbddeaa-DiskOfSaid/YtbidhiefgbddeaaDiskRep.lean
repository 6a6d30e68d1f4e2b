/- The library's Repeat of one text, and New: a disk of bytes 0. -/
import Derived.Shelf.Bits.Mul64
import Derived.Test.YtbidhiefgbddeaaDiskNew
namespace Go.Proofs.Ytbidhiefgbddeaa.Disk
open Go.RowKit Go.Shelf
set_option linter.unusedVariables false

section
set_option maxRecDepth 100000
theorem mul64_one (n : Nat) (w : World) (hn : n < 4294967296) : Calls Try.prog 55 #[.int .u64 1, .int .u64 n] w fun e w' => e = .returned (.tuple #[.int .u64 0, .int .u64 n]) ∧ w = w' := by
  have h0 : bits BinOp.and IntKind.u64 (n : Int) 4294967295 = (n : Int) := by rw [Mul64.maskN n (by omega)]; omega
  have h1 : (n : Int) / 4294967296 = 0 := by omega
  have h3 : bits BinOp.and IntKind.u64 1 4294967295 = 1 := Mul64.maskN 1 (by omega)
  have h4 : bits BinOp.and IntKind.u64 0 4294967295 = 0 := Mul64.maskN 0 (by omega)
  have h5 : IntKind.u64.wrap 0 = 0 := rfl
  have h2 : IntKind.u64.wrap (n : Int) = (n : Int) := by rw [IntKind.wrap_u64]; omega
  go_enter Try.func55, Try.ntmps55
  go_wp2
  go_ret2
  exact ⟨rfl, rfl⟩
theorem mul_one (n : Nat) (w : World) (hn : n < 4294967296) : Calls Try.prog 49 #[.int .u64 1, .int .u64 n] w fun e w' => e = .returned (.tuple #[.int .u64 0, .int .u64 n]) ∧ w = w' := by
  have hc := mul64_one n w hn
  go_enter Try.func49, Try.ntmps49
  go_wp2_with (go_at_call 55; refine hc.mono ?_; rintro e w' ⟨rfl, rfl⟩)
  go_ret2
  exact ⟨rfl, rfl⟩

theorem take_splice (cur : List Value) (k m : Nat) (v : Value) (h : cur.take k = List.replicate k v) (hk : k + m ≤ cur.length) : (splice cur k (List.replicate m v)).take (k + m) = List.replicate (k + m) v := by
  rw [splice, h, ← List.append_assoc, List.take_append_of_le_length (by simp), List.take_of_length_le (by simp)]
  exact List.replicate_append_replicate
def RepI (w : World) (n : Nat) (s : ByteArray) (k : Nat) (wr : World) : Prop := ∃ cur, Row wr w.heap.size 9 cur ∧ cur.length = n ∧ cur.take k = List.replicate k (.string s) ∧ Below w.heap.size w wr
set_option maxHeartbeats 1000000 in
theorem repeat_any (g n : Nat) (s : ByteArray) (w : World) (hg : w.cell? ⟨g, 0, none⟩ = some (.string s)) (h1 : 1 ≤ n) (hn : n ≤ 4096) :
    Calls Try.prog 30 #[.slice (some ⟨g, 0, none⟩) 1 1, .int .i64 n] w fun e w' => e = .returned (.slice (some ⟨w.heap.size, 0, none⟩) n n) ∧ Row w' w.heap.size 9 (strs (List.replicate n s)) ∧ Below w.heap.size w w' := by
  obtain ⟨i0, hi, hz0, hz1, hz2⟩ := info_parts infoS
  obtain ⟨M, hM⟩ : ∃ M : List Value, M = (madeCells #[Value.string ByteArray.empty] n).toList := ⟨_, rfl⟩
  have hMl : M.length = n := by rw [hM, Array.length_toList, size_madeCells]
  have hmk : ∀ W : World, (Instr.makeSlice 39 (.int .i64 (n : Int)) (.int .i64 (n : Int))).run Try.prog W = .ok (.slice (some ⟨W.heap.size, 0, none⟩) n n) (W.alloc (.cells M.toArray 9)) := fun W => by
    rw [hM, Array.toArray_toList]
    exact run_make_row' (P := Try.prog) 39 9 (.string ByteArray.empty) 16 Try.underlying39 infoS rfl .i64 .i64 n (by omega) (by omega) W
  have hrow1 : Row (w.alloc (.cells M.toArray 9)) w.heap.size 9 M := heap_alloc_new w _
  have hB1 : Below w.heap.size w (w.alloc (.cells M.toArray 9)) := (Below.refl _ w).alloc (Nat.le_refl _) _
  have hgl : g < w.heap.size := World.block_lt_of_cell? _ _ hg
  have hmin : Nat.min 1 n = 1 := by show min 1 n = 1; omega
  have hcp : ∀ ty, (Builtin.copy_ #[39, 39] ty #[.slice (some ⟨w.heap.size, 0, none⟩) n n, .slice (some ⟨g, 0, none⟩) 1 1]).run Try.prog (w.alloc (.cells M.toArray 9)) = .ok (goInt 1) ((w.alloc (.cells M.toArray 9)).setRow w.heap.size (splice M 0 (List.replicate 1 (.string s))).toArray) := fun ty => by
    have := run_copyR (P := Try.prog) (w.alloc (.cells M.toArray 9)) 39 39 ty 9 i0 1 Try.underlying39 hi hz1 w.heap.size 0 n n ⟨g, 0, none⟩ 1 1 M 9 (List.replicate 1 (.string s)) hrow1 (by rw [hmin]; simp)
      (fun j v hj => by
        cases j with
        | zero => rw [add_plain]; simp at hj; subst hj; exact (hB1.cell (p := ⟨g, 0, none⟩) hgl).trans hg
        | succ j => simp at hj) (by simp [hMl]; omega) (by simp [Value.oneCell'])
    rwa [hmin] at this
  have h0 : RepI w n s 1 ((w.alloc (.cells M.toArray 9)).setRow w.heap.size (splice M 0 (List.replicate 1 (.string s))).toArray) :=
    ⟨_, hrow1.set _, by rw [length_splice _ _ _ (by simp [hMl]; omega), hMl], by have := take_splice M 0 1 (.string s) (by simp) (by omega); simpa using this, hB1.trans ⟨rfl, rfl, rfl, by simp [World.setRow], fun k hk => setRow_other _ _ _ _ (by omega)⟩⟩
  have HCP := Lib.hid hcp
  have H0 := Lib.hid h0
  have hmul := fun W => mul_one n W (by omega)
  have HMul := Lib.hid hmul
  have w1 : IntKind.u64.wrap (n : Int) = (n : Int) := by rw [IntKind.wrap_u64]; omega
  have w2 : IntKind.i64.wrap (n : Int) = (n : Int) := IntWalk.i64_in _ (by omega)
  clear hcp h0 hrow1 hB1 hM hMl hmul hmin hg
  go_enter Try.func30, Try.ntmps30
  go_wp2_with (first
    | (go_at_call 49; refine (HMul.out _).mono ?_; rintro e w' ⟨rfl, rfl⟩)
    | (refine wpList_copyR _ rfl (.tmp 31) (.tmp 32) _ _ rfl _ _ rfl rfl (HCP.out _) ?_))
  clear w1 w2
  go_loopw [8] (fun i wr => ∃ k : Nat, 1 ≤ k ∧ k ≤ n ∧ i = .int .i64 k ∧ RepI w n s k wr) (fun i _ => n - (intOf i).toNat)
  case atStart => exact ⟨1, Nat.le_refl _, h1, rfl, H0.out⟩
  case round =>
    obtain ⟨k, hk1, hk, rfl, cur, hrow, hlen, htk, hB⟩ := hrel
    by_cases hlt : k < n
    · obtain ⟨m, hm⟩ : ∃ m, Nat.min k (n - k) = m := ⟨_, rfl⟩
      have hm' : min k (n - k) = m := hm
      have hm1 : 1 ≤ m := by omega
      have hm2 : m ≤ k := by omega
      have hm3 : k + m ≤ n := by omega
      have hcp : ∀ ty, (Builtin.copy_ #[39, 39] ty #[.slice (some ⟨w.heap.size, k, none⟩) (n - k) (n - k), .slice (some ⟨w.heap.size, 0, none⟩) k n]).run Try.prog wr.drew = .ok (.int .i64 (m : Int)) (wr.drew.setRow w.heap.size (splice cur k (List.replicate m (.string s))).toArray) := fun ty => by
        have := run_copyR (P := Try.prog) wr.drew 39 39 ty 9 i0 1 Try.underlying39 hi hz1 w.heap.size k (n - k) (n - k) ⟨w.heap.size, 0, none⟩ k n cur 9 (List.replicate m (.string s)) hrow (by rw [hm]; simp)
          (fun j v hj => by
            have hjl := (List.getElem?_eq_some_iff.1 hj).1
            rw [List.length_replicate] at hjl
            rw [add_plain, Nat.zero_add]
            show wr.cell? _ = _
            rw [hrow.at_]
            have h2 : (cur.take k)[j]? = some (.string s) := by rw [htk, List.getElem?_replicate, if_pos (by omega)]
            rw [List.getElem?_take, if_pos (by omega)] at h2
            rw [h2]
            rw [List.getElem?_replicate, if_pos hjl] at hj
            exact hj) (by simp; omega) (by simp [Value.oneCell'])
        rwa [hm] at this
      have hnext : RepI w n s (k + m) ((wr.drew).setRow w.heap.size (splice cur k (List.replicate m (.string s))).toArray) :=
        ⟨_, Row.set (w := wr.drew) hrow _, by rw [length_splice _ _ _ (by simp; omega), hlen], take_splice cur k m _ htk (by omega), hB.trans ⟨rfl, rfl, rfl, by simp [World.setRow], fun q hq => setRow_other _ _ _ _ (by omega)⟩⟩
      have HCK := Lib.hid hcp
      have HNX := Lib.hid hnext
      have hsum : IntKind.i64.wrap ((k : Int) + (m : Int)) = (k : Int) + (m : Int) := IntWalk.i64_in _ (by omega)
      have hnk : ¬ n = k := by omega
      have hkle : k ≤ n := by omega
      clear hcp hnext hrow hlen htk hB hm hm'
      go_wp2
      go_region_law (refine step_copyR rfl (.tmp 41) (.tmp 44) 39 39 rfl (.slice (some ⟨w.heap.size, k, none⟩) (n - k) (n - k)) (.slice (some ⟨w.heap.size, 0, none⟩) k n) (by simp [Act.eval, Act.put]) (by simp [Act.eval, Act.put]) (HCK.out _) ?_)
      simp only [Act.put]
      go_simp
      go_wp2
      go_roundw
      case rel => exact ⟨k + m, by omega, hm3, by go_num, HNX.out⟩
      case measure => simp [intOf]; omega
    · obtain rfl : n = k := by omega
      go_wp2
      go_ret
      rw [List.take_of_length_le (by omega)] at htk
      exact ⟨rfl, by rw [htk] at hrow; simpa [strs] using hrow, hB⟩

/-- a block of bytes 0 -/
def zblock : ByteArray := fit ⟨#[]⟩
theorem zblock_size : zblock.size = 512 := fit_size _ (by decide)
theorem new_no (n : Int) (w : World) (h : ¬ sizeOk n) : Calls Try.prog 10 #[.int .i64 n] w fun e w' => e = .returned (.tuple #[.pointer none, .int .i64 40]) ∧ w = w' := by
  have hc := isSize_no n w h
  clear h
  go_enter Try.func10, Try.ntmps10
  go_wp2_with (go_at_call 28; refine hc.mono ?_; rintro e w' ⟨rfl, rfl⟩)
  go_ret2
  exact ⟨rfl, rfl⟩
/-- a disk of so many blocks of bytes 0 -/
def NewPost (n : Nat) (w : World) (e : Ending) (w' : World) : Prop := ∃ p, e = .returned (.tuple #[.pointer (some ⟨p, 0, none⟩), .int .i64 0]) ∧ IsDisk w' p (fun k => w.heap.size ≤ k) (D.of (List.replicate n zblock)) ∧ w.heap.size ≤ p ∧ Below w.heap.size w w'
theorem new_yes (n : Nat) (w : World) (h : sizeOk n) : Calls Try.prog 10 #[.int .i64 n] w (NewPost n w) := by
  have hc := isSize_yes n w h
  obtain ⟨h1, h2, _⟩ := h
  have hf : Calls Try.prog 31 #[.string ⟨#[]⟩] w fun e w' => e = .returned (.string zblock) ∧ Below w.heap.size w w' := fitted_any ⟨#[]⟩ w (by decide)
  have hrp := fun g W hg => repeat_any g n zblock W hg (by omega) (by omega)
  have hof := fun g W hr => of_any g n (List.replicate n zblock) W hr (by simp) (by omega) (by omega) (fun s hs => by rw [List.eq_of_mem_replicate hs]; exact zblock_size)
  clear h1 h2
  go_enter Try.func10, Try.ntmps10
  go_wp2_with (first
    | (go_at_call 28; refine hc.mono ?_; rintro e w' ⟨rfl, rfl⟩)
    | (go_at_call 31; refine hf.mono ?_; rintro e w1 ⟨rfl, hB1⟩)
    | (go_at_call 30; refine (hrp _ _ (cell_of_one (heap_alloc_new w1 _))).mono ?_; rintro e w2 ⟨rfl, hr2, hB2⟩; rw [World.size_alloc] at hr2)
    | (go_at_call 29; refine (hof _ _ hr2).mono ?_; rintro e w3 ⟨p, rfl, hd, hp, hB3⟩))
  go_ret2
  have e1 : w.heap.size ≤ w1.heap.size := hB1.size
  have e2 : w1.heap.size + 1 ≤ w2.heap.size := by have := hB2.size; rwa [World.size_alloc] at this
  have hBa : Below w.heap.size w (w1.alloc (.cells #[.string zblock] 9)) := hB1.alloc e1 _
  refine ⟨p, rfl, ⟨hd.ok, ?_⟩, by omega, (hBa.trans (hB2.mono (by rw [World.size_alloc]; omega))).trans (hB3.mono (by omega))⟩
  obtain ⟨a, b, v, hA, hF⟩ := hd.mem
  refine ⟨a, b, v, hA, fun k hk => ?_⟩
  rcases hF k hk with h | h
  · omega
  · omega
end
end Go.Proofs.Ytbidhiefgbddeaa.Disk
