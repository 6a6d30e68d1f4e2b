/- Several texts in one, each under its own heading. -/
import Derived.Test.YtghonccffmmjhaaPk08
import Derived.Test.YtghonccffmmjhaaPk19
import Derived.Test.YtghonccffmmjhaaPk20
/- A log of the program as it lies in memory, and its small calls. -/
namespace Go.Proofs.Ytghonccffmmjhaa.Log
open Go.RowKit Go.Shelf
open Disk (D IsDisk)
open Record (Ans roomV)
attribute [local go_sem] Oper.semAt_some
set_option linter.unusedVariables false

def boxL (p : Nat) (l : Lg) : Obj := .cells #[.pointer (some ⟨p, 0, none⟩), .int .i64 (l.at_ : Int), .int .u64 (l.seq : Int), .int .i64 (l.next : Int)] 78
/-- a log at q, on the disk at p -/
def LAt (W : World) (q p : Nat) (l : Lg) : Prop := W.heap[q]? = some (.cells #[.pointer (some ⟨p, 0, none⟩), .int .i64 (l.at_ : Int), .int .u64 (l.seq : Int), .int .i64 (l.next : Int)] 78 (0, 0))
namespace LAt
variable {W W' : World} {q p : Nat} {l : Lg}
theorem c (h : LAt W q p l) : W.cell? ⟨q, 0, none⟩ = some (.pointer (some ⟨p, 0, none⟩)) ∧ W.cell? ⟨q, 1, none⟩ = some (.int .i64 (l.at_ : Int)) ∧ W.cell? ⟨q, 2, none⟩ = some (.int .u64 (l.seq : Int)) ∧ W.cell? ⟨q, 3, none⟩ = some (.int .i64 (l.next : Int)) := by
  unfold LAt at h
  simp only [World.cell?, h]
  exact ⟨rfl, rfl, rfl, rfl⟩
theorem f (h : LAt W q p l) (i : Nat) : W.frozen? ⟨q, i, none⟩ = false := by
  unfold LAt at h
  simp [World.frozen?, h]
theorem lt (h : LAt W q p l) : q < W.heap.size := (Array.getElem?_eq_some_iff.1 h).1
theorem th (h : LAt W q p l) (hB : Below W.heap.size W W') : LAt W' q p l := (hB.block q h.lt).trans h
theorem of_heap (h : LAt W q p l) (hb : W'.heap[q]? = W.heap[q]?) : LAt W' q p l := hb.trans h
theorem new (w : World) (p : Nat) (l : Lg) : LAt (w.alloc (boxL p l)) w.heap.size p l := World.alloc_heap_new w _
theorem set1 (h : LAt W q p l) (a : Nat) : LAt (W.setCell ⟨q, 1, none⟩ (.int .i64 (a : Int))) q p ⟨a, l.seq, l.next⟩ := by
  unfold LAt at h ⊢
  rw [heap_setCell_same _ _ _ _ _ _ h]; simp
theorem set2 (h : LAt W q p l) (s : Nat) : LAt (W.setCell ⟨q, 2, none⟩ (.int .u64 (s : Int))) q p ⟨l.at_, s, l.next⟩ := by
  unfold LAt at h ⊢
  rw [heap_setCell_same _ _ _ _ _ _ h]; simp
theorem set3 (h : LAt W q p l) (n : Nat) : LAt (W.setCell ⟨q, 3, none⟩ (.int .i64 (n : Int))) q p ⟨l.at_, l.seq, n⟩ := by
  unfold LAt at h ⊢
  rw [heap_setCell_same _ _ _ _ _ _ h]; simp
end LAt

section
set_option maxRecDepth 100000
theorem isNone_nil (w : World) : Calls Try.prog 39 #[.pointer none] w fun e w' => e = .returned (.bool true) ∧ w = w' := by
  go_enter Try.func39, Try.ntmps39
  go_wp2
  go_ret
  exact ⟨rfl, rfl⟩
theorem isNone_not {w : World} {q p : Nat} {l : Lg} (h : LAt w q p l) : Calls Try.prog 39 #[.pointer (some ⟨q, 0, none⟩)] w fun e w' => e = .returned (.bool false) ∧ w = w' := by
  obtain ⟨c0, _⟩ := h.c
  go_enter Try.func39, Try.ntmps39
  go_wp2
  go_ret
  exact ⟨rfl, rfl⟩
theorem at_nil (w : World) : Calls Try.prog 17 #[.pointer none] w fun e w' => e = .returned (.int .i64 0) ∧ w = w' := by
  have hc := isNone_nil w
  go_enter Try.func17, Try.ntmps17
  go_wp2_with (go_at_call 39; refine hc.mono ?_; rintro e w' ⟨rfl, rfl⟩)
  go_ret
  exact ⟨rfl, rfl⟩
theorem seq_nil (w : World) : Calls Try.prog 21 #[.pointer none] w fun e w' => e = .returned (.int .u64 0) ∧ w = w' := by
  have hc := isNone_nil w
  go_enter Try.func21, Try.ntmps21
  go_wp2_with (go_at_call 39; refine hc.mono ?_; rintro e w' ⟨rfl, rfl⟩)
  go_ret
  exact ⟨rfl, rfl⟩
theorem next_nil (w : World) : Calls Try.prog 13 #[.pointer none] w fun e w' => e = .returned (.int .i64 0) ∧ w = w' := by
  have hc := isNone_nil w
  go_enter Try.func13, Try.ntmps13
  go_wp2_with (go_at_call 39; refine hc.mono ?_; rintro e w' ⟨rfl, rfl⟩)
  go_ret
  exact ⟨rfl, rfl⟩
theorem room_nil (w : World) : Calls Try.prog 16 #[.pointer none] w fun e w' => e = .returned (.int .i64 0) ∧ w = w' := by
  have hc := isNone_nil w
  go_enter Try.func16, Try.ntmps16
  go_wp2_with (go_at_call 39; refine hc.mono ?_; rintro e w' ⟨rfl, rfl⟩)
  go_ret
  exact ⟨rfl, rfl⟩
theorem setNext_nil (n : Int) (w : World) : Calls Try.prog 14 #[.pointer none, .int .i64 n] w fun e w' => e = .returned (.int .i64 1) ∧ w = w' := by
  have hc := isNone_nil w
  go_enter Try.func14, Try.ntmps14
  go_wp2_with (go_at_call 39; refine hc.mono ?_; rintro e w' ⟨rfl, rfl⟩)
  go_ret
  exact ⟨rfl, rfl⟩
theorem write_nil (cp : Int) (v : Value) (a b : Bool) (w : World) : Calls Try.prog 18 #[.pointer none, .int .u64 cp, v, .bool a, .bool b] w fun e w' => e = .returned (.tuple #[.slice none 0 0, .int .i64 1]) ∧ Below w.heap.size w w' := by
  have hc := isNone_nil (w.alloc (.cells #[.pointer none] 31))
  go_enter Try.func18, Try.ntmps18
  go_wp2_with (go_at_call 39; refine hc.mono ?_; rintro e w' ⟨rfl, rfl⟩)
  go_ret2
  exact ⟨rfl, (Below.refl _ _).alloc (Nat.le_refl _) _⟩

variable {w : World} {q p : Nat} {l : Lg} {F : Nat → Prop} {d : D}
theorem at_l (h : LAt w q p l) : Calls Try.prog 17 #[.pointer (some ⟨q, 0, none⟩)] w fun e w' => e = .returned (.int .i64 (l.at_ : Int)) ∧ w = w' := by
  have hc := isNone_not h
  obtain ⟨c0, c1, c2, c3⟩ := h.c
  go_enter Try.func17, Try.ntmps17
  go_wp2_with (go_at_call 39; refine hc.mono ?_; rintro e w' ⟨rfl, rfl⟩)
  go_ret
  exact ⟨rfl, rfl⟩
theorem seq_l (h : LAt w q p l) : Calls Try.prog 21 #[.pointer (some ⟨q, 0, none⟩)] w fun e w' => e = .returned (.int .u64 (l.seq : Int)) ∧ w = w' := by
  have hc := isNone_not h
  obtain ⟨c0, c1, c2, c3⟩ := h.c
  go_enter Try.func21, Try.ntmps21
  go_wp2_with (go_at_call 39; refine hc.mono ?_; rintro e w' ⟨rfl, rfl⟩)
  go_ret
  exact ⟨rfl, rfl⟩
theorem next_l (h : LAt w q p l) : Calls Try.prog 13 #[.pointer (some ⟨q, 0, none⟩)] w fun e w' => e = .returned (.int .i64 (l.next : Int)) ∧ w = w' := by
  have hc := isNone_not h
  obtain ⟨c0, c1, c2, c3⟩ := h.c
  go_enter Try.func13, Try.ntmps13
  go_wp2_with (go_at_call 39; refine hc.mono ?_; rintro e w' ⟨rfl, rfl⟩)
  go_ret
  exact ⟨rfl, rfl⟩
theorem roomV_nat (n : Nat) : roomV (n : Int) = ((15 - n % 16 : Nat) : Int) := by
  rw [Record.roomV_pos (by omega)]
  omega
theorem room_l (h : LAt w q p l) (hl : l.at_ < 4611686018427387904) : Calls Try.prog 16 #[.pointer (some ⟨q, 0, none⟩)] w fun e w' => e = .returned (.int .i64 ((15 - l.at_ % 16 : Nat) : Int)) ∧ w = w' := by
  have hc := isNone_not h
  obtain ⟨c0, c1, c2, c3⟩ := h.c
  have hr := Record.room_any (l.at_ : Int) w (by omega) (by omega)
  rw [roomV_nat] at hr
  go_enter Try.func16, Try.ntmps16
  go_wp2_with (first | (go_at_call 39; refine hc.mono ?_; rintro e w' ⟨rfl, rfl⟩) | (go_at_call 40; refine hr.mono ?_; rintro e w' ⟨rfl, rfl⟩))
  go_ret
  exact ⟨rfl, rfl⟩

/-- is a number 1 or above, and a segment of so many blocks? -/
def segP (nb : Nat) (n : Int) : Prop := 1 ≤ n ∧ n < ((nb / 16 : Nat) : Int)
instance (nb : Nat) (n : Int) : Decidable (segP nb n) := by unfold segP; infer_instance
theorem mayComeNext_any (n : Int) (h : IsDisk w p F d) : Calls Try.prog 37 #[.pointer (some ⟨p, 0, none⟩), .int .i64 n] w fun e w' => e = .returned (.bool (decide (segP d.B.length n))) ∧ w = w' := by
  have hb := Disk.blocks_d h
  have hhi := h.ok.hi
  have hd : ((d.B.length : Nat) : Int).tdiv 16 = ((d.B.length : Nat) : Int) / 16 := by rw [Int.tdiv_eq_ediv_of_nonneg (by omega)]
  obtain ⟨N, hN⟩ : ∃ N, d.B.length = N := ⟨_, rfl⟩
  rw [hN] at hb hd hhi ⊢
  clear hN
  have hx : ((N / 16 : Nat) : Int) = (N : Int) / 16 := by omega
  have HX := Lib.hid hx
  clear hx
  by_cases h1 : 1 ≤ n
  · by_cases h2 : n < (N : Int) / 16
    · have HP := Lib.hid (decide_eq_true (show segP N n from ⟨h1, by rw [HX.out]; exact h2⟩))
      go_enter Try.func37, Try.ntmps37
      go_wp2_with (go_at_call 35; refine hb.mono ?_; rintro e w' ⟨rfl, rfl⟩)
      go_ret
      exact ⟨by rw [HP.out]; rfl, rfl⟩
    · have HP := Lib.hid (decide_eq_false (show ¬ segP N n from fun hh => h2 (by rw [← HX.out]; exact hh.2)))
      have h2' : decide (n < (N : Int) / 16) = false := decide_eq_false h2
      clear h2
      go_enter Try.func37, Try.ntmps37
      go_wp2_with (go_at_call 35; refine hb.mono ?_; rintro e w' ⟨rfl, rfl⟩)
      go_ret
      exact ⟨by rw [HP.out]; rfl, rfl⟩
  · have HP := Lib.hid (decide_eq_false (show ¬ segP N n from fun hh => h1 hh.1))
    go_enter Try.func37, Try.ntmps37
    go_wp2
    go_ret
    exact ⟨by rw [HP.out]; rfl, rfl⟩
/-- may a record stand at a block? -/
def standP (nb : Nat) (n : Int) : Prop := 16 ≤ n ∧ n < (nb : Int) ∧ n % 16 ≠ 15
instance (nb : Nat) (n : Int) : Decidable (standP nb n) := by unfold standP; infer_instance
theorem mayStand_any (n : Int) (hn1 : -9223372036854775808 ≤ n) (hn2 : n ≤ 9223372036854775807) (h : IsDisk w p F d) : Calls Try.prog 36 #[.pointer (some ⟨p, 0, none⟩), .int .i64 n] w fun e w' => e = .returned (.bool (decide (standP d.B.length n))) ∧ w = w' := by
  have hb := Disk.blocks_d h
  have hr := Record.room_any n w hn1 hn2
  obtain ⟨N, hN⟩ : ∃ N, d.B.length = N := ⟨_, rfl⟩
  rw [hN] at hb ⊢
  clear hN
  by_cases h1 : 16 ≤ n
  · rw [Record.roomV_pos (by omega)] at hr
    by_cases h2 : n < (N : Int)
    · by_cases h3 : n % 16 = 15
      · have HP := Lib.hid (decide_eq_false (show ¬ standP N n from fun hh => hh.2.2 h3))
        have h4 : ¬ (15 - n % 16 > 0) := by omega
        have HR := Lib.hid hr
        clear hr
        go_enter Try.func36, Try.ntmps36
        go_wp2_with (first | (go_at_call 35; refine hb.mono ?_; rintro e w' ⟨rfl, rfl⟩) | (go_at_call 40; refine HR.out.mono ?_; rintro e w' ⟨rfl, rfl⟩))
        go_ret
        exact ⟨by rw [HP.out]; simp, rfl⟩
      · have HP := Lib.hid (decide_eq_true (show standP N n from ⟨h1, h2, h3⟩))
        have h4 : 15 - n % 16 > 0 := by omega
        have H4 := Lib.hid h4
        have HR := Lib.hid hr
        clear hr h4
        go_enter Try.func36, Try.ntmps36
        go_wp2_with (first | (go_at_call 35; refine hb.mono ?_; rintro e w' ⟨rfl, rfl⟩) | (go_at_call 40; refine HR.out.mono ?_; rintro e w' ⟨rfl, rfl⟩))
        go_ret
        exact ⟨by have := H4.out; rw [HP.out]; simp; omega, rfl⟩
    · have HP := Lib.hid (decide_eq_false (show ¬ standP N n from fun hh => h2 hh.2.1))
      clear hr
      go_enter Try.func36, Try.ntmps36
      go_wp2_with (go_at_call 35; refine hb.mono ?_; rintro e w' ⟨rfl, rfl⟩)
      go_ret
      exact ⟨by rw [HP.out]; rfl, rfl⟩
  · have HP := Lib.hid (decide_eq_false (show ¬ standP N n from fun hh => h1 hh.1))
    clear hr
    go_enter Try.func36, Try.ntmps36
    go_wp2
    go_ret
    exact ⟨by rw [HP.out]; rfl, rfl⟩

/-- which places, numbers, segments a log may begin with -/
def beginP (nb : Nat) (a s n : Int) : Prop := standP nb a ∧ (1 ≤ s ∧ s < 281474976710656) ∧ (n = 0 ∨ segP nb n)
instance (nb : Nat) (a s n : Int) : Decidable (beginP nb a s n) := by unfold beginP; infer_instance
theorem begin_nil (a s n : Int) (w : World) : Calls Try.prog 10 #[.pointer none, .int .i64 a, .int .u64 s, .int .i64 n] w fun e w' => e = .returned (.tuple #[.pointer none, .int .i64 1]) ∧ w = w' := by
  have hb := Disk.blocks_nil w
  go_enter Try.func10, Try.ntmps10
  go_wp2_with (go_at_call 35; refine hb.mono ?_; rintro e w' ⟨rfl, rfl⟩)
  go_ret2
  exact ⟨rfl, rfl⟩
set_option maxHeartbeats 1000000 in
theorem begin_yes (l : Lg) (h : IsDisk w p F d) (hP : beginP d.B.length l.at_ l.seq l.next) : Calls Try.prog 10 #[.pointer (some ⟨p, 0, none⟩), .int .i64 (l.at_ : Int), .int .u64 (l.seq : Int), .int .i64 (l.next : Int)] w fun e w' => e = .returned (.tuple #[.pointer (some ⟨w.heap.size, 0, none⟩), .int .i64 0]) ∧ w.alloc (boxL p l) = w' := by
  have hb := Disk.blocks_d h
  have hlo := h.ok.lo
  have hhi := h.ok.hi
  obtain ⟨a, s, n⟩ := l
  dsimp only at hP ⊢
  obtain ⟨h1, ⟨h2, h3⟩, h4⟩ := hP
  have hm := mayStand_any (a : Int) (by omega) (by have := h1.2.1; omega) h
  have hn := mayComeNext_any (n : Int) h
  rw [decide_eq_true h1] at hm
  obtain ⟨N, hN⟩ : ∃ N, d.B.length = N := ⟨_, rfl⟩
  rw [hN] at hb hlo hn h4
  have hz : ((N : Int) == 0) = false := by simp; omega
  have h2' : ¬ ((s : Int) < 1) := by omega
  have h3' : decide ((281474976710656 : Int) ≤ (s : Int)) = false := decide_eq_false (by omega)
  have HW : Hid (boxL p ⟨a, s, n⟩ = .cells #[.pointer (some ⟨p, 0, none⟩), .int .i64 (a : Int), .int .u64 (s : Int), .int .i64 (n : Int)] 78) := rfl
  clear h1 hN h2 h3
  by_cases h5 : n = 0
  · subst h5
    have hq : (((0 : Nat) : Int) != 0) = false := by rfl
    clear h4
    go_enter Try.func10, Try.ntmps10
    go_wp2_with (first | (go_at_call 35; refine hb.mono ?_; rintro e w' ⟨rfl, rfl⟩) | (go_at_call 36; refine hm.mono ?_; rintro e w' ⟨rfl, rfl⟩))
    go_ret2
    exact ⟨rfl, rfl⟩
  · have h6 : segP N n := h4.resolve_left (by omega)
    rw [decide_eq_true h6] at hn
    have hq : ((n : Int) != 0) = true := by simp; omega
    have hq2 : ((n : Int) == 0) = false := by simp; omega
    clear h4 h6 h5
    go_enter Try.func10, Try.ntmps10
    go_wp2_with (first | (go_at_call 35; refine hb.mono ?_; rintro e w' ⟨rfl, rfl⟩) | (go_at_call 36; refine hm.mono ?_; rintro e w' ⟨rfl, rfl⟩) | (go_at_call 37; refine hn.mono ?_; rintro e w' ⟨rfl, rfl⟩))
    go_ret2
    exact ⟨rfl, rfl⟩
set_option maxHeartbeats 1000000 in
theorem begin_no (a s n : Int) (hn1 : -9223372036854775808 ≤ a) (hn2 : a ≤ 9223372036854775807) (h : IsDisk w p F d) (hP : ¬ beginP d.B.length a s n) : Calls Try.prog 10 #[.pointer (some ⟨p, 0, none⟩), .int .i64 a, .int .u64 s, .int .i64 n] w fun e w' => e = .returned (.tuple #[.pointer none, .int .i64 151]) ∧ w = w' := by
  have hb := Disk.blocks_d h
  have hlo := h.ok.lo
  have hhi := h.ok.hi
  have hm := mayStand_any a hn1 hn2 h
  have hn := mayComeNext_any n h
  obtain ⟨N, hN⟩ : ∃ N, d.B.length = N := ⟨_, rfl⟩
  rw [hN] at hb hlo hn hm hP
  have hz : ((N : Int) == 0) = false := by simp; omega
  clear hN
  by_cases h1 : standP N a
  · rw [decide_eq_true h1] at hm
    by_cases h2 : s < 1
    · clear hn hP h1
      go_enter Try.func10, Try.ntmps10
      go_wp2_with (first | (go_at_call 35; refine hb.mono ?_; rintro e w' ⟨rfl, rfl⟩) | (go_at_call 36; refine hm.mono ?_; rintro e w' ⟨rfl, rfl⟩))
      go_ret2
      exact ⟨rfl, rfl⟩
    · by_cases h3 : s ≥ 281474976710656
      · have h3' : decide ((281474976710656 : Int) ≤ s) = true := decide_eq_true (by omega)
        clear hn hP h1 h3
        go_enter Try.func10, Try.ntmps10
        go_wp2_with (first | (go_at_call 35; refine hb.mono ?_; rintro e w' ⟨rfl, rfl⟩) | (go_at_call 36; refine hm.mono ?_; rintro e w' ⟨rfl, rfl⟩))
        go_ret2
        exact ⟨rfl, rfl⟩
      · have h5 : ¬ n = 0 := fun e => hP ⟨h1, ⟨by omega, by omega⟩, .inl e⟩
        have h6 : ¬ segP N n := fun e => hP ⟨h1, ⟨by omega, by omega⟩, .inr e⟩
        rw [decide_eq_false h6] at hn
        have hq : (n != 0) = true := by simp; omega
        have hq2 : (n == 0) = false := by simp; omega
        have h3' : decide ((281474976710656 : Int) ≤ s) = false := decide_eq_false (by omega)
        clear hP h1 h6 h5 h3
        go_enter Try.func10, Try.ntmps10
        go_wp2_with (first | (go_at_call 35; refine hb.mono ?_; rintro e w' ⟨rfl, rfl⟩) | (go_at_call 36; refine hm.mono ?_; rintro e w' ⟨rfl, rfl⟩) | (go_at_call 37; refine hn.mono ?_; rintro e w' ⟨rfl, rfl⟩))
        go_ret2
        exact ⟨rfl, rfl⟩
  · rw [decide_eq_false h1] at hm
    clear hn hP h1
    go_enter Try.func10, Try.ntmps10
    go_wp2_with (first | (go_at_call 35; refine hb.mono ?_; rintro e w' ⟨rfl, rfl⟩) | (go_at_call 36; refine hm.mono ?_; rintro e w' ⟨rfl, rfl⟩))
    go_ret2
    exact ⟨rfl, rfl⟩
theorem setNext_yes (n : Nat) (hl : LAt w q p l) (h : IsDisk w p F d) (hn : segP d.B.length n) : Calls Try.prog 14 #[.pointer (some ⟨q, 0, none⟩), .int .i64 (n : Int)] w fun e w' => e = .returned (.int .i64 0) ∧ LAt w' q p ⟨l.at_, l.seq, n⟩ ∧ Only (fun i => i = q) w w' := by
  have hc := isNone_not hl
  have hm := mayComeNext_any (n : Int) h
  rw [decide_eq_true hn] at hm
  obtain ⟨c0, c1, c2, c3⟩ := hl.c
  have f3 := hl.f 3
  have HS := Lib.hid (hl.set3 n)
  clear hn
  go_enter Try.func14, Try.ntmps14
  go_wp2_with (first | (go_at_call 39; refine hc.mono ?_; rintro e w' ⟨rfl, rfl⟩) | (go_at_call 37; refine hm.mono ?_; rintro e w' ⟨rfl, rfl⟩))
  go_ret
  exact ⟨rfl, HS.out, (Only.refl (fun i => i = q) w).setCell (p := ⟨q, 3, none⟩) (.inr rfl) _⟩
/-- goBehind: the log goes on behind a record of k blocks whose Next is n -/
theorem goBehind_any (k n : Nat) (hl : LAt w q p l) (h1 : l.at_ ≤ 4096) (h2 : k ≤ 16) (h3 : n ≤ 256) (h4 : l.seq ≤ 281474976710656) : Calls Try.prog 48 #[.pointer (some ⟨q, 0, none⟩), .int .i64 (k : Int), .int .i64 (n : Int)] w fun e w' => e = .returned (.tuple #[]) ∧ LAt w' q p (behind l k n) ∧ Only (fun i => i = q) w w' := by
  obtain ⟨a, s, n0⟩ := l
  dsimp only at h1 h4
  obtain ⟨c0, c1, c2, c3⟩ := hl.c
  have f2 := hl.f 2
  dsimp only at c1 c2 c3
  have v1 : IntKind.u64.wrap ((s : Int) + 1) = (s : Int) + 1 := by rw [IntKind.wrap_u64]; omega
  have hl1 : LAt (w.setCell ⟨q, 2, none⟩ (.int .u64 ((s : Int) + 1))) q p ⟨a, s + 1, n0⟩ := hl.set2 (s + 1)
  have ht1 : ((a : Int) + 1 + (k : Int)).tdiv 16 = ((a : Int) + 1 + (k : Int)) / 16 := by rw [Int.tdiv_eq_ediv_of_nonneg (by omega)]
  have ht2 : (a : Int).tdiv 16 = (a : Int) / 16 := by rw [Int.tdiv_eq_ediv_of_nonneg (by omega)]
  have v2 : IntKind.i64.wrap ((n : Int) * 16) = (n : Int) * 16 := by rw [IntKind.wrap_i64]; omega
  obtain ⟨W1, hW1⟩ : ∃ W1, w.setCell ⟨q, 2, none⟩ (.int .u64 ((s : Int) + 1)) = W1 := ⟨_, rfl⟩
  have hO1 : Only (fun i => i = q) w W1 := by rw [← hW1]; exact (Only.refl (fun i => i = q) w).setCell (p := ⟨q, 2, none⟩) (.inr rfl) _
  rw [hW1] at hl1
  obtain ⟨d0, d1, d2, d3⟩ := hl1.c
  dsimp only at d1 d2 d3
  have g1 := hl1.f 1
  have hl2 := hl1.set1 (a + 1 + k)
  have e3 := hl2.f 3
  obtain ⟨k0, k1, k2, k3⟩ := hl2.c
  have hl3 := hl2.set3 n
  have hm2 : LAt (W1.setCell ⟨q, 1, none⟩ (.int .i64 ((n : Int) * 16))) q p ⟨n * 16, s + 1, n0⟩ := hl1.set1 (n * 16)
  have e4 := hm2.f 3
  obtain ⟨m0, m1, m2, m3⟩ := hm2.c
  have hm3 : LAt ((W1.setCell ⟨q, 1, none⟩ (.int .i64 ((n : Int) * 16))).setCell ⟨q, 3, none⟩ (.int .i64 0)) q p ⟨n * 16, s + 1, 0⟩ := hm2.set3 0
  have hr := Record.room_any ((a : Int) + 1 + (k : Int)) W1 (by omega) (by omega)
  rw [Record.roomV_pos (by omega)] at hr
  dsimp only at hl2 e3 k0 k1 k2 k3 hl3 m0 m1 m2 m3
  have x1 : ((a + 1 + k : Nat) : Int) = (a : Int) + 1 + (k : Int) := by omega
  rw [x1] at hl2 hl3 e3 k0 k1 k2 k3
  have HO2 : Hid (∀ u v : Value, Only (fun i => i = q) w ((W1.setCell ⟨q, 1, none⟩ u).setCell ⟨q, 3, none⟩ v)) := fun u v => (hO1.setCell (p := ⟨q, 1, none⟩) (.inr rfl) u).setCell (p := ⟨q, 3, none⟩) (.inr rfl) v
  have HL3 := Lib.hid hl3
  have HM3 := Lib.hid hm3
  have HR := Lib.hid hr
  clear x1 hl2 hl3 hm2 hm3 hl1 hO1 hr
  by_cases hc1 : (a + 1 + k) / 16 = a / 16
  · have hb : (((a : Int) + 1 + (k : Int)) / 16 == (a : Int) / 16) = true := by simp; omega
    by_cases hc2 : (a + 1 + k) % 16 ≠ 15
    · have HB := Lib.hid (behind_same (l := ⟨a, s, n0⟩) (n := n) ⟨hc1, hc2⟩)
      have hg : 15 - ((a : Int) + 1 + (k : Int)) % 16 > 0 := by omega
      clear hc1 hc2
      go_enter Try.func48, Try.ntmps48
      go_wp2_with (go_at_call 40; refine HR.out.mono ?_; rintro e w' ⟨rfl, rfl⟩)
      refine bodyPost_ret (results_none rfl _ _ _) rfl ?_
      exact ⟨rfl, by rw [HB.out]; exact HL3.out, HO2.out _ _⟩
    · have HB := Lib.hid (behind_next (l := ⟨a, s, n0⟩) (n := n) (k := k) (fun hh => hc2 hh.2))
      have hg : ¬ 15 - ((a : Int) + 1 + (k : Int)) % 16 > 0 := by omega
      clear hc1 hc2
      go_enter Try.func48, Try.ntmps48
      go_wp2_with (go_at_call 40; refine HR.out.mono ?_; rintro e w' ⟨rfl, rfl⟩)
      go_end0
      exact ⟨rfl, by rw [HB.out]; exact HM3.out, HO2.out _ _⟩
  · have hb : (((a : Int) + 1 + (k : Int)) / 16 == (a : Int) / 16) = false := by simp; omega
    have HB := Lib.hid (behind_next (l := ⟨a, s, n0⟩) (n := n) (k := k) (fun hh => hc1 hh.1))
    clear hc1
    go_enter Try.func48, Try.ntmps48
    go_wp2
    go_end0
    exact ⟨rfl, by rw [HB.out]; exact HM3.out, HO2.out _ _⟩
end
end Go.Proofs.Ytghonccffmmjhaa.Log
/- Blocks laid one behind the other, and calls made one behind the other, up to the first error. -/
namespace Go.Proofs.Ytghonccffmmjhaa.Log
open Go.RowKit Go.Shelf
open Disk (D IsDisk)
attribute [local go_sem] Oper.semAt_some
set_option linter.unusedVariables false

/-- the disk's error, if the power was gone -/
def offE (ok : Bool) : Int := if ok then 0 else 43
/-- what operations that may find the power gone leave -/
def DonePost (p : Nat) (F : Nat → Prop) (x : D × Bool) (w : World) (e : Ending) (w' : World) : Prop := e = .returned (.int .i64 (offE x.2)) ∧ Disk.Left p F x.1 w w'
/-- a list of texts lies there, whatever becomes of the blocks of F and of new ones -/
def Texts (w : World) (F : Nat → Prop) (v : Value) (cs : List ByteArray) : Prop := ∀ W, Only F w W → Lies W v cs.length 1 (cs.map .string)
theorem left_refl {p : Nat} {F : Nat → Prop} {d : D} {w w' : World} (h : IsDisk w p F d) (hB : Below w.heap.size w w') : Disk.Left p F d w w' := ⟨F, h.below hB, Only.of_below hB, fun k hk => .inl hk⟩
theorem left_th {p : Nat} {F F1 : Nat → Prop} {d : D} {w w1 w' : World} (ho : Only F w w1) (hf : ∀ k, F1 k → F k ∨ w.heap.size ≤ k) (h : Disk.Left p F1 d w1 w') : Disk.Left p F d w w' := by
  obtain ⟨F2, h1, h2, h3⟩ := h
  refine ⟨F2, h1, ho.step h2 ?_, fun k hk => ?_⟩
  · intro i hi hF1
    exact (hf i hF1).resolve_right (by omega)
  · rcases h3 k hk with h4 | h4
    · exact hf k h4
    · have := ho.size
      exact .inr (by omega)
section
variable {w : World} {q p : Nat} {l : Lg} {F : Nat → Prop} {d : D}
set_option maxRecDepth 100000
set_option maxHeartbeats 1000000
theorem lay_any (a : Nat) (v : Value) (cs : List ByteArray) (hl : LAt w q p l) (h : IsDisk w p F d) (hq : ¬ F q) (hT : Texts w F v cs) (ha : a + cs.length ≤ d.B.length) (hz : ∀ c ∈ cs, c.size = 512) (hops : d.ops + cs.length ≤ 1099511627776) :
    Calls Try.prog 45 #[.pointer (some ⟨q, 0, none⟩), .int .i64 (a : Int), v] w (DonePost p F (layD d a cs) w) := by
  obtain ⟨va, cap, rfl, hn, hm⟩ : ∃ va cap, v = .slice va cs.length cap ∧ cs.length ≤ cap ∧ cap ≤ 9223372036854775807 := by
    obtain ⟨a1, c1, e1, _, h1, h2⟩ := (hT w (Only.refl _ _)).parts
    exact ⟨a1, c1, e1, h1, h2⟩
  obtain ⟨X, hX⟩ : ∃ X, layD d a cs = X := ⟨_, rfl⟩
  have HX := Lib.hid hX
  have hhi := h.ok.hi
  obtain ⟨n, hN⟩ : ∃ n, cs.length = n := ⟨_, rfl⟩
  have HN := Lib.hid hN
  rw [hX]
  rw [hN] at ha hops hn ⊢
  have HT := Lib.hid hT
  have HD := Lib.hid h
  have HL := Lib.hid hl
  obtain ⟨N, hNb⟩ : ∃ N, d.B.length = N := ⟨_, rfl⟩
  rw [hNb] at ha hhi
  have HNb := Lib.hid hNb
  obtain ⟨op0, hop0⟩ : ∃ o, d.ops = o := ⟨_, rfl⟩
  rw [hop0] at hops
  have HO0 := Lib.hid hop0
  have HZ := Lib.hid hz
  have HQ := Lib.hid hq
  clear hX hN hT h hl hNb hop0 hz hq
  obtain ⟨W0, rfl⟩ : ∃ W0 : World, W0 = w := ⟨_, rfl⟩
  go_enter Try.func45, Try.ntmps45
  go_wp2
  go_loopw [7, 8, 9, 12] (fun _ _ _ i wr => ∃ k : Nat, k ≤ n ∧ i = .int .i64 (k : Int) ∧ Hid (Only F W0 wr ∧ ∃ F1 d1, IsDisk wr p F1 d1 ∧ (∀ j, F1 j → F j ∨ W0.heap.size ≤ j) ∧ d1.B.length = N ∧ d1.ops ≤ op0 + k ∧ layD d1 (a + k) (cs.drop k) = X)) (fun _ _ _ i _ => n - (intOf i).toNat)
  case atStart => exact ⟨0, by omega, rfl, Only.refl _ _, F, d, HD.out, fun j hj => .inl hj, HNb.out, by rw [HO0.out]; omega, HX.out⟩
  case round =>
    obtain ⟨k, hk, rfl, HR⟩ := hrel
    obtain ⟨hO, F1, d1, hD, hF1, hNd, hop, hlay⟩ := HR.out
    by_cases hlt : k < n
    · have hlw := HL.out.of_heap (W' := wr) (hO.block q HL.out.lt HQ.out)
      obtain ⟨c0, _, _, _⟩ := hlw.c
      have hcs : cs[k]? = some (blk cs k) := blk_get (by rw [HN.out]; exact hlt)
      obtain ⟨b, off, rfl, hcell⟩ : ∃ b off, va = some ⟨b, off, none⟩ ∧ wr.cell? ⟨b, off + k, none⟩ = some (.string (blk cs k)) := by
        have h1 := HT.out wr hO
        rw [HN.out] at h1
        exact h1.read (by simp [hcs])
      have hdrop : cs.drop k = blk cs k :: cs.drop (k + 1) := by
        rw [List.drop_eq_getElem_cons (by rw [HN.out]; exact hlt)]
        congr 1
        rw [List.getElem?_eq_getElem (by rw [HN.out]; exact hlt)] at hcs
        exact Option.some.inj hcs
      rw [hdrop] at hlay
      have hsz : (blk cs k).size = 512 := HZ.out _ (blk_mem (by rw [HN.out]; exact hlt))
      obtain ⟨s, hs⟩ : ∃ s, blk cs k = s := ⟨_, rfl⟩
      rw [hs] at hcell hlay hsz
      clear hcs hdrop hs hlw
      have e1 : ((a + k : Nat) : Int) = (a : Int) + (k : Int) := by omega
      by_cases ho : d1.off
      · rw [layD_off _ _ _ ho] at hlay
        have hW := Disk.write_off ((a + k : Nat) : Int) s hD ho
        rw [e1] at hW
        have HLY := Lib.hid hlay
        have HD1 := Lib.hid hD
        have HO1 := Lib.hid hO
        have HF1 := Lib.hid hF1
        clear ho hlay hD hO hF1 e1 hop hNd hsz
        go_wp2_with (go_at_call 63; refine hW.mono ?_; rintro e w' ⟨rfl, hB⟩)
        go_ret
        refine ⟨by rw [← HLY.out]; rfl, ?_⟩
        rw [← HLY.out]
        exact left_th HO1.out HF1.out (left_refl HD1.out hB)
      · rw [layD_on _ _ _ ho] at hlay
        have hW := Disk.write_ok (a + k) s hD ho (by omega) hsz (by omega)
        rw [e1] at hW
        have HLY := Lib.hid hlay
        have HO1 := Lib.hid hO
        have HF1 := Lib.hid hF1
        have HNd := Lib.hid hNd
        have HOp := Lib.hid hop
        clear ho hlay hD hO hF1 e1 hop hNd hsz
        go_wp2_with (go_at_call 63; refine hW.mono ?_; rintro e w' ⟨rfl, hLf⟩; have HLf := Lib.hid hLf; clear hLf)
        go_roundw
        case rel =>
          obtain ⟨F2, g1, g2, g3⟩ := HLf.out
          refine ⟨k + 1, by omega, by go_num, ?_, F2, _, g1, fun j hj => ?_, HNd.out, ?_, ?_⟩
          · exact HO1.out.step g2 fun i hi hF => (HF1.out i hF).resolve_right (by omega)
          · rcases g3 j hj with h4 | h4
            · exact HF1.out j h4
            · have := HO1.out.size
              exact .inr (by omega)
          · have := HOp.out
            show d1.ops + 1 ≤ _
            omega
          · rw [← HLY.out]; rfl
        case measure => simp [intOf]; omega
    · obtain rfl : k = n := by omega
      have hdrop : cs.drop k = [] := List.drop_eq_nil_of_le (by rw [HN.out]; exact Nat.le_refl _)
      rw [hdrop, layD_nil] at hlay
      have HLY := Lib.hid hlay
      have HD1 := Lib.hid hD
      have HO1 := Lib.hid hO
      have HF1 := Lib.hid hF1
      clear hlay hdrop hD hO hF1 hop hNd
      go_wp2
      go_ret
      refine ⟨by rw [← HLY.out]; rfl, ?_⟩
      rw [← HLY.out]
      exact left_th HO1.out HF1.out (left_refl HD1.out (Below.refl _ _))
end
end Go.Proofs.Ytghonccffmmjhaa.Log
