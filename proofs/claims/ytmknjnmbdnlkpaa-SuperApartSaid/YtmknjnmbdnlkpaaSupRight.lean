/- Right, of the program and of the document; Place; the ways to put and to take a number; the document's bytes. -/
import Derived.StillTailTactics
import Derived.Deep.RegionWith
import Derived.Deep.RegionHeld3
import Derived.Test.YtmknjnmbdnlkpaaRow
import Derived.Test.YtmknjnmbdnlkpaaSupMath
namespace Go.Proofs.Ytmknjnmbdnlkpaa.Super
open Go.RowKit Go.Shelf
attribute [local go_sem] Oper.semAt_some
set_option linter.unusedVariables false

def S.val (s : S) : Value := .agg #[.int .i64 s.blocks, .int .u64 s.seq, .int .i64 s.at_, .int .u64 s.cp]
/-- a super block's cells -/
def boxO (s : S) : Obj := .cells #[.int .i64 s.blocks, .int .u64 s.seq, .int .i64 s.at_, .int .u64 s.cp] 24

/-- a super block lies at block b -/
def At (W : World) (b : Nat) (s : S) : Prop := W.heap[b]? = some (.cells #[.int .i64 s.blocks, .int .u64 s.seq, .int .i64 s.at_, .int .u64 s.cp] 24 (0, 0))
theorem At.c {W : World} {b : Nat} {s : S} (h : At W b s) : W.cell? ⟨b, 0, none⟩ = some (.int .i64 s.blocks) ∧ W.cell? ⟨b, 1, none⟩ = some (.int .u64 s.seq) ∧ W.cell? ⟨b, 2, none⟩ = some (.int .i64 s.at_) ∧ W.cell? ⟨b, 3, none⟩ = some (.int .u64 s.cp) := by
  unfold At at h
  simp only [World.cell?, h]
  exact ⟨rfl, rfl, rfl, rfl⟩
theorem At.f {W : World} {b : Nat} {s : S} (h : At W b s) (i : Nat) : W.frozen? ⟨b, i, none⟩ = false := by
  unfold At at h
  simp [World.frozen?, h]
theorem At.below {W W' : World} {b n : Nat} {s : S} (h : At W b s) (hB : Below n W W') (hb : b < n) : At W' b s := (hB.block b hb).trans h
theorem At.new (w : World) (s : S) : At (w.alloc (boxO s)) w.heap.size s := World.alloc_heap_new w _
theorem At.lt {W : World} {b : Nat} {s : S} (h : At W b s) : b < W.heap.size := (Array.getElem?_eq_some_iff.1 h).1
theorem At.th {W W' : World} {b : Nat} {s : S} (h : At W b s) (hB : Below W.heap.size W W') : At W' b s := h.below hB h.lt
theorem At.of_heap {W W' : World} {b : Nat} {s : S} (h : At W b s) (hb : W'.heap[b]? = W.heap[b]?) : At W' b s := hb.trans h

/-- a super block is laid over another one, part by part -/
theorem At.put4 {W : World} {b : Nat} {s : S} (h : At W b s) (t : S) :
    (W.setCell ⟨b, 0, none⟩ (.int .i64 t.blocks)).cell? ⟨b, 0, none⟩ = some (.int .i64 t.blocks) ∧
    ((W.setCell ⟨b, 0, none⟩ (.int .i64 t.blocks)).setCell ⟨b, 1, none⟩ (.int .u64 t.seq)).cell? ⟨b, 1, none⟩ = some (.int .u64 t.seq) ∧
    (((W.setCell ⟨b, 0, none⟩ (.int .i64 t.blocks)).setCell ⟨b, 1, none⟩ (.int .u64 t.seq)).setCell ⟨b, 2, none⟩ (.int .i64 t.at_)).cell? ⟨b, 2, none⟩ = some (.int .i64 t.at_) ∧
    ((((W.setCell ⟨b, 0, none⟩ (.int .i64 t.blocks)).setCell ⟨b, 1, none⟩ (.int .u64 t.seq)).setCell ⟨b, 2, none⟩ (.int .i64 t.at_)).setCell ⟨b, 3, none⟩ (.int .u64 t.cp)).cell? ⟨b, 3, none⟩ = some (.int .u64 t.cp) ∧
    At ((((W.setCell ⟨b, 0, none⟩ (.int .i64 t.blocks)).setCell ⟨b, 1, none⟩ (.int .u64 t.seq)).setCell ⟨b, 2, none⟩ (.int .i64 t.at_)).setCell ⟨b, 3, none⟩ (.int .u64 t.cp)) b t ∧
    Below b W ((((W.setCell ⟨b, 0, none⟩ (.int .i64 t.blocks)).setCell ⟨b, 1, none⟩ (.int .u64 t.seq)).setCell ⟨b, 2, none⟩ (.int .i64 t.at_)).setCell ⟨b, 3, none⟩ (.int .u64 t.cp)) := by
  unfold At at h
  have h0 := heap_setCell_same W b 0 _ _ (.int .i64 t.blocks) h
  have h1 := heap_setCell_same _ b 1 _ _ (.int .u64 t.seq) h0
  have h2 := heap_setCell_same _ b 2 _ _ (.int .i64 t.at_) h1
  have h3 := heap_setCell_same _ b 3 _ _ (.int .u64 t.cp) h2
  refine ⟨by simp only [World.cell?, h0]; rfl, by simp only [World.cell?, h1]; rfl, by simp only [World.cell?, h2]; rfl, by simp only [World.cell?, h3]; rfl, h3, ?_⟩
  exact ((((Below.refl b W).setCell (p := ⟨b, 0, none⟩) (Nat.le_refl _) _).setCell (p := ⟨b, 1, none⟩) (Nat.le_refl _) _).setCell (p := ⟨b, 2, none⟩) (Nat.le_refl _) _).setCell (p := ⟨b, 3, none⟩) (Nat.le_refl _) _

def sizeB (n : Int) : Bool := decide (128 ≤ n ∧ n ≤ 4096 ∧ n % 16 = 0)
def countB (n : Nat) : Bool := decide (1 ≤ n ∧ n < 281474976710656)
section
set_option maxRecDepth 100000
theorem isSize_any (n : Int) (w : World) : Calls Try.prog 24 #[.int .i64 n] w fun e w' => e = .returned (.bool (sizeB n)) ∧ w = w' := by
  by_cases h1 : 128 ≤ n
  · by_cases h2 : n ≤ 4096
    · have ht : n.tmod 16 = n % 16 := Int.tmod_eq_emod_of_nonneg (by omega)
      by_cases h3 : n % 16 = 0
      · have HD : Hid (sizeB n = true) := by unfold Hid sizeB; simp [*]
        have hq : (n % 16 == 0) = true := by simp [h3]
        go_enter Try.func24, Try.ntmps24
        go_wp2
        go_ret
        exact ⟨by rw [HD.out]; rfl, rfl⟩
      · have HD : Hid (sizeB n = false) := by unfold Hid sizeB; simp [*]
        have hq : (n % 16 == 0) = false := by simp [h3]
        go_enter Try.func24, Try.ntmps24
        go_wp2
        go_ret
        exact ⟨by rw [HD.out]; rfl, rfl⟩
    · have HD : Hid (sizeB n = false) := by unfold Hid sizeB; simp [*]
      go_enter Try.func24, Try.ntmps24
      go_wp2
      go_ret
      exact ⟨by rw [HD.out]; rfl, rfl⟩
  · have HD : Hid (sizeB n = false) := by unfold Hid sizeB; simp [*]
    go_enter Try.func24, Try.ntmps24
    go_wp2
    go_ret
    exact ⟨by rw [HD.out]; rfl, rfl⟩

theorem isCount_any (n : Nat) (w : World) : Calls Try.prog 25 #[.int .u64 n] w fun e w' => e = .returned (.bool (countB n)) ∧ w = w' := by
  by_cases h1 : 1 ≤ n
  · by_cases h2 : n < 281474976710656
    · have HD : Hid (countB n = true) := by unfold Hid countB; simp [*]
      have g1 : (1 : Int) ≤ n := by omega
      have g2 : (n : Int) < 281474976710656 := by omega
      go_enter Try.func25, Try.ntmps25
      go_wp2
      go_ret
      exact ⟨by rw [HD.out]; rfl, rfl⟩
    · have HD : Hid (countB n = false) := by unfold Hid countB; simp [*]
      have g1 : (1 : Int) ≤ n := by omega
      have g2 : ¬ (n : Int) < 281474976710656 := by omega
      go_enter Try.func25, Try.ntmps25
      go_wp2
      go_ret
      exact ⟨by rw [HD.out]; rfl, rfl⟩
  · have HD : Hid (countB n = false) := by unfold Hid countB; simp [*]
    have g1 : ¬ (1 : Int) ≤ n := by omega
    go_enter Try.func25, Try.ntmps25
    go_wp2
    go_ret
    exact ⟨by rw [HD.out]; rfl, rfl⟩

theorem place_odd (n : Nat) (w : World) (h : n % 2 = 1) : Calls Try.prog 17 #[.int .u64 n] w fun e w' => e = .returned (.int .i64 0) ∧ w = w' := by
  have ht : (n : Int) % 2 = 1 := by omega
  have ht2 : (n : Int).tmod 2 = 1 := by rw [Int.tmod_eq_emod_of_nonneg (by omega)]; exact ht
  go_enter Try.func17, Try.ntmps17
  go_wp2
  go_ret
  exact ⟨rfl, rfl⟩
theorem place_even (n : Nat) (w : World) (h : n % 2 = 0) : Calls Try.prog 17 #[.int .u64 n] w fun e w' => e = .returned (.int .i64 8) ∧ w = w' := by
  have ht : (n : Int) % 2 = 0 := by omega
  have ht2 : (n : Int).tmod 2 = 0 := by rw [Int.tmod_eq_emod_of_nonneg (by omega)]; exact ht
  go_enter Try.func17, Try.ntmps17
  go_wp2
  go_ret
  exact ⟨rfl, rfl⟩

theorem sput_any (n : Nat) (k : Nat) (w : World) (hn : n < 256 ^ k) (h1 : 1 ≤ k) (h2 : k ≤ 8) : Calls Try.prog 19 #[.int .u64 n, .int .i64 k] w fun e w' => e = .returned (.string (numB n k)) ∧ Below w.heap.size w w' := by
  have hok : putOk n k := ⟨by omega, by omega, by simpa using hn⟩
  have hp := put_any n k w (Nat.lt_of_lt_of_le hn (Nat.pow_le_pow_right (by decide) h2))
  rw [putS_yes hok, putE_yes hok, Int.toNat_natCast] at hp
  clear hok hn
  go_enter Try.func19, Try.ntmps19
  go_wp2_with (go_at_call 29; refine hp.mono ?_; rintro e w' ⟨rfl, hB⟩)
  go_ret
  exact ⟨rfl, hB⟩
theorem stake_any (s : ByteArray) (a k : Nat) (w : World) (hs : s.size ≤ 281474976710656) (h1 : 1 ≤ k) (h2 : k ≤ 8) (hk : a + k ≤ s.size) : Calls Try.prog 22 #[.string s, .int .i64 a, .int .i64 k] w fun e w' => e = .returned (.int .u64 (takeN s a k)) ∧ Below w.heap.size w w' := by
  have hok : takeOk s a k := ⟨by omega, by omega, by unfold hasP; omega⟩
  have hp := take_any s a k w hs (by omega)
  rw [takeV_yes hok, takeE_yes hok, Int.toNat_natCast, Int.toNat_natCast] at hp
  clear hok
  go_enter Try.func22, Try.ntmps22
  go_wp2_with (go_at_call 31; refine hp.mono ?_; rintro e w' ⟨rfl, hB⟩)
  go_ret
  exact ⟨rfl, hB⟩
end
end Go.Proofs.Ytmknjnmbdnlkpaa.Super
