/- Several texts in one, each under its own heading. -/
import Derived.Test.YtghonccffmmjhaaPk15
import Derived.Test.YtghonccffmmjhaaPk03
/- A log as plain data: where it goes on, which records are there. It speaks of no program. -/
namespace Go.Proofs.Ytghonccffmmjhaa.Log
open Record (R E decOk decR encB RightP AllOk unwOk unwS wrapB)
set_option linter.unusedVariables false

/-- where a log goes on -/
structure Lg where
  at_ : Nat
  seq : Nat
  next : Nat
/-- a record that was found -/
structure Fd where
  at_ : Nat
  r : R
  c : List ByteArray

def blk (B : List ByteArray) (i : Nat) : ByteArray := B.getD i ByteArray.empty
theorem blk_get {B : List ByteArray} {i : Nat} (h : i < B.length) : B[i]? = some (blk B i) := by
  unfold blk
  rw [List.getD_eq_getElem?_getD, List.getElem?_eq_getElem h]
  rfl
theorem blk_of {B : List ByteArray} {i : Nat} {s : ByteArray} (h : B[i]? = some s) : blk B i = s := by
  unfold blk
  rw [List.getD_eq_getElem?_getD, h]
  rfl
theorem blk_mem {B : List ByteArray} {i : Nat} (h : i < B.length) : blk B i ∈ B := List.mem_of_getElem? (blk_get h)
theorem blk_same {B C : List ByteArray} {i j : Nat} (h : B[i]? = C[j]?) : blk B i = blk C j := by
  unfold blk
  rw [List.getD_eq_getElem?_getD, List.getD_eq_getElem?_getD, h]
theorem blk_ext {B C : List ByteArray} (hl : B.length = C.length) (h : ∀ i, i < B.length → blk B i = blk C i) : B = C := by
  apply List.ext_getElem?
  intro i
  rcases Nat.lt_or_ge i B.length with hi | hi
  · rw [blk_get hi, blk_get (hl ▸ hi), h i hi]
  · rw [List.getElem?_eq_none hi, List.getElem?_eq_none (hl ▸ hi)]

/-- on behind a record of k blocks whose Next is n -/
def behind (l : Lg) (k n : Nat) : Lg := if (l.at_ + 1 + k) / 16 = l.at_ / 16 ∧ (l.at_ + 1 + k) % 16 ≠ 15 then ⟨l.at_ + 1 + k, l.seq + 1, n⟩ else ⟨n * 16, l.seq + 1, 0⟩
theorem behind_same {l : Lg} {k n : Nat} (h : (l.at_ + 1 + k) / 16 = l.at_ / 16 ∧ (l.at_ + 1 + k) % 16 ≠ 15) : behind l k n = ⟨l.at_ + 1 + k, l.seq + 1, n⟩ := if_pos h
theorem behind_next {l : Lg} {k n : Nat} (h : ¬ ((l.at_ + 1 + k) / 16 = l.at_ / 16 ∧ (l.at_ + 1 + k) % 16 ≠ 15)) : behind l k n = ⟨n * 16, l.seq + 1, 0⟩ := if_neg h
theorem behind_seq (l : Lg) (k n : Nat) : (behind l k n).seq = l.seq + 1 := by unfold behind; split <;> rfl

/-- the record that the block there is read as, and how many blocks it has behind it -/
def hd (B : List ByteArray) (l : Lg) : R := decR (blk B l.at_)
def cnt (B : List ByteArray) (l : Lg) : Nat := (hd B l).l.length
/-- its first block is a record's, with that number, room, and a Next -/
def headP (B : List ByteArray) (l : Lg) : Prop := decOk (blk B l.at_) ∧ (hd B l).seq = l.seq ∧ cnt B l ≤ 15 - l.at_ % 16 ∧ 1 ≤ (hd B l).next ∧ (hd B l).next < ((B.length / 16 : Nat) : Int)
/-- its record is there -/
def thereP (B : List ByteArray) (l : Lg) : Prop := headP B l ∧ ∀ i, i < cnt B l → unwOk (blk B (l.at_ + 1 + i))
def fdAt (B : List ByteArray) (l : Lg) : Fd := ⟨l.at_, hd B l, (List.range (cnt B l)).map fun i => unwS (blk B (l.at_ + 1 + i))⟩
def stp (B : List ByteArray) (l : Lg) : Lg := behind l (cnt B l) (hd B l).next.toNat
def lgK (B : List ByteArray) (l : Lg) : Nat → Lg
  | 0 => l
  | k + 1 => stp B (lgK B l k)
def fdsK (B : List ByteArray) (l : Lg) (n : Nat) : List Fd := (List.range n).map fun k => fdAt B (lgK B l k)
theorem fdsK_length (B : List ByteArray) (l : Lg) (n : Nat) : (fdsK B l n).length = n := by simp [fdsK]
theorem fdsK_succ (B : List ByteArray) (l : Lg) (n : Nat) : fdsK B l (n + 1) = fdsK B l n ++ [fdAt B (lgK B l n)] := by simp [fdsK, List.range_succ]
theorem fdsK_at (B : List ByteArray) (l : Lg) (n k : Nat) (h : k < n) : (fdsK B l n)[k]? = some (fdAt B (lgK B l k)) := by simp [fdsK, h]
/-- n records are there, one behind the other, and no more -/
structure Scans (B : List ByteArray) (l : Lg) (n : Nat) : Prop where
  all : ∀ k, k < n → thereP B (lgK B l k)
  stop : ¬ thereP B (lgK B l n)

/-- where a log of a disk of so many blocks may go on -/
structure LgOk (nb : Nat) (l : Lg) : Prop where
  lo : 16 ≤ l.at_
  hi : l.at_ < nb
  room : l.at_ % 16 ≠ 15
  nx : l.next = 0 ∨ 1 ≤ l.next ∧ l.next < nb / 16
  s1 : 1 ≤ l.seq
  s2 : l.seq ≤ 281474976710656
theorem LgOk.behind {nb : Nat} {l : Lg} (h : LgOk nb l) (hn : nb % 16 = 0) {k n : Nat} (hk : k ≤ 15 - l.at_ % 16) (n1 : 1 ≤ n) (n2 : n < nb / 16) (hs : l.seq < 281474976710656) : LgOk nb (behind l k n) := by
  obtain ⟨h1, h2, h3, h4, h5, h6⟩ := h
  by_cases hc : (l.at_ + 1 + k) / 16 = l.at_ / 16 ∧ (l.at_ + 1 + k) % 16 ≠ 15
  · rw [behind_same hc]
    exact ⟨by dsimp only; omega, by dsimp only; omega, hc.2, .inr ⟨n1, n2⟩, by dsimp only; omega, by dsimp only; omega⟩
  · rw [behind_next hc]
    exact ⟨by dsimp only; omega, by dsimp only; omega, by dsimp only; omega, .inl rfl, by dsimp only; omega, by dsimp only; omega⟩
theorem headP.seq_lt {B : List ByteArray} {l : Lg} (h : headP B l) : l.seq < 281474976710656 := by
  have h1 := h.2.1
  have h2 := h.1.2.1.1.2
  have : (hd B l).seq < 281474976710656 := h2
  omega
theorem headP.next_nat {B : List ByteArray} {l : Lg} (h : headP B l) : ∃ n : Nat, (hd B l).next = n ∧ 1 ≤ n ∧ n < B.length / 16 := by
  obtain ⟨h1, h2⟩ := h.2.2.2
  exact ⟨(hd B l).next.toNat, by omega, by omega, by omega⟩
theorem LgOk.stp {B : List ByteArray} {l : Lg} (h : LgOk B.length l) (hn : B.length % 16 = 0) (ht : headP B l) : LgOk B.length (stp B l) := by
  obtain ⟨n, e, n1, n2⟩ := ht.next_nat
  unfold Log.stp
  rw [e]
  exact h.behind hn ht.2.2.1 (by omega) (by omega) ht.seq_lt
theorem LgOk.lgK {B : List ByteArray} {l : Lg} (h : LgOk B.length l) (hn : B.length % 16 = 0) : ∀ n, (∀ k, k < n → thereP B (lgK B l k)) → LgOk B.length (lgK B l n)
  | 0, _ => h
  | n + 1, ha => (LgOk.lgK h hn n (fun k hk => ha k (by omega))).stp hn (ha n (by omega)).1

/-! ### what is read of other blocks, where these are the same -/
theorem hd_congr {B C : List ByteArray} {l : Lg} (h : blk C l.at_ = blk B l.at_) : hd C l = hd B l := by unfold hd; rw [h]
theorem there_congr {B C : List ByteArray} {l : Lg} (hl : C.length = B.length) (h : ∀ j, l.at_ ≤ j → j ≤ l.at_ + cnt B l → blk C j = blk B j) : (thereP B l → thereP C l) ∧ fdAt C l = fdAt B l ∧ stp C l = stp B l := by
  have h0 := h l.at_ (Nat.le_refl _) (by omega)
  have e := hd_congr h0
  have ec : cnt C l = cnt B l := by unfold cnt; rw [e]
  refine ⟨fun ⟨⟨t1, t2, t3, t4, t5⟩, t6⟩ => ⟨⟨by rw [h0]; exact t1, by rw [e]; exact t2, by rw [ec]; exact t3, by rw [e]; exact t4, by rw [e, hl]; exact t5⟩, fun i hi => ?_⟩, ?_, ?_⟩
  · rw [ec] at hi
    rw [h _ (by omega) (by omega)]
    exact t6 i hi
  · unfold fdAt
    rw [e, ec]
    congr 1
    refine List.map_congr_left fun i hi => ?_
    rw [List.mem_range] at hi
    rw [h _ (by omega) (by omega)]
  · unfold stp
    rw [e, ec]
/-- n records stand between two places, below the second one -/
structure Laid (B : List ByteArray) (l0 l : Lg) (n : Nat) : Prop where
  go : lgK B l0 n = l
  all : ∀ k, k < n → thereP B (lgK B l0 k)
  low : ∀ k, k < n → (lgK B l0 k).at_ + cnt B (lgK B l0 k) < l.at_
theorem Laid.congr {B C : List ByteArray} {l0 l : Lg} {n : Nat} (h : Laid B l0 l n) (hl : C.length = B.length) (hs : ∀ j, j < l.at_ → blk C j = blk B j) : (∀ k, k ≤ n → lgK C l0 k = lgK B l0 k) ∧ Laid C l0 l n ∧ fdsK C l0 n = fdsK B l0 n := by
  have one : ∀ k, k < n → (thereP B (lgK B l0 k) → thereP C (lgK B l0 k)) ∧ fdAt C (lgK B l0 k) = fdAt B (lgK B l0 k) ∧ stp C (lgK B l0 k) = stp B (lgK B l0 k) := fun k hk => there_congr hl fun j h1 h2 => hs j (by have := h.low k hk; omega)
  have hk : ∀ k, k ≤ n → lgK C l0 k = lgK B l0 k := by
    intro k
    induction k with
    | zero => intro _; rfl
    | succ k ih =>
      intro hk
      show stp C (lgK C l0 k) = stp B (lgK B l0 k)
      rw [ih (by omega), (one k (by omega)).2.2]
  refine ⟨hk, ⟨by rw [hk n (Nat.le_refl _)]; exact h.go, fun k h1 => by rw [hk k (by omega)]; exact (one k h1).1 (h.all k h1), fun k h1 => ?_⟩, ?_⟩
  · rw [hk k (by omega)]
    have : cnt C (lgK B l0 k) = cnt B (lgK B l0 k) := by
      unfold cnt
      rw [hd_congr (hs _ (by have := h.low k h1; omega))]
    rw [this]
    exact h.low k h1
  · unfold fdsK
    refine List.map_congr_left fun k h1 => ?_
    rw [List.mem_range] at h1
    rw [hk k (by omega), (one k h1).2.1]
theorem Laid.nil (B : List ByteArray) (l : Lg) : Laid B l l 0 := ⟨rfl, fun k h => by omega, fun k h => by omega⟩
/-- one more is there -/
theorem Laid.more {B : List ByteArray} {l0 l : Lg} {n : Nat} (h : Laid B l0 l n) (ht : thereP B l) (hlt : l.at_ + cnt B l < (stp B l).at_) : Laid B l0 (stp B l) (n + 1) := by
  have e : lgK B l0 (n + 1) = stp B l := by show stp B (lgK B l0 n) = _; rw [h.go]
  refine ⟨e, fun k hk => ?_, fun k hk => ?_⟩
  · rcases Nat.lt_or_ge k n with h1 | h1
    · exact h.all k h1
    · obtain rfl : k = n := by omega
      rw [h.go]; exact ht
  · rcases Nat.lt_or_ge k n with h1 | h1
    · have := h.low k h1
      omega
    · obtain rfl : k = n := by omega
      rw [h.go]; exact hlt
theorem Laid.seq {B : List ByteArray} {l0 l : Lg} {n : Nat} (h : Laid B l0 l n) : ∀ k, k ≤ n → (lgK B l0 k).seq = l0.seq + k := by
  intro k
  induction k with
  | zero => intro _; rfl
  | succ k ih =>
    intro hk
    show (behind _ _ _).seq = _
    rw [behind_seq, ih (by omega)]
    omega
/-- a block of bytes 0 is no record -/
theorem zeros_first (n : Nat) : sb (zeros n) 0 = 0 := by
  unfold sb zeros
  cases n <;> simp
theorem zeros_not {B : List ByteArray} {l : Lg} (h : blk B l.at_ = zeros 512) : ¬ thereP B l := fun ht => by
  have := Record.decOk_first ht.1.1
  rw [h, zeros_first] at this
  omega
theorem Laid.scans {B : List ByteArray} {l0 l : Lg} {n : Nat} (h : Laid B l0 l n) (hz : ¬ thereP B l) : Scans B l0 n := ⟨h.all, by rw [h.go]; exact hz⟩
theorem Laid.scans0 {B : List ByteArray} {l0 l : Lg} {n : Nat} (h : Laid B l0 l n) (hz : blk B l.at_ = zeros 512) : Scans B l0 n := h.scans (zeros_not hz)
end Go.Proofs.Ytghonccffmmjhaa.Log
/- What a Write makes of a disk, and what a crash leaves of it, as plain data. It speaks of no program. -/
namespace Go.Proofs.Ytghonccffmmjhaa.Log
open Record (R E decOk decR encB RightP AllOk unwOk unwS wrapB)
open Disk (D crash crashTo torn stays)
set_option linter.unusedVariables false

/-- so many blocks from a place on -/
def pay : Nat → List ByteArray → List (Nat × ByteArray)
  | _, [] => []
  | a, c :: cs => (a, c) :: pay (a + 1) cs
theorem pay_length : ∀ (cs : List ByteArray) (a : Nat), (pay a cs).length = cs.length
  | [], _ => rfl
  | _ :: cs, a => by simp [pay, pay_length cs (a + 1)]
theorem pay_mem : ∀ (cs : List ByteArray) (a : Nat) (x : Nat × ByteArray), x ∈ pay a cs → a ≤ x.1 ∧ x.1 < a + cs.length ∧ x.2 ∈ cs
  | [], _, x, h => by simp [pay] at h
  | c :: cs, a, x, h => by
    rcases List.mem_cons.1 h with rfl | h
    · exact ⟨Nat.le_refl _, by simp, by simp⟩
    · obtain ⟨h1, h2, h3⟩ := pay_mem cs (a + 1) x h
      exact ⟨by omega, by simp; omega, List.mem_cons_of_mem _ h3⟩
theorem pay_take : ∀ (cs : List ByteArray) (a k : Nat), (pay a cs).take k = pay a (cs.take k)
  | [], _, k => by simp [pay]
  | c :: cs, a, 0 => rfl
  | c :: cs, a, k + 1 => by simp [pay, pay_take cs (a + 1) k]
theorem pay_snoc : ∀ (cs : List ByteArray) (a : Nat) (c : ByteArray), pay a (cs ++ [c]) = pay a cs ++ [(a + cs.length, c)]
  | [], a, c => by simp [pay]
  | d :: cs, a, c => by
    show (a, d) :: pay (a + 1) (cs ++ [c]) = _
    rw [pay_snoc cs (a + 1) c]
    simp [pay]
    omega
theorem settle_app (B : List ByteArray) (L M : List (Nat × ByteArray)) : Disk.settle B (L ++ M) = Disk.settle (Disk.settle B L) M := by simp [Disk.settle]
/-- blocks elsewhere stay -/
theorem settle_off (B : List ByteArray) (L : List (Nat × ByteArray)) (j : Nat) (h : ∀ x ∈ L, x.1 ≠ j) : blk (Disk.settle B L) j = blk B j := blk_same (Disk.settle_not B L j h)
theorem settle_pay : ∀ (cs : List ByteArray) (a : Nat) (B : List ByteArray) (i : Nat), i < cs.length → a + cs.length ≤ B.length → blk (Disk.settle B (pay a cs)) (a + i) = blk cs i
  | [], _, _, i, h, _ => by simp at h
  | c :: cs, a, B, 0, _, hl => by
    show blk (Disk.settle (B.set a c) (pay (a + 1) cs)) a = c
    rw [settle_off _ _ _ (fun x hx => by have := (pay_mem cs (a + 1) x hx).1; omega)]
    exact blk_of (List.getElem?_set_self (by simp at hl; omega))
  | c :: cs, a, B, i + 1, h, hl => by
    show blk (Disk.settle (B.set a c) (pay (a + 1) cs)) (a + (i + 1)) = blk cs i
    rw [show a + (i + 1) = a + 1 + i from by omega]
    exact settle_pay cs (a + 1) (B.set a c) i (by simpa using h) (by simp at hl ⊢; omega)
theorem crashTo_off (B : List ByteArray) (L : List (Nat × ByteArray)) (keep : Nat) (t : Int) (j : Nat) (h : ∀ x ∈ L, x.1 ≠ j) : ∀ k, blk (crashTo B L keep t k) j = blk B j
  | 0 => rfl
  | k + 1 => by
    have ih := crashTo_off B L keep t j h k
    cases hw : L[k]? with
    | none =>
      have : crashTo B L keep t (k + 1) = crashTo B L keep t k := by rw [crashTo]; simp only [hw]
      rw [this, ih]
    | some w =>
      have hne := h w (List.mem_of_getElem? hw)
      by_cases ht : (k : Int) = t
      · rw [Disk.crashTo_torn B L keep t k w hw ht, ← ih]
        exact blk_same (List.getElem?_set_ne hne)
      · by_cases hs : stays keep k
        · rw [Disk.crashTo_kept B L keep t k w hw ht hs, ← ih]
          exact blk_same (List.getElem?_set_ne hne)
        · rw [Disk.crashTo_lost B L keep t k ht hs, ih]
theorem crash_off (B : List ByteArray) (L : List (Nat × ByteArray)) (keep : Nat) (t : Int) (j : Nat) (h : ∀ x ∈ L, x.1 ≠ j) : blk (crash B L keep t) j = blk B j := crashTo_off B L keep t j h _
theorem crash_length (B : List ByteArray) (L : List (Nat × ByteArray)) (keep : Nat) (t : Int) : (crash B L keep t).length = B.length := Disk.crashTo_length _ _ _ _ _
/-- what a crash leaves of one write -/
theorem crash_one (B : List ByteArray) (a : Nat) (s : ByteArray) (keep : Nat) (t : Int) (ha : a < B.length) : blk (crash B [(a, s)] keep t) a = blk B a ∨ blk (crash B [(a, s)] keep t) a = s ∨ blk (crash B [(a, s)] keep t) a = torn s (blk B a) := by
  have e : crash B [(a, s)] keep t = crashTo B [(a, s)] keep t (0 + 1) := rfl
  have hw : [(a, s)][0]? = some (a, s) := rfl
  rw [e]
  by_cases ht : ((0 : Nat) : Int) = t
  · rw [Disk.crashTo_torn B _ keep t 0 _ hw ht]
    exact .inr (.inr (blk_of (List.getElem?_set_self ha)))
  · by_cases hs : stays keep 0
    · rw [Disk.crashTo_kept B _ keep t 0 _ hw ht hs]
      exact .inr (.inl (blk_of (List.getElem?_set_self ha)))
    · rw [Disk.crashTo_lost B _ keep t 0 ht hs]
      exact .inl rfl
theorem torn_head {s o : ByteArray} (h : s.size = 512) : (torn s o).extract 0 256 = s.extract 0 256 := by
  have h1 : (s.extract 0 256).size = 256 := by simp [h]
  have := extract_left (s.extract 0 256) (o.extract 256 o.size)
  rw [h1] at this
  exact this

/-! ### operations one behind the other, up to the first that finds the power gone -/
def layD (d : D) (a : Nat) : List ByteArray → D × Bool
  | [] => (d, true)
  | c :: cs => if d.off then (d, false) else layD (d.written a c) (a + 1) cs
def flushD (d : D) : D × Bool := if d.off then (d, false) else (d.flushed, true)
theorem layD_nil (d : D) (a : Nat) : layD d a [] = (d, true) := rfl
theorem layD_off {d : D} (a : Nat) (c : ByteArray) (cs : List ByteArray) (h : d.off) : layD d a (c :: cs) = (d, false) := by rw [layD, if_pos h]
theorem layD_on {d : D} (a : Nat) (c : ByteArray) (cs : List ByteArray) (h : ¬ d.off) : layD d a (c :: cs) = layD (d.written a c) (a + 1) cs := by rw [layD, if_neg h]
theorem flushD_off {d : D} (h : d.off) : flushD d = (d, false) := if_pos h
theorem flushD_on {d : D} (h : ¬ d.off) : flushD d = (d.flushed, true) := if_neg h
def then_ (a : D × Bool) (f : D → D × Bool) : D × Bool := if a.2 then f a.1 else a
theorem then_yes {a : D × Bool} {f : D → D × Bool} (h : a.2 = true) : then_ a f = f a.1 := by unfold then_; rw [if_pos h]
theorem then_no {a : D × Bool} {f : D → D × Bool} (h : a.2 = false) : then_ a f = a := by unfold then_; rw [if_neg (by rw [h]; decide)]
/-- a Write's operations -/
def writeD (d : D) (a : Nat) (cs : List ByteArray) (head : ByteArray) : D × Bool := then_ (then_ (then_ (layD d (a + 1) cs) flushD) fun x => layD x a [head]) flushD
theorem layD_spec : ∀ (cs : List ByteArray) (d : D) (a : Nat), ∃ k, k ≤ cs.length ∧ (layD d a cs).1 = ⟨d.B, d.L ++ pay a (cs.take k), d.ops + k, d.cut⟩ ∧ ((layD d a cs).2 = true → k = cs.length) ∧ (d.cut < 0 → (layD d a cs).2 = true)
  | [], d, a => ⟨0, Nat.le_refl _, by simp [layD, pay], fun _ => rfl, fun _ => rfl⟩
  | c :: cs, d, a => by
    by_cases h : d.off
    · rw [layD_off a c cs h]
      refine ⟨0, Nat.zero_le _, by simp [pay], fun e => by simp at e, fun e => ?_⟩
      have := h.1
      omega
    · rw [layD_on a c cs h]
      obtain ⟨k, h1, h2, h3, h4⟩ := layD_spec cs (d.written a c) (a + 1)
      refine ⟨k + 1, by simp; omega, ?_, fun e => by rw [h3 e]; rfl, h4⟩
      rw [h2]
      simp [D.written, pay]
      omega
theorem layD_ok : ∀ (cs : List ByteArray) (d : D) (a : Nat), d.Ok → a + cs.length ≤ d.B.length → (∀ c ∈ cs, c.size = 512) → (layD d a cs).1.Ok
  | [], d, a, h, _, _ => h
  | c :: cs, d, a, h, hl, hz => by
    by_cases ho : d.off
    · rw [layD_off a c cs ho]; exact h
    · rw [layD_on a c cs ho]
      simp at hl
      exact layD_ok cs _ (a + 1) (h.written (by omega) (hz c (by simp))) (by simp [D.written]; omega) (fun x hx => hz x (by simp [hx]))
theorem flushD_ok {d : D} (h : d.Ok) : (flushD d).1.Ok := by
  by_cases ho : d.off
  · rw [flushD_off ho]; exact h
  · rw [flushD_on ho]; exact h.flushed
theorem flushD_blocks (d : D) : (flushD d).1.B.length = d.B.length ∧ (flushD d).1.cut = d.cut := by
  by_cases ho : d.off
  · rw [flushD_off ho]; exact ⟨rfl, rfl⟩
  · rw [flushD_on ho]; exact ⟨d.now_length, rfl⟩
theorem layD_blocks (cs : List ByteArray) (d : D) (a : Nat) : (layD d a cs).1.B.length = d.B.length ∧ (layD d a cs).1.cut = d.cut := by
  obtain ⟨k, _, h, _⟩ := layD_spec cs d a
  rw [h]; exact ⟨rfl, rfl⟩
/-- what a Write leaves: all of it, and all flushed; or some of its blocks, loose; or all of these flushed, and the record loose or not written -/
def AllDone (d : D) (a : Nat) (cs : List ByteArray) (head : ByteArray) (e : D) : Prop := e.B = (Disk.settle d.B (pay (a + 1) cs)).set a head ∧ e.L = [] ∧ e.ops = d.ops + cs.length + 3 ∧ e.cut = d.cut
def Under (d : D) (a : Nat) (cs : List ByteArray) (head : ByteArray) (e : D) : Prop := e.ops ≤ d.ops + cs.length + 3 ∧ e.cut = d.cut ∧ ((e.B = d.B ∧ ∃ k, e.L = pay (a + 1) (cs.take k)) ∨ e.B = Disk.settle d.B (pay (a + 1) cs) ∧ (e.L = [] ∨ e.L = [(a, head)]))
theorem writeD_spec (d : D) (a : Nat) (cs : List ByteArray) (head : ByteArray) (hL : d.L = []) :
    ((writeD d a cs head).2 = true ∧ AllDone d a cs head (writeD d a cs head).1) ∨ ((writeD d a cs head).2 = false ∧ 0 ≤ d.cut ∧ Under d a cs head (writeD d a cs head).1) := by
  obtain ⟨k, k1, k2, k3, k4⟩ := layD_spec cs d (a + 1)
  obtain ⟨x, hx⟩ : ∃ x, layD d (a + 1) cs = x := ⟨_, rfl⟩
  rw [hx, hL, List.nil_append] at k2
  rw [hx] at k3 k4
  unfold writeD
  rw [hx]
  cases h1 : x.2 with
  | false =>
    rw [then_no h1, then_no h1, then_no h1]
    refine .inr ⟨h1, ?_, ?_⟩
    · rcases Int.lt_or_le d.cut 0 with hc | hc
      · have := k4 hc
        rw [h1] at this; cases this
      · exact hc
    · rw [k2]
      exact ⟨by dsimp only; omega, rfl, .inl ⟨rfl, k, rfl⟩⟩
  | true =>
    have hk := k3 h1
    subst hk
    rw [List.take_length] at k2
    rw [then_yes h1]
    by_cases o1 : x.1.off
    · have e1 := flushD_off o1
      rw [e1, then_no rfl, then_no rfl]
      refine .inr ⟨rfl, ?_, ?_⟩
      · have := o1.1; rw [k2] at this; exact this
      · rw [k2]
        exact ⟨by dsimp only; omega, rfl, .inl ⟨rfl, cs.length, by rw [List.take_length]⟩⟩
    · have e1 := flushD_on o1
      obtain ⟨y, hy⟩ : ∃ y, x.1.flushed = y := ⟨_, rfl⟩
      have yB : y.B = Disk.settle d.B (pay (a + 1) cs) := by rw [← hy, k2]; rfl
      have yL : y.L = [] := by rw [← hy]; rfl
      have yo : y.ops = d.ops + cs.length + 1 := by rw [← hy, k2]; rfl
      have yc : y.cut = d.cut := by rw [← hy, k2]; rfl
      rw [e1, hy, then_yes (a := (y, true)) rfl]
      dsimp only
      by_cases o2 : y.off
      · rw [layD_off a head [] o2, then_no rfl]
        refine .inr ⟨rfl, ?_, by dsimp only; omega, yc, .inr ⟨yB, .inl yL⟩⟩
        have := o2.1; rw [yc] at this; exact this
      · rw [layD_on a head [] o2, layD_nil, then_yes rfl]
        dsimp only
        obtain ⟨z, hz⟩ : ∃ z, y.written a head = z := ⟨_, rfl⟩
        have zB : z.B = y.B := by rw [← hz]; rfl
        have zL : z.L = [(a, head)] := by rw [← hz]; simp [D.written, yL]
        have zo : z.ops = y.ops + 1 := by rw [← hz]; rfl
        have zc : z.cut = y.cut := by rw [← hz]; rfl
        rw [hz]
        by_cases o3 : z.off
        · rw [flushD_off o3]
          refine .inr ⟨rfl, ?_, by dsimp only; omega, by rw [zc, yc], .inr ⟨by rw [zB, yB], .inr zL⟩⟩
          have := o3.1; rw [zc, yc] at this; exact this
        · rw [flushD_on o3]
          refine .inl ⟨rfl, ?_, rfl, ?_, ?_⟩
          · show Disk.settle z.B z.L = _
            rw [zL, zB, yB]; rfl
          · show z.ops + 1 = _
            omega
          · show z.cut = _
            rw [zc, yc]
theorem writeD_ok (d : D) (a : Nat) (cs : List ByteArray) (head : ByteArray) (h : d.Ok) (hl : a + 1 + cs.length ≤ d.B.length) (hz : ∀ c ∈ cs, c.size = 512) (hh : head.size = 512) : (writeD d a cs head).1.Ok := by
  have s1 := layD_ok cs d (a + 1) h hl hz
  have b1 := layD_blocks cs d (a + 1)
  unfold writeD
  obtain ⟨x, hx⟩ : ∃ x, layD d (a + 1) cs = x := ⟨_, rfl⟩
  rw [hx] at s1 b1 ⊢
  have one : ∀ (x : D × Bool) (f : D → D × Bool), x.1.Ok → (x.1.Ok → (f x.1).1.Ok) → (then_ x f).1.Ok := fun x f h1 h2 => by
    unfold then_; split
    · exact h2 h1
    · exact h1
  have len : (then_ x flushD).1.B.length = d.B.length := by
    unfold then_; split
    · rw [(flushD_blocks _).1, b1.1]
    · exact b1.1
  have s2 := one x flushD s1 flushD_ok
  obtain ⟨y, hy⟩ : ∃ y, then_ x flushD = y := ⟨_, rfl⟩
  rw [hy] at s2 len ⊢
  have s3 := one y (fun z => layD z a [head]) s2 (fun hk => layD_ok [head] _ a hk (by simp; omega) (fun c hc => by simp at hc; rw [hc]; exact hh))
  exact one _ flushD s3 flushD_ok
end Go.Proofs.Ytghonccffmmjhaa.Log
