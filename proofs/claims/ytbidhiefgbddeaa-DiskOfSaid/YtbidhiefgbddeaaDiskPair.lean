/- The program's disk and the reference's, side by side: each call's answer as a function, one contract a call; a call on the one leaves the other. -/
import Derived.Test.YtbidhiefgbddeaaDiskRefF
import Derived.Test.YtbidhiefgbddeaaDiskOf
import Derived.Test.YtbidhiefgbddeaaDiskArgs
namespace Go.Proofs.Ytbidhiefgbddeaa.Disk
open Go.RowKit Go.Shelf
set_option linter.unusedVariables false

namespace D
def has (d : D) (n : Int) : Prop := 0 ≤ n ∧ n < d.B.length
instance (d : D) (n : Int) : Decidable (d.has n) := by unfold has; infer_instance
def wrE (d : D) (n : Int) (s : ByteArray) : Int := if d.off then 43 else if ¬ d.has n then 41 else if s.size ≠ 512 then 42 else 0
def wrD (d : D) (n : Int) (s : ByteArray) : D := if d.off then d else if ¬ d.has n then d else if s.size ≠ 512 then d else d.written n.toNat s
def flE (d : D) : Int := if d.off then 43 else 0
def flD (d : D) : D := if d.off then d else d.flushed
def rdE (d : D) (n : Int) : Int := if d.has n then 0 else 41
def rdS (d : D) (n : Int) : ByteArray := if d.has n then d.now.getD n.toNat ByteArray.empty else ByteArray.empty
theorem wr_off {d : D} (n : Int) (s : ByteArray) (ho : d.off) : d.wrE n s = 43 ∧ d.wrD n s = d := by simp [wrE, wrD, ho]
theorem wr_at {d : D} {n : Int} (s : ByteArray) (ho : ¬ d.off) (hh : ¬ d.has n) : d.wrE n s = 41 ∧ d.wrD n s = d := by simp [wrE, wrD, ho, hh]
theorem wr_len {d : D} {n : Int} {s : ByteArray} (ho : ¬ d.off) (hh : d.has n) (hs : s.size ≠ 512) : d.wrE n s = 42 ∧ d.wrD n s = d := by simp [wrE, wrD, ho, hh, hs]
theorem wr_ok {d : D} {n : Int} {s : ByteArray} (ho : ¬ d.off) (hh : d.has n) (hs : s.size = 512) : d.wrE n s = 0 ∧ d.wrD n s = d.written n.toNat s := by simp [wrE, wrD, ho, hh, hs]
theorem wrD_ops (d : D) (n : Int) (s : ByteArray) : (d.wrD n s).ops ≤ d.ops + 1 ∧ (d.wrD n s).B.length = d.B.length := by
  unfold wrD
  split
  · exact ⟨by omega, rfl⟩
  · split
    · exact ⟨by omega, rfl⟩
    · split
      · exact ⟨by omega, rfl⟩
      · exact ⟨Nat.le_refl _, rfl⟩
theorem flD_ops (d : D) : d.flD.ops ≤ d.ops + 1 ∧ d.flD.B.length = d.B.length := by
  unfold flD
  split
  · exact ⟨by omega, rfl⟩
  · exact ⟨Nat.le_refl _, d.now_length⟩
end D

theorem Left.of_below {p : Nat} {F : Nat → Prop} {d : D} {w w' : World} (h : IsDisk w p F d) (hB : Below w.heap.size w w') : Left p F d w w' := ⟨F, h.below hB, Only.of_below hB, fun k hk => .inl hk⟩
theorem left_of_eq {p : Nat} {F : Nat → Prop} {d d' : D} {w w' : World} (h : Left p F d w w') (e : d = d') : Left p F d' w w' := e ▸ h
theorem ret_i {a b : Int} (h : a = b) : Ending.returned (.int .i64 a) = .returned (.int .i64 b) := by rw [h]

section
variable {p q : Nat} {F G : Nat → Prop} {d : D} {w : World}
theorem write_d (n : Int) (s : ByteArray) (h : IsDisk w p F d) (hm : s.size ≤ 281474976710656) (hops : d.ops ≤ 1099511627776) :
    Calls Try.prog 26 #[.pointer (some ⟨p, 0, none⟩), .int .i64 n, .string s] w fun e w' => e = .returned (.int .i64 (d.wrE n s)) ∧ Left p F (d.wrD n s) w w' := by
  by_cases ho : d.off
  · obtain ⟨e1, e2⟩ := D.wr_off n s ho
    rw [e1, e2]
    exact (write_off n s h ho).mono fun e w' ⟨he, hb⟩ => ⟨he, .of_below h hb⟩
  · by_cases hh : d.has n
    · have hh2 := hh
      obtain ⟨k, rfl⟩ := Int.eq_ofNat_of_zero_le hh.1
      have hk : k < d.B.length := by have := hh.2; omega
      by_cases hs : s.size = 512
      · obtain ⟨e1, e2⟩ := D.wr_ok ho hh2 hs
        rw [e1, e2, Int.toNat_natCast]
        exact write_ok k s h ho hk hs hops
      · obtain ⟨e1, e2⟩ := D.wr_len ho hh2 hs
        rw [e1, e2]
        exact (write_len k s h ho hk hs hm).mono fun e w' ⟨he, hb⟩ => ⟨he, .of_below h hb⟩
    · obtain ⟨e1, e2⟩ := D.wr_at s ho hh
      rw [e1, e2]
      have hr : n < 0 ∨ (d.B.length : Int) ≤ n := by unfold D.has at hh; omega
      exact (write_at n s h ho hr).mono fun e w' ⟨he, hb⟩ => ⟨he, .of_below h hb⟩
theorem write_r (n : Int) (s : ByteArray) (h : R.IsRef w q G d) (hm : s.size ≤ 281474976710656) (hops : d.ops ≤ 1099511627776) :
    Calls Try.prog 37 #[.pointer (some ⟨q, 0, none⟩), .int .i64 n, .string s] w fun e w' => e = .returned (.int .i64 (d.wrE n s)) ∧ R.Left q G (d.wrD n s) w w' := by
  by_cases ho : d.off
  · obtain ⟨e1, e2⟩ := D.wr_off n s ho
    rw [e1, e2]
    exact R.write_off_r n s h ho
  · by_cases hh : d.has n
    · have hh2 := hh
      obtain ⟨k, rfl⟩ := Int.eq_ofNat_of_zero_le hh.1
      have hk : k < d.B.length := by have := hh.2; omega
      by_cases hs : s.size = 512
      · obtain ⟨e1, e2⟩ := D.wr_ok ho hh2 hs
        rw [e1, e2, Int.toNat_natCast]
        exact R.write_ok_r k s h ho hk hs hops
      · obtain ⟨e1, e2⟩ := D.wr_len ho hh2 hs
        rw [e1, e2]
        exact R.write_len_r k s h ho hk hs hm
    · obtain ⟨e1, e2⟩ := D.wr_at s ho hh
      rw [e1, e2]
      have hr : n < 0 ∨ (d.B.length : Int) ≤ n := by unfold D.has at hh; omega
      exact R.write_at_r n s h ho hr
theorem flush_d (h : IsDisk w p F d) (hops : d.ops ≤ 1099511627776) :
    Calls Try.prog 24 #[.pointer (some ⟨p, 0, none⟩)] w fun e w' => e = .returned (.int .i64 d.flE) ∧ Left p F d.flD w w' := by
  unfold D.flE D.flD
  by_cases ho : d.off
  · rw [if_pos ho, if_pos ho]
    exact (flush_off h ho).mono fun e w' ⟨he, hb⟩ => ⟨he, .of_below h hb⟩
  · rw [if_neg ho, if_neg ho]
    exact flush_ok h ho hops
theorem flush_r (h : R.IsRef w q G d) (hops : d.ops ≤ 1099511627776) :
    Calls Try.prog 34 #[.pointer (some ⟨q, 0, none⟩)] w fun e w' => e = .returned (.int .i64 d.flE) ∧ R.Left q G d.flD w w' := by
  unfold D.flE D.flD
  by_cases ho : d.off
  · rw [if_pos ho, if_pos ho]
    exact R.flush_off_r h ho
  · rw [if_neg ho, if_neg ho]
    exact R.flush_ok_r h ho hops
theorem read_d (n : Int) (h : IsDisk w p F d) :
    Calls Try.prog 25 #[.pointer (some ⟨p, 0, none⟩), .int .i64 n] w fun e w' => e = .returned (.tuple #[.string (d.rdS n), .int .i64 (d.rdE n)]) ∧ Below w.heap.size w w' := by
  unfold D.rdE D.rdS
  by_cases hh : d.has n
  · rw [if_pos hh, if_pos hh]
    obtain ⟨k, rfl⟩ := Int.eq_ofNat_of_zero_le hh.1
    have hk : k < d.B.length := by have := hh.2; omega
    refine read_yes k _ h hk ?_
    rw [Int.toNat_natCast, List.getD_eq_getElem?_getD, List.getElem?_eq_getElem (by rw [D.now_length]; exact hk)]
    rfl
  · rw [if_neg hh, if_neg hh]
    have hr : n < 0 ∨ (d.B.length : Int) ≤ n := by unfold D.has at hh; omega
    exact (read_no n h hr).mono fun e w' ⟨he, hw⟩ => ⟨he, hw ▸ Below.refl _ _⟩
theorem read_r (n : Int) (h : R.IsRef w q G d) (hops : d.ops ≤ 1099511627776) :
    Calls Try.prog 33 #[.pointer (some ⟨q, 0, none⟩), .int .i64 n] w fun e w' => e = .returned (.tuple #[.string (d.rdS n), .int .i64 (d.rdE n)]) ∧ w = w' := by
  unfold D.rdE D.rdS
  by_cases hh : d.has n
  · rw [if_pos hh, if_pos hh]
    obtain ⟨k, rfl⟩ := Int.eq_ofNat_of_zero_le hh.1
    have hk : k < d.B.length := by have := hh.2; omega
    refine R.read_yes_r k _ h hk ?_ hops
    rw [Int.toNat_natCast, List.getD_eq_getElem?_getD, List.getElem?_eq_getElem (by rw [D.now_length]; exact hk)]
    rfl
  · rw [if_neg hh, if_neg hh]
    have hr : n < 0 ∨ (d.B.length : Int) ≤ n := by unfold D.has at hh; omega
    exact R.read_no_r n h hr
end

/-- both, side by side, from block B0 on -/
structure Pair (B0 : Nat) (w : World) (p q : Nat) (d : D) : Prop where
  mem : ∃ F G, IsDisk w p F d ∧ R.IsRef w q G d ∧ (∀ k, F k → ¬ G k) ∧ (∀ k, F k → B0 ≤ k ∧ k < w.heap.size) ∧ (∀ k, G k → B0 ≤ k ∧ k < w.heap.size)
theorem IsDisk.tight {w : World} {p : Nat} {F : Nat → Prop} {d : D} (h : IsDisk w p F d) : IsDisk w p (fun k => F k ∧ k < w.heap.size) d := by
  obtain ⟨a, b, v, hA, hF⟩ := h.mem
  exact ⟨h.ok, a, b, v, hA, fun k hk => ⟨hF k hk, hA.lt k hk⟩⟩
theorem R.IsRef.tight {w : World} {p : Nat} {F : Nat → Prop} {d : D} (h : R.IsRef w p F d) : R.IsRef w p (fun k => F k ∧ k < w.heap.size) d := by
  obtain ⟨a, b, v, hA, hg, hF⟩ := h.mem
  exact ⟨h.ok, a, b, v, hA, hg, fun k hk => ⟨hF k hk, hA.lt k hk⟩⟩
/-- the program's made first, then the reference's -/
theorem Pair.start {B0 : Nat} {w w1 w2 : World} {p q : Nat} {d : D} (hp : IsDisk w1 p (fun k => w.heap.size ≤ k) d) (hq : R.IsRef w2 q (fun k => w1.heap.size ≤ k) d) (hB : Below w1.heap.size w1 w2) (h0 : B0 ≤ w.heap.size) (h1 : w.heap.size ≤ w1.heap.size) : Pair B0 w2 p q d := by
  have hs := hB.size
  refine ⟨_, _, (hp.tight.below hB), hq.tight, ?_, ?_, ?_⟩
  · rintro k ⟨_, h⟩ ⟨h2, _⟩; omega
  · rintro k ⟨h, h2⟩; omega
  · rintro k ⟨h, h2⟩; omega
theorem Pair.start' {B0 : Nat} {w w1 w2 : World} {p q : Nat} {d : D} (hq : R.IsRef w1 q (fun k => w.heap.size ≤ k) d) (hp : IsDisk w2 p (fun k => w1.heap.size ≤ k) d) (hB : Below w1.heap.size w1 w2) (h0 : B0 ≤ w.heap.size) (h1 : w.heap.size ≤ w1.heap.size) : Pair B0 w2 p q d := by
  have hs := hB.size
  refine ⟨_, _, hp.tight, (hq.tight.below hB), ?_, ?_, ?_⟩
  · rintro k ⟨h2, _⟩ ⟨_, h⟩; omega
  · rintro k ⟨h, h2⟩; omega
  · rintro k ⟨h, h2⟩; omega
theorem Pair.below {B0 : Nat} {w w' : World} {p q : Nat} {d : D} (h : Pair B0 w p q d) (hB : Below w.heap.size w w') : Pair B0 w' p q d := by
  obtain ⟨F, G, h1, h2, h3, h4, h5⟩ := h.mem
  have hs := hB.size
  exact ⟨F, G, h1.below hB, h2.below hB, h3, fun k hk => ⟨(h4 k hk).1, by have := (h4 k hk).2; omega⟩, fun k hk => ⟨(h5 k hk).1, by have := (h5 k hk).2; omega⟩⟩
/-- a call on the program's, then one on the reference's, both to d' -/
theorem Pair.both {B0 : Nat} {w w1 w2 : World} {p q : Nat} {d' : D} {F G : Nat → Prop} (h3 : ∀ k, F k → ¬ G k) (h4 : ∀ k, F k → B0 ≤ k ∧ k < w.heap.size) (h5 : ∀ k, G k → B0 ≤ k ∧ k < w.heap.size) (hB0 : B0 ≤ w.heap.size)
    (hp : Left p F d' w w1) (hq : R.Left q G d' w1 w2) : Pair B0 w2 p q d' ∧ Below B0 w w2 := by
  obtain ⟨F', a1, a2, a3⟩ := hp
  obtain ⟨G', b1, b2, b3⟩ := hq
  have hs1 := a2.size
  have hs2 := b2.size
  have a1' := a1.tight
  have b1' := b1.tight
  have a1'' : IsDisk w2 p (fun k => F' k ∧ k < w1.heap.size) d' := a1'.only b2 (fun k hk hg => by
    rcases a3 k hk.1 with h | h
    · exact h3 k h hg
    · have := (h5 k hg).2; omega)
  refine ⟨⟨_, _, a1'', b1', fun k hk hg => ?_, fun k hk => ?_, fun k hk => ?_⟩, (a2.below hB0 (fun k hk => (h4 k hk).1)).trans (b2.below (by omega) (fun k hk => (h5 k hk).1))⟩
  · rcases b3 k hg.1 with h | h
    · rcases a3 k hk.1 with h2 | h2
      · exact h3 k h2 h
      · have := (h5 k h).2; omega
    · have := hk.2; omega
  · refine ⟨?_, by have := hk.2; omega⟩
    rcases a3 k hk.1 with h | h
    · exact (h4 k h).1
    · omega
  · refine ⟨?_, hk.2⟩
    rcases b3 k hk.1 with h | h
    · exact (h5 k h).1
    · omega
theorem Pair.both' {B0 : Nat} {w w1 w2 : World} {p q : Nat} {d' : D} {F G : Nat → Prop} (h3 : ∀ k, F k → ¬ G k) (h4 : ∀ k, F k → B0 ≤ k ∧ k < w.heap.size) (h5 : ∀ k, G k → B0 ≤ k ∧ k < w.heap.size) (hB0 : B0 ≤ w.heap.size)
    (hq : R.Left q G d' w w1) (hp : Left p F d' w1 w2) : Pair B0 w2 p q d' ∧ Below B0 w w2 := by
  obtain ⟨F', a1, a2, a3⟩ := hp
  obtain ⟨G', b1, b2, b3⟩ := hq
  have hs1 := a2.size
  have hs2 := b2.size
  have a1' := a1.tight
  have b1' := b1.tight
  have b1'' : R.IsRef w2 q (fun k => G' k ∧ k < w1.heap.size) d' := b1'.only a2 (fun k hf hk => by
    rcases b3 k hk.1 with h | h
    · exact h3 k hf h
    · have := (h4 k hf).2; omega)
  refine ⟨⟨_, _, a1', b1'', fun k hk hg => ?_, fun k hk => ?_, fun k hk => ?_⟩, (b2.below hB0 (fun k hk => (h5 k hk).1)).trans (a2.below (by omega) (fun k hk => (h4 k hk).1))⟩
  · rcases a3 k hk.1 with h | h
    · rcases b3 k hg.1 with h2 | h2
      · exact h3 k h h2
      · have := (h4 k h).2; omega
    · have := hg.2; omega
  · refine ⟨?_, hk.2⟩
    rcases a3 k hk.1 with h | h
    · exact (h4 k h).1
    · omega
  · refine ⟨?_, by have := hk.2; omega⟩
    rcases b3 k hk.1 with h | h
    · exact (h5 k h).1
    · omega
end Go.Proofs.Ytbidhiefgbddeaa.Disk
