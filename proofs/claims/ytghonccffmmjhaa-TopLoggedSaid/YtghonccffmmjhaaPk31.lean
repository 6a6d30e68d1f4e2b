/- Several texts in one, each under its own heading. -/
import Derived.OpenShut
import Derived.Test.YtghonccffmmjhaaPk30
import Derived.Test.YtghonccffmmjhaaPk22
import Derived.Test.YtghonccffmmjhaaPk29
/- What comes in to the laws on logs: items, and lists of items, with what they weigh; fates. -/
namespace Go.Proofs.Ytghonccffmmjhaa.Log
open Go.RowKit Go.Shelf Go.ChangeShapes Go.WideShapes Go.Deep
open Record (E EOk)
set_option linter.unusedVariables false

theorem bounds64 {n : Int} (h : (Lit.int .i64 n).wf = true) : -9223372036854775808 ≤ n ∧ n ≤ 9223372036854775807 := by
  have h1 : IntKind.i64.min = -9223372036854775808 := rfl
  have h2 : IntKind.i64.max = 9223372036854775807 := rfl
  simp only [Lit.wf, Bool.and_eq_true, decide_eq_true_eq] at h
  omega
theorem boundsU {n : Int} (h : (Lit.int .u64 n).wf = true) : 0 ≤ n ∧ n ≤ 18446744073709551615 := by
  have h1 : IntKind.u64.min = 0 := rfl
  have h2 : IntKind.u64.max = 18446744073709551615 := rfl
  simp only [Lit.wf, Bool.and_eq_true, decide_eq_true_eq] at h
  omega
theorem bounds32 {n : Int} (h : (Lit.int .u32 n).wf = true) : 0 ≤ n ∧ n ≤ 4294967295 := by
  have h1 : IntKind.u32.min = 0 := rfl
  have h2 : IntKind.u32.max = 4294967295 := rfl
  simp only [Lit.wf, Bool.and_eq_true, decide_eq_true_eq] at h
  omega
theorem cells_entry : Try.prog.cellsOf 64 = 4 := by kernel_rfl
theorem cells_item : Try.prog.cellsOf 66 = 5 := by kernel_rfl
theorem cells_int : Try.prog.cellsOf 3 = 1 := by kernel_rfl
theorem cells_u32 : Try.prog.cellsOf 62 = 1 := by kernel_rfl
theorem cells_string : Try.prog.cellsOf 9 = 1 := by kernel_rfl
theorem cells_items : Try.prog.cellsOf 39 = 1 := by kernel_rfl
theorem list4 {α : Type} {l : List α} (h : l.length = 4) : ∃ a b c d, l = [a, b, c, d] := by
  match l, h with
  | [a, b, c, d], _ => exact ⟨a, b, c, d, rfl⟩
theorem list5 {α : Type} {l : List α} (h : l.length = 5) : ∃ a b c d e, l = [a, b, c, d, e] := by
  match l, h with
  | [a, b, c, d, e], _ => exact ⟨a, b, c, d, e, rfl⟩
def ItOk (x : It) : Prop := EOk x.e ∧ x.c.size ≤ 281474976710656
section
variable {H : Type} {enc : TypeId × Value → H} {w : World} {base fuel : Nat} {cs : List Value} {x : DataW H × List MemPlace}
theorem open_entry {n : Nat} {c : List Value} {y : DataW H × List MemPlace} (h : DataW.trod enc Try.prog w base (fun _ => true) true n 64 c = some y) : ∃ s : E, c = s.cells ∧ EOk s := by
  obtain ⟨xs, m, _, _, hl, hxl, hf⟩ := DataW.trod_struct Try.underlying64 h
  rw [cells_entry] at hl
  obtain ⟨c0, c1, c2, c3, rfl⟩ := list4 hl
  have hxs : xs.length = 4 := by simpa using hxl
  have hz : ∀ i, i < 4 → ∃ z, xs[i]? = some z := fun i hi => ⟨xs[i]'(by omega), by simp⟩
  have f0 : DataW.trod enc Try.prog w base (fun _ => true) true m 3 [c0] = xs[0]? := by have hh : DataW.trod enc Try.prog w base (fun _ => true) true m 3 (([c0, c1, c2, c3].drop 0).take (Try.prog.cellsOf 3)) = xs[0]? := hf 0 _ rfl; rw [cells_int] at hh; exact hh
  have f1 : DataW.trod enc Try.prog w base (fun _ => true) true m 62 [c1] = xs[1]? := by have hh : DataW.trod enc Try.prog w base (fun _ => true) true m 62 (([c0, c1, c2, c3].drop 1).take (Try.prog.cellsOf 62)) = xs[1]? := hf 1 _ rfl; rw [cells_u32] at hh; exact hh
  have f2 : DataW.trod enc Try.prog w base (fun _ => true) true m 62 [c2] = xs[2]? := by have hh : DataW.trod enc Try.prog w base (fun _ => true) true m 62 (([c0, c1, c2, c3].drop 2).take (Try.prog.cellsOf 62)) = xs[2]? := hf 2 _ rfl; rw [cells_u32] at hh; exact hh
  have f3 : DataW.trod enc Try.prog w base (fun _ => true) true m 62 [c3] = xs[3]? := by have hh : DataW.trod enc Try.prog w base (fun _ => true) true m 62 (([c0, c1, c2, c3].drop 3).take (Try.prog.cellsOf 62)) = xs[3]? := hf 3 _ rfl; rw [cells_u32] at hh; exact hh
  obtain ⟨z0, h0⟩ := hz 0 (by omega)
  obtain ⟨z1, h1⟩ := hz 1 (by omega)
  obtain ⟨z2, h2⟩ := hz 2 (by omega)
  obtain ⟨z3, h3⟩ := hz 3 (by omega)
  rw [h0] at f0
  rw [h1] at f1
  rw [h2] at f2
  rw [h3] at f3
  obtain ⟨n0, e0, _, w0⟩ := DataW.trod_int Try.underlying3 f0
  obtain ⟨n1, e1, _, w1⟩ := DataW.trod_int Try.underlying62 f1
  obtain ⟨n2, e2, _, w2⟩ := DataW.trod_int Try.underlying62 f2
  obtain ⟨n3, e3, _, w3⟩ := DataW.trod_int Try.underlying62 f3
  simp only [List.cons.injEq, and_true] at e0 e1 e2 e3
  subst e0 e1 e2 e3
  have k1 := bounds32 w1
  have k2 := bounds32 w2
  have k3 := bounds32 w3
  obtain ⟨q1, rfl⟩ := Int.eq_ofNat_of_zero_le k1.1
  obtain ⟨q2, rfl⟩ := Int.eq_ofNat_of_zero_le k2.1
  obtain ⟨q3, rfl⟩ := Int.eq_ofNat_of_zero_le k3.1
  exact ⟨⟨n0, q1, q2, q3⟩, rfl, ⟨bounds64 w0, by show q1 < _; omega, by show q2 < _; omega, by show q3 < _; omega⟩⟩
theorem open_item {n : Nat} {c : List Value} {y : DataW H × List MemPlace} (h : DataW.trod enc Try.prog w base (fun _ => true) true n 66 c = some y) (hk : ∀ k ∈ y.1.weights Try.prog 66, k ≤ 281474976710656) : ∃ s : It, c = s.cells ∧ ItOk s := by
  obtain ⟨xs, m, _, hy, hl, hxl, hf⟩ := DataW.trod_struct Try.underlying66 h
  rw [cells_item] at hl
  obtain ⟨c0, c1, c2, c3, c4, rfl⟩ := list5 hl
  have hxs : xs.length = 2 := by simpa using hxl
  have hz : ∀ i, i < 2 → ∃ z, xs[i]? = some z := fun i hi => ⟨xs[i]'(by omega), by simp⟩
  have f0 : DataW.trod enc Try.prog w base (fun _ => true) true m 64 [c0, c1, c2, c3] = xs[0]? := by have hh : DataW.trod enc Try.prog w base (fun _ => true) true m 64 (([c0, c1, c2, c3, c4].drop 0).take (Try.prog.cellsOf 64)) = xs[0]? := hf 0 _ rfl; rw [cells_entry] at hh; exact hh
  have f1 : DataW.trod enc Try.prog w base (fun _ => true) true m 9 [c4] = xs[1]? := by have hh : DataW.trod enc Try.prog w base (fun _ => true) true m 9 (([c0, c1, c2, c3, c4].drop 4).take (Try.prog.cellsOf 9)) = xs[1]? := hf 1 _ rfl; rw [cells_string] at hh; exact hh
  obtain ⟨z0, h0⟩ := hz 0 (by omega)
  obtain ⟨z1, h1⟩ := hz 1 (by omega)
  rw [h0] at f0
  rw [h1] at f1
  obtain ⟨e, he, heo⟩ := open_entry f0
  obtain ⟨n1, e1, y1, w1⟩ := DataW.trod_string Try.underlying9 f1
  have hw1 : n1.size ≤ 281474976710656 := by
    have hd : (xs.map (·.1))[1]? = some z1.1 := by rw [List.getElem?_map, h1]; rfl
    have := hk n1.data.toList.length (by
      rw [hy]
      simp only [DataW.weights, Try.underlying66]
      exact DataW.weights_mem_each (j := 1) (t := 9) rfl hd _ (by rw [y1]; simp [DataW.weights]))
    rwa [Array.length_toList] at this
  simp only [List.cons.injEq, and_true] at e1
  subst e1
  unfold E.cells at he
  simp only [List.cons.injEq, and_true] at he
  obtain ⟨rfl, rfl, rfl, rfl⟩ := he
  exact ⟨⟨e, n1⟩, rfl, heo, hw1⟩
theorem lies_items (h : DataW.trod enc Try.prog w base (fun _ => true) true fuel 39 cs = some x) (hk : ∀ k ∈ x.1.weights Try.prog 39, k ≤ 281474976710656) :
    ∃ (v : Value) (L : List It), cs = [v] ∧ Its w v L ∧ (∀ o ∈ L, ItOk o) := by
  obtain ⟨v, L, h1, h2, h3, _⟩ := lies_flatW It.cells ItOk 5 Try.underlying39 cells_item (by decide) 281474976710656 hk (fun n c y hh hk => open_item hh hk) h
  exact ⟨v, L, h1, h2, h3⟩
/-- lists of items: each with the slice that it is in memory -/
def Recs (w : World) (v : Value) (LL : List (Value × List It)) : Prop := Lies w v LL.length 1 (LL.map (·.1)) ∧ ∀ o ∈ LL, Its w o.1 o.2
def RecsOk (LL : List (Value × List It)) : Prop := ∀ o ∈ LL, ∀ x ∈ o.2, ItOk x
theorem lies_recs (h : DataW.trod enc Try.prog w base (fun _ => true) true fuel 22 cs = some x) (hk : ∀ k ∈ x.1.weights Try.prog 22, k ≤ 281474976710656) :
    ∃ (v : Value) (LL : List (Value × List It)), cs = [v] ∧ Recs w v LL ∧ RecsOk LL := by
  obtain ⟨v, L, h1, h2, h3, _⟩ := lies_flatW (fun o : Value × List It => [o.1]) (fun o => Its w o.1 o.2 ∧ ∀ x ∈ o.2, ItOk x) 1 Try.underlying22 cells_items (by decide) 281474976710656 hk (fun n c y hh hk => by
    obtain ⟨v, L, e, hI, hO⟩ := lies_items hh hk
    exact ⟨(v, L), e, hI, hO⟩) h
  have e : ∀ L : List (Value × List It), L.flatMap (fun o => [o.1]) = L.map (·.1) := fun L => by
    induction L with
    | nil => rfl
    | cons a L ih => rw [List.flatMap_cons, ih]; rfl
  rw [e] at h2
  exact ⟨v, L, h1, ⟨h2, fun o ho => (h3 o ho).1⟩, fun o ho => (h3 o ho).2⟩
end
theorem Recs.below {w w' : World} {v : Value} {LL : List (Value × List It)} (h : Recs w v LL) (hB : Below w.heap.size w w') : Recs w' v LL := ⟨h.1.below hB, fun o ho => (h.2 o ho).below hB⟩
theorem Recs.parts {w : World} {v : Value} {LL : List (Value × List It)} (h : Recs w v LL) : ∃ a cap, v = .slice a LL.length cap ∧ LL.length ≤ cap ∧ cap ≤ 9223372036854775807 := by
  obtain ⟨a, cap, e, _, h1, h2⟩ := h.1.parts
  exact ⟨a, cap, e, h1, h2⟩
/-- the k-th list -/
theorem Recs.get {w : World} {a : Option Addr} {n cap : Nat} {LL : List (Value × List It)} (hn : LL.length = n) (h : Recs w (.slice a n cap) LL) {k : Nat} (hk : k < n) : ∃ b off o, a = some ⟨b, off, none⟩ ∧ LL[k]? = some o ∧ w.cell? ⟨b, off + k, none⟩ = some o.1 ∧ Its w o.1 o.2 ∧ o ∈ LL := by
  subst hn
  obtain ⟨o, ho⟩ : ∃ o, LL[k]? = some o := ⟨_, List.getElem?_eq_getElem hk⟩
  obtain ⟨b, off, e, hc⟩ := h.1.read (j := k) (u := o.1) (by rw [List.getElem?_map, ho]; rfl)
  have hm := List.mem_of_getElem? ho
  exact ⟨b, off, o, e, ho, hc, h.2 o hm, hm⟩
end Go.Proofs.Ytghonccffmmjhaa.Log
/- Lists of items cut short, numbers made small, and a log that runs from segment to segment. -/
namespace Go.Proofs.Ytghonccffmmjhaa.Log
open Go.RowKit Go.Shelf
open Disk (D IsDisk crash)
open Record (E R RightP Ents AllOk EOk encB below_al below_new)
attribute [local go_sem] Oper.semAt_some
set_option linter.unusedVariables false

theorem its_take {w : World} {a : Option Addr} {n cap : Nat} {L : List It} (hn : L.length = n) (h : Its w (.slice a n cap) L) (k : Nat) (hk : k ≤ n) : Its w (.slice a k cap) (L.take k) := by
  subst hn
  obtain ⟨a', cap', e, hc, hm, hlen, hcells⟩ := h
  cases e
  have hl : (L.take k).length = k := by rw [List.length_take]; omega
  unfold Its
  rw [hl]
  refine ⟨a, cap, rfl, by omega, hm, by rw [flat_length It.cells 5 _ (fun _ _ => rfl), hl], fun hp => ?_⟩
  obtain ⟨b, off, e, hc⟩ := hcells (by omega)
  refine ⟨b, off, e, fun j u hj => hc j u ?_⟩
  have e2 : L.flatMap It.cells = (L.take k).flatMap It.cells ++ (L.drop k).flatMap It.cells := by rw [← List.flatMap_append, List.take_append_drop]
  rw [e2, List.getElem?_append_left (List.getElem?_eq_some_iff.1 hj).1]
  exact hj
section
set_option maxRecDepth 100000
theorem cut_at (v : Value) (L : List It) (N : Nat) (hN : (L.take 20).length = N) (w : World) (hL : Its w v L) : Calls Try.prog 15 #[v] w fun e w' => ∃ a cap, e = .returned (.slice a N cap) ∧ Its w (.slice a N cap) (L.take 20) ∧ N ≤ cap ∧ cap ≤ 9223372036854775807 ∧ w = w' := by
  obtain ⟨a, cap, rfl, hn, hm⟩ := hL.parts
  have hK : min L.length 20 = N := by rw [List.length_take, Nat.min_comm] at hN; exact hN
  have hT : Its w (.slice a N cap) (L.take 20) := by
    have := its_take rfl hL N (by omega)
    have e : L.take N = L.take 20 := by
      rcases Nat.lt_or_ge 20 L.length with h | h
      · rw [show N = 20 by omega]
      · rw [show N = L.length by omega, List.take_length, List.take_of_length_le h]
    rw [e] at this
    exact this
  have HT := Lib.hid hT
  obtain ⟨n, hn0⟩ : ∃ n, L.length = n := ⟨_, rfl⟩
  rw [hn0] at hn hK ⊢
  have hK2 : (min (n : Int) 20).toNat = N := by omega
  have hK3 : min (n : Int) 20 ≤ (cap : Int) := by omega
  have hK4 : 0 ≤ min (n : Int) 20 := by omega
  have HK2 := Lib.hid hK2
  have HC : Hid (N ≤ cap) := show N ≤ cap by omega
  clear hL hT hK hN hn0 hK2
  go_enter Try.func15, Try.ntmps15
  go_wp2
  go_ret
  refine ⟨a, cap, ?_, HT.out, HC.out, hm, rfl⟩
  have := HK2.out
  first | rfl | (rw [← this]; rfl) | (simp only [← this]; rfl) | (congr 1; simp; omega)
def PickPost (n : Nat) (w : World) (e : Ending) (w' : World) : Prop := ∃ k : Nat, k < n ∧ e = .returned (.int .i64 (k : Int)) ∧ w = w'
theorem pick_any (c : Int) (n : Nat) (h0 : 0 < n) (hn : n ≤ 1000) (hc : -9223372036854775808 ≤ c ∧ c ≤ 9223372036854775807) (w : World) :
    Calls Try.prog 12 #[.int .i64 c, .int .i64 n] w (PickPost n w) := by
  obtain ⟨h1, h2⟩ := hc
  have hz : ((n : Int) == 0) = false := by simp; omega
  by_cases h : c < 0
  · have ht : -((c + 1).tmod (n : Int)) = (-(c + 1)) % (n : Int) := by rw [← Int.neg_tmod]; exact Int.tmod_eq_emod_of_nonneg (by omega)
    have hp1 : 0 ≤ (-(c + 1)) % (n : Int) := Int.emod_nonneg _ (by omega)
    have hp2 : (-(c + 1)) % (n : Int) < (n : Int) := Int.emod_lt_of_pos _ (by omega)
    obtain ⟨k, hk⟩ := Int.eq_ofNat_of_zero_le hp1
    have HK := Lib.hid hk
    rw [hk] at hp2
    have HT := Lib.hid ht
    clear hk hp1 ht
    go_enter Try.func12, Try.ntmps12
    go_wp2
    go_ret
    exact ⟨k, by omega, by rw [← HK.out]; first | rfl | (rw [← HT.out]; rfl), rfl⟩
  · have hp1 : 0 ≤ c % (n : Int) := Int.emod_nonneg _ (by omega)
    have hp2 : c % (n : Int) < (n : Int) := Int.emod_lt_of_pos _ (by omega)
    obtain ⟨k, hk⟩ := Int.eq_ofNat_of_zero_le hp1
    rw [hk] at hp2
    have HK := Lib.hid hk
    clear hk hp1
    go_enter Try.func12, Try.ntmps12
    go_wp2
    go_ret
    exact ⟨k, by omega, by rw [← HK.out]; rfl, rfl⟩
end
/-- a log whose segments rise: the present one is at most m -/
def Near (l : Lg) (m : Nat) : Prop := l.at_ / 16 ≤ m ∧ (l.next = 0 ∨ (l.at_ / 16 < l.next ∧ l.next ≤ m + 1))
theorem Near.up {l : Lg} {m : Nat} (h : Near l m) : Near l (m + 1) := ⟨by have := h.1; omega, h.2.imp id (fun h => ⟨h.1, by omega⟩)⟩
theorem Near.set {l : Lg} {m : Nat} (h : Near l m) : Near ⟨l.at_, l.seq, m + 1⟩ m := ⟨h.1, .inr ⟨by show l.at_ / 16 < m + 1; have := h.1; omega, Nat.le_refl _⟩⟩
theorem Near.step {l : Lg} {m : Nat} (h : Near l m) (h0 : l.next ≠ 0) (k : Nat) (hk : k ≤ 15 - l.at_ % 16) : Near (behind l k l.next) (m + 1) := by
  obtain ⟨h1, h2⟩ := h
  obtain ⟨h3, h4⟩ := h2.resolve_left h0
  by_cases hb : (l.at_ + 1 + k) / 16 = l.at_ / 16 ∧ (l.at_ + 1 + k) % 16 ≠ 15
  · rw [behind_same hb]
    exact ⟨by show (l.at_ + 1 + k) / 16 ≤ _; omega, .inr ⟨by show (l.at_ + 1 + k) / 16 < l.next; omega, by show l.next ≤ _; omega⟩⟩
  · rw [behind_next hb]
    exact ⟨by show l.next * 16 / 16 ≤ _; omega, .inl rfl⟩
theorem lgK_seq (B : List ByteArray) (l0 : Lg) : ∀ k, (lgK B l0 k).seq = l0.seq + k
  | 0 => rfl
  | k + 1 => by
    show (behind _ _ _).seq = _
    rw [behind_seq, lgK_seq B l0 k]
    omega
theorem fdsK_get {B : List ByteArray} {l0 : Lg} {n i : Nat} (h : i < n) : (fdsK B l0 n)[i]? = some (fdAt B (lgK B l0 i)) := by simp [fdsK, h]
theorem Scans.seqs {B : List ByteArray} {l0 : Lg} {n : Nat} (h : Scans B l0 n) (i : Nat) (f : Fd) (hf : (fdsK B l0 n)[i]? = some f) : f.r.seq = l0.seq + i := by
  have hi : i < n := by have := (List.getElem?_eq_some_iff.1 hf).1; rwa [fdsK_length] at this
  rw [fdsK_get hi] at hf
  cases hf
  show (hd B (lgK B l0 i)).seq = _
  rw [(h.1 i hi).1.2.1, lgK_seq]
structure Run (W : World) (base p q : Nat) (G : Nat → Prop) (d : D) (l : Lg) (n k c : Nat) : Prop where
  sys : Sys W base p q G d ⟨16, 1, 2⟩ l n
  le : n ≤ k
  near : Near l (k + c)
  len : d.B.length = 256
  ops : d.ops ≤ k * 20
section
variable {W W' : World} {base p q : Nat} {G : Nat → Prop} {d : D} {l : Lg} {n k c : Nat}
theorem Run.below (h : Run W base p q G d l n k c) (hB : Below W.heap.size W W') : Run W' base p q G d l n k c := ⟨h.sys.below hB, h.le, h.near, h.len, h.ops⟩
theorem Run.only {S : Nat → Prop} (h : Run W base p q G d l n k c) (hO : Only S W W') (hS : ∀ i, G i → ¬ S i) (hq : ¬ S q) : Run W' base p q G d l n k c := ⟨h.sys.only hO hS hq, h.le, h.near, h.len, h.ops⟩
theorem Run.up (h : Run W base p q G d l n k c) : Run W base p q G d l n (k + 1) c := ⟨h.sys, by have := h.le; omega, by have := h.near.up; rwa [show k + c + 1 = k + 1 + c by omega] at this, h.len, by have := h.ops; omega⟩
theorem run_next (h : Run W base p q G d l n k c) (h0 : l.next = 0) (hk : k + c ≤ 13) (x : Int) (hx : x = ((k + c + 1 : Nat) : Int)) :
    Calls Try.prog 14 #[.pointer (some ⟨q, 0, none⟩), .int .i64 x] W fun e w' => e = .returned (.int .i64 0) ∧ Run w' base p q G d ⟨l.at_, l.seq, k + c + 1⟩ n k c ∧ Only (fun i => i = q) W w' := by
  subst hx
  exact (sys_next h.sys (k + c + 1) h0 (by rw [h.len]; exact ⟨by omega, by omega⟩)).mono fun e w' ⟨he, hs, hO⟩ => ⟨he, ⟨hs, h.le, h.near.set, h.len, h.ops⟩, hO⟩
/-- what a Write of such a log leaves -/
inductive RunPost (base p q : Nat) (G : Nat → Prop) (d : D) (l : Lg) (n k c cp : Nat) (L : List It) (en sy : Bool) (w : World) (e : Ending) (w' : World) : Prop
  | arg (he : e = .returned (.tuple #[.slice none 0 0, .int .i64 2])) (hn : ¬ okW l cp L en sy) (hR : Run w' base p q G d l n (k + 1) c) (hB : Below w.heap.size w w')
  | off (he : e = .returned (.tuple #[.slice none 0 0, .int .i64 43])) (hc : 0 ≤ d.cut) (G' : Nat → Prop) (d' : D) (hD : IsDisk w' p G' d') (hlo : ∀ i, G' i → base ≤ i) (hlen : d'.B.length = 256) (hops : d'.ops ≤ k * 20 + 20) (hx : ∀ (keep : Nat) (t : Int), (Scans (crash d'.B d'.L keep t) ⟨16, 1, 2⟩ n ∧ fdsK (crash d'.B d'.L keep t) ⟨16, 1, 2⟩ n = fdsK d.B ⟨16, 1, 2⟩ n) ∨ (Scans (crash d'.B d'.L keep t) ⟨16, 1, 2⟩ (n + 1) ∧ fdsK (crash d'.B d'.L keep t) ⟨16, 1, 2⟩ (n + 1) = fdsK d.B ⟨16, 1, 2⟩ n ++ [fdW l cp L en sy])) (hO : Only (fun i => G i ∨ i = q) w w')
  | done (b : Nat) (he : e = .returned (.tuple #[.slice (some ⟨b, 0, none⟩) L.length L.length, .int .i64 0])) (hk : okW l cp L en sy) (hb : Row w' b 3 (places l L.length)) (hbn : w.heap.size ≤ b) (G' : Nat → Prop) (d' : D) (hR : Run w' base p q G' d' (behind l L.length l.next) (n + 1) (k + 1) c) (hG : ∀ i, G' i → G i ∨ w.heap.size ≤ i) (hf : fdsK d'.B ⟨16, 1, 2⟩ (n + 1) = fdsK d.B ⟨16, 1, 2⟩ n ++ [fdW l cp L en sy]) (hd : d' = (writeD d l.at_ (blks L) (encB (recW l cp L en sy))).1) (hc : Came d.B d'.B l cp L en sy) (hcut : d'.cut = d.cut) (hO : Only (fun i => G i ∨ i = q) w w')
theorem run_write (h : Run W base p q G d l n k c) (hb : base ≤ W.heap.size) (cp : Nat) (v : Value) (L : List It) (en sy : Bool) (hL : Its W v L) (hok : ∀ x ∈ L, ItOk x) (hnx : l.next ≠ 0) (hk : k ≤ 100) :
    Calls Try.prog 18 #[.pointer (some ⟨q, 0, none⟩), .int .u64 (cp : Int), v, .bool en, .bool sy] W (RunPost base p q G d l n k c cp L en sy W) := by
  have hops := h.ops
  have hsg : l.at_ / 16 < l.next := (h.near.2.resolve_left hnx).1
  refine (sys_write h.sys hb cp v L en sy hL (fun x hx => (hok x hx).2) (fun x hx => (hok x hx).1) hsg (by omega)).mono fun e w' hP => ?_
  cases hP with
  | arg he hn hB => exact .arg he hn (h.below hB).up hB
  | off he hk hc G' d' hD hlo hu hO =>
    have h15 := (okW_len hk).2
    refine .off he hc G' d' hD hlo ?_ ?_ (fun keep t => h.sys.good.under h.sys.disk.ok hk (all_ok fun x hx => (hok x hx).1) hsg hu keep t) hO
    · rw [← h.len]
      obtain ⟨_, _, hx⟩ := hu
      rcases hx with ⟨hB, _⟩ | ⟨hB, _⟩
      · rw [hB]
      · rw [hB]; exact Disk.settle_length _ _
    · have := hu.1
      rw [blks_length] at this
      omega
  | done b he hk hb2 hbn G' d' hS hG hf hd hc hops2 hcut hO =>
    have h15 := (okW_len hk).2
    refine .done b he hk hb2 hbn G' d' ⟨hS, by have := h.le; omega, ?_, by rw [hc.len]; exact h.len, by omega⟩ hG hf hd hc hcut hO
    have := h.near.step hnx L.length hk.1
    rwa [show k + c + 1 = k + 1 + c by omega] at this
theorem sys_cut {l0 : Lg} (h : Sys W base p q G d l0 l n) (x : Int) (h1 : -9223372036854775808 ≤ x) (h2 : x ≤ 9223372036854775807) :
    Calls Try.prog 11 #[.pointer (some ⟨p, 0, none⟩), .int .i64 x] W fun e w' => e = .returned (.tuple #[]) ∧ Sys w' base p q G (d.cutAt x) l0 l n ∧ Only G W w' :=
  (Disk.cutAt_d x h.disk h1 h2).mono fun e w' ⟨he, hd, hO⟩ => ⟨he, ⟨h.good.cut x, hd, fun i hi => Nat.lt_of_lt_of_le (h.hi i hi) hO.size, h.lo, h.log.of_heap (hO.block q h.log.lt h.far), h.far, h.qlo⟩, hO⟩
theorem own_only {B : Nat} {ty : TypeId} {sz : Nat} {v : Value} {m : Nat} {xs : List Value} {S : Nat → Prop} (h : W.ownsRow B ty sz v m xs) (hO : Only S W W') (hf : ∀ g, v.ownBlock = some g → ¬ S g) : W'.ownsRow B ty sz v m xs := by
  refine ⟨h.1, ?_⟩
  rcases h.2 with h2 | ⟨g, cap, cur, rfl, hb, hg, hr⟩
  · exact .inl h2
  · exact .inr ⟨g, cap, cur, rfl, hb, (hO.block g (Array.getElem?_eq_some_iff.1 hg).1 (hf g rfl)).trans hg, hr⟩
end
end Go.Proofs.Ytghonccffmmjhaa.Log
