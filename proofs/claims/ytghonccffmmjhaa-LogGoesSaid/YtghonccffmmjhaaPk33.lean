/- Several texts in one, each under its own heading. -/
import Derived.StillTailTactics
import Derived.Test.YtghonccffmmjhaaPk32
import Derived.Test.YtghonccffmmjhaaPk31
/- Same of the document's layer: numbers, texts, records that were found. -/
namespace Go.Proofs.Ytghonccffmmjhaa.Log
open Go.RowKit Go.Shelf
open Record (E R Ents Ans below_al below_new)
attribute [local go_sem] Oper.semAt_some
set_option linter.unusedVariables false

/-- what a record that was found is, cell by cell -/
structure Eight (W : World) (b o k : Nat) (fa : Nat) (fr : R) (p : Value) (d n : Nat) : Prop where
  c0 : W.cell? ⟨b, o + k * 8, none⟩ = some (.int .i64 (fa : Int))
  c1 : W.cell? ⟨b, o + k * 8 + 1, none⟩ = some (.int .u64 (fr.seq : Int))
  c2 : W.cell? ⟨b, o + k * 8 + 2, none⟩ = some (.int .u64 (fr.cp : Int))
  c3 : W.cell? ⟨b, o + k * 8 + 3, none⟩ = some (.bool fr.ends)
  c4 : W.cell? ⟨b, o + k * 8 + 4, none⟩ = some (.bool fr.sync)
  c5 : W.cell? ⟨b, o + k * 8 + 5, none⟩ = some (.int .i64 fr.next)
  c6 : W.cell? ⟨b, o + k * 8 + 6, none⟩ = some p
  c7 : W.cell? ⟨b, o + k * 8 + 7, none⟩ = some (.slice (some ⟨d, 0, none⟩) n n)
  ents : Ents W p fr.l
theorem Fnds.eight {W : World} {a : Option Addr} {n cap k : Nat} {fs : List Fd} (h : Fnds W (.slice a n cap) fs) (hn : fs.length = n) (hc : ∀ f ∈ fs, f.c.length ≤ 1000) {f : Fd} (hf : fs[k]? = some f) :
    ∃ b o p d, a = some ⟨b, o, none⟩ ∧ ∀ W', Below W.heap.size W W' → Eight W' b o k f.at_ f.r p d f.c.length ∧ Lies W' (.slice (some ⟨d, 0, none⟩) f.c.length f.c.length) f.c.length 1 (f.c.map .string) := by
  obtain ⟨b, o, cap', m, e, hm, k0, k1, k2, k3, k4, k5, k6, k7⟩ := h.at hf
  cases e
  have hcl : ∀ (W' : World) (i : Nat) (u : Value), Below W.heap.size W W' → W.cell? ⟨b, i, none⟩ = some u → W'.cell? ⟨b, i, none⟩ = some u := fun W' i u hB hu => cell_only hu (Only.of_below hB (S := fun _ => False)) (fun h => h)
  rw [hm.a] at k0
  rw [hm.r] at k1 k2 k3 k4 k5
  rw [hm.n] at k7
  refine ⟨b, o, m.v, m.b, rfl, fun W' hB => ⟨⟨hcl _ _ _ hB k0, hcl _ _ _ hB k1, hcl _ _ _ hB k2, hcl _ _ _ hB k3, hcl _ _ _ hB k4, hcl _ _ _ hB k5, hcl _ _ _ hB k6, hcl _ _ _ hB k7, hm.ents.below hB⟩, ?_⟩⟩
  exact row_lies (hm.row.of_heap (hB.block _ hm.row.lt)) (by simp) (by have := hc f (List.mem_of_getElem? hf); omega)
section
set_option maxRecDepth 100000
set_option maxHeartbeats 2000000
theorem ints_yes (v1 v2 : Value) (X : List Value) (N : Nat) (hX : ∀ k, k < N → ∃ s : Int, X[k]? = some (.int .i64 s)) (w : World) (h1 : Lies w v1 N 1 X) (h2 : Lies w v2 N 1 X) : Calls Try.prog 22 #[v1, v2] w (Ans w (.bool true)) := by
  obtain ⟨a1, cap1, rfl, h1, hn1, hm1⟩ := h1.parts
  obtain ⟨a2, cap2, rfl, h2, hn2, hm2⟩ := h2.parts
  have HG := Lib.hid hX
  clear hX
  obtain ⟨W0, rfl⟩ : ∃ W0 : World, W0 = w := ⟨_, rfl⟩
  go_enter Try.func22, Try.ntmps22
  go_wp2
  go_loopw [5] (fun i wr => ∃ k : Nat, k ≤ N ∧ i = .int .i64 (k : Int) ∧ Below W0.heap.size W0 wr) (fun i _ => N - (intOf i).toNat)
  case atStart => exact ⟨0, by omega, rfl, Below.refl _ _⟩
  case round =>
    obtain ⟨k, hk, rfl, hB⟩ := hrel
    by_cases hlt : k < N
    · obtain ⟨s, hs⟩ := HG.out k hlt
      obtain ⟨b1, off1, e1, c1⟩ := Lies.read (h1.out.below hB) hs
      obtain ⟨b2, off2, e2, c2⟩ := Lies.read (h2.out.below hB) hs
      subst e1
      subst e2
      have HBq := Lib.hid hB
      have hq1 : ∀ W : World, (binOp .neq 3 (Value.int .i64 s) (Value.int .i64 s)).run Try.prog W = .ok (.bool false) W := fun W => by first | (simp [go_sem]; done) | (simp [go_sem, binOp]; done)
      clear hs
      go_wp2
      go_quiet (fail)
      go_wp2
      go_roundw
      case rel => exact ⟨k + 1, by omega, by go_num, below_drewN HBq.out _⟩
      case measure => simp [intOf]; omega
    · go_wp2
      go_ret
      exact ⟨rfl, hB⟩
theorem texts_yes (l : List ByteArray) (va vb : Value) (N : Nat) (hN : l.length = N) (w : World) (ha : Lies w va N 1 (l.map .string)) (hb : Lies w vb N 1 (l.map .string)) :
    Calls Try.prog 24 #[va, vb] w (Ans w (.bool true)) := by
  obtain ⟨a, ca, rfl, HA, h1, h2⟩ := ha.parts
  obtain ⟨b, cb, rfl, HBb, h3, h4⟩ := hb.parts
  have HG : Hid (∀ k, k < N → ∃ s, (l.map Value.string)[k]? = some (.string s)) := fun k hk => ⟨l[k]'(by omega), by rw [List.getElem?_map, List.getElem?_eq_getElem (show k < l.length by omega)]; rfl⟩
  clear ha hb hN
  go_enter Try.func24, Try.ntmps24
  go_wp2
  go_loopw [5] (fun i wr => ∃ k : Nat, k ≤ N ∧ i = .int .i64 k ∧ Below w.heap.size w wr) (fun i _ => N - (intOf i).toNat)
  case atStart => exact ⟨0, Nat.zero_le _, rfl, Below.refl _ _⟩
  case round =>
    obtain ⟨k, hk, rfl, hB⟩ := hrel
    by_cases hlt : k < N
    · obtain ⟨s, hs⟩ := HG.out k hlt
      obtain ⟨ga, oa, rfl, ca0⟩ := (HA.out.below hB).read (j := k) hs
      obtain ⟨gb, ob, rfl, cb0⟩ := (HBb.out.below hB).read (j := k) hs
      clear hs
      go_wp2
      go_quiet (fail)
      go_wp2
      go_roundw
      case rel => exact ⟨k + 1, by omega, by go_num, ⟨hB.os, hB.tape, hB.output, hB.size, hB.block⟩⟩
      case measure => simp [intOf]; omega
    · go_wp2
      go_ret
      exact ⟨rfl, hB⟩
theorem fnds_yes (v1 v2 : Value) (fs : List Fd) (w : World) (h1 : Fnds w v1 fs) (h2 : Fnds w v2 fs) (hc : ∀ f ∈ fs, f.c.length ≤ 1000) : Calls Try.prog 23 #[v1, v2] w (Ans w (.bool true)) := by
  obtain ⟨a1, cap1, rfl, hn1, hm1⟩ := h1.parts
  obtain ⟨a2, cap2, rfl, hn2, hm2⟩ := h2.parts
  obtain ⟨N, hN⟩ : ∃ N, fs.length = N := ⟨_, rfl⟩
  rw [hN] at h1 h2 hn1 hn2 ⊢
  have HG : Hid (∀ k, k < N → ∃ (f : Fd) (b1 o1 : Nat) (p1 : Value) (d1 b2 o2 : Nat) (p2 : Value) (d2 : Nat), a1 = some ⟨b1, o1, none⟩ ∧ a2 = some ⟨b2, o2, none⟩ ∧ ∀ W', Below w.heap.size w W' → (Eight W' b1 o1 k f.at_ f.r p1 d1 f.c.length ∧ Lies W' (.slice (some ⟨d1, 0, none⟩) f.c.length f.c.length) f.c.length 1 (f.c.map .string)) ∧ (Eight W' b2 o2 k f.at_ f.r p2 d2 f.c.length ∧ Lies W' (.slice (some ⟨d2, 0, none⟩) f.c.length f.c.length) f.c.length 1 (f.c.map .string))) := fun k hk => by
    obtain ⟨f, hf⟩ : ∃ f, fs[k]? = some f := ⟨_, List.getElem?_eq_getElem (by rw [hN]; exact hk)⟩
    obtain ⟨b1, o1, p1, d1, e1, g1⟩ := h1.eight hN hc hf
    obtain ⟨b2, o2, p2, d2, e2, g2⟩ := h2.eight hN hc hf
    exact ⟨f, b1, o1, p1, d1, b2, o2, p2, d2, e1, e2, fun W' hB => ⟨g1 W' hB, g2 W' hB⟩⟩
  clear h1 h2 hN hc
  go_enter Try.func23, Try.ntmps23
  go_wp2
  go_loopw [5, 6, 7] (fun i _ _ wr => ∃ k : Nat, k ≤ N ∧ i = .int .i64 (k : Int) ∧ Below w.heap.size w wr) (fun i _ _ _ => N - (intOf i).toNat)
  case atStart => exact ⟨0, Nat.zero_le _, rfl, Below.refl _ _⟩
  case round =>
    obtain ⟨k, hk, rfl, hB⟩ := hrel
    by_cases hlt : k < N
    · obtain ⟨⟨fa, fr, fc⟩, b1, o1, p1, d1, b2, o2, p2, d2, rfl, rfl, hget⟩ := HG.out k hlt
      dsimp only at hget
      obtain ⟨fn, hfn⟩ : ∃ fn, fc.length = fn := ⟨_, rfl⟩
      rw [hfn] at hget
      have HGET := Lib.hid hget
      have HSR : Hid (∀ W, Below w.heap.size w W → Calls Try.prog 53 #[fr.val p1, fr.val p2] W (Ans W (.bool true))) := fun W hW => by
        obtain ⟨⟨q1, _⟩, ⟨q2, _⟩⟩ := hget W hW
        have := Record.same_any fr fr p1 p2 W q1.ents q2.ents
        rwa [decide_eq_true rfl] at this
      have HST : Hid (∀ W, Below w.heap.size w W → Calls Try.prog 24 #[.slice (some ⟨d1, 0, none⟩) fn fn, .slice (some ⟨d2, 0, none⟩) fn fn] W (Ans W (.bool true))) := fun W hW => by
        obtain ⟨⟨_, q1⟩, ⟨_, q2⟩⟩ := hget W hW
        exact texts_yes fc _ _ fn hfn W q1 q2
      obtain ⟨fq, fp, fe, fy, fx, fl⟩ := fr
      unfold R.val at HSR
      dsimp only at HSR
      obtain ⟨⟨⟨x0, x1, x2, x3, x4, x5, x6, x7, _⟩, _⟩, ⟨⟨y0, y1, y2, y3, y4, y5, y6, y7, _⟩, _⟩⟩ := hget _ hB
      dsimp only at x1 x2 x3 x4 x5 y1 y2 y3 y4 y5
      have e1 : ((fa : Int) != (fa : Int)) = false := by simp
      have HB := Lib.hid hB
      clear hget hfn hB
      go_wp2
      go_still_tail 10, (by kernel_rfl)
      clear x0 x1 x2 x3 x4 x5 x6 x7 y0 y1 y2 y3 y4 y5 y6 y7
      go_wp2_with (go_at_call 53; (with_reducible refine Calls.mono (HSR.out _ (below_drew HB.out)) ?_); rintro e w6 ⟨rfl, hB6⟩; have HB6 := Lib.hid (below_th (below_drew HB.out) hB6); clear hB6; obtain ⟨⟨⟨_, _, _, _, _, _, _, x7, _⟩, _⟩, ⟨⟨_, _, _, _, _, _, _, y7, _⟩, _⟩⟩ := HGET.out _ HB6.out)
      go_still_tail 10, (by kernel_rfl)
      clear x7 y7
      go_wp2_with (go_at_call 24; (with_reducible refine Calls.mono (HST.out _ (below_drew HB6.out)) ?_); rintro e w7 ⟨rfl, hB7⟩; have HB7 := Lib.hid (below_th (below_drew HB6.out) hB7); clear hB7; obtain ⟨⟨⟨x0, _, _, _, _, _, _, _, _⟩, _⟩, ⟨⟨y0, _, _, _, _, _, _, _, _⟩, _⟩⟩ := HGET.out _ HB7.out)
      go_quiet (fail)
      go_wp2
      go_roundw
      case rel => exact ⟨k + 1, by omega, by go_num, below_drewN HB7.out _⟩
      case measure => simp [intOf]; omega
    · go_wp2
      go_ret
      exact ⟨rfl, hB⟩
end
end Go.Proofs.Ytghonccffmmjhaa.Log
/- Two logs on two disks that hold the same, step by step. -/
namespace Go.Proofs.Ytghonccffmmjhaa.Log
open Go.RowKit Go.Shelf
open Disk (D IsDisk)
open Record (E R Ents Ans encB below_al below_new)
attribute [local go_sem] Oper.semAt_some
set_option linter.unusedVariables false

section
set_option maxRecDepth 100000
theorem cut_all (v : Value) (L : List It) (N : Nat) (hN : (L.take 20).length = N) (w : World) (hL : Its w v L) : Calls Try.prog 15 #[v] w fun e w' => ∃ a cap, e = .returned (.slice a N cap) ∧ (∀ W, Its W v L → Its W (.slice a N cap) (L.take 20)) ∧ N ≤ cap ∧ cap ≤ 9223372036854775807 ∧ w = w' := by
  obtain ⟨a, cap, rfl, hn, hm⟩ := hL.parts
  have hK : min L.length 20 = N := by rw [List.length_take, Nat.min_comm] at hN; exact hN
  have HT : Hid (∀ W, Its W (.slice a L.length cap) L → Its W (.slice a N cap) (L.take 20)) := fun W hW => by
    have := its_take rfl hW N (by omega)
    have e : L.take N = L.take 20 := by
      rcases Nat.lt_or_ge 20 L.length with h | h
      · rw [show N = 20 by omega]
      · rw [show N = L.length by omega, List.take_length, List.take_of_length_le h]
    rw [e] at this
    exact this
  obtain ⟨n, hn0⟩ : ∃ n, L.length = n := ⟨_, rfl⟩
  rw [hn0] at hn hK HT ⊢
  have hK2 : (min (n : Int) 20).toNat = N := by omega
  have hK3 : min (n : Int) 20 ≤ (cap : Int) := by omega
  have hK4 : 0 ≤ min (n : Int) 20 := by omega
  have HK2 := Lib.hid hK2
  have HC : Hid (N ≤ cap) := show N ≤ cap by omega
  clear hL hK hN hn0 hK2
  go_enter Try.func15, Try.ntmps15
  go_wp2
  go_ret
  refine ⟨a, cap, ?_, HT.out, HC.out, hm, rfl⟩
  have := HK2.out
  first | rfl | (rw [← this]; rfl) | (simp only [← this]; rfl) | (congr 1; simp; omega)
end
theorem Scans.small {B : List ByteArray} {l0 : Lg} {n : Nat} (h : Scans B l0 n) : ∀ f ∈ fdsK B l0 n, f.c.length ≤ 1000 := fun f hf => by
  obtain ⟨i, hi, e⟩ := List.mem_iff_getElem.1 hf
  rw [fdsK_length] at hi
  have e2 := fdsK_get (B := B) (l0 := l0) hi
  rw [List.getElem?_eq_getElem (by rw [fdsK_length]; exact hi), e] at e2
  cases e2
  have h3 : cnt B (lgK B l0 i) ≤ 15 - (lgK B l0 i).at_ % 16 := (h.1 i hi).1.2.2.1
  have h4 : (fdAt B (lgK B l0 i)).c.length = cnt B (lgK B l0 i) := by simp [fdAt]
  rw [h4]
  omega
theorem lies_keep {A B : World} {v : Value} {n sz : Nat} {xs : List Value} (h : Lies A v n sz xs) (hk : ∀ g, v.ownBlock = some g → g < A.heap.size → B.heap[g]? = A.heap[g]?) : Lies B v n sz xs := by
  obtain ⟨a, cap, h1, h2, h3, h4, h5⟩ := h
  refine ⟨a, cap, h1, h2, h3, h4, fun hn => ?_⟩
  obtain ⟨b, off, e, hc⟩ := h5 hn
  refine ⟨b, off, e, fun j u hj => ?_⟩
  have hcell := hc j u hj
  have hb := hk b (by rw [h1, e]; rfl) (cell_lt hcell)
  unfold World.cell? at hcell ⊢
  dsimp only at hcell ⊢
  rw [hb]
  exact hcell
structure Two (W0 : World) (p1 q1 p2 q2 n k : Nat) (G1 G2 : Nat → Prop) (d : D) (l : Lg) (W : World) : Prop where
  r1 : Run W W0.heap.size p1 q1 G1 d l n k 2
  r2 : Run W W0.heap.size p2 q2 G2 d l n k 2
  s1 : ∀ i, G1 i → ¬ G2 i
  s2 : ∀ i, G1 i → i ≠ q2
  s3 : ∀ i, G2 i → i ≠ q1
  s4 : q1 ≠ q2
  cut : d.cut < 0
  bel : Below W0.heap.size W0 W
section
variable {W0 W W' : World} {p1 q1 p2 q2 n k : Nat} {G1 G2 : Nat → Prop} {d : D} {l : Lg}
theorem Two.swap {q : Nat} (h : Two W0 p1 q1 p2 q2 n k G1 G2 d l W) (hB : Below W.heap.size W W') (hl : LAt W' q p2 l) (hq : W.heap.size ≤ q) : Two W0 p1 q1 p2 q n k G1 G2 d l W' := by
  have h1 := h.r1.below hB
  have h2 := h.r2.below hB
  have hi1 := h.r1.sys.hi
  have hi2 := h.r2.sys.hi
  have hq1 := h.r1.sys.log.lt
  exact ⟨h1, ⟨⟨h2.sys.good, h2.sys.disk, h2.sys.hi, h2.sys.lo, hl, fun hh => by have := hi2 _ hh; omega, Nat.le_trans h.bel.size hq⟩, h2.le, h2.near, h2.len, h2.ops⟩, h.s1, fun i hi e => by have := hi1 i hi; omega, h.s3, by omega, h.cut, below_th h.bel hB⟩
/-- the second disk's Scan -/
theorem Two.scan (h : Two W0 p1 q1 p2 q2 n k G1 G2 d l W) (hk : k ≤ 100) :
    Calls Try.prog 19 #[.pointer (some ⟨p2, 0, none⟩), .int .i64 16, .int .u64 1, .int .i64 2] W fun e w' => ∃ a cap q m, e = .returned (.tuple #[.slice a n cap, .pointer (some ⟨q, 0, none⟩), .int .i64 0]) ∧ LAt w' q p2 ⟨l.at_, l.seq, m⟩ ∧ (m = 0 ∨ m = l.next) ∧ W.heap.size ≤ q ∧ Below W.heap.size W w' := by
  have hle := h.r2.le
  refine (sys_scan (n0 := n) (⟨16, 1, 2⟩ : Lg) h.r2.sys.disk (begin_ok _ (by rw [h.r2.len]; omega)) h.r2.sys.good.m16 h.r2.sys.good.scans (by omega)).mono fun e w' hP => ?_
  obtain ⟨v, q, he, hF, hl, hq, hB⟩ := hP
  rw [h.r2.sys.good.now] at hF hl
  obtain ⟨a, cap, rfl, _, _⟩ := hF.parts
  rw [fdsK_length] at he
  obtain ⟨m, hm, hla⟩ := h.r2.sys.good.laid
  rw [hla.go] at hl
  exact ⟨a, cap, q, m, he, hl, hm, hq, hB⟩
theorem Two.reset {q m : Nat} {w1 : World} (h : Two W0 p1 q1 p2 q2 n k G1 G2 d l W) (hn : l.next ≠ 0) (hl : LAt w1 q p2 ⟨l.at_, l.seq, m⟩) (hq : W.heap.size ≤ q) (hB : Below W.heap.size W w1) :
    Calls Try.prog 14 #[.pointer (some ⟨q, 0, none⟩), .int .i64 (l.next : Int)] w1 fun e w' => e = .returned (.int .i64 0) ∧ Two W0 p1 q1 p2 q n k G1 G2 d l w' := by
  have hnx := h.r2.sys.good.ok.nx.resolve_left hn
  refine (setNext_yes l.next hl (h.r2.sys.disk.below hB) ⟨by omega, by omega⟩).mono fun e w' ⟨he, hl2, hO⟩ => ⟨he, h.swap (hB.trans (hO.below hB.size (fun i hi => by omega))) hl2 hq⟩
/-- the first log's SetNext, and the second's -/
structure Mid (W0 : World) (p1 q1 p2 q2 n k : Nat) (G1 G2 : Nat → Prop) (d : D) (l : Lg) (W : World) : Prop where
  r1 : Run W W0.heap.size p1 q1 G1 d ⟨l.at_, l.seq, k + 2 + 1⟩ n k 2
  r2 : Run W W0.heap.size p2 q2 G2 d l n k 2
  s1 : ∀ i, G1 i → ¬ G2 i
  s2 : ∀ i, G1 i → i ≠ q2
  s3 : ∀ i, G2 i → i ≠ q1
  s4 : q1 ≠ q2
  cut : d.cut < 0
  bel : Below W0.heap.size W0 W
theorem Two.next1 (h : Two W0 p1 q1 p2 q2 n k G1 G2 d l W) (h0 : l.next = 0) (hk : k ≤ 11) (x : Int) (hx : x = 3 + (k : Int)) :
    Calls Try.prog 14 #[.pointer (some ⟨q1, 0, none⟩), .int .i64 x] W fun e w' => e = .returned (.int .i64 0) ∧ Mid W0 p1 q1 p2 q2 n k G1 G2 d l w' :=
  (run_next h.r1 h0 (by omega) x (by omega)).mono fun e w' ⟨he, hR, hO⟩ => ⟨he, hR, h.r2.only hO (fun i hi e => h.s3 i hi e) (fun e => h.s4 e.symm), h.s1, h.s2, h.s3, h.s4, h.cut, h.bel.trans (hO.below h.bel.size (fun i hi => by subst hi; exact h.r1.sys.qlo))⟩
theorem Mid.next2 (h : Mid W0 p1 q1 p2 q2 n k G1 G2 d l W) (h0 : l.next = 0) (hk : k ≤ 11) (x : Int) (hx : x = 3 + (k : Int)) :
    Calls Try.prog 14 #[.pointer (some ⟨q2, 0, none⟩), .int .i64 x] W fun e w' => e = .returned (.int .i64 0) ∧ Two W0 p1 q1 p2 q2 n k G1 G2 d ⟨l.at_, l.seq, k + 2 + 1⟩ w' :=
  (run_next h.r2 h0 (by omega) x (by omega)).mono fun e w' ⟨he, hR, hO⟩ => ⟨he, h.r1.only hO (fun i hi e => h.s2 i hi e) h.s4, hR, h.s1, h.s2, h.s3, h.s4, h.cut, h.bel.trans (hO.below h.bel.size (fun i hi => by subst hi; exact h.r2.sys.qlo))⟩
/-- what a Write makes of a log and its disk, or that it is none -/
def Step (d : D) (l : Lg) (n : Nat) (L : List It) (sy : Bool) (c : Int) (N : Nat) (X : List Value) (d' : D) (l' : Lg) (n' : Nat) : Prop :=
  (okW l 2 L false sy ∧ c = 0 ∧ N = L.length ∧ X = places l L.length ∧ d' = (writeD d l.at_ (blks L) (encB (recW l 2 L false sy))).1 ∧ l' = behind l L.length l.next ∧ n' = n + 1) ∨ (¬ okW l 2 L false sy ∧ c = 2 ∧ N = 0 ∧ X = [] ∧ d' = d ∧ l' = l ∧ n' = n)
structure Half (W0 : World) (p1 q1 p2 q2 n k : Nat) (G1 G2 : Nat → Prop) (d : D) (l : Lg) (d' : D) (l' : Lg) (n' : Nat) (W : World) : Prop where
  r1 : Run W W0.heap.size p1 q1 G1 d' l' n' (k + 1) 2
  r2 : Run W W0.heap.size p2 q2 G2 d l n k 2
  s1 : ∀ i, G1 i → ¬ G2 i
  s2 : ∀ i, G1 i → i ≠ q2
  s3 : ∀ i, G2 i → i ≠ q1
  s4 : q1 ≠ q2
  cut : d.cut < 0
  cut' : d'.cut < 0
  bel : Below W0.heap.size W0 W
theorem Two.write1 {v : Value} {L : List It} (h : Two W0 p1 q1 p2 q2 n k G1 G2 d l W) (hL : Its W v L) (hok : ∀ x ∈ L, ItOk x) (hnx : l.next ≠ 0) (hk : k ≤ 100) (sy : Bool) :
    Calls Try.prog 18 #[.pointer (some ⟨q1, 0, none⟩), .int .u64 2, v, .bool false, .bool sy] W fun e w' => ∃ c v1 N X d' l' n' G', e = .returned (.tuple #[v1, .int .i64 c]) ∧ Step d l n L sy c N X d' l' n' ∧ Half W0 p1 q1 p2 q2 n k G' G2 d l d' l' n' w' ∧ Lies w' v1 N 1 X ∧ (∀ g, v1.ownBlock = some g → g < w'.heap.size ∧ ¬ G2 g ∧ g ≠ q2) := by
  refine (run_write h.r1 h.bel.size 2 v L false sy hL hok hnx hk).mono fun e w' hP => ?_
  cases hP with
  | arg he hn hR hB =>
    exact ⟨2, _, 0, [], d, l, n, G1, he, .inr ⟨hn, rfl, rfl, rfl, rfl, rfl, rfl⟩, ⟨hR, h.r2.below hB, h.s1, h.s2, h.s3, h.s4, h.cut, h.cut, below_th h.bel hB⟩, Lies.nil _ _, fun g hg => by cases hg⟩
  | off he hc => have := h.cut; omega
  | done b he hk2 hb hbn G' d' hR hG hf hd hc hcut hO =>
    have hi2 := h.r2.sys.hi
    have hq2 := h.r2.sys.log.lt
    have hh : Half W0 p1 q1 p2 q2 n k G' G2 d l d' (behind l L.length l.next) (n + 1) w' :=
      ⟨hR, h.r2.only hO (fun i hi e => e.elim (fun e => h.s1 i e hi) (h.s3 i hi)) (fun e => e.elim (fun e => h.s2 _ e rfl) (fun e => h.s4 e.symm)), fun i hi h2 => by
        rcases hG i hi with h3 | h3
        · exact h.s1 i h3 h2
        · have := hi2 i h2; omega, fun i hi e => by
        rcases hG i hi with h3 | h3
        · exact h.s2 i h3 e
        · omega, h.s3, h.s4, h.cut, by rw [hcut]; exact h.cut, h.bel.trans (hO.below h.bel.size (fun i hi => hi.elim (h.r1.sys.lo i) (fun e => by subst e; exact h.r1.sys.qlo)))⟩
    refine ⟨0, _, L.length, _, d', _, _, G', he, .inl ⟨hk2, rfl, rfl, rfl, hd, rfl, rfl⟩, hh, row_lies hb (places_length _ _) (by have := okW_len hk2; omega), fun g hg => ?_⟩
    obtain rfl : b = g := by simpa [Value.ownBlock] using hg
    exact ⟨hb.lt, fun e => by have := hi2 _ e; omega, by omega⟩
theorem Half.write2 {v v1 : Value} {L : List It} {sy : Bool} {c : Int} {N : Nat} {X : List Value} {d' : D} {l' : Lg} {n' : Nat} (h : Half W0 p1 q1 p2 q2 n k G1 G2 d l d' l' n' W) (hs : Step d l n L sy c N X d' l' n') (hL : Its W v L) (hok : ∀ x ∈ L, ItOk x) (hnx : l.next ≠ 0) (hk : k ≤ 100) (h1 : Lies W v1 N 1 X) (hv : ∀ g, v1.ownBlock = some g → g < W.heap.size ∧ ¬ G2 g ∧ g ≠ q2) :
    Calls Try.prog 18 #[.pointer (some ⟨q2, 0, none⟩), .int .u64 2, v, .bool false, .bool sy] W fun e w' => ∃ v2 G', e = .returned (.tuple #[v2, .int .i64 c]) ∧ Two W0 p1 q1 p2 q2 n' (k + 1) G1 G' d' l' w' ∧ Lies w' v1 N 1 X ∧ Lies w' v2 N 1 X := by
  refine (run_write h.r2 h.bel.size 2 v L false sy hL hok hnx hk).mono fun e w' hP => ?_
  cases hP with
  | arg he hn hR hB =>
    rcases hs with ⟨hk2, _⟩ | ⟨_, rfl, rfl, rfl, rfl, rfl, rfl⟩
    · exact absurd hk2 hn
    · exact ⟨_, G2, he, ⟨h.r1.below hB, hR, h.s1, h.s2, h.s3, h.s4, h.cut', below_th h.bel hB⟩, h1.below hB, Lies.nil _ _⟩
  | off he hc => have := h.cut; omega
  | done b he hk2 hb hbn G' d2 hR hG hf hd hc hcut hO =>
    rcases hs with ⟨_, rfl, rfl, rfl, hd', rfl, rfl⟩ | ⟨hn, _⟩
    · have hi1 := h.r1.sys.hi
      have hq1 := h.r1.sys.log.lt
      rw [← hd'] at hd
      subst hd
      refine ⟨_, G', he, ⟨h.r1.only hO (fun i hi e => e.elim (h.s1 i hi) (h.s2 i hi)) (fun e => e.elim (fun e => h.s3 _ e rfl) h.s4), hR, fun i hi h2 => ?_, h.s2, fun i hi e => ?_, h.s4, h.cut', h.bel.trans (hO.below h.bel.size (fun i hi => hi.elim (h.r2.sys.lo i) (fun e => by subst e; exact h.r2.sys.qlo)))⟩, ?_, row_lies hb (places_length _ _) (by have := okW_len hk2; omega)⟩
      · rcases hG i h2 with h3 | h3
        · exact h.s1 i hi h3
        · have := hi1 i hi; omega
      · rcases hG i hi with h3 | h3
        · exact h.s3 i h3 e
        · omega
      · exact lies_keep h1 fun g hg _ => hO.block g (hv g hg).1 (fun hh => hh.elim (hv g hg).2.1 (hv g hg).2.2)
    · exact absurd hk2 hn
theorem Step.ints {L : List It} {sy : Bool} {c : Int} {N : Nat} {X : List Value} {d' : D} {l' : Lg} {n' : Nat} (hs : Step d l n L sy c N X d' l' n') : ∀ j, j < N → ∃ s : Int, X[j]? = some (.int .i64 s) := fun j hj => by
  rcases hs with ⟨_, _, rfl, rfl, _⟩ | ⟨_, _, rfl, _⟩
  · exact ⟨_, by simp [places, hj]; rfl⟩
  · omega
theorem Two.below (h : Two W0 p1 q1 p2 q2 n k G1 G2 d l W) (hB : Below W.heap.size W W') : Two W0 p1 q1 p2 q2 n k G1 G2 d l W' := ⟨h.r1.below hB, h.r2.below hB, h.s1, h.s2, h.s3, h.s4, h.cut, below_th h.bel hB⟩
theorem Two.scan1 (h : Two W0 p1 q1 p2 q2 n k G1 G2 d l W) (hk : k ≤ 100) :
    Calls Try.prog 19 #[.pointer (some ⟨p1, 0, none⟩), .int .i64 16, .int .u64 1, .int .i64 2] W fun e w' => ∃ v q, e = .returned (.tuple #[v, q, .int .i64 0]) ∧ Fnds w' v (fdsK d.B ⟨16, 1, 2⟩ n) ∧ Below W.heap.size W w' := by
  have hle := h.r1.le
  refine (sys_scan (n0 := n) (⟨16, 1, 2⟩ : Lg) h.r1.sys.disk (begin_ok _ (by rw [h.r1.len]; omega)) h.r1.sys.good.m16 h.r1.sys.good.scans (by omega)).mono fun e w' hP => ?_
  obtain ⟨v, q, he, hF, hl, hq, hB⟩ := hP
  rw [h.r1.sys.good.now] at hF
  exact ⟨v, _, he, hF, hB⟩
theorem Two.scan2 (h : Two W0 p1 q1 p2 q2 n k G1 G2 d l W) (hk : k ≤ 100) :
    Calls Try.prog 19 #[.pointer (some ⟨p2, 0, none⟩), .int .i64 16, .int .u64 1, .int .i64 2] W fun e w' => ∃ v q, e = .returned (.tuple #[v, q, .int .i64 0]) ∧ Fnds w' v (fdsK d.B ⟨16, 1, 2⟩ n) ∧ Below W.heap.size W w' := by
  have hle := h.r2.le
  refine (sys_scan (n0 := n) (⟨16, 1, 2⟩ : Lg) h.r2.sys.disk (begin_ok _ (by rw [h.r2.len]; omega)) h.r2.sys.good.m16 h.r2.sys.good.scans (by omega)).mono fun e w' hP => ?_
  obtain ⟨v, q, he, hF, hl, hq, hB⟩ := hP
  rw [h.r2.sys.good.now] at hF
  exact ⟨v, _, he, hF, hB⟩
theorem Two.same {w1 : World} {v1 v2 : Value} (h : Two W0 p1 q1 p2 q2 n k G1 G2 d l W) (h1 : Fnds w1 v1 (fdsK d.B ⟨16, 1, 2⟩ n)) (h2 : Fnds w1 v2 (fdsK d.B ⟨16, 1, 2⟩ n)) : Calls Try.prog 23 #[v1, v2] w1 (Ans w1 (.bool true)) :=
  fnds_yes v1 v2 _ w1 h1 h2 (by have := h.r1.sys.good.scans; rw [h.r1.sys.good.now] at this; exact this.small)
theorem Two.image1 (h : Two W0 p1 q1 p2 q2 n k G1 G2 d l W) : Calls Try.prog 25 #[.pointer (some ⟨p1, 0, none⟩)] W fun e w' => ∃ v, e = .returned v ∧ Lies w' v 256 1 (d.now.map .string) ∧ Below W.heap.size W w' :=
  (Disk.image_d h.r1.sys.disk).mono fun e w' hP => by
    obtain ⟨g, he, hr, _, hB⟩ := hP
    have hl : d.now.length = 256 := by rw [Disk.D.now_length]; exact h.r1.len
    rw [hl] at he
    exact ⟨_, he, row_lies hr (by simp [hl]) (by omega), hB⟩
theorem Two.image2 (h : Two W0 p1 q1 p2 q2 n k G1 G2 d l W) : Calls Try.prog 25 #[.pointer (some ⟨p2, 0, none⟩)] W fun e w' => ∃ v, e = .returned v ∧ Lies w' v 256 1 (d.now.map .string) ∧ Below W.heap.size W w' :=
  (Disk.image_d h.r2.sys.disk).mono fun e w' hP => by
    obtain ⟨g, he, hr, _, hB⟩ := hP
    have hl : d.now.length = 256 := by rw [Disk.D.now_length]; exact h.r1.len
    rw [hl] at he
    exact ⟨_, he, row_lies hr (by simp [hl]) (by omega), hB⟩
theorem Two.blocks (h : Two W0 p1 q1 p2 q2 n k G1 G2 d l W) : d.now.length = 256 := by rw [Disk.D.now_length]; exact h.r1.len
end
end Go.Proofs.Ytghonccffmmjhaa.Log
