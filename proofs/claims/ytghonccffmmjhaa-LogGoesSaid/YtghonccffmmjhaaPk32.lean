/- Several texts in one, each under its own heading. -/
import Derived.Maps.AppendAt
import Derived.Test.YtghonccffmmjhaaPk31
import Derived.Test.YtghonccffmmjhaaPk01
import Derived.Test.YtghonccffmmjhaaPk15
/- The log that is cut off on its way: what stands between two rounds, and what is found behind the crash. -/
namespace Go.Proofs.Ytghonccffmmjhaa.Log
open Go.RowKit Go.Shelf
open Disk (D IsDisk crash)
open Record (E R RightP Ents AllOk EOk encB below_al below_new)
attribute [local go_sem] Oper.semAt_some
set_option linter.unusedVariables false

def ats (fs : List Fd) : List Value := fs.map fun f => .int .i64 (f.at_ : Int)
def l1 : Lg := ⟨16, 1, 2⟩
structure LsI (W0 : World) (p q : Nat) (vw : Value) (n k : Nat) (G : Nat → Prop) (d : D) (l : Lg) (W : World) : Prop where
  run : Run W W0.heap.size p q G d l n k 1
  own : W.ownsRow W0.heap.size 3 1 vw n (ats (fdsK d.B l1 n))
  far : ∀ g, vw.ownBlock = some g → ¬ G g ∧ g ≠ q
  bel : Below W0.heap.size W0 W
section
variable {W0 W W' : World} {p q n k : Nat} {vw : Value} {G : Nat → Prop} {d : D} {l : Lg}
/-- SetNext -/
theorem LsI.next {m : Nat} (h : LsI W0 p q vw n k G d l W) (hR : Run W' W0.heap.size p q G d ⟨l.at_, l.seq, m⟩ n k 1) (hO : Only (fun i => i = q) W W') : LsI W0 p q vw n k G d ⟨l.at_, l.seq, m⟩ W' :=
  ⟨hR, own_only h.own hO (fun g hg e => (h.far g hg).2 e), h.far, h.bel.trans (hO.below h.bel.size (fun i hi => by subst hi; exact h.run.sys.qlo))⟩
/-- a Write that was none -/
theorem LsI.up (h : LsI W0 p q vw n k G d l W) (hR : Run W' W0.heap.size p q G d l n (k + 1) 1) (hB : Below W.heap.size W W') : LsI W0 p q vw n (k + 1) G d l W' :=
  ⟨hR, own_only h.own (Only.of_below hB (S := fun _ => False)) (fun g _ e => e), h.far, below_th h.bel hB⟩
/-- a Write that was done, and its place kept -/
theorem LsI.more {W5 W6 : World} {o : Obj} {v' : Value} {G' : Nat → Prop} {d' : D} {l' : Lg} {f : Fd} (h : LsI W0 p q vw n k G d l W) (hR : Run W5 W0.heap.size p q G' d' l' (n + 1) (k + 1) 1) (hG : ∀ i, G' i → G i ∨ W.heap.size ≤ i) (hf : fdsK d'.B l1 (n + 1) = fdsK d.B l1 n ++ [f]) (hO : Only (fun i => G i ∨ i = q) W W5)
    (hown : W6.ownsRow W0.heap.size 3 1 v' (n + 1) (ats (fdsK d.B l1 n) ++ [.int .i64 (f.at_ : Int)])) (hgrow : (W5.alloc o).grownBy W6 vw.ownBlock) (hat : v'.ownBlock = vw.ownBlock ∨ v'.ownBlock = some (W5.alloc o).heap.size) :
    LsI W0 p q v' (n + 1) (k + 1) G' d' l' W6 := by
  have hlt : ∀ g, vw.ownBlock = some g → W0.heap.size ≤ g ∧ g < W.heap.size := fun g hg => h.own.lt g hg
  have h5 : Below W0.heap.size W0 W5 := h.bel.trans (hO.below h.bel.size (fun i hi => hi.elim (h.run.sys.lo i) (fun e => by subst e; exact h.run.sys.qlo)))
  have hon : Only (fun i => vw.ownBlock = some i) W5 W6 := ((Only.refl _ W5).alloc o).grown hgrow (fun r e => .inr e)
  have hfar : ∀ g, vw.ownBlock = some g → ¬ G' g ∧ g ≠ q := fun g hg => ⟨fun hh => by
    rcases hG g hh with h1 | h1
    · exact (h.far g hg).1 h1
    · have := (hlt g hg).2; omega, (h.far g hg).2⟩
  refine ⟨hR.only hon (fun i hi e => (hfar i e).1 hi) (fun e => (hfar q e).2 rfl), ?_, fun g hg => ?_, h5.trans (hon.below h5.size (fun i hi => (hlt i hi).1))⟩
  · rw [hf, ats, List.map_append]; exact hown
  · rcases hat with h1 | h1
    · exact hfar g (by rw [← h1]; exact hg)
    · rw [hg] at h1
      cases h1
      have h2 := World.size_alloc W5 o
      refine ⟨fun hh => ?_, fun e => ?_⟩
      · have := hR.sys.hi _ hh; omega
      · have := hR.sys.log.lt; omega
/-- the disk behind the loop, as a crash will leave it -/
structure Fallen (W0 : World) (p n u : Nat) (kp : Nat) (t : Int) (d : D) (m : Nat) (W : World) (fs : List Fd) : Prop where
  disk : ∃ F, IsDisk W p F d
  len : d.B.length = 256
  ops : d.ops ≤ 100000
  m1 : n ≤ m
  m2 : m ≤ n + u
  m3 : m ≤ 1000
  sc : Scans (crash d.B d.L kp t) l1 m
  pre : ∀ (i : Nat) (f : Fd), fs[i]? = some f → (fdsK (crash d.B d.L kp t) l1 m)[i]? = some f
  fl : fs.length = n
theorem LsI.fallen (h : LsI W0 p q vw n k G d l W) (hk : k ≤ 100) (kp : Nat) (t : Int) : Fallen W0 p n 0 kp t d n W (fdsK d.B l1 n) := by
  have hL := h.run.sys.good.nol
  have hs := h.run.sys.good.scans
  rw [h.run.sys.good.now] at hs
  refine ⟨⟨G, h.run.sys.disk⟩, h.run.len, by have := h.run.ops; omega, Nat.le_refl _, by omega, by have := h.run.le; omega, ?_, fun i f hf => ?_, fdsK_length _ _ _⟩
  · rw [hL, Disk.crash_nil]; exact hs
  · rw [hL, Disk.crash_nil]; exact hf
theorem fell_off {d' : D} {f : Fd} {G' : Nat → Prop} (hD : IsDisk W' p G' d') (hlen : d'.B.length = 256) (hops : d'.ops ≤ 100000) (kp : Nat) (t : Int) (hn : n ≤ 100)
    (hx : (Scans (crash d'.B d'.L kp t) l1 n ∧ fdsK (crash d'.B d'.L kp t) l1 n = fdsK d.B l1 n) ∨ (Scans (crash d'.B d'.L kp t) l1 (n + 1) ∧ fdsK (crash d'.B d'.L kp t) l1 (n + 1) = fdsK d.B l1 n ++ [f])) :
    ∃ m, Fallen W0 p n 1 kp t d' m W' (fdsK d.B l1 n) := by
  rcases hx with ⟨h1, h2⟩ | ⟨h1, h2⟩
  · exact ⟨n, ⟨G', hD⟩, hlen, hops, Nat.le_refl _, by omega, by omega, h1, fun i f hf => by rw [h2]; exact hf, fdsK_length _ _ _⟩
  · exact ⟨n + 1, ⟨G', hD⟩, hlen, hops, by omega, by omega, by omega, h1, fun i f hf => by rw [h2, List.getElem?_append_left (List.getElem?_eq_some_iff.1 hf).1]; exact hf, fdsK_length _ _ _⟩
/-- the crash, and the Scan behind it -/
theorem fallen_crash {u kp m : Nat} {t : Int} {fs : List Fd} (h : Fallen W0 p n u kp t d m W fs) (hkp : kp < 18446744073709551616) :
    Calls Try.prog 20 #[.pointer (some ⟨p, 0, none⟩), .agg #[.int .u64 (kp : Int), .int .i64 t]] W fun e w' => ∃ r, e = .returned (.pointer (some ⟨r, 0, none⟩)) ∧ (∃ F, IsDisk w' r F (d.crashed kp t)) ∧ Below W.heap.size W w' := by
  obtain ⟨F, hF⟩ := h.disk
  have := h.ops
  exact (Disk.crash_d kp t hkp hF (by omega)).mono fun e w' ⟨r, he, hd, _, hB⟩ => ⟨r, he, ⟨_, hd⟩, hB⟩
theorem fallen_scan {u kp m r : Nat} {t : Int} {fs : List Fd} {w1 : World} {F : Nat → Prop} (h : Fallen W0 p n u kp t d m W fs) (hd : IsDisk w1 r F (d.crashed kp t)) :
    Calls Try.prog 19 #[.pointer (some ⟨r, 0, none⟩), .int .i64 16, .int .u64 1, .int .i64 2] w1 fun e w' => ∃ a cap lq, e = .returned (.tuple #[.slice a m cap, lq, .int .i64 0]) ∧ Fnds w' (.slice a m cap) (fdsK (crash d.B d.L kp t) l1 m) ∧ m ≤ cap ∧ cap ≤ 9223372036854775807 ∧ Below w1.heap.size w1 w' := by
  have hl : (d.crashed kp t).B.length = 256 := (crash_length d.B d.L kp t).trans h.len
  have hn : (d.crashed kp t).now = crash d.B d.L kp t := rfl
  refine (sys_scan (n0 := m) l1 hd (begin_ok _ (by omega)) (by rw [hl]) (by rw [hn]; exact h.sc) h.m3).mono fun e w' hP => ?_
  obtain ⟨v, q, he, hF, _, _, hB⟩ := hP
  rw [hn] at hF
  obtain ⟨a, cap, rfl, h1, h2⟩ := hF.parts
  rw [fdsK_length] at he hF h1
  exact ⟨a, cap, _, he, hF, h1, h2, hB⟩
/-- what is read at the j-th -/
theorem fallen_at {u kp m j cap : Nat} {a : Option Addr} {t : Int} {fs : List Fd} {w2 : World} (h : Fallen W0 p n u kp t d m W fs) (hF : Fnds w2 (.slice a m cap) (fdsK (crash d.B d.L kp t) l1 m)) (hown : Lies w2 vw n 1 (ats fs)) (hj : j < n) :
    ∃ b1 o1 b2 o2 c2 x, a = some ⟨b1, o1, none⟩ ∧ vw = .slice (some ⟨b2, o2, none⟩) n c2 ∧ w2.cell? ⟨b1, o1 + j * 8, none⟩ = some (.int .i64 (x : Nat)) ∧ w2.cell? ⟨b1, o1 + j * 8 + 1, none⟩ = some (.int .u64 ((1 + j : Nat) : Int)) ∧ w2.cell? ⟨b2, o2 + j, none⟩ = some (.int .i64 (x : Nat)) := by
  obtain ⟨f, hf⟩ : ∃ f, fs[j]? = some f := ⟨_, List.getElem?_eq_getElem (by rw [h.fl]; exact hj)⟩
  have hg := h.pre j f hf
  obtain ⟨b, off, cap', m', e, hm, k0, k1, _⟩ := hF.at hg
  rw [fdsK_length] at e
  cases e
  obtain ⟨a2, c2, rfl, HL, _⟩ := hown.parts
  obtain ⟨b2, o2, rfl, hc⟩ := HL.out.read (j := j) (u := .int .i64 (f.at_ : Int)) (by simp [ats, hf])
  have hs := h.sc.seqs j f hg
  refine ⟨b, off, b2, o2, c2, f.at_, rfl, rfl, by rw [k0, hm.a], by rw [k1, hm.r, hs]; rfl, hc⟩
end
end Go.Proofs.Ytghonccffmmjhaa.Log
/- Same of the document: are two records the same? -/
namespace Go.Proofs.Ytghonccffmmjhaa.Record
open Go.RowKit
attribute [local go_sem] Oper.semAt_some
set_option linter.unusedVariables false

section
set_option maxRecDepth 100000
set_option maxHeartbeats 2000000
theorem eqlG (a b : E) (w : World) : (binOp .eql 64 a.val b.val).run Try.prog w = .ok (.bool (decide (a = b))) w := by
  obtain ⟨l1, b1, s1, v1⟩ := a
  obtain ⟨l2, b2, s2, v2⟩ := b
  have he : (Op.equalIn 10000 64 (.agg #[.int .i64 l1, .int .u32 b1, .int .u32 s1, .int .u32 v1]) (.agg #[.int .i64 l2, .int .u32 b2, .int .u32 s2, .int .u32 v2])).run Try.prog w = .ok (decide ((⟨l1, b1, s1, v1⟩ : E) = ⟨l2, b2, s2, v2⟩)) w := by
    rw [run_equalIn_agg w 9999 64 _ _ (by kernel_rfl) (by kernel_rfl)]
    simp only [E.mk.injEq]
    by_cases h1 : l1 = l2
    · by_cases h2 : b1 = b2
      · by_cases h3 : s1 = s2
        · by_cases h4 : v1 = v2
          · simp [go_sem, h1, h2, h3, h4]
          · have h4' : ¬ (v1 : Int) = v2 := by omega
            simp [go_sem, h1, h2, h3, h4, h4']
        · have h3' : ¬ (s1 : Int) = s2 := by omega
          simp [go_sem, h1, h2, h3, h3']
      · have h2' : ¬ (b1 : Int) = b2 := by omega
        simp [go_sem, h1, h2, h2']
    · simp [go_sem, h1]
  unfold E.val
  dsimp only
  rw [run_eql_struct, he]
  rfl
theorem neqG (a b : E) (w : World) : (binOp .neq 64 a.val b.val).run Try.prog w = .ok (.bool (!decide (a = b))) w := by
  have h := eqlG a b w
  unfold E.val at h ⊢
  rw [run_eql_struct] at h
  rw [run_neq_struct]
  revert h
  generalize (Op.equalIn 10000 64 (.agg #[.int .i64 a.kind, .int .u32 a.file, .int .u32 a.index, .int .u32 a.vbn]) (.agg #[.int .i64 b.kind, .int .u32 b.file, .int .u32 b.index, .int .u32 b.vbn])).run Try.prog w = r
  intro h
  cases r with
  | ok x w1 =>
    simp only [Result.andThen] at h ⊢
    injection h with h1 h2
    injection h1 with h3
    rw [h3, h2]
  | halt x w1 => simp [Result.andThen] at h

/-- two records at two boxes -/
theorem boxes (w : World) (a b : R) (v u : Value) : RAt ((w.alloc (boxR a v)).alloc (boxR b u)) w.heap.size a v ∧ RAt ((w.alloc (boxR a v)).alloc (boxR b u)) (w.heap.size + 1) b u := by
  refine ⟨(RAt.new w a v).th (below_new _ _), ?_⟩
  have := RAt.new (w.alloc (boxR a v)) b u
  rw [World.size_alloc] at this
  exact this
theorem same_any (a b : R) (v u : Value) (w : World) (h1 : Ents w v a.l) (h2 : Ents w u b.l) : Calls Try.prog 53 #[a.val v, b.val u] w (Ans w (.bool (decide (a = b)))) := by
  have hB := below_al (below_new w (boxR a v)) (boxR b u)
  obtain ⟨hA1, hA2⟩ := boxes w a b v u
  have h1' := h1.below hB
  have h2' := h2.below hB
  have HNE : Hid (¬ a = b → decide (a = b) = false) := fun h => decide_eq_false h
  have HEQ : Hid (a.seq = b.seq → a.cp = b.cp → a.ends = b.ends → a.sync = b.sync → a.next = b.next → a.l.length = b.l.length → (∀ j, j < a.l.length → ent a.l j = ent b.l j) → decide (a = b) = true) := fun k1 k2 k3 k4 k5 k6 k7 => decide_eq_true (R.ext' k1 k2 k3 k4 k5 (ent_ext k6 k7))
  have HN1 : Hid (¬ a.seq = b.seq → ¬ a = b) := fun h e => h (by rw [e])
  have HN2 : Hid (¬ a.cp = b.cp → ¬ a = b) := fun h e => h (by rw [e])
  have HN3 : Hid (¬ a.ends = b.ends → ¬ a = b) := fun h e => h (by rw [e])
  have HN4 : Hid (¬ a.sync = b.sync → ¬ a = b) := fun h e => h (by rw [e])
  have HN5 : Hid (¬ a.next = b.next → ¬ a = b) := fun h e => h (by rw [e])
  have HN6 : Hid (¬ a.l.length = b.l.length → ¬ a = b) := fun h e => h (by rw [e])
  have HN7 : Hid (∀ j, ¬ ent a.l j = ent b.l j → ¬ a = b) := fun j h e => h (by rw [e])
  obtain ⟨x, hx⟩ : ∃ x, decide (a = b) = x := ⟨_, rfl⟩
  rw [hx] at HNE HEQ ⊢
  have hN : Hid (¬ a = b → x = false) := HNE.out
  obtain ⟨D, hD⟩ : ∃ D : Prop, (¬ a = b) = D := ⟨_, rfl⟩
  rw [hD] at HNE HN1 HN2 HN3 HN4 HN5 HN6 HN7
  clear hN hD hx
  obtain ⟨s, c, en, sy, nx, A⟩ := a
  obtain ⟨s2, c2, en2, sy2, nx2, B⟩ := b
  dsimp only at h1 h2 h1' h2' HEQ HN1 HN2 HN3 HN4 HN5 HN6 HN7
  obtain ⟨a1, cap1, rfl, hn1, hm1⟩ := h1.parts
  obtain ⟨a2, cap2, rfl, hn2, hm2⟩ := h2.parts
  obtain ⟨g0, g1, g2, g3, g4, g5⟩ := hA1.c
  obtain ⟨k0, k1, k2, k3, k4, k5⟩ := hA2.c
  unfold R.val
  unfold boxR at hB hA1 hA2 h1' h2' g0 g1 g2 g3 g4 g5 k0 k1 k2 k3 k4 k5
  dsimp only at hB hA1 hA2 h1' h2' g0 g1 g2 g3 g4 g5 k0 k1 k2 k3 k4 k5 ⊢
  have H1 := Lib.hid h1'
  have H2 := Lib.hid h2'
  have HBB := Lib.hid hB
  clear h1 h2 h1' h2' hA1 hA2
  by_cases e1 : s = s2
  · subst e1
    by_cases e2 : c = c2
    · subst e2
      by_cases e3 : en = en2
      · subst e3
        by_cases e4 : sy = sy2
        · subst e4
          by_cases e5 : nx = nx2
          · subst e5
            by_cases e6 : A.length = B.length
            · have HX := Lib.hid (HEQ.out rfl rfl rfl rfl rfl e6)
              obtain ⟨N, hN⟩ : ∃ N, A.length = N := ⟨_, rfl⟩
              rw [← e6] at H2 hn2 hB HBB g5 k5 g0 g1 g2 g3 g4 k0 k1 k2 k3 k4 H1 ⊢
              have hBN : B.length = N := by omega
              rw [hN] at H1 H2 hn1 hn2 hB HBB HX g5 k5 g0 g1 g2 g3 g4 k0 k1 k2 k3 k4 ⊢
              have HNA := Lib.hid hN
              have HNB := Lib.hid hBN
              clear hN hBN e6 HEQ HN1 HN2 HN3 HN4 HN5 HN6
              have hca := fun W (hW : Below ((w.alloc (.cells #[.int .u64 (s : Int), .int .u64 (c : Int), .bool en, .bool sy, .int .i64 nx, .slice a1 N cap1] 49)).alloc (.cells #[.int .u64 (s : Int), .int .u64 (c : Int), .bool en, .bool sy, .int .i64 nx, .slice a2 N cap2] 49)).heap.size _ W) => And.intro ((hW.cell (World.block_lt_of_cell? _ _ g5)).trans g5) ((hW.cell (World.block_lt_of_cell? _ _ k5)).trans k5)
              obtain ⟨W1, hW1⟩ : ∃ W1, (w.alloc (.cells #[.int .u64 (s : Int), .int .u64 (c : Int), .bool en, .bool sy, .int .i64 nx, .slice a1 N cap1] 49)).alloc (.cells #[.int .u64 (s : Int), .int .u64 (c : Int), .bool en, .bool sy, .int .i64 nx, .slice a2 N cap2] 49) = W1 := ⟨_, rfl⟩
              rw [hW1] at H1 H2 HBB hB g0 g1 g2 g3 g4 g5 k0 k1 k2 k3 k4 k5
              simp only [hW1] at hca
              have HCA := Lib.hid hca
              clear hca
              go_enter Try.func53, Try.ntmps53
              go_wp2
              go_loopw [5] (fun i wr => ∃ k : Nat, k ≤ N ∧ i = .int .i64 (k : Int) ∧ Hid (∀ j, j < k → ent A j = ent B j) ∧ Below W1.heap.size W1 wr) (fun i _ => N - (intOf i).toNat)
              case atStart => exact ⟨0, by omega, rfl, fun j hj => by omega, Below.refl _ _⟩
              case round =>
                obtain ⟨k, hk, rfl, HU, hBr⟩ := hrel
                obtain ⟨y5, z5⟩ := HCA.out _ hBr
                by_cases hlt : k < N
                · obtain ⟨b1, off1, cap3, f1, c0, c1, c2, c3⟩ := (H1.out.below hBr).at (k := k) (by rw [HNA.out]; exact hlt)
                  obtain ⟨b2, off2, cap4, f2, d0, d1, d2, d3⟩ := (H2.out.below hBr).at (k := k) (by rw [HNB.out]; exact hlt)
                  rw [HNA.out] at f1
                  rw [HNB.out] at f2
                  cases f1
                  cases f2
                  have HBr := Lib.hid hBr
                  have hq := fun W => neqG (ent A k) (ent B k) W
                  unfold E.val at hq
                  by_cases hx : ent A k = ent B k
                  · rw [decide_eq_true hx] at hq
                    have hq1 : ∀ W, (binOp .neq 64 (.agg #[.int .i64 (ent A k).kind, .int .u32 (ent A k).file, .int .u32 (ent A k).index, .int .u32 (ent A k).vbn]) (.agg #[.int .i64 (ent B k).kind, .int .u32 (ent B k).file, .int .u32 (ent B k).index, .int .u32 (ent B k).vbn])).run Try.prog W = .ok (.bool false) W := hq
                    have HXX := Lib.hid hx
                    clear hx hq
                    go_wp2
                    go_quiet (fail)
                    go_wp2
                    go_roundw
                    case rel => exact ⟨k + 1, by omega, by go_num, fun j hj => (by rcases Nat.lt_succ_iff_lt_or_eq.1 hj with h | h; exact HU.out j h; rw [h]; exact HXX.out), below_drewN HBr.out _⟩
                    case measure => simp [intOf]; omega
                  · rw [decide_eq_false hx] at hq
                    have hq1 : ∀ W, (binOp .neq 64 (.agg #[.int .i64 (ent A k).kind, .int .u32 (ent A k).file, .int .u32 (ent A k).index, .int .u32 (ent A k).vbn]) (.agg #[.int .i64 (ent B k).kind, .int .u32 (ent B k).file, .int .u32 (ent B k).index, .int .u32 (ent B k).vbn])).run Try.prog W = .ok (.bool true) W := hq
                    have HXX := Lib.hid (HNE.out (HN7.out k hx))
                    clear hx hq
                    go_wp2
                    go_quiet (fail)
                    go_wp2
                    go_ret
                    exact ⟨by rw [HXX.out]; rfl, below_drewN (below_th HBB.out HBr.out) _⟩
                · obtain rfl : k = N := by omega
                  have HA := Lib.hid (HX.out HU.out)
                  go_wp2
                  go_ret
                  exact ⟨by rw [HA.out]; rfl, below_th HBB.out hBr⟩
            · have q6 : ((A.length : Int) == (B.length : Int)) = false := by simp; omega
              have HX := Lib.hid (HNE.out (HN6.out e6))
              obtain ⟨NA, hNA⟩ : ∃ NA, A.length = NA := ⟨_, rfl⟩
              obtain ⟨NB, hNB⟩ : ∃ NB, B.length = NB := ⟨_, rfl⟩
              rw [hNA, hNB] at q6
              simp only [hNA, hNB] at g5 k5 hn1 hn2 HBB hB g0 g1 g2 g3 g4 k0 k1 k2 k3 k4 ⊢
              clear e6 hNA hNB H1 H2
              go_enter Try.func53, Try.ntmps53
              go_wp2
              go_ret
              exact ⟨by rw [HX.out]; rfl, HBB.out⟩
          · have q5 : (nx == nx2) = false := by simp [e5]
            have HX := Lib.hid (HNE.out (HN5.out e5))
            clear e5
            go_enter Try.func53, Try.ntmps53
            go_wp2
            go_ret
            exact ⟨by rw [HX.out]; rfl, HBB.out⟩
        · have HX := Lib.hid (HNE.out (HN4.out e4))
          cases sy <;> cases sy2 <;> first | exact absurd rfl e4 | skip
          all_goals
            clear e4
            go_enter Try.func53, Try.ntmps53
            go_wp2
            go_ret
            exact ⟨by rw [HX.out]; rfl, HBB.out⟩
      · have HX := Lib.hid (HNE.out (HN3.out e3))
        cases en <;> cases en2 <;> first | exact absurd rfl e3 | skip
        all_goals
          clear e3
          go_enter Try.func53, Try.ntmps53
          go_wp2
          go_ret
          exact ⟨by rw [HX.out]; rfl, HBB.out⟩
    · have q2 : (c == c2) = false := by simp [e2]
      have HX := Lib.hid (HNE.out (HN2.out e2))
      go_enter Try.func53, Try.ntmps53
      go_wp2
      go_ret
      exact ⟨by rw [HX.out]; rfl, HBB.out⟩
  · have q1 : (s == s2) = false := by simp [e1]
    have HX := Lib.hid (HNE.out (HN1.out e1))
    go_enter Try.func53, Try.ntmps53
    go_wp2
    go_ret
    exact ⟨by rw [HX.out]; rfl, HBB.out⟩
end
end Go.Proofs.Ytghonccffmmjhaa.Record
