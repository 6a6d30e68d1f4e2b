/- Several texts in one, each under its own heading. -/
import Derived.RangeFuncBox
import Derived.RangeFuncWrites
import Derived.Maps.OwnIn
import Derived.Test.YtghonccffmmjhaaPk27
import Derived.Test.YtghonccffmmjhaaPk09
import Derived.Test.YtghonccffmmjhaaPk24
import Derived.Test.YtghonccffmmjhaaPk25
/- Scan: the records that are there, one behind the other, and the log behind them. -/
namespace Go.Proofs.Ytghonccffmmjhaa.Log
open Go.RowKit Go.Shelf
open Disk (D IsDisk)
open Record (E R RightP Ents NewV below_al below_new)
attribute [local go_sem] Oper.semAt_some
set_option linter.unusedVariables false

theorem wide_scope {n : Nat} {P : Program} {c : Code} {Q : Exit → Act → World → Prop} {a : Act} {w : World} (h : c.wpIn Fence.wide n P (Exit.noGoto Q) a w) : (Code.scope c).wpIn Fence.wide n P Q a w := wpIn_wide.2 (wp_scope_straight (wpIn_wide.1 h))
theorem wide_label {n l : Nat} {P : Program} {Q : Exit → Act → World → Prop} {a : Act} {w : World} (h : Q .normal a w) : (Code.label l).wpIn Fence.wide n P Q a w := wpIn_wide.2 (wp_label h)
/-- a record that was found, as it lies in memory -/
structure Fm where
  a : Nat
  r : R
  v : Value
  b : Nat
  n : Nat
def Fm.cells (m : Fm) : List Value := [.int .i64 (m.a : Int), .int .u64 (m.r.seq : Int), .int .u64 (m.r.cp : Int), .bool m.r.ends, .bool m.r.sync, .int .i64 m.r.next, m.v, .slice (some ⟨m.b, 0, none⟩) m.n m.n]
/-- it is that record -/
structure FmIs (W : World) (f : Fd) (m : Fm) : Prop where
  a : m.a = f.at_
  r : m.r = f.r
  n : m.n = f.c.length
  ents : Ents W m.v f.r.l
  row : Row W m.b 9 (f.c.map .string)
/-- it lies in blocks from one on, and not in that of the list -/
structure FmFar (W : World) (base : Nat) (own : Option Nat) (m : Fm) : Prop where
  b1 : base ≤ m.b
  b2 : some m.b ≠ own
  v : ∀ g o k c, m.v = .slice (some ⟨g, o, none⟩) k c → 0 < k → base ≤ g ∧ some g ≠ own ∧ g < W.heap.size
theorem FmIs.grown {A B : World} {row : Option Nat} {f : Fd} {m : Fm} {B0 : Nat} (h : FmIs A f m) (hg : A.grownBy B row) (hr : ∀ r, row = some r → B0 ≤ r ∧ ∃ o : Obj, A.heap[r]? = some o ∧ o.isCells = false) : FmIs B f m :=
  ⟨h.a, h.r, h.n, Lies.grown h.ents hg (fun k e c t f hh => by obtain ⟨_, o, ho, hc⟩ := hr k e; rw [ho] at hh; cases hh; cases hc), kept_cells h.row hg hr⟩
theorem FmIs.drewN {W : World} {f : Fd} {m : Fm} (h : FmIs W f m) (n : Nat) : FmIs (W.drewN n) f m := ⟨h.a, h.r, h.n, h.ents, h.row⟩
theorem FmFar.grown {A B : World} {row : Option Nat} {base : Nat} {own : Option Nat} {m : Fm} (h : FmFar A base own m) (hg : A.grownBy B row) : FmFar B base own m :=
  ⟨h.b1, h.b2, fun g o k c e hk => by obtain ⟨h1, h2, h3⟩ := h.v g o k c e hk; exact ⟨h1, h2, Nat.lt_of_lt_of_le h3 hg.size⟩⟩
theorem FmIs.step {A B : World} {f : Fd} {m : Fm} {base : Nat} {own : Option Nat} (h : FmIs A f m) (hf : FmFar A base own m) (hs : ∀ i : Nat, base ≤ i → i < A.heap.size → some i ≠ own → B.heap[i]? = A.heap[i]?) : FmIs B f m :=
  ⟨h.a, h.r, h.n, h.ents.keep fun g o k c e hk => by obtain ⟨h1, h2, h3⟩ := hf.v g o k c e hk; exact hs g h1 h3 h2, h.row.of_heap (hs _ hf.b1 h.row.lt hf.b2)⟩
theorem FmFar.step {A B : World} {f : Fd} {m : Fm} {base : Nat} {own own' : Option Nat} (h : FmFar A base own m) (hi : FmIs A f m) (hsz : A.heap.size ≤ B.heap.size) (ho : ∀ i : Nat, i < A.heap.size → some i ≠ own → some i ≠ own') : FmFar B base own' m :=
  ⟨h.b1, ho _ hi.row.lt h.b2, fun g o k c e hk => by obtain ⟨h1, h2, h3⟩ := h.v g o k c e hk; exact ⟨h1, ho g h3 h2, Nat.lt_of_lt_of_le h3 hsz⟩⟩
/-- a list of records that were found -/
def Fnds (W : World) (v : Value) (fs : List Fd) : Prop := ∃ ms : List Fm, ms.length = fs.length ∧ Lies W v fs.length 8 (ms.flatMap Fm.cells) ∧ ∀ (j : Nat) (f : Fd) (m : Fm), fs[j]? = some f → ms[j]? = some m → FmIs W f m
def ScanPost (B : List ByteArray) (l : Lg) (n0 p : Nat) (w : World) (e : Ending) (w' : World) : Prop := ∃ v q, e = .returned (.tuple #[v, .pointer (some ⟨q, 0, none⟩), .int .i64 0]) ∧ Fnds w' v (fdsK B l n0) ∧ LAt w' q p (lgK B l n0) ∧ w.heap.size ≤ q ∧ Below w.heap.size w w'
/-- between two rounds -/
structure ScI (B : List ByteArray) (l : Lg) (n0 : Nat) (W0 : World) (q p bf : Nat) (k : Nat) (W : World) : Prop where
  only : Only (fun i => i = q ∨ i = bf) W0 W
  log : LAt W q p (lgK B l k)
  got : ∃ (v : Value) (ms : List Fm), Boxed W bf 43 v ∧ W.ownsRow W0.heap.size 52 8 v k (ms.flatMap Fm.cells) ∧ ms.length = k ∧ ∀ (j : Nat) (f : Fd) (m : Fm), (fdsK B l k)[j]? = some f → ms[j]? = some m → FmIs W f m ∧ FmFar W W0.heap.size v.ownBlock m
  low : k ≤ n0
def ScX (B : List ByteArray) (l : Lg) (n0 : Nat) (W0 : World) (q p bf : Nat) (c : Code) (k : Nat) (W : World) : Prop := c = .exit 0 ∧ ScI B l n0 W0 q p bf k W ∧ k = n0
theorem scI_own {B : List ByteArray} {l : Lg} {n0 : Nat} {W0 : World} {q p bf : Nat} : OwnFrom W0.heap.size (ScI B l n0 W0 q p bf) := fun k W W' row h hg hr => by
  obtain ⟨v, ms, hv, hrow, hl, hm⟩ := h.got
  refine ⟨h.only.grown hg (fun r e => .inl (hr r e).1), kept_cells h.log hg hr, ⟨v, ms, kept_cells hv hg hr, hrow.kept hg ?_, hl, fun j f m h1 h2 => ⟨(hm j f m h1 h2).1.grown hg hr, (hm j f m h1 h2).2.grown hg⟩⟩, h.low⟩
  rcases hrow.2 with ⟨rfl, _⟩ | ⟨g, cap, cur, rfl, _, hgb, _⟩
  · exact .inl rfl
  · refine .inr fun e' => ?_
    obtain ⟨_, o, ho, hc⟩ := hr g (by simpa [Value.ownBlock] using e'.symm)
    rw [hgb] at ho; cases ho; cases hc
/-- the frame in a round -/
def tmpsS (p : Nat) (a sq nx z : Nat) (Bx : Nat) (x : Value) (t : Bool) : Array Value := #[.pointer (some ⟨p, 0, none⟩), .int .i64 (a : Int), .int .u64 (sq : Int), .int .i64 (nx : Int), undef, undef, undef, undef, .slice none 0 0, .pointer none, .int .i64 0, .pointer (some ⟨z + 1, 0, none⟩), .int .i64 0, .pointer (some ⟨z + 1 + 1, 0, none⟩), .pointer (some ⟨Bx, 0, none⟩), .bool t, .tuple #[.pointer (some ⟨z, 0, none⟩), .int .i64 0], .pointer (some ⟨p, 0, none⟩), .int .i64 (a : Int), .int .u64 (sq : Int), .int .i64 (nx : Int), .tuple #[.pointer (some ⟨z, 0, none⟩), .int .i64 0], .pointer (some ⟨z, 0, none⟩), .int .i64 0, .int .i64 0, .bool false, undef, .pointer (some ⟨z, 0, none⟩), .func (.func 65) #[] #[.pointer (some ⟨z + 1 + 1 + 1, 0, none⟩)], x, .bool t, undef, undef, undef, undef, undef, undef, undef, undef, undef, undef, undef, undef, undef, undef, undef, undef, undef]
def ScA (B : List ByteArray) (l : Lg) (n0 : Nat) (W0 : World) (bf : Nat) (T : Nat → Value → Bool → Array Value) (k : Nat) (a' : Act) (W : World) : Prop :=
  ∃ Bx x, W0.heap.size ≤ Bx ∧ ((k < n0 ∧ (∃ m v, FAt W Bx m.a m.r m.v (.slice (some ⟨m.b, 0, none⟩) m.n m.n) ∧ FmIs W (fdAt B (lgK B l k)) m ∧ Boxed W bf 43 v ∧ FmFar W W0.heap.size v.ownBlock m ∧ some Bx ≠ v.ownBlock) ∧ a' = { tmps := T Bx x true, defers := [] }) ∨ (k = n0 ∧ a' = { tmps := T Bx x false, defers := [] }))
theorem scA_own {B : List ByteArray} {l : Lg} {n0 : Nat} {W0 : World} {bf : Nat} {T : Nat → Value → Bool → Array Value} (k : Nat) (a' : Act) : OwnFrom W0.heap.size (fun (_ : Unit) W => ScA B l n0 W0 bf T k a' W) := fun _ W W' row hI hg hr => by
  obtain ⟨Bx, x, h1, h2⟩ := hI
  refine ⟨Bx, x, h1, ?_⟩
  rcases h2 with ⟨h2, ⟨m, v, h3, h4, h5, h6, h8⟩, h7⟩ | h2
  · exact .inl ⟨h2, ⟨m, v, kept_cells h3 hg hr, h4.grown hg hr, kept_cells h5 hg hr, h6.grown hg, h8⟩, h7⟩
  · exact .inr h2
/-- what a round is handed, where the list is -/
theorem handed {B : List ByteArray} {l : Lg} {n0 : Nat} {W0 W : World} {q p bf k : Nat} {args : Array Value} (h : FdE B l n0 (ScI B l n0 W0 q p bf) k args W) :
    (k < n0 ∧ ∃ m v0, args = #[fdVal m.a m.r m.v (.slice (some ⟨m.b, 0, none⟩) m.n m.n), .bool true] ∧ FmIs W (fdAt B (lgK B l k)) m ∧ Boxed W bf 43 v0 ∧ FmFar W W0.heap.size v0.ownBlock m) ∨ (k = n0 ∧ args = #[zeroF, .bool false]) := by
  obtain ⟨W1, hS, hB, hx⟩ := h
  rcases hx with ⟨hk, v, b, rfl, hE, hN, hR, hb⟩ | hx
  · obtain ⟨v0, ms, hv, hrow, _⟩ := hS.got
    have hown : ∀ i, v0.ownBlock = some i → i < W1.heap.size := fun i hi => (hrow.lt i hi).2
    have hsz := hS.only.size
    have hlen : (fdAt B (lgK B l k)).c.length = cnt B (lgK B l k) := by simp [fdAt]
    refine .inl ⟨hk, ⟨(lgK B l k).at_, hd B (lgK B l k), v, b, cnt B (lgK B l k)⟩, v0, rfl, ⟨rfl, rfl, hlen.symm, hE, hR⟩, (hB.block bf hv.lt).trans hv, ⟨by dsimp only; omega, fun e => ?_, fun g o c cap e hc => ?_⟩⟩
    · have := hown b e.symm
      omega
    · have h1 := hN g o c cap e
      refine ⟨by omega, fun e2 => ?_, ?_⟩
      · have := hown g e2.symm
        omega
      · dsimp only at e
        obtain ⟨a1, cap1, e1, h2, h3, h4, h5⟩ := hE
        rw [e] at e1
        cases e1
        obtain ⟨b2, off2, e2, h6⟩ := h5 hc
        cases e2
        have hx : 0 < ((hd B (lgK B l k)).l.flatMap E.cells).length := by rw [h4]; omega
        have := h6 0 _ (List.getElem?_eq_getElem hx)
        exact cell_lt this
  · exact .inr hx
theorem nxt_only {W w1 : World} {v : Value} {o : Obj} {bf : Nat} {u : Value} (hgrow : (W.alloc o).grownBy w1 v.ownBlock) : Only (fun i => v.ownBlock = some i ∨ i = bf) W (w1.setCell ⟨bf, 0, none⟩ u) :=
  Only.setCell (p := ⟨bf, 0, none⟩) (((Only.refl _ W).alloc o).grown hgrow (fun r e => .inr (.inl e))) (.inr (.inr rfl)) u
theorem infoF : (Try.prog.info? 52).map (fun i => (i.zero, i.size, i.bytes)) = some (some zeroF, 8, 88) := by kernel_rfl
section
variable {w : World} {p : Nat} {l : Lg} {F : Nat → Prop} {d : D}
set_option maxRecDepth 100000
set_option maxHeartbeats 4000000
theorem scan_in (n0 : Nat) (h : IsDisk w p F d) (hF : ∀ k, F k → k < w.heap.size) (hP : beginP d.B.length l.at_ l.seq l.next) (hnb : d.B.length % 16 = 0) (hsc : Scans d.now l n0) (hn0 : n0 ≤ 1000) :
    CallsIn Fence.wide 9 Try.prog 19 #[.pointer (some ⟨p, 0, none⟩), .int .i64 (l.at_ : Int), .int .u64 (l.seq : Int), .int .i64 (l.next : Int)] w (ScanPost d.now l n0 p w) := by
  have hfn : ∀ f, Fence.wide.fn f := fun _ => trivial
  have hbg := begin_yes l h hP
  obtain ⟨a, sq, nx⟩ := l
  unfold boxL at hbg
  dsimp only at hbg ⊢
  refine callsIn_of_wp_marks Try.func19 rfl trivial ?_ rfl
  simp only [Try.ntmps19, List.size_toArray, List.length_cons, List.length_nil, Nat.reduceAdd, Nat.reduceSub, Array.replicate_succ, Array.replicate_zero, List.push_toArray, List.append_toArray, List.nil_append, List.cons_append]
  gi_wp2
  apply wide_scope
  gi_wp2_with (gi_at_call 10; refine (callsIn_wide.2 hbg).mono ?_; rintro e w' ⟨rfl, rfl⟩)
  apply wide_label
  gi_wp2_with (gi_at_call 49; refine (ahead_in _ _ _).mono ?_; rintro e w' ⟨rfl, rfl⟩)
  obtain ⟨W0, hW0⟩ : ∃ W0, (((w.alloc (.cells #[.pointer (some ⟨p, 0, none⟩), .int .i64 (a : Int), .int .u64 (sq : Int), .int .i64 (nx : Int)] 78)).alloc (.cells #[.pointer (some ⟨w.heap.size, 0, none⟩)] 31)).alloc (.cells #[.slice none 0 0] 43)).alloc (.cells #[.pointer (some ⟨w.heap.size, 0, none⟩)] 31) = W0 := ⟨_, rfl⟩
  have hs0 : W0.heap.size = w.heap.size + 4 := by rw [← hW0]; simp
  have hBW : Below w.heap.size w W0 := by
    rw [← hW0]
    exact below_al (below_al (below_al (below_new w _) _) _) _
  have hL0 : LAt W0 w.heap.size p ⟨a, sq, nx⟩ := by
    rw [← hW0]
    exact (((LAt.new w p ⟨a, sq, nx⟩).th (below_new _ _)).th (below_new _ _)).th (below_new _ _)
  have hbl0 : Boxed W0 (w.heap.size + 1) 31 (.pointer (some ⟨w.heap.size, 0, none⟩)) := by
    rw [← hW0]
    have := Boxed.new (w.alloc (boxL p ⟨a, sq, nx⟩)) 31 (.pointer (some ⟨w.heap.size, 0, none⟩))
    rw [World.size_alloc] at this
    exact (this.alloc _).alloc _
  have hbf0 : Boxed W0 (w.heap.size + 1 + 1) 43 (.slice none 0 0) := by
    rw [← hW0]
    have := Boxed.new ((w.alloc (boxL p ⟨a, sq, nx⟩)).alloc (.cells #[.pointer (some ⟨w.heap.size, 0, none⟩)] 31)) 43 (.slice none 0 0)
    simp only [World.size_alloc] at this
    exact this.alloc _
  have hbq0 : Boxed W0 (w.heap.size + 1 + 1 + 1) 31 (.pointer (some ⟨w.heap.size, 0, none⟩)) := by
    rw [← hW0]
    have := Boxed.new (((w.alloc (boxL p ⟨a, sq, nx⟩)).alloc (.cells #[.pointer (some ⟨w.heap.size, 0, none⟩)] 31)).alloc (.cells #[.slice none 0 0] 43)) 31 (.pointer (some ⟨w.heap.size, 0, none⟩))
    simp only [World.size_alloc] at this
    exact this
  have hD0 := h.below hBW
  have hnl := d.now_length
  have hB16 : d.now.length % 16 = 0 := by rw [hnl]; exact hnb
  have hl0 : LgOk d.now.length ⟨a, sq, nx⟩ := by
    rw [hnl]
    obtain ⟨⟨p1, p2, p3⟩, ⟨p4, p5⟩, p6⟩ := hP
    refine ⟨by dsimp only; omega, by dsimp only; omega, by dsimp only; omega, ?_, by dsimp only; omega, by dsimp only; omega⟩
    rcases p6 with p6 | p6
    · exact .inl (by dsimp only; omega)
    · exact .inr (by have h1 := p6.1; have h2 := p6.2; dsimp only; omega)
  obtain ⟨B, hB⟩ : ∃ B, d.now = B := ⟨_, rfl⟩
  rw [hB] at hsc hB16 hl0 ⊢
  have hhiB : B.length ≤ 4096 := by rw [← hB, hnl]; exact h.ok.hi
  have hst : SeqSt Fence.wide 8 Try.prog 65 #[.pointer (some ⟨w.heap.size + 1 + 1 + 1, 0, none⟩)] (ScI B ⟨a, sq, nx⟩ n0 W0 w.heap.size p (w.heap.size + 1 + 1)) (FdE B ⟨a, sq, nx⟩ n0 (ScI B ⟨a, sq, nx⟩ n0 W0 w.heap.size p (w.heap.size + 1 + 1))) (n0 + 1) W0 := fun lp J Jx W' hBl hJ _ hJS hY h0 =>
    ahead1_in 8 (by decide) lp _ w.heap.size p B ⟨a, sq, nx⟩ n0 hB16 hl0 hsc _ (fun k W hI hk => ⟨cell_only hbq0.cell hI.only (by omega), hI.log, F, d, hD0.only hI.only (fun i hi => by have := hF i hi; omega), hB⟩)
      (fun W hI => by have := hI.low; omega) J Jx _ hJ hJS hY W' h0
  have hI0 : ScI B ⟨a, sq, nx⟩ n0 W0 w.heap.size p (w.heap.size + 1 + 1) 0 W0 := ⟨Only.refl _ _, hL0, ⟨_, [], hbf0, World.ownsRow_nil _ _ _ _, rfl, fun j f m h1 h2 => by simp at h2⟩, Nat.zero_le _⟩
  have HSC := Lib.hid hsc
  have HLK : Hid (∀ k, k ≤ n0 → LgOk B.length (lgK B ⟨a, sq, nx⟩ k)) := fun k hk => hl0.lgK hB16 k (fun j hj => hsc.all j (by omega))
  rw [hW0]
  obtain ⟨i0, hi, hz0, hz1, hz2⟩ := info_parts infoF
  clear hbg h hF hP hnb hsc hD0 hL0 hbq0 hbf0 hnl hl0
  have HBB := Lib.hid hB
  clear hB
  refine wpIn_rangeFunc_st rfl (by decide) (gf := 65) (lb := #[.pointer (some ⟨w.heap.size + 1 + 1 + 1, 0, none⟩)]) rfl trivial (enters_of Try.func65 (by kernel_rfl) rfl)
    hst (Below.refl _ _) (fun k args W hE => by rcases handed hE with ⟨_, m, v, rfl, _⟩ | ⟨_, rfl⟩ <;> rfl)
    (ScI B ⟨a, sq, nx⟩ n0 W0 w.heap.size p (w.heap.size + 1 + 1)) (ScX B ⟨a, sq, nx⟩ n0 W0 w.heap.size p (w.heap.size + 1 + 1)) scI_own (fun c k W W' row h hg hr => ⟨h.1, scI_own k W W' row h.2.1 hg hr, h.2.2⟩) (fun k W hI _ => hI) hI0
    (ScA B ⟨a, sq, nx⟩ n0 W0 (w.heap.size + 1 + 1) (tmpsS p a sq nx w.heap.size)) (fun k a' => scA_own k a') ?assign ?body ?stop
  case assign =>
    intro lp k args W K hI hk hE hK
    have hz : W0.heap.size ≤ W.heap.size := hI.only.size
    rcases handed hE with ⟨hkn, m, v0, rfl, hm, hv0, hf⟩ | ⟨hkn, rfl⟩
    · have hno : some W.heap.size ≠ v0.ownBlock := fun e => by
        obtain ⟨v, ms, hv, hrow, _⟩ := hI.got
        obtain rfl : v = v0 := by
          have := hv.cell.symm.trans hv0.cell
          simpa using this
        have := (hrow.lt _ e.symm).2
        omega
      obtain ⟨ma, ⟨rs, rc, re, ry, rn, rl⟩, mv, mb, mn⟩ := m
      obtain ⟨ap, cp, hmv, _, _⟩ := hm.ents.parts
      dsimp only at hmv
      obtain ⟨nl, hnl⟩ : ∃ nl, (fdAt B (lgK B ⟨a, sq, nx⟩ k)).r.l.length = nl := ⟨_, rfl⟩
      rw [hnl] at hmv
      subst hmv
      have HK := Lib.hid (hK _ _ ((KeepsOthers.alloc W _).from _) (scI_own _ _ _ none hI (World.grownBy_alloc W _ _) (fun r e => by cases e)) ⟨W.heap.size, fdVal ma ⟨rs, rc, re, ry, rn, rl⟩ (.slice ap nl cp) (.slice (some ⟨mb, 0, none⟩) mn mn), hz, .inl ⟨hkn, ⟨⟨ma, ⟨rs, rc, re, ry, rn, rl⟩, .slice ap nl cp, mb, mn⟩, v0, FAt.new W _ _ _ _, hm.grown (B0 := 0) (World.grownBy_alloc W _ none) (fun r e => by cases e), hv0.alloc _, hf.grown (World.grownBy_alloc W _ none), hno⟩, rfl⟩⟩)
      clear hK hI hst hE hm hv0 hf hnl hno
      unfold tmpsS fdVal boxF at HK
      unfold fdVal
      dsimp only at HK ⊢
      gi_wp2
      exact HK.out
    · have HK := Lib.hid (hK _ _ ((KeepsOthers.alloc W _).from _) (scI_own _ _ _ none hI (World.grownBy_alloc W (boxF 0 R.none (.slice none 0 0) (.slice none 0 0)) _) (fun r e => by cases e)) ⟨W.heap.size, zeroF, hz, .inr ⟨hkn, rfl⟩⟩)
      clear hK hI hst hE
      unfold tmpsS zeroF boxF at HK
      unfold zeroF
      dsimp only [R.none] at HK ⊢
      gi_wp2
      exact HK.out
  case body =>
    rintro lp k a' W hl hrec hI ⟨Bx, x, hBx, hx⟩ hk
    obtain ⟨v, ms, hv, hrow, hms, hmm⟩ := hI.got
    rcases hx with ⟨hkn, ⟨m, v0, hA, hm, hv0, hf, hno⟩, rfl⟩ | ⟨hkn, rfl⟩
    · obtain rfl : v = v0 := by
        have := hv.cell.symm.trans hv0.cell
        simpa using this
      obtain ⟨ap, cp, rfl, HLI, hcp1, hcp2⟩ := lies_own hrow
      have hth := HSC.out.all k hkn
      obtain ⟨nn, hnn, hn1, hn2⟩ := hth.1.next_nat
      have hcnt : cnt B (lgK B ⟨a, sq, nx⟩ k) ≤ 15 := by have := hth.1.2.2.1; omega
      have hok := HLK.out k (by omega)
      have hstp : stp B (lgK B ⟨a, sq, nx⟩ k) = behind (lgK B ⟨a, sq, nx⟩ k) (cnt B (lgK B ⟨a, sq, nx⟩ k)) nn := by unfold stp; rw [hnn]; rfl
      have hbh : ∀ W', LAt W' w.heap.size p (lgK B ⟨a, sq, nx⟩ k) → Calls Try.prog 48 #[.pointer (some ⟨w.heap.size, 0, none⟩), .int .i64 (cnt B (lgK B ⟨a, sq, nx⟩ k) : Nat), .int .i64 (nn : Int)] W' fun e w' => e = .returned (.tuple #[]) ∧ LAt w' w.heap.size p (lgK B ⟨a, sq, nx⟩ (k + 1)) ∧ Only (fun i => i = w.heap.size) W' w' := fun W' hW' => by
        have := goBehind_any (cnt B (lgK B ⟨a, sq, nx⟩ k)) nn hW' (by have := hok.hi; omega) (by omega) (by omega) hok.s2
        rw [← hstp] at this
        exact this
      have hmr := hm.r
      obtain ⟨ma, ⟨rs, rc, re, ry, rn, rl⟩, mv, mb, mn⟩ := m
      obtain ⟨mp, mcp, hmv, _, _⟩ := hm.ents.parts
      dsimp only at hmv hmr
      have hrn : rn = (nn : Int) := by
        rw [← hnn]
        show rn = (fdAt B (lgK B ⟨a, sq, nx⟩ k)).r.next
        rw [← hmr]
      have hnl : (fdAt B (lgK B ⟨a, sq, nx⟩ k)).r.l.length = cnt B (lgK B ⟨a, sq, nx⟩ k) := rfl
      rw [hnl] at hmv
      subst hmv hrn
      obtain ⟨nl, hnl2⟩ : ∃ nl, cnt B (lgK B ⟨a, sq, nx⟩ k) = nl := ⟨_, rfl⟩
      rw [hnl2] at hbh hA
      have HM := Lib.hid hm
      have HF := Lib.hid hf
      have HMM := Lib.hid hmm
      have HI := Lib.hid hI
      have HBH := Lib.hid hbh
      have HNL := Lib.hid hnl2
      have HA := Lib.hid hA
      rw [hnl2] at HM HF
      have hzz := hI.only.size
      have hqs : w.heap.size < W0.heap.size := by omega
      have hbfs : w.heap.size + 1 + 1 < W0.heap.size := by omega
      have cv := hv.cell
      have cl := cell_only hbl0.cell hI.only (by omega)
      have hlg := hI.log
      have HLG := Lib.hid hlg
      obtain ⟨x0, x1, x2, x3, x4, x5, x6, x7⟩ := hA.c
      dsimp only at x0 x1 x2 x3 x4 x5 x6 x7
      have hBxl := hA.lt
      have hlt3 : ∀ i, (Value.slice ap k cp).ownBlock = some i → W0.heap.size ≤ i ∧ i < W.heap.size := fun i hb => hrow.lt i hb
      clear hst hth hnn hok hstp hmr hm hf hmm hbh hnl hnl2 hA hI hlg HSC HLK hI0 HLI
      unfold tmpsS
      gi_wp2_with (first
        | (gi_at_builtin; refine wpListIn_append_own_at _ rfl _ _ 43 rfl W0.heap.size 52 i0 zeroF 8 88 Try.underlying43 hi hz0 hz1 hz2 rfl (by decide) (.slice ap k cp) k (ms.flatMap Fm.cells) rfl (hrow.alloc _) ⟨W.heap.size, 0, none⟩ 1 1 [.int .i64 (ma : Int), .int .u64 (rs : Int), .int .u64 (rc : Int), .bool re, .bool ry, .int .i64 (nn : Int), .slice mp nl mcp, .slice (some ⟨mb, 0, none⟩) mn mn] rfl rfl (World.news_of_block (heap_alloc_new W _)) (by simp [Value.oneCell']) (by unfold maxLen; omega) (by omega) (by simp; omega) ?_; intro v' w1 hown' hgrow _ hat; obtain ⟨g', cap', rfl⟩ := ownsRow_succ hown'; have hv1 := (hv.alloc _).kept hgrow (hv.not_row (by decide) hrow); have hc1 := hv1.cell; have hf1 := hv1.frozen; have hon := nxt_only (bf := w.heap.size + 1 + 1) (u := .slice (some ⟨g', 0, none⟩) (k + 1) cap') hgrow; have cl2 := cell_only cl hon (fun hh => hh.elim (fun h => by have := (hlt3 _ h).1; omega) (fun h => by omega)); have hA2 := HA.out.of_heap (hon.block Bx hBxl (fun hh => hh.elim (fun h => hno h.symm) (fun h => by omega))); obtain ⟨y0, y1, y2, y3, y4, y5, y6, y7⟩ := hA2.c; dsimp only at y0 y1 y2 y3 y4 y5 y6 y7; have hlg2 := HLG.out.of_heap (hon.block w.heap.size (by omega) (fun hh => hh.elim (fun h => by have := (hlt3 _ h).1; omega) (fun h => by omega))); have HON := Lib.hid hon; have HOWN := Lib.hid hown'; have HAT := Lib.hid hat; have HV1 := Lib.hid hv1; clear hon hown' hat hgrow)
        | (gi_at_call 48; refine (callsIn_wide.2 (HBH.out _ hlg2)).mono ?_; rintro e w3 ⟨rfl, hl3, hO3⟩; have HL3 := Lib.hid hl3; have HO3 := Lib.hid hO3; clear hl3 hO3))
      have hon := HON.out
      have hO3 := HO3.out
      have honx : Only (fun i => (Value.slice ap k cp).ownBlock = some i ∨ i = w.heap.size + 1 + 1 ∨ i = w.heap.size) W w3 := (hon.mono (fun i _ h => h.elim .inl (fun h => .inr (.inl h)))).step hO3 (fun i _ h => .inr (.inr h))
      have hgl := HOWN.out.lt g' rfl
      have hs : ∀ i : Nat, W0.heap.size ≤ i → i < W.heap.size → some i ≠ (Value.slice ap k cp).ownBlock → w3.heap[i]? = W.heap[i]? := fun i h1 h2 h3 => honx.block i h2 (fun hh => hh.elim (fun h => h3 h.symm) (fun h => h.elim (fun h => by omega) (fun h => by omega)))
      have hto : ∀ i : Nat, i < W.heap.size → some i ≠ (Value.slice ap k cp).ownBlock → some i ≠ (Value.slice (some ⟨g', 0, none⟩) (k + 1) cap').ownBlock := fun i h1 h2 h3 => by
        rcases HAT.out with h4 | h4
        · exact h2 (h3.trans h4)
        · rw [h4] at h3
          have : i = W.heap.size + 1 := by simpa using h3
          omega
      refine ⟨keeps_of_only _ honx fun i hb => ?_, trivial, ⟨HI.out.only.step honx fun i hi hb => ?_, HL3.out, ⟨.slice (some ⟨g', 0, none⟩) (k + 1) cap', ms ++ [⟨ma, ⟨rs, rc, re, ry, (nn : Int), rl⟩, .slice mp nl mcp, mb, mn⟩], ?_, ?_, by simp [hms], ?_⟩, by omega⟩⟩
      · rcases hb with hb | rfl | rfl
        · rcases hrow.2 with ⟨h0, _⟩ | ⟨g, cap, cur, h0, _, hgb2, _⟩
          · rw [h0] at hb; simp [Value.ownBlock] at hb
          · rw [h0] at hb
            obtain rfl : g = i := by simpa [Value.ownBlock] using hb
            exact ⟨_, _, _, hgb2⟩
        · exact ⟨_, _, _, hv⟩
        · exact ⟨_, _, _, HLG.out⟩
      · rcases hb with hb | rfl | rfl
        · have := (hlt3 _ hb).1; omega
        · exact .inr rfl
        · exact .inl rfl
      · have hb := HV1.out.set (.slice (some ⟨g', 0, none⟩) (k + 1) cap')
        exact (hO3.block _ hb.lt (by omega)).trans hb
      · have e : (ms ++ [(⟨ma, ⟨rs, rc, re, ry, (nn : Int), rl⟩, .slice mp nl mcp, mb, mn⟩ : Fm)]).flatMap Fm.cells = ms.flatMap Fm.cells ++ [.int .i64 (ma : Int), .int .u64 (rs : Int), .int .u64 (rc : Int), .bool re, .bool ry, .int .i64 (nn : Int), .slice mp nl mcp, .slice (some ⟨mb, 0, none⟩) mn mn] := by simp [Fm.cells]
        rw [e]
        have h1 := Record.own_kept HOWN.out (Record.set_far w1 (w.heap.size + 1 + 1) 0 g' (.slice (some ⟨g', 0, none⟩) (k + 1) cap') (by have := hgl.1; omega))
        exact Record.own_kept h1 (hO3.block g' (h1.lt g' rfl).2 (by have := hgl.1; omega))
      · intro j f m' h1 h2
        rw [fdsK_succ] at h1
        have hfl := fdsK_length B ⟨a, sq, nx⟩ k
        rcases Nat.lt_or_ge j k with hj | hj
        · rw [List.getElem?_append_left (by omega)] at h1
          rw [List.getElem?_append_left (by omega)] at h2
          obtain ⟨o1, o2⟩ := HMM.out j f m' h1 h2
          exact ⟨o1.step o2 hs, o2.step o1 honx.size hto⟩
        · have hjl := (List.getElem?_eq_some_iff.1 h2).1
          obtain rfl : j = k := by simp at hjl; omega
          rw [List.getElem?_append_right (by omega), hfl] at h1
          rw [List.getElem?_append_right (by omega), hms] at h2
          simp at h1 h2
          subst h1 h2
          exact ⟨HM.out.step HF.out hs, HF.out.step HM.out honx.size hto⟩
    · have HI := Lib.hid (show ScX B ⟨a, sq, nx⟩ n0 W0 w.heap.size p (w.heap.size + 1 + 1) (.exit 0) k W from ⟨rfl, hI, hkn⟩)
      clear hI hst hrow hv hmm
      unfold tmpsS
      gi_wp2
      exact ⟨KeepsFrom.refl _ _, HI.out⟩
  case stop =>
    rintro D c k W hD hk ⟨rfl, hI, hx⟩ hKD
    subst hx
    obtain ⟨v, ms, hv, hrow, hms, hmm⟩ := hI.got
    have cv := hv.cell
    have cl := cell_only hbl0.cell hI.only (by omega)
    have HI := Lib.hid hI
    have HROW := Lib.hid hrow
    have HMM := Lib.hid hmm
    clear hI hst hrow hmm HSC HLK hI0
    gi_wp2
    refine wpIn_wide.2 ?_
    go_quiet (fail)
    go_wp2
    gi_wp2
    have hBWW : Below w.heap.size w W := hBW.trans (HI.out.only.below (by omega) (fun i hi => by rcases hi with rfl | rfl <;> omega))
    refine ⟨by simp, .inl ⟨_, _, rfl, run_takeDeferred hKD, ?_⟩⟩
    have hg := grownBy_putObj' (W.drewN nq) D (.deferred none)
    have hr : ∀ r, some D = some r → 0 ≤ r ∧ ∃ o : Obj, (W.drewN nq).heap[r]? = some o ∧ o.isCells = false := fun r e => by
      cases e
      exact ⟨Nat.zero_le _, _, hKD, rfl⟩
    refine ⟨_, results_3 rfl _ _, v, w.heap.size, rfl, ⟨ms, by rw [fdsK_length]; exact hms, ?_, fun j f m h1 h2 => ?_⟩, ?_, Nat.le_refl _, ?_⟩
    · rw [fdsK_length]
      exact Lies.own (ownsRow_putObj (W := W.drewN nq) HROW.out (.deferred none) hKD rfl)
    · rw [HBB.out] at h1
      obtain ⟨v2, ms2, hv2, hrow2, hms2, hmm2⟩ := HI.out.got
      exact ((HMM.out j f m h1 h2).1.drewN nq).grown hg hr
    · rw [HBB.out]
      exact kept_cells (A := W.drewN nq) HI.out.log hg hr
    · exact (drewN_below hBWW nq).trans (belowK_b (w := w) (Nat.le_refl _) (W.drewN nq) D _ _ (by omega) hKD rfl rfl)
theorem scan_any (n0 : Nat) (h : IsDisk w p F d) (hF : ∀ k, F k → k < w.heap.size) (hP : beginP d.B.length l.at_ l.seq l.next) (hnb : d.B.length % 16 = 0) (hsc : Scans d.now l n0) (hn0 : n0 ≤ 1000) :
    Calls Try.prog 19 #[.pointer (some ⟨p, 0, none⟩), .int .i64 (l.at_ : Int), .int .u64 (l.seq : Int), .int .i64 (l.next : Int)] w (ScanPost d.now l n0 p w) := callsIn_wide.1 (scan_in n0 h hF hP hnb hsc hn0)
end
end Go.Proofs.Ytghonccffmmjhaa.Log
/- A log and its disk as the laws hold them: what stands on the disk is what the log has written. -/
namespace Go.Proofs.Ytghonccffmmjhaa.Log
open Go.RowKit Go.Shelf
open Disk (D IsDisk)
open Record (E R RightP Ents AllOk EOk encB encS encE below_al below_new)
attribute [local go_sem] Oper.semAt_some
set_option linter.unusedVariables false

structure Sys (w : World) (base p q : Nat) (G : Nat → Prop) (d : D) (l0 l : Lg) (n : Nat) : Prop where
  good : Good d l0 l n
  disk : IsDisk w p G d
  hi : ∀ k, G k → k < w.heap.size
  lo : ∀ k, G k → base ≤ k
  log : LAt w q p l
  far : ¬ G q
  qlo : base ≤ q
theorem Sys.below {w w' : World} {base p q n : Nat} {G : Nat → Prop} {d : D} {l0 l : Lg} (h : Sys w base p q G d l0 l n) (hB : Below w.heap.size w w') : Sys w' base p q G d l0 l n :=
  ⟨h.good, h.disk.below hB, fun k hk => Nat.lt_of_lt_of_le (h.hi k hk) hB.size, h.lo, h.log.th hB, h.far, h.qlo⟩
theorem Sys.only {w w' : World} {base p q n : Nat} {G S : Nat → Prop} {d : D} {l0 l : Lg} (h : Sys w base p q G d l0 l n) (hO : Only S w w') (hS : ∀ k, G k → ¬ S k) (hq : ¬ S q) : Sys w' base p q G d l0 l n :=
  ⟨h.good, h.disk.only hO hS, fun k hk => Nat.lt_of_lt_of_le (h.hi k hk) hO.size, h.lo, h.log.of_heap (hO.block q h.log.lt hq), h.far, h.qlo⟩
theorem Sys.drew {w : World} {base p q n : Nat} {G : Nat → Prop} {d : D} {l0 l : Lg} (h : Sys w base p q G d l0 l n) : Sys w.drew base p q G d l0 l n := h.below (Below.refl _ _).drew
/-- what a Write leaves -/
inductive SysPost (base p q : Nat) (G : Nat → Prop) (d : D) (l0 l : Lg) (n cp : Nat) (L : List It) (en sy : Bool) (w : World) (e : Ending) (w' : World) : Prop
  | arg (he : e = .returned (.tuple #[.slice none 0 0, .int .i64 2])) (hn : ¬ okW l cp L en sy) (hB : Below w.heap.size w w')
  | off (he : e = .returned (.tuple #[.slice none 0 0, .int .i64 43])) (hk : okW l cp L en sy) (hc : 0 ≤ d.cut) (G' : Nat → Prop) (d' : D) (hD : IsDisk w' p G' d') (hlo : ∀ k, G' k → base ≤ k) (hu : Under d l.at_ (blks L) (encB (recW l cp L en sy)) d') (hO : Only (fun i => G i ∨ i = q) w w')
  | done (b : Nat) (he : e = .returned (.tuple #[.slice (some ⟨b, 0, none⟩) L.length L.length, .int .i64 0])) (hk : okW l cp L en sy) (hb : Row w' b 3 (places l L.length)) (hbn : w.heap.size ≤ b) (G' : Nat → Prop) (d' : D) (hS : Sys w' base p q G' d' l0 (behind l L.length l.next) (n + 1)) (hG : ∀ k, G' k → G k ∨ w.heap.size ≤ k) (hf : fdsK d'.B l0 (n + 1) = fdsK d.B l0 n ++ [fdW l cp L en sy]) (hd : d' = (writeD d l.at_ (blks L) (encB (recW l cp L en sy))).1) (hc : Came d.B d'.B l cp L en sy) (hops : d'.ops = d.ops + L.length + 3) (hcut : d'.cut = d.cut) (hO : Only (fun i => G i ∨ i = q) w w')
theorem sys_write {w : World} {base p q n : Nat} {G : Nat → Prop} {d : D} {l0 l : Lg} (h : Sys w base p q G d l0 l n) (hb : base ≤ w.heap.size) (cp : Nat) (v : Value) (L : List It) (en sy : Bool) (hL : Its w v L) (hsz : ∀ x ∈ L, x.c.size ≤ 281474976710656) (hE : ∀ x ∈ L, EOk x.e) (hsg : l.at_ / 16 < l.next) (hops : d.ops ≤ 1099510000000) :
    Calls Try.prog 18 #[.pointer (some ⟨q, 0, none⟩), .int .u64 (cp : Int), v, .bool en, .bool sy] w (SysPost base p q G d l0 l n cp L en sy w) := by
  refine (write_any cp v L en sy h.log h.disk h.good.ok hL hsz hE h.hi h.far h.good.m16 hops).mono fun e w' hP => ?_
  have hspec := writeD_spec d l.at_ (blks L) (encB (recW l cp L en sy)) h.good.nol
  cases hP with
  | next h1 he hB => omega
  | arg h1 hn he hB => exact .arg he hn hB
  | off h1 hk hx he hM =>
    obtain ⟨G', g1, g2, g3, g4, g5, g6⟩ := hM
    rcases hspec with ⟨hy, _⟩ | ⟨_, hc, hu⟩
    · rw [hx] at hy; cases hy
    · refine .off he hk hc G' _ g1 (fun k hk => ?_) hu g3
      rcases g4 k hk with h2 | h2
      · exact h.lo k h2
      · omega
  | done h1 hk hx b he hb2 hbn hM =>
    obtain ⟨G', g1, g2, g3, g4, g5, g6⟩ := hM
    rcases hspec with ⟨_, ha⟩ | ⟨hy, _⟩
    · obtain ⟨s1, s2, s3, _⟩ := h.good.step h.disk.ok hk (all_ok hE) hsg ha
      refine .done b he hk hb2 hbn G' _ ⟨s1, g1, g5, fun k hk => ?_, g2, g6, h.qlo⟩ g4 s2 rfl s3 (by rw [ha.2.2.1, blks_length]) ha.2.2.2 g3
      rcases g4 k hk with h2 | h2
      · exact h.lo k h2
      · omega
    · rw [hx] at hy; cases hy
theorem sys_next {w : World} {base p q n : Nat} {G : Nat → Prop} {d : D} {l0 l : Lg} (h : Sys w base p q G d l0 l n) (k : Nat) (h0 : l.next = 0) (hk : segP d.B.length k) :
    Calls Try.prog 14 #[.pointer (some ⟨q, 0, none⟩), .int .i64 (k : Int)] w fun e w' => e = .returned (.int .i64 0) ∧ Sys w' base p q G d l0 ⟨l.at_, l.seq, k⟩ n ∧ Only (fun i => i = q) w w' :=
  (setNext_yes k h.log h.disk hk).mono fun e w' ⟨he, hl, hO⟩ => ⟨he, ⟨h.good.next k h0 (by have := hk.1; omega) (by have := hk.2; omega), h.disk.only hO (fun i hi e => h.far (e ▸ hi)), fun i hi => Nat.lt_of_lt_of_le (h.hi i hi) hO.size, h.lo, hl, h.far, h.qlo⟩, hO⟩
/-- a disk that was just made -/
def NewPost (base n : Nat) (W : World) (e : Ending) (w' : World) : Prop := ∃ p G, e = .returned (.tuple #[.pointer (some ⟨p, 0, none⟩), .int .i64 0]) ∧ IsDisk w' p G (D.of (List.replicate n (zeros 512))) ∧ (∀ k, G k → W.heap.size ≤ k) ∧ (∀ k, G k → k < w'.heap.size) ∧ Below W.heap.size W w'
theorem new_disk (n : Nat) (h : Disk.sizeOk n) (W : World) : Calls Try.prog 9 #[.int .i64 (n : Int)] W (NewPost 0 n W) :=
  (Disk.new_made n h W).mono fun e w' ⟨p, he, hd, hp, hB⟩ => by
    obtain ⟨G, g1, g2, g3⟩ := tight hd.out
    exact ⟨p, G, he, g1, g2, g3, hB⟩
theorem sys_begin {W : World} {base p nb : Nat} {G : Nat → Prop} {d : D} (l : Lg) (hd : IsDisk W p G d) (hg : Good d l l 0) (hP : beginP d.B.length l.at_ l.seq l.next) (h1 : ∀ k, G k → k < W.heap.size) (h2 : ∀ k, G k → base ≤ k) (hb : base ≤ W.heap.size) :
    Calls Try.prog 10 #[.pointer (some ⟨p, 0, none⟩), .int .i64 (l.at_ : Int), .int .u64 (l.seq : Int), .int .i64 (l.next : Int)] W fun e w' => ∃ q, e = .returned (.tuple #[.pointer (some ⟨q, 0, none⟩), .int .i64 0]) ∧ Sys w' base p q G d l l 0 ∧ Below W.heap.size W w' ∧ W.heap.size ≤ q := by
  refine (begin_yes l hd hP).mono fun e w' ⟨he, hw⟩ => ?_
  subst hw
  have hB := below_new W (boxL p l)
  exact ⟨W.heap.size, he, ⟨hg, hd.below hB, fun k hk => Nat.lt_of_lt_of_le (h1 k hk) hB.size, h2, LAt.new W p l, fun hh => by have := h1 _ hh; omega, hb⟩, hB, Nat.le_refl _⟩
/-- a Scan of a disk as it lies -/
theorem sys_scan {w : World} {p n0 : Nat} {F : Nat → Prop} {d : D} (l : Lg) (h : IsDisk w p F d) (hP : beginP d.B.length l.at_ l.seq l.next) (hnb : d.B.length % 16 = 0) (hsc : Scans d.now l n0) (hn0 : n0 ≤ 1000) :
    Calls Try.prog 19 #[.pointer (some ⟨p, 0, none⟩), .int .i64 (l.at_ : Int), .int .u64 (l.seq : Int), .int .i64 (l.next : Int)] w (ScanPost d.now l n0 p w) := by
  obtain ⟨G, g1, g2, g3⟩ := tight h
  exact scan_any n0 g1 g3 hP hnb hsc hn0
end Go.Proofs.Ytghonccffmmjhaa.Log
