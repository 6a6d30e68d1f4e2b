/- Several texts in one, each under its own heading. -/
import Derived.Test.YtghonccffmmjhaaPk07
/- The disk's Image: the texts of its blocks, in a slice of its own; which loose writes stay. -/
namespace Go.Proofs.Ytghonccffmmjhaa.Disk
open Go.RowKit Go.Shelf
set_option linter.unusedVariables false

section
set_option maxRecDepth 100000
/-- a fresh slice of these texts -/
def Texts (l : List ByteArray) (w : World) (e : Ending) (w' : World) : Prop := ∃ g, e = .returned (.slice (some ⟨g, 0, none⟩) l.length l.length) ∧ Row w' g 9 (strs l) ∧ w.heap.size ≤ g ∧ Below w.heap.size w w'

def ImgI (w : World) (l : List ByteArray) (k : Nat) (wr : World) : Prop := ∃ cur, Row wr w.heap.size 9 cur ∧ cur.length = l.length ∧ cur.take k = strs (l.take k) ∧ Below w.heap.size w wr
theorem img_step {w wr w2 : World} {l : List ByteArray} {k : Nat} {s : ByteArray} (h : ImgI w l k wr) (hk : l[k]? = some s) (hB : Below wr.heap.size wr w2) : ImgI w l (k + 1) (w2.setCell ⟨w.heap.size, k, none⟩ (.string s)) := by
  obtain ⟨cur, hr, hl, ht, hb⟩ := h
  have hkl := (List.getElem?_eq_some_iff.1 hk).1
  refine ⟨cur.set k (.string s), Row.setCell (hr.of_heap (hB.block _ hr.lt)) _, by rw [List.length_set, hl], ?_, (hb.trans (hB.mono hb.size)).setCell (p := ⟨w.heap.size, k, none⟩) (Nat.le_refl _) _⟩
  rw [List.take_add_one, List.take_set_of_le (Nat.le_refl _), ht, List.take_add_one, hk]
  simp [strs, hl, hkl]

set_option maxHeartbeats 1000000 in
theorem image_d {p : Nat} {F : Nat → Prop} {d : D} {w : World} (h : IsDisk w p F d) : Calls Try.prog 25 #[.pointer (some ⟨p, 0, none⟩)] w (Texts d.now w) := by
  obtain ⟨a, b, v, hA, hF⟩ := h.mem
  have hc := isNone_not p a b v d w hA h.ok.lo h.ok.hi
  have hlo := h.ok.lo
  have hhi := h.ok.hi
  have hsz := h.ok.now_sizes
  have hl := d.now_length
  have c1 := hA.c1
  have hnw := hA.nw
  have hbl := hA.nw.lt
  have hpl := hA.lt p (.inl rfl)
  have htop := hA.top
  clear hF
  obtain ⟨l, hl'⟩ : ∃ l, d.now = l := ⟨_, rfl⟩
  rw [hl'] at hl hsz hnw ⊢
  obtain ⟨n, hn⟩ : ∃ n, d.B.length = n := ⟨_, rfl⟩
  rw [hn] at hl c1 hlo hhi
  obtain ⟨M, hM⟩ : ∃ M : List Value, M = (madeCells #[Value.string ByteArray.empty] n).toList := ⟨_, rfl⟩
  have hMl : M.length = n := by rw [hM, Array.length_toList, size_madeCells]
  have hmk : ∀ W : World, (Instr.makeSlice 50 (.int .i64 (n : Int)) (.int .i64 (n : Int))).run Try.prog W = .ok (.slice (some ⟨W.heap.size, 0, none⟩) n n) (W.alloc (.cells M.toArray 9)) := fun W => by
    rw [hM, Array.toArray_toList]
    exact run_make_row' (P := Try.prog) 50 9 (.string ByteArray.empty) 16 Try.underlying50 infoS rfl .i64 .i64 n (by omega) (by omega) W
  have h0 : ImgI w l 0 (w.alloc (.cells M.toArray 9)) := ⟨M, heap_alloc_new w _, by omega, by simp [strs], (Below.refl _ w).alloc (Nat.le_refl _) _⟩
  have H0 := Lib.hid h0
  have HSZ := Lib.hid hsz
  have HL := Lib.hid hl
  have c1' : (w.alloc (.cells M.toArray 9)).cell? ⟨p, 1, none⟩ = some (.slice (some ⟨b, 0, none⟩) n n) := ((Below.refl w.heap.size w).alloc (Nat.le_refl _) (.cells M.toArray 9)).cell (p := ⟨p, 1, none⟩) hpl |>.trans c1
  clear h0 hsz hl hl' hn hM hMl htop
  go_enter Try.func25, Try.ntmps25
  go_wp2_with (go_at_call 38; refine hc.mono ?_; rintro e w' ⟨rfl, rfl⟩)
  go_loopw [19] (fun i wr => ∃ k : Nat, k ≤ n ∧ i = .int .i64 k ∧ ImgI w l k wr) (fun i _ => n - (intOf i).toNat)
  case atStart => exact ⟨0, Nat.zero_le _, rfl, H0.out⟩
  case round =>
    obtain ⟨k, hk, rfl, hI⟩ := hrel
    have hIl := hI
    obtain ⟨cur, hcr, hcl, hct, hB⟩ := hIl
    by_cases hlt : k < n
    · obtain ⟨s, hs⟩ : ∃ s, l[k]? = some s := ⟨_, List.getElem?_eq_getElem (by rw [HL.out]; exact hlt)⟩
      have cx : wr.cell? ⟨b, k, none⟩ = some (.string s) := by rw [hB.cell (p := ⟨b, k, none⟩) hbl, hnw.at_]; exact strs_at _ _ _ hs
      have h512 := HSZ.out s (List.mem_of_getElem? hs)
      have hcl2 := clone_any s wr (by omega)
      have hwl := hcr.lt
      have hst := fun w2 (hB2 : Below wr.heap.size wr w2) => img_step hI hs hB2
      have hst2 : ∀ w2, Below wr.heap.size wr w2 → (∃ u, w2.cell? ⟨w.heap.size, k, none⟩ = some u) ∧ w2.frozen? ⟨w.heap.size, k, none⟩ = false := fun w2 hB2 => by
        have := hcr.of_heap (hB2.block _ hcr.lt)
        exact ⟨⟨_, by rw [this.at_]; exact List.getElem?_eq_getElem (by rw [hcl, HL.out]; exact hlt)⟩, this.frozen k⟩
      have HST := Lib.hid hst
      have HST2 := Lib.hid hst2
      clear hst hst2 hI hcr hcl hct hs h512
      go_wp2_with (go_at_call 54; refine hcl2.mono ?_; rintro e w2 ⟨rfl, hB2⟩; obtain ⟨⟨u, cu⟩, fu⟩ := HST2.out _ hB2)
      go_roundw
      case rel => exact ⟨k + 1, by omega, by go_num, HST.out _ hB2⟩
      case measure => simp [intOf]; omega
    · obtain rfl : n = k := by omega
      go_wp2
      go_ret
      rw [List.take_of_length_le (by rw [hcl, HL.out]; exact Nat.le_refl _), List.take_of_length_le (by rw [HL.out]; exact Nat.le_refl _)] at hct
      exact ⟨w.heap.size, by rw [HL.out]; rfl, by rw [← hct]; exact hcr, Nat.le_refl _, hB⟩

theorem bit_at (keep k : Nat) (hkeep : keep < 18446744073709551616) : bits BinOp.and IntKind.u64 ((keep : Int) / 2 ^ (k % 64)) 1 = ((keep / 2 ^ (k % 64) % 2 : Nat) : Int) := by
  have e : (keep : Int) / 2 ^ (k % 64) = ((keep / 2 ^ (k % 64) : Nat) : Int) := by simp
  have hlt : keep / 2 ^ (k % 64) < 18446744073709551616 := Nat.lt_of_le_of_lt (Nat.div_le_self _ _) hkeep
  rw [e]
  have := bits_and_u64_nat (keep / 2 ^ (k % 64)) 1 hlt (by decide)
  rw [Nat.and_one_is_mod] at this
  exact this
theorem keeps_any (keep : Nat) (t : Int) (k : Nat) (w : World) (hk : k ≤ 1099511627776) (hkeep : keep < 18446744073709551616) (b : Bool) (h : decide (stays keep k) = b) : Calls Try.prog 52 #[.agg #[.int .u64 keep, .int .i64 t], .int .i64 k] w fun e w' => e = .returned (.bool b) ∧ Below w.heap.size w w' := by
  have hb : (bits BinOp.and IntKind.u64 ((keep : Int) / 2 ^ (k % 64)) 1 == 1) = b := by
    rw [bit_at keep k hkeep, ← h, Bool.eq_iff_iff, beq_iff_eq, decide_eq_true_iff]
    unfold stays
    exact ⟨fun h => by exact_mod_cast h, fun h => by exact_mod_cast h⟩
  clear h
  go_enter Try.func52, Try.ntmps52
  go_wp2
  go_ret
  exact ⟨rfl, (Below.refl _ _).alloc (Nat.le_refl _) _⟩
end
end Go.Proofs.Ytghonccffmmjhaa.Disk
/- The disk's Crash: another disk, of the blocks of the last flush and of the loose writes that stay. -/
namespace Go.Proofs.Ytghonccffmmjhaa.Disk
open Go.RowKit Go.Shelf
attribute [local go_sem] Oper.semAt_some
set_option linter.unusedVariables false

theorem wide_scope {n : Nat} {P : Program} {c : Code} {Q : Exit → Act → World → Prop} {a : Act} {w : World} (h : c.wpIn Fence.wide n P (Exit.noGoto Q) a w) : (Code.scope c).wpIn Fence.wide n P Q a w := wpIn_wide.2 (wp_scope_straight (wpIn_wide.1 h))
theorem wide_label {n l : Nat} {P : Program} {Q : Exit → Act → World → Prop} {a : Act} {w : World} (h : Q .normal a w) : (Code.label l).wpIn Fence.wide n P Q a w := wpIn_wide.2 (wp_label h)

section
variable {p : Nat} {F : Nat → Prop} {d : D} {w : World}
set_option maxRecDepth 100000
/-- what the loop has done: the first k writes gone through -/
def CrashI (W0 : World) (R : Nat) (B : List ByteArray) (L : List Wr) (keep : Nat) (t : Int) (k : Nat) (W : World) : Prop := Only (fun i => i = R) W0 W ∧ Row W R 9 (strs (crashTo B L keep t k))
theorem crashI_own {W0 : World} {R : Nat} {B : List ByteArray} {L : List Wr} {keep : Nat} {t : Int} : OwnFrom W0.heap.size (CrashI W0 R B L keep t) := fun k W W' row hI hg hr =>
  ⟨hI.1.grown hg (fun r e => .inl (hr r e).1), kept_cells hI.2 hg hr⟩
def CrashA (W0 : World) (L : List Wr) (p a n bx C : Nat) (keep : Nat) (t : Int) (k : Nat) (a' : Act) (W : World) : Prop :=
  ∃ Bx x, L[k]? = some x ∧ W0.heap.size ≤ Bx ∧ W.heap[Bx]? = some (.cells #[.int .i64 (x.1 : Int), .string x.2] 98 (0, 0)) ∧ a' = { tmps := #[.pointer (some ⟨p, 0, none⟩), .agg #[.int .u64 keep, .int .i64 t], undef, .pointer (some ⟨bx, 0, none⟩), .pointer none, .pointer (some ⟨C, 0, none⟩), .int .i64 (k : Int), .pointer (some ⟨Bx, 0, none⟩), .pointer (some ⟨p, 0, none⟩), .bool false, .pointer (some ⟨p, 0, none⟩), .pointer (some ⟨p, 0, none⟩), .pointer (some ⟨p, 0, none⟩), .slice (some ⟨a, 0, none⟩) n n, .slice (some ⟨bx + 1, 0, none⟩) n n, .pointer (some ⟨p, 0, none⟩), .func (.func 67) #[] #[.pointer (some ⟨C + 1, 0, none⟩)], .int .i64 (k : Int), .agg #[.int .i64 (x.1 : Int), .string x.2], undef, undef, undef, undef, undef, undef, undef, undef, undef, undef, undef, undef, undef, undef, undef, undef, undef, undef, undef, undef, undef, undef, undef, undef, undef, undef, undef, undef, undef, undef, undef, undef], defers := [] }
theorem crashA_own {W0 : World} {L : List Wr} {p a n bx C B : Nat} {keep : Nat} {t : Int} (k : Nat) (a' : Act) : OwnFrom B (fun (_ : Unit) W => CrashA W0 L p a n bx C keep t k a' W) := fun _ W W' row hI hg hr => by
  obtain ⟨Bx, x, h1, h2, h3, h4⟩ := hI
  exact ⟨Bx, x, h1, h2, kept_cells h3 hg hr, h4⟩

/-- another disk, in new blocks -/
def CrashPost (d : D) (keep : Nat) (t : Int) (w : World) (e : Ending) (w' : World) : Prop := ∃ q, e = .returned (.pointer (some ⟨q, 0, none⟩)) ∧ IsDisk w' q (fun k => w.heap.size ≤ k) (d.crashed keep t) ∧ w.heap.size ≤ q ∧ Below w.heap.size w w'
set_option maxHeartbeats 4000000 in
theorem crash_in (keep : Nat) (t : Int) (hkeep : keep < 18446744073709551616) (h : IsDisk w p F d) (hops : d.ops ≤ 1099511627776) : CallsIn Fence.wide 9 Try.prog 20 #[.pointer (some ⟨p, 0, none⟩), .agg #[.int .u64 keep, .int .i64 t]] w (CrashPost d keep t w) := by
  obtain ⟨a, b, v, hA, hF⟩ := h.mem
  have hfn : ∀ f, Fence.wide.fn f := fun _ => trivial
  have hlo := h.ok.lo
  have hhi := h.ok.hi
  have hfew := h.ok.few
  have hBa : Below w.heap.size w (w.alloc (.cells #[.int .u64 keep, .int .i64 t] 25)) := (Below.refl _ w).alloc (Nat.le_refl _) _
  have hA1 := hA.below hBa
  have hc := isNone_not p a b v d _ hA1 hlo hhi
  have c0 := hA1.c0
  have hcd := copied_any a d.B.length d.B _ hA1.fl rfl hlo hhi
  obtain ⟨n, hn⟩ : ∃ n, d.B.length = n := ⟨_, rfl⟩
  rw [hn] at c0 hcd hlo hhi
  have HN := Lib.hid hn
  clear hn
  refine callsIn_of_wp_marks Try.func20 rfl trivial ?_ rfl
  simp only [Try.ntmps20, List.size_toArray, List.length_cons, List.length_nil, Nat.reduceAdd, Nat.reduceSub, Array.replicate_succ, Array.replicate_zero, List.push_toArray, List.append_toArray, List.nil_append, List.cons_append]
  gi_wp2
  apply wide_scope
  gi_wp2_with (first
    | (gi_at_call 38; refine (callsIn_wide.2 hc).mono ?_; rintro e w' ⟨rfl, rfl⟩)
    | (gi_at_call 50; refine (callsIn_wide.2 hcd).mono ?_; rintro e w1 ⟨rfl, hrow, hB1⟩))
  apply wide_label
  gi_wp2_with (gi_at_call 51; refine (loose_in _ _ _).mono ?_; rintro e w' ⟨rfl, rfl⟩)
  rw [World.size_alloc] at hrow
  have hs1 : w.heap.size + 2 ≤ w1.heap.size := by have := hrow.lt; omega
  have hBw1 : Below w.heap.size w w1 := hBa.trans (hB1.mono (by simp))
  obtain ⟨W0, hW0⟩ : ∃ W0, (w1.alloc (.cells #[.slice (some ⟨w.heap.size + 1, 0, none⟩) n n] 50)).alloc (.cells #[.pointer (some ⟨p, 0, none⟩)] 27) = W0 := ⟨_, rfl⟩
  have hs0 : W0.heap.size = w1.heap.size + 2 := by rw [← hW0]; simp
  have hB10 : Below w1.heap.size w1 W0 := by rw [← hW0]; exact ((Below.refl _ w1).alloc (Nat.le_refl _) _).alloc (by simp) _
  have hBW : Below w.heap.size w W0 := hBw1.trans (hB10.mono hBw1.size)
  have hC0 : W0.heap[w1.heap.size]? = some (.cells #[.slice (some ⟨w.heap.size + 1, 0, none⟩) n n] 50 (0, 0)) := by
    rw [← hW0]
    exact (Below.heap_alloc _ _ _ (by simp)).trans (heap_alloc_new w1 _)
  have hD0 : W0.heap[w1.heap.size + 1]? = some (.cells #[.pointer (some ⟨p, 0, none⟩)] 27 (0, 0)) := by
    rw [← hW0]
    have := heap_alloc_new (w1.alloc (.cells #[.slice (some ⟨w.heap.size + 1, 0, none⟩) n n] 50)) (.cells #[.pointer (some ⟨p, 0, none⟩)] 27)
    rw [World.size_alloc] at this
    exact this
  have hf0 : W0.heap[w.heap.size]? = some (.cells #[.int .u64 keep, .int .i64 t] 25 (0, 0)) :=
    (hB10.block w.heap.size (by omega)).trans ((hB1.block w.heap.size (by simp)).trans (heap_alloc_new w _))
  have hR0 : Row W0 (w.heap.size + 1) 9 (strs d.B) := hrow.of_heap (hB10.block _ hrow.lt)
  have hA0 := hA.below hBW
  have hst := loose_steps 8 (by decide) (w1.heap.size + 1) p d.L v (by omega) W0 (cell_of_one hD0) hA0.c2 hA0.ls
  obtain ⟨k1, k2, k3⟩ := hA.kinds
  have hvl : ∀ g, v.ownBlock = some g → g < w.heap.size := fun g hg => (hA.ls.lt g hg).2
  rw [hW0]
  refine wpIn_rangeFunc_steps rfl (by decide) (gf := 67) (lb := #[.pointer (some ⟨w1.heap.size + 1, 0, none⟩)]) rfl trivial (enters_of Try.func67 (by kernel_rfl) rfl)
    hst SameO.trans (fun W l o o' hl _ _ _ b' hb' => World.putObj_heap_other (by have := hvl b' hb'; omega)) (Below.refl _ _) (fun _ => rfl)
    (CrashI W0 (w.heap.size + 1) d.B d.L keep t) (fun c k W => False) crashI_own (fun c k W W' row hI hg hr => hI) ⟨Only.refl _ _, hR0⟩
    (CrashA W0 d.L p a n w.heap.size w1.heap.size keep t) (fun k a' => crashA_own k a') ?assign ?body ?done ?stop
  case assign =>
    intro l k W K hI hk hK
    obtain ⟨x, hx⟩ : ∃ x, d.L[k]? = some x := ⟨_, List.getElem?_eq_getElem hk⟩
    have henc : looseEnc d.L k = #[.int .i64 (k : Int), .agg #[.int .i64 (x.1 : Int), .string x.2]] := by
      unfold looseEnc
      rw [List.getD_eq_getElem?_getD, hx]
      rfl
    rw [henc]
    have hz : W0.heap.size ≤ W.heap.size := hI.1.size
    have HK := Lib.hid (hK _ _ ((KeepsOthers.alloc W _).from _) (fun b' hb' => Below.heap_alloc W _ b' (by have := hvl b' hb'; omega)) (crashI_own _ _ _ none hI (World.grownBy_alloc W _ _) (fun r e => by cases e)) ⟨W.heap.size, x, hx, hz, heap_alloc_new W _, rfl⟩)
    clear hK henc hI hst hx
    gi_wp2
    exact HK.out
  case body =>
    rintro l k a' W hl hrec ⟨hon, hrowR⟩ ⟨Bx, x, hx, hBx, hbx, rfl⟩ hk
    have hat := h.ok.at_ x (List.mem_of_getElem? hx)
    rw [HN.out] at hat
    have hx512 := h.ok.lsizes x (List.mem_of_getElem? hx)
    have hbs := crashTo_sizes d.B d.L keep t k h.ok.sizes h.ok.lsizes h.ok.at_
    obtain ⟨bs, hbs'⟩ : ∃ bs, crashTo d.B d.L keep t k = bs := ⟨_, rfl⟩
    have hbl : bs.length = n := by rw [← hbs', crashTo_length, HN.out]
    obtain ⟨o, ho⟩ : ∃ o, bs[x.1]? = some o := ⟨_, List.getElem?_eq_getElem (by omega)⟩
    have hget : bs.getD x.1 ByteArray.empty = o := by rw [List.getD_eq_getElem?_getD, ho]; rfl
    have ho512 : o.size = 512 := hbs o (by rw [hbs']; exact List.mem_of_getElem? ho)
    have HT := Lib.hid (crashTo_torn d.B d.L keep t k x hx)
    have HK := Lib.hid (crashTo_kept d.B d.L keep t k x hx)
    have HL := Lib.hid (crashTo_lost d.B d.L keep t k)
    rw [hbs'] at hrowR HT HK HL
    rw [hget] at HT
    have hCW : W.heap[w1.heap.size]? = some (.cells #[.slice (some ⟨w.heap.size + 1, 0, none⟩) n n] 50 (0, 0)) := (hon.block _ (by omega) (by show w1.heap.size ≠ w.heap.size + 1; omega)).trans hC0
    have hfW : W.heap[w.heap.size]? = some (.cells #[.int .u64 keep, .int .i64 t] 25 (0, 0)) := (hon.block _ (by omega) (by show w.heap.size ≠ w.heap.size + 1; omega)).trans hf0
    have q0 : W.cell? ⟨w1.heap.size, 0, none⟩ = some (.slice (some ⟨w.heap.size + 1, 0, none⟩) n n) := cell_of_one hCW
    have g0 : W.cell? ⟨w.heap.size, 0, none⟩ = some (.int .u64 keep) := by simp only [World.cell?, hfW]; rfl
    have g1 : W.cell? ⟨w.heap.size, 1, none⟩ = some (.int .i64 t) := by simp only [World.cell?, hfW]; rfl
    have x0 : W.cell? ⟨Bx, 0, none⟩ = some (.int .i64 (x.1 : Int)) := by simp only [World.cell?, hbx]; rfl
    have x1 : W.cell? ⟨Bx, 1, none⟩ = some (.string x.2) := by simp only [World.cell?, hbx]; rfl
    have cu : W.cell? ⟨w.heap.size + 1, x.1, none⟩ = some (.string o) := by rw [hrowR.at_]; exact strs_at _ _ _ ho
    have fu := hrowR.frozen x.1
    have hWs : W0.heap.size ≤ W.heap.size := hon.size
    have hBxl := (Array.getElem?_eq_some_iff.1 hbx).1
    have hmix : Try.prog.follows .mixedOrders = true := by kernel_rfl
    have HON := Lib.hid hon
    have HRW := Lib.hid hrowR
    by_cases htk : (k : Int) = t
    · have hnext : CrashI W0 (w.heap.size + 1) d.B d.L keep t (k + 1) (W.setCell ⟨w.heap.size + 1, x.1, none⟩ (.string (torn x.2 o))) :=
        ⟨hon.setCell (p := ⟨w.heap.size + 1, x.1, none⟩) (.inr rfl) _, by rw [HT.out htk, strs_set]; exact Row.setCell hrowR _⟩
      have HNX := Lib.hid hnext
      have hq : ((k : Int) == t) = true := by simpa using htk
      have b1 : 256 ≤ x.2.size := by omega
      have b2 : 256 ≤ o.size := by omega
      have b3 : (256 : Int) ≤ (x.2.size : Int) := by omega
      have b4 : (256 : Int) ≤ (o.size : Int) := by omega
      unfold torn at HNX
      have sA : (x.2.extract 0 256).size ≤ 512 := by simp; omega
      have sB : (o.extract 256 o.size).size ≤ 512 := by simp; omega
      obtain ⟨tA, eA⟩ : ∃ tA, x.2.extract 0 256 = tA := ⟨_, rfl⟩
      obtain ⟨tB, eB⟩ : ∃ tB, o.extract 256 o.size = tB := ⟨_, rfl⟩
      rw [eA, eB] at HNX
      rw [eA] at sA
      rw [eB] at sB
      have hadd := fun W => run_string_add_sum (P := Try.prog) (w := W) tA tB (by omega)
      clear hnext htk HT HK HL hst hbs hbs' hbl ho hget ho512 hx512 hx hCW hfW hbx hC0 hD0 hf0 hR0 hA0 hon hrowR hc hcd hrow HON HRW
      gi_wp2
      refine wpIn_round_still_tail 14 hmix (by kernel_rfl) (by kernel_rfl) (by rintro ⟨_, _, hh⟩; exact hh) ?_
      simp only [List.take_succ_cons, List.take_zero, List.drop_succ_cons, List.drop_zero]
      repeat still_step
      try refine wpStill_nil ?_
      go_wp2
      gi_wp2
      exact ⟨((KeepsOthers.setCell _ _ _).trans (KeepsOthers.drew _)).from _, fun g hg => Below.heap_setCell _ _ _ _ (by have := hvl g hg; show g ≠ w.heap.size + 1; omega), HNX.out.1.drew, HNX.out.2⟩
    · have hq : ((k : Int) == t) = false := by simpa using htk
      have hkp := fun b0 h0 => keeps_any keep t k W (by omega) hkeep b0 h0
      have HKP := Lib.hid hkp
      have hRl : w.heap.size + 1 < W.heap.size := by omega
      have hCl : w1.heap.size < W.heap.size := by omega
      by_cases hsy : stays keep k
      · have HSY := Lib.hid (decide_eq_true hsy)
        have hnext : ∀ W2, Below W.heap.size W W2 → CrashI W0 (w.heap.size + 1) d.B d.L keep t (k + 1) (W2.setCell ⟨w.heap.size + 1, x.1, none⟩ (.string x.2)) := fun W2 hB2 =>
          ⟨(HON.out.step (Only.of_below hB2 : Only (fun _ => False) W W2) (fun _ _ hh => hh.elim)).setCell (p := ⟨w.heap.size + 1, x.1, none⟩) (.inr rfl) _, by rw [HK.out htk hsy, strs_set]; exact Row.setCell (HRW.out.of_heap (hB2.block _ hRl)) _⟩
        have HNX := Lib.hid hnext
        clear hnext htk HT HK HL hst hbs hbs' hbl ho hget ho512 hx512 hx hCW hfW hbx hC0 hD0 hf0 hR0 hA0 hon hrowR hc hcd hrow hkp hsy
        gi_wp2_with (gi_at_call 52; refine (CallsIn.inRound l (callsIn_wide.2 (HKP.out _ HSY.out))).mono ?_; rintro e W2 ⟨rfl, hB2⟩; have q0' := (hB2.cell (p := ⟨w1.heap.size, 0, none⟩) hCl).trans q0; have x0' := (hB2.cell (p := ⟨Bx, 0, none⟩) hBxl).trans x0; have x1' := (hB2.cell (p := ⟨Bx, 1, none⟩) hBxl).trans x1; have cu' := (hB2.cell (p := ⟨w.heap.size + 1, x.1, none⟩) hRl).trans cu; have fu' := (hB2.frozen (p := ⟨w.heap.size + 1, x.1, none⟩) hRl).trans fu)
        have hk2 := keeps_of_only W0.heap.size (Only.of_below hB2 : Only (fun _ => False) W W2) (fun _ hh => hh.elim)
        exact ⟨hk2.trans ((KeepsOthers.setCell _ _ _).from _), fun g hg => (Below.heap_setCell _ _ _ _ (by have := hvl g hg; show g ≠ w.heap.size + 1; omega)).trans (hB2.block g (by have := hvl g hg; omega)), HNX.out W2 hB2⟩
      · have HSY := Lib.hid (decide_eq_false hsy)
        have hnext : ∀ W2, Below W.heap.size W W2 → CrashI W0 (w.heap.size + 1) d.B d.L keep t (k + 1) W2 := fun W2 hB2 =>
          ⟨HON.out.step (Only.of_below hB2 : Only (fun _ => False) W W2) (fun _ _ hh => hh.elim), by rw [HL.out htk hsy]; exact HRW.out.of_heap (hB2.block _ hRl)⟩
        have HNX := Lib.hid hnext
        clear hnext htk HT HK HL hst hbs hbs' hbl ho hget ho512 hx512 hx hCW hfW hbx hC0 hD0 hf0 hR0 hA0 hon hrowR hc hcd hrow hkp hsy
        gi_wp2_with (gi_at_call 52; refine (CallsIn.inRound l (callsIn_wide.2 (HKP.out _ HSY.out))).mono ?_; rintro e W2 ⟨rfl, hB2⟩)
        have hk2 := keeps_of_only W0.heap.size (Only.of_below hB2 : Only (fun _ => False) W W2) (fun _ hh => hh.elim)
        exact ⟨hk2, fun g hg => hB2.block g (by have := hvl g hg; omega), HNX.out W2 hB2⟩
  case done =>
    rintro D W hD ⟨hon, hrowR⟩ hKD
    have hCW : W.heap[w1.heap.size]? = some (.cells #[.slice (some ⟨w.heap.size + 1, 0, none⟩) n n] 50 (0, 0)) := (hon.block _ (by omega) (by show w1.heap.size ≠ w.heap.size + 1; omega)).trans hC0
    have q0 : W.cell? ⟨w1.heap.size, 0, none⟩ = some (.slice (some ⟨w.heap.size + 1, 0, none⟩) n n) := cell_of_one hCW
    have hok := h.ok.crashed keep t
    have hcl : (crashTo d.B d.L keep t d.L.length).length = n := by rw [crashTo_length, HN.out]
    have hsz : ∀ s ∈ crashTo d.B d.L keep t d.L.length, s.size = 512 := crashTo_sizes _ _ _ _ _ h.ok.sizes h.ok.lsizes h.ok.at_
    have hof := of_any (w.heap.size + 1) n _ W hrowR hcl hlo hhi hsz
    have HD := Lib.hid hKD
    have HON := Lib.hid hon
    have hWs : W0.heap.size ≤ W.heap.size := hon.size
    clear hst hC0 hD0 hf0 hR0 hA0 hc hcd hrow hrowR hCW hon hKD hcl hsz
    gi_wp2_with (gi_at_call 32; refine (callsIn_wide.2 hof).mono ?_; rintro e W2 ⟨q, rfl, hq, hqs, hB2⟩)
    have hD5 := (hB2.block D (Array.getElem?_eq_some_iff.1 HD.out).1).trans HD.out
    refine ⟨by simp, .inl ⟨_, _, rfl, run_takeDeferred hD5, ?_⟩⟩
    have hput : ∀ (V : World) k, k ≠ D → (V.putObj D (.deferred none)).heap[k]? = V.heap[k]? := fun V k hk => World.putObj_heap_other hk
    have hBall : Below w.heap.size w W2 := by
      have h1 : Below w.heap.size W0 W := HON.out.below (by omega) (fun k hk => by omega)
      exact (hBW.trans h1).trans (hB2.mono (by omega))
    have hfoot : ∀ k, (fun k => k = w.heap.size + 1 ∨ W.heap.size ≤ k) k → k < W2.heap.size → (W2.putObj D (.deferred none)).heap[k]? = W2.heap[k]? := fun k hk _ => hput W2 k (by
      have := (Array.getElem?_eq_some_iff.1 HD.out).1
      rcases hk with rfl | hk <;> omega)
    have hq2 := hq.same hfoot
    refine ⟨_, results_tmp rfl _ _ _, q, rfl, ⟨hq2.ok, ?_⟩, by omega, ⟨hBall.os, hBall.tape, hBall.output, by have := hBall.size; simpa [World.putObj] using this, fun k hk => (hput W2 k (by omega)).trans (hBall.block k hk)⟩⟩
    obtain ⟨a', b', v', hA', hF'⟩ := hq2.mem
    exact ⟨a', b', v', hA', fun k hk => (hF' k hk).elim (fun e => by omega) (fun e => by omega)⟩
  case stop =>
    rintro D c k W hD hk hE hKD
    exact hE.elim
theorem crash_d (keep : Nat) (t : Int) (hkeep : keep < 18446744073709551616) (h : IsDisk w p F d) (hops : d.ops ≤ 1099511627776) : Calls Try.prog 20 #[.pointer (some ⟨p, 0, none⟩), .agg #[.int .u64 keep, .int .i64 t]] w (CrashPost d keep t w) :=
  callsIn_wide.1 (crash_in keep t hkeep h hops)
end
end Go.Proofs.Ytghonccffmmjhaa.Disk
