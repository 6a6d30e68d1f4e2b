/- Several texts in one, each under its own heading. -/
import Derived.Test.YteopcjfakhmifaaPk33
import Derived.Test.YteopcjfakhmifaaPk23
import Derived.Test.YteopcjfakhmifaaPk30
import Derived.Test.YteopcjfakhmifaaPk25
import Derived.Test.YteopcjfakhmifaaPk28
/- A content of inodes, as the program makes it. -/
namespace Go.Proofs.Yteopcjfakhmifaa.Vol
open Go.RowKit
open Ino (I M IOk RightP laid)
attribute [local go_sem] Oper.semAt_some
set_option linter.unusedVariables false
set_option linter.unusedSimpArgs false
theorem laid_zero {c : ByteArray} {k : Nat} (h : c.size = 508) (hk : k < 12) (hp : c.extract (k * 42) (k * 42 + 42) = Ino.bytes I.zero) : laid c k I.zero = c := by
  unfold laid
  rw [← hp]
  apply ba_ext
  have hl := len_list c
  simp only [app_list, Lib.extract_data, List.drop_zero, Nat.sub_zero, Nat.add_sub_cancel_left]
  rw [List.take_of_length_le (l := c.data.toList.drop (k * 42 + 42)) (by rw [List.length_drop]; omega)]
  rw [← List.drop_drop, List.append_assoc, List.take_append_drop, List.take_append_drop]
theorem blk_free {E : List I} {k : Nat} (hk : k < 12) (h : ino E k = I.zero) : blk E 0 (k + 1) = blk E 0 k := by
  rw [blk_succ, Nat.zero_add, h]
  refine laid_zero (blk_size E 0 k (by omega)) hk ?_
  rw [blk_piece E 0 hk k (by omega), if_neg (by omega)]
theorem zeros_fit : fitS ⟨#[]⟩ 508 = zeros 508 ∧ fitE ⟨#[]⟩ 508 = 0 := by
  have h : fitOk ⟨#[]⟩ 508 := ⟨by show ((0 : Nat) : Int) ≤ 508; omega, by omega⟩
  refine ⟨?_, fitE_yes h⟩
  rw [fitS_yes h]
  apply ba_ext
  rw [app_list]
  rfl
/-- are inodes right that a content is made of -/
def conO (E : List I) : Prop := ∀ i, i < E.length → RightP (ino E i)
instance (E : List I) : Decidable (conO E) := by unfold conO; exact Nat.decidableBallLT _ _
def conV (E : List I) : ByteArray := if conO E then blk E 0 E.length else ⟨#[]⟩
def conE (E : List I) : Int := if conO E then 0 else 154
structure CtoI (W0 : World) (E : List I) (p : Nat) (k : Nat) (W : World) : Prop where
  only : Only (fun i => i = p) W0 W
  at_ : CellAt W p 9 (.string (blk E 0 k))
  fits : ∀ j, j < k → RightP (ino E j)
theorem ctoI_own {W0 : World} {E : List I} {p : Nat} : OwnFrom W0.heap.size (CtoI W0 E p) := fun k W W' row hI hg hr =>
  ⟨hI.only.grown hg (fun r e => .inl (hr r e).1), kept_cells hI.at_ hg hr, hI.fits⟩
structure CtoX (w W0 : World) (E : List I) (q : Nat) (c : Code) (k : Nat) (W : World) : Prop where
  code : c = .ret
  bad : ¬ conO E
  b1 : CellAt W q 9 (.string ⟨#[]⟩)
  b2 : CellAt W (q + 1) 26 (.int .i64 154)
  below : Below w.heap.size w W
  size : W0.heap.size ≤ W.heap.size
theorem ctoX_own {w W0 : World} {E : List I} {q : Nat} (hz : w.heap.size ≤ W0.heap.size) (c : Code) : OwnFrom W0.heap.size (CtoX w W0 E q c) := fun k W W' row h hg hr =>
  ⟨h.code, h.bad, kept_cells h.b1 hg hr, kept_cells h.b2 hg hr, h.below.grown hg h.below.size (fun r e => Nat.le_trans hz (hr r e).1), Nat.le_trans h.size hg.size⟩
def InoA (E : List I) (W0 : World) (T : Nat → Nat → Array Value) (k : Nat) (a' : Act) (W : World) : Prop :=
  ∃ Bx, W0.heap.size ≤ Bx ∧ Ino.At W Bx (ino E k) ∧ a' = { tmps := T k Bx, defers := [] }
theorem inoA_own {E : List I} {W0 : World} {B : Nat} {T : Nat → Nat → Array Value} (k : Nat) (a' : Act) : OwnFrom B (fun (_ : Unit) W => InoA E W0 T k a' W) := fun _ W W' row hI hg hr => by
  obtain ⟨Bx, h1, h2, h3⟩ := hI
  exact ⟨Bx, h1, kept_cells h2 hg hr, h3⟩
section
set_option maxRecDepth 100000
set_option maxHeartbeats 4000000
theorem cto_in (a : Option Addr) (N cap : Nat) (E : List I) (w : World) (hN : E.length = N) (hL : Inos w (.slice a N cap) E) (hl : N ≤ 12) (ho : ∀ i, IOk (ino E i)) :
    CallsIn Fence.wide 7 Try.prog 50 #[.slice a N cap] w (Ans w (.tuple #[.string (conV E), .int .i64 (conE E)])) := by
  have hfn : ∀ f, Fence.wide.fn f := fun _ => trivial
  have HNO : Hid (∀ w', ¬ conO E → Below w.heap.size w w' → Ans w (.tuple #[.string (conV E), .int .i64 (conE E)]) (.returned (.tuple #[.string ⟨#[]⟩, .int .i64 154])) w') := fun w' h hB =>
    ⟨by rw [show conV E = ⟨#[]⟩ from if_neg h, show conE E = 154 from if_neg h], hB⟩
  have HYES : Hid (∀ w', conO E → Below w.heap.size w w' → Ans w (.tuple #[.string (conV E), .int .i64 (conE E)]) (.returned (.tuple #[.string (blk E 0 N), .int .i64 0])) w') := fun w' h hB =>
    ⟨by rw [show conV E = blk E 0 E.length from if_pos h, show conE E = 0 from if_pos h, hN], hB⟩
  have HIF : Hid (conO E ↔ ∀ k, k < N → RightP (ino E k)) := by
    unfold Hid conO
    rw [hN]
  have hFit := fun W => fit_any ⟨#[]⟩ 508 W (by decide)
  rw [zeros_fit.1, zeros_fit.2] at hFit
  have HZ0 : Hid (blk E 0 0 = zeros 508) := blk_zero E 0
  obtain ⟨Z, hZ⟩ : ∃ Z, zeros 508 = Z := ⟨_, rfl⟩
  rw [hZ] at hFit HZ0
  have HFIT := Lib.hid hFit
  have HN1 := Lib.hid hN
  obtain ⟨_, _, e0, hcap1, hcap2⟩ := hL.parts
  rw [hN] at e0 hcap1
  cases e0
  clear hN hZ hFit
  refine callsIn_of_wp_marks Try.func50 rfl trivial ?_ rfl
  simp only [Try.ntmps50, List.size_toArray, List.length_cons, List.length_nil, Nat.reduceAdd, Nat.reduceSub, Array.replicate_succ, Array.replicate_zero, List.push_toArray, List.append_toArray, List.nil_append, List.cons_append]
  gi_wp2
  apply wide_scope
  gi_wp2_with (gi_at_call 63; refine (callsIn_wide.2 (HFIT.out _)).mono ?_; rintro e WB ⟨rfl, hBF⟩)
  apply wide_label
  gi_wp2_with (gi_at_call 64; refine (allI_in _ _ _ _ _).mono ?_; rintro e w4 ⟨rfl, hw⟩; rw [← hw]; clear hw w4)
  obtain ⟨q, hq⟩ : ∃ q, w.heap.size = q := ⟨_, rfl⟩
  obtain ⟨WA, hWA⟩ : ∃ WA, ((w.alloc (.cells #[.string ⟨#[]⟩] 9)).alloc (.cells #[.int .i64 0] 26)).alloc (.cells #[.int .i64 0, .int .u16 0, .int .u16 0, .int .u32 0, .int .u64 0, .int .i64 0, .int .u32 0, .int .u32 0, .int .u32 0, .int .u32 0, .int .u32 0, .int .u32 0] 41) = WA := ⟨_, rfl⟩
  rw [hWA] at hBF
  have hsA : WA.heap.size = q + 3 := by rw [← hWA, ← hq]; simp
  have hBA : Below w.heap.size w WA := by rw [← hWA]; exact below_al (below_al (below_al (Below.refl _ _) _) _) _
  have hz' : ∀ (W : World) (o : Obj) (k : Nat) (x : Obj), W.heap[k]? = some x → (W.alloc o).heap[k]? = some x := fun W o k x h => (Below.heap_alloc _ _ _ (Array.getElem?_eq_some_iff.1 h).1).trans h
  have hn' : ∀ (W : World) (o : Obj) (n : Nat), W.heap.size = n → (W.alloc o).heap[n]? = some o := fun W o n h => h ▸ World.alloc_heap_new W o
  have a1 : CellAt WA q 9 (.string ⟨#[]⟩) := by rw [← hWA, ← hq]; exact hz' _ _ _ _ (hz' _ _ _ _ (hn' _ _ _ rfl))
  have a2 : CellAt WA (q + 1) 26 (.int .i64 0) := by rw [← hWA, ← hq]; exact hz' _ _ _ _ (hn' _ _ _ (by simp))
  have a3 : Ino.At WA (q + 1 + 1) I.zero := by rw [← hWA, ← hq]; exact hn' _ _ _ (by simp)
  obtain ⟨p, hp⟩ : ∃ p, WB.heap.size = p := ⟨_, rfl⟩
  obtain ⟨W0, hW0⟩ : ∃ W0, (WB.alloc (.cells #[.string Z] 9)).alloc (.cells #[.slice a N cap] 50) = W0 := ⟨_, rfl⟩
  have hs0 : W0.heap.size = p + 2 := by rw [← hW0, ← hp]; simp
  have hBW0 : Below WB.heap.size WB W0 := by rw [← hW0]; exact below_al (below_new _ _) _
  have hA0 : Below WA.heap.size WA W0 := below_th hBF hBW0
  have hBW : Below w.heap.size w W0 := below_th hBA hA0
  have hpq : q + 3 ≤ p := by have := hBF.size; omega
  have b1 := a1.th hA0
  have b2 := a2.th hA0
  have b3 := a3.th hA0
  have b4 : CellAt W0 p 9 (.string Z) := by rw [← hW0, ← hp]; exact hz' _ _ _ _ (hn' _ _ _ rfl)
  have b5 : CellAt W0 (p + 1) 50 (.slice a N cap) := by rw [← hW0, ← hp]; exact hn' _ _ _ (by simp)
  have hsq : SeqSteps Fence.wide 6 Try.prog 72 #[.pointer (some ⟨p + 1, 0, none⟩)] (encI E) (KeptN q) N W0 := by
    intro l J Jx W' hB hJ _ hY h0
    have h := allI1_in 6 (by decide) l (p + 1) q (.slice a N cap) E J Jx _ hJ (by rw [HN1.out]; exact hY) W' (b5.th hB).c (fun W2 hk => hL.keptN ((KeptN.below hBW (Nat.le_refl _)).trans ((KeptN.below (hB.mono (Nat.le_refl _)) (by omega)).trans (by rw [hq]; exact hk)))) (by have := hB.size; omega) h0
    rw [HN1.out] at h
    exact h
  try rw [hWA]
  rw [hW0]
  rw [hq, hp]
  clear hW0 hz' hn' hWA a1 a2 a3 hBF hBW0 hBA hsA hA0
  have hI0 : CtoI W0 E p 0 W0 := ⟨Only.refl _ _, by rw [HZ0.out]; exact b4, fun j hj => absurd hj (Nat.not_lt_zero _)⟩
  refine wpIn_rangeFunc_steps rfl (by decide) (gf := 72) (lb := #[.pointer (some ⟨p + 1, 0, none⟩)]) rfl trivial (enters_of Try.func72 (by kernel_rfl) rfl)
    hsq keptN_t (keptN_b (by omega)) (Below.refl _ _) (fun k => by unfold encI; rfl)
    (CtoI W0 E p) (CtoX w W0 E q) ctoI_own (ctoX_own (by omega)) hI0
    (InoA E W0 (fun k Bx => #[.slice a N cap, undef, .pointer (some ⟨q, 0, none⟩), .pointer (some ⟨q + 1, 0, none⟩), .pointer (some ⟨q + 1 + 1, 0, none⟩), .pointer (some ⟨p, 0, none⟩), .int .i64 0, .int .i64 (k : Int), .pointer (some ⟨Bx, 0, none⟩), undef, undef, I.zero.val, .tuple #[.string Z, .int .i64 0], .tuple #[.string Z, .int .i64 0], .string Z, .int .i64 0, .slice a N cap, .func (.func 72) #[] #[.pointer (some ⟨p + 1, 0, none⟩)], .int .i64 (k : Int), (ino E k).val, undef, undef, undef, undef, undef, undef, undef, undef, undef, undef, undef, undef, undef, undef])) (fun k a' => inoA_own k a') ?assign ?body ?done ?stop
  case assign =>
    intro l k W K hI hk hK
    have hz : W0.heap.size ≤ W.heap.size := hI.only.size
    have HK := Lib.hid (hK _ _ ((KeepsOthers.alloc W _).from _) (KeptN.below (below_new W _) (by omega)) (ctoI_own _ _ _ none hI (World.grownBy_alloc W _ _) (fun r e => by cases e)) ⟨W.heap.size, hz, Ino.At.new W (ino E k), rfl⟩)
    unfold encI
    clear hK hI hsq
    unfold Ino.boxO Ino.I.val at HK
    unfold Ino.I.val
    dsimp only at HK
    generalize ino E k = y at HK ⊢
    gi_wp2
    exact HK.out
  case body =>
    rintro l k a' W hl' hrec hI ⟨Bx, hBx, hX, rfl⟩ hk
    have hsz := hI.only.size
    have hox := ho k
    have d1 : CellAt W q 9 (.string ⟨#[]⟩) := b1.of_heap (hI.only.block _ (by omega) (by omega))
    have d2 : CellAt W (q + 1) 26 (.int .i64 0) := b2.of_heap (hI.only.block _ (by omega) (by omega))
    have d3 : Ino.At W (q + 1 + 1) I.zero := (hI.only.block (q + 1 + 1) (by omega) (by omega)).trans b3
    have hfree := blk_free (E := E) (k := k) (by omega)
    have hsucc : blk E 0 (k + 1) = laid (blk E 0 k) k (ino E k) := by rw [blk_succ, Nat.zero_add]
    have hbz := blk_size E 0 k (by omega)
    have hat := hI.at_
    have hon := hI.only
    have hfits := hI.fits
    have c5 := hat.c
    obtain ⟨x0, x1, x2, x3, x4, x5, x6, x7, x8, x9, x10, x11⟩ := hX.c
    obtain ⟨z0, z1, z2, z3, z4, z5, z6, z7, z8, z9, z10, z11⟩ := d3.zc
    obtain ⟨x, hx⟩ : ∃ x, ino E k = x := ⟨_, rfl⟩
    have hrx : RightP (ino E k) ↔ RightP x := by rw [hx]
    dsimp only
    rw [hx] at hox hfree hsucc x0 x1 x2 x3 x4 x5 x6 x7 x8 x9 x10 x11 ⊢
    have hqx := fun W => Ino.eqlI x I.zero W
    have hall : RightP x → ∀ j, j < k + 1 → RightP (ino E j) := fun h j hj => by
      rcases Nat.lt_succ_iff_lt_or_eq.1 hj with h1 | h1
      · exact hfits j h1
      · rw [h1]; exact hrx.2 h
    by_cases hz : x = I.zero
    · rw [decide_eq_true hz] at hqx
      have HF : Hid (CtoI W0 E p (k + 1) W) := ⟨hon, by rw [hfree hz]; exact hat, hall (.inl hz)⟩
      unfold Ino.I.val at hqx ⊢
      have hqx2 : ∀ W, (binOp .eql 41 (.agg #[.int .i64 x.kind, .int .u16 x.mode, .int .u16 x.links, .int .u32 x.size, .int .u64 x.time, .int .i64 x.depth, .int .u32 x.m.a, .int .u32 x.m.b, .int .u32 x.m.c, .int .u32 x.m.d, .int .u32 x.m.e, .int .u32 x.m.f]) (.agg #[.int .i64 0, .int .u16 0, .int .u16 0, .int .u32 0, .int .u64 0, .int .i64 0, .int .u32 0, .int .u32 0, .int .u32 0, .int .u32 0, .int .u32 0, .int .u32 0])).run Try.prog W = .ok (.bool true) W := hqx
      clear hI hX hsq hrec hz hx hrx hox hfree hsucc hat hon hfits d1 d2 d3 b1 b2 b3 b4 b5 hI0 hall hqx hs0
      gi_wp2
      exact ⟨KeepsFrom.refl _ _, KeptN.refl _ _, HF.out⟩
    · rw [decide_eq_false hz] at hqx
      have hqx2 : ∀ W, (binOp .eql 41 (.agg #[.int .i64 x.kind, .int .u16 x.mode, .int .u16 x.links, .int .u32 x.size, .int .u64 x.time, .int .i64 x.depth, .int .u32 x.m.a, .int .u32 x.m.b, .int .u32 x.m.c, .int .u32 x.m.d, .int .u32 x.m.e, .int .u32 x.m.f]) (.agg #[.int .i64 0, .int .u16 0, .int .u16 0, .int .u32 0, .int .u64 0, .int .i64 0, .int .u32 0, .int .u32 0, .int .u32 0, .int .u32 0, .int .u32 0, .int .u32 0])).run Try.prog W = .ok (.bool false) W := by unfold Ino.I.val at hqx; exact hqx
      have hP := fun W2 => Ino.put_any (blk E 0 k) (k : Int) x hox W2 (by omega)
      have hhp : Ino.hasP (blk E 0 k) (k : Int) := ⟨hbz, by omega, by omega⟩
      by_cases hr : RightP x
      · rw [Ino.putV_yes hhp hr, Ino.putEr_yes hhp, Ino.encE_yes hr, Int.toNat_natCast, ← hsucc] at hP
        have HGO : Hid (∀ W2, Below W.heap.size W W2 → CellAt W2 p 9 (.string (blk E 0 k)) ∧ (KeepsFrom W0.heap.size W (W2.setCell ⟨p, 0, none⟩ (.string (blk E 0 (k + 1)))) ∧ KeptN q W (W2.setCell ⟨p, 0, none⟩ (.string (blk E 0 (k + 1)))) ∧ CtoI W0 E p (k + 1) (W2.setCell ⟨p, 0, none⟩ (.string (blk E 0 (k + 1)))))) := fun W2 hB => by
          have hon2 : Only (fun i => i = p) W (W2.setCell ⟨p, 0, none⟩ (.string (blk E 0 (k + 1)))) := Only.setCell (p := ⟨p, 0, none⟩) (Only.of_below (S := fun i => i = p) hB) (.inr rfl) _
          exact ⟨hat.th hB, keeps_of_only _ hon2 (by rintro j rfl; exact ⟨_, _, _, hat⟩), KeptN.only hon2 (by omega) (by rintro j rfl; omega), hon.step hon2 (fun i _ hi => hi), (hat.th hB).put _, hall hr⟩
        obtain ⟨y, hy⟩ : ∃ y, blk E 0 (k + 1) = y := ⟨_, rfl⟩
        obtain ⟨cc, hcc⟩ : ∃ cc, blk E 0 k = cc := ⟨_, rfl⟩
        rw [hcc] at hP HGO c5
        simp only [hy] at hP HGO
        unfold Ino.I.val at hP ⊢
        have HP := Lib.hid hP
        clear hI hX hsq hrec hz hx hrx hox hfree hsucc hat hon hfits d1 d2 d3 b1 b2 b3 b4 b5 hI0 hall hqx hs0 hP hhp hbz hy hcc hr
        gi_wp2_with (gi_at_call 65; refine (CallsIn.inRound l (callsIn_wide.2 (HP.out _))).mono ?_; rintro e w2 ⟨rfl, hB2⟩; obtain ⟨r1, r2⟩ := HGO.out _ hB2; have p1 := r1.c; have p2 := r1.f; have HR := Lib.hid r2; clear r1 r2 hB2)
        exact HR.out
      · rw [Ino.putV_no (.inr hr), Ino.putEr_yes hhp, Ino.encE_no hr] at hP
        have HBAD : Hid (∀ W2, Below W.heap.size W W2 → CellAt W2 q 9 (.string ⟨#[]⟩) ∧ CellAt W2 (q + 1) 26 (.int .i64 0) ∧ KeepsFrom W0.heap.size W ((W2.setCell ⟨q, 0, none⟩ (.string ⟨#[]⟩)).setCell ⟨q + 1, 0, none⟩ (.int .i64 154)) ∧ CtoX w W0 E q .ret k ((W2.setCell ⟨q, 0, none⟩ (.string ⟨#[]⟩)).setCell ⟨q + 1, 0, none⟩ (.int .i64 154))) := fun W2 hB => by
          have hon2 : Only (fun i => i = q ∨ i = q + 1) W ((W2.setCell ⟨q, 0, none⟩ (.string ⟨#[]⟩)).setCell ⟨q + 1, 0, none⟩ (.int .i64 154)) := Only.setCell (p := ⟨q + 1, 0, none⟩) (Only.setCell (p := ⟨q, 0, none⟩) (Only.of_below hB) (.inr (.inl rfl)) _) (.inr (.inr rfl)) _
          have e1 := d1.th hB
          have e2 := d2.th hB
          refine ⟨e1, e2, keeps_of_only _ hon2 (by rintro j (rfl | rfl); exact ⟨_, _, _, d1⟩; exact ⟨_, _, _, d2⟩), rfl, fun hp => hr (hrx.1 ((HIF.out.1 hp) k hk)), (e1.put _).other (by omega) _, (e2.other (by omega) _).put _, ?_, Nat.le_trans hsz hon2.size⟩
          have h6 : Below w.heap.size w W := hBW.trans (hon.below (n := w.heap.size) (by omega) (by rintro j rfl; omega))
          exact h6.trans (hon2.below (n := w.heap.size) (by omega) (by rintro j (rfl | rfl) <;> omega))
        obtain ⟨cc, hcc⟩ : ∃ cc, blk E 0 k = cc := ⟨_, rfl⟩
        rw [hcc] at hP c5
        unfold Ino.I.val at hP ⊢
        have HP := Lib.hid hP
        clear hI hX hsq hrec hz hx hrx hox hfree hsucc hat hon hfits d1 d2 d3 b1 b2 b3 b4 b5 hI0 hall hqx hs0 hP hhp hbz hcc hr
        gi_wp2_with (gi_at_call 65; refine (CallsIn.inRound l (callsIn_wide.2 (HP.out _))).mono ?_; rintro e w2 ⟨rfl, hB2⟩; obtain ⟨e1, e2, e3⟩ := HBAD.out _ hB2; have p1 := e1.c; have p2 := e1.f; have p3 := (e2.other (r := q) (by omega) (.string ⟨#[]⟩)).c; have p4 := (e2.other (r := q) (by omega) (.string ⟨#[]⟩)).f; have HE := Lib.hid e3; clear e1 e2 e3 hB2)
        exact HE.out
  case done =>
    rintro D W hD hI hKD
    have hcon : conO E := HIF.out.2 hI.fits
    have hon := hI.only
    have hsz := hon.size
    have c5 := hI.at_.c
    have d1 : CellAt W q 9 (.string ⟨#[]⟩) := b1.of_heap (hon.block _ (by omega) (by omega))
    have d2 : CellAt W (q + 1) 26 (.int .i64 0) := b2.of_heap (hon.block _ (by omega) (by omega))
    obtain ⟨y, hy⟩ : ∃ y, blk E 0 N = y := ⟨_, rfl⟩
    rw [hy] at c5
    have HFIN : Hid (((W.setCell ⟨q, 0, none⟩ (.string y)).setCell ⟨q + 1, 0, none⟩ (.int .i64 0)).heap[D]? = some (.deferred (some [])) ∧
        (((W.setCell ⟨q, 0, none⟩ (.string y)).setCell ⟨q + 1, 0, none⟩ (.int .i64 0)).putObj D (.deferred none)).cell? ⟨q, 0, none⟩ = some (.string y) ∧
        (((W.setCell ⟨q, 0, none⟩ (.string y)).setCell ⟨q + 1, 0, none⟩ (.int .i64 0)).putObj D (.deferred none)).cell? ⟨q + 1, 0, none⟩ = some (.int .i64 0) ∧
        Ans w (.tuple #[.string (conV E), .int .i64 (conE E)]) (.returned (.tuple #[.string y, .int .i64 0])) (((W.setCell ⟨q, 0, none⟩ (.string y)).setCell ⟨q + 1, 0, none⟩ (.int .i64 0)).putObj D (.deferred none))) := by
      have hon2 : Only (fun i => i = q ∨ i = q + 1) W ((W.setCell ⟨q, 0, none⟩ (.string y)).setCell ⟨q + 1, 0, none⟩ (.int .i64 0)) := Only.setCell (p := ⟨q + 1, 0, none⟩) (Only.setCell (p := ⟨q, 0, none⟩) (Only.refl _ W) (.inr (.inl rfl)) _) (.inr (.inr rfl)) _
      have hDW : D < W.heap.size := (Array.getElem?_eq_some_iff.1 hKD).1
      have hD3 := (hon2.block D hDW (by omega)).trans hKD
      refine ⟨hD3, ?_, ?_, ?_⟩
      · exact (((d1.put (.string y)).other (by omega) _).of_heap (World.putObj_heap_other (by omega))).c
      · exact (((d2.other (by omega) _).put _).of_heap (World.putObj_heap_other (by omega))).c
      · have h6 : Below w.heap.size w W := hBW.trans (hon.below (n := w.heap.size) (by omega) (by rintro j rfl; omega))
        have h7 := HYES.out _ hcon (below_putObj (h6.trans (hon2.below (n := w.heap.size) (by omega) (by rintro j (rfl | rfl) <;> omega))) D (by omega) (.deferred none))
        rw [hy] at h7
        exact h7
    have p1 := d1.c
    have p2 := d1.f
    have p3 := (d2.other (r := q) (by omega) (.string y)).c
    have p4 := (d2.other (r := q) (by omega) (.string y)).f
    clear hI hon hsq hcon b1 b2 b3 b4 b5 hI0 hKD d1 d2 hy
    gi_wp2
    refine ⟨by simp, .inl ⟨_, _, rfl, run_takeDeferred HFIN.out.1, ?_⟩⟩
    refine ⟨_, results_cc rfl _ _ rfl rfl HFIN.out.2.1 HFIN.out.2.2.1, ?_⟩
    exact HFIN.out.2.2.2
  case stop =>
    rintro D c k W hD hk hX hKD
    obtain rfl := hX.code
    have HKD := Lib.hid hKD
    have hsz := hX.size
    have HB := Lib.hid (HNO.out _ hX.bad (below_putObj hX.below D (by omega) (.deferred none)))
    have HC1 := Lib.hid (hX.b1.of_heap (W' := W.putObj D (.deferred none)) (World.putObj_heap_other (by omega))).c
    have HC2 := Lib.hid (hX.b2.of_heap (W' := W.putObj D (.deferred none)) (World.putObj_heap_other (by omega))).c
    clear hX hsq hKD b1 b2 b3 b4 b5 hI0
    gi_wp2
    refine ⟨by simp, .inl ⟨_, _, rfl, run_takeDeferred HKD.out, ?_⟩⟩
    refine ⟨_, results_cc rfl _ _ rfl rfl HC1.out HC2.out, ?_⟩
    exact HB.out
end
end Go.Proofs.Yteopcjfakhmifaa.Vol
/- The library's Chunk hands out inodes, twelve at a time. -/
namespace Go.Proofs.Yteopcjfakhmifaa.Vol
open Go.RowKit
attribute [local go_sem] Oper.semAt_some
set_option linter.unusedVariables false
set_option linter.unusedSimpArgs false
/-- how long the k-th piece is, and where it lies -/
def chN (N k : Nat) : Nat := min 12 (N - 12 * k)
def chEnc (b off N k : Nat) : Array Value := #[.slice (some ⟨b, off + 12 * k * 12, none⟩) (chN N k) (chN N k)]
section
set_option maxRecDepth 100000
set_option maxHeartbeats 4000000
theorem chunk1_in (n : Nat) (hn : 1 ≤ n) (l Bx By b off cap N : Nat) (a : Option Addr) (ha : 0 < N → a = some ⟨b, off, none⟩) (hN9 : N ≤ 100000) (J Jx : Nat → World → Prop) (B0 : Nat) (hJ : AbidesFrom B0 J)
    (hY : ∀ k W, J k W → 12 * k < N → YieldAt Fence.wide (n - 1) Try.prog l (chEnc b off N k) W fun e W' => (e = .returned (.bool true) ∧ J (k + 1) W' ∧ Same [Bx, By] W W') ∨ (e = .returned (.bool false) ∧ Jx k W'))
    (W : World) (hbx : W.cell? ⟨Bx, 0, none⟩ = some (.slice a N cap)) (hby : W.cell? ⟨By, 0, none⟩ = some (.int .i64 12)) (hcap : N ≤ cap) (hcap2 : cap ≤ 9223372036854775807) (h0 : J 0 W) :
    CallsIn Fence.wide n Try.prog 62 #[.func (.yield l) #[] #[], .pointer (some ⟨Bx, 0, none⟩), .pointer (some ⟨By, 0, none⟩)] W fun e W' => (∃ v, e = .returned v) ∧ (J ((N + 11) / 12) W' ∨ ∃ k, k < (N + 11) / 12 ∧ Jx k W') := by
  have hfn : ∀ f, Fence.wide.fn f := fun _ => trivial
  have hJa : ∀ k W1 W2, J k W1 → Below W1.heap.size W1 W2 → J k W2 := fun k W1 W2 h hB => hJ _ _ _ none h (grown_of_below hB) (fun r e => by cases e)
  have HA := Lib.hid hJa
  have HY := Lib.hid hY
  have HX := Lib.hid (fun W' (h : Same [Bx, By] W W') => And.intro ((h.cell (p := ⟨Bx, 0, none⟩) (by simp)).trans hbx) ((h.cell (p := ⟨By, 0, none⟩) (by simp)).trans hby))
  clear hJa hY hJ hbx hby
  refine callsIn_of_wp Try.func62 rfl trivial ?_ rfl
  simp only [Try.ntmps62, List.size_toArray, List.length_cons, List.length_nil, Nat.reduceAdd, Nat.reduceSub, Array.replicate_succ, Array.replicate_zero, List.push_toArray, List.append_toArray, List.nil_append, List.cons_append]
  gi_wp2
  gi_loopw [4, 5] (fun i _ wr => ∃ k : Nat, 12 * k < N + 12 ∧ i = .int .i64 ((12 * k : Nat) : Int) ∧ J k wr ∧ Same [Bx, By] W wr) (fun i _ _ => N + 12 - (intOf i).toNat)
  case atStart => exact ⟨0, by omega, rfl, h0, Same.refl _ _⟩
  case round =>
    obtain ⟨k, hk, rfl, hJk, hS⟩ := hrel
    obtain ⟨c0, c1⟩ := HX.out _ hS
    obtain ⟨i, hi⟩ : ∃ i, 12 * k = i := ⟨_, rfl⟩
    rw [hi]
    by_cases hltk : i < N
    · obtain rfl := ha (by omega)
      have d0 : wr.drew.cell? ⟨Bx, 0, none⟩ = some (.slice (some ⟨b, off, none⟩) N cap) := c0
      have d1 : wr.drew.cell? ⟨By, 0, none⟩ = some (.int .i64 12) := c1
      obtain ⟨m, hm⟩ : ∃ m, chN N k = m := ⟨_, rfl⟩
      have hm2 : m = min 12 (N - i) := by rw [← hm, ← hi]; rfl
      have hmin : (if ((N - i : Nat) : Int) < 12 then ((N - i : Nat) : Int) else 12) = (m : Int) := by rw [hm2]; split <;> omega
      have hsub : (N : Int) - (i : Int) = ((N - i : Nat) : Int) := by omega
      have hwm : IntKind.i64.wrap ((i : Int) + (m : Int)) = (i : Int) + (m : Int) := by rw [IntKind.wrap_i64]; omega
      have hw9 : IntKind.i64.wrap ((i : Int) + 12) = (i : Int) + 12 := by rw [IntKind.wrap_i64]; omega
      have hb1 : (i : Int) + (m : Int) ≤ (cap : Int) := by omega
      have hb2 : i ≤ cap := by omega
      have hb3 : i ≤ N := by omega
      have hb4 : (i : Int) ≤ (i : Int) + (m : Int) := by omega
      have hne : ¬ cap = i := by omega
      gi_wp2
      refine wpIn_wide.2 ?_
      go_quiet (fail)
      obtain ⟨V, hV⟩ : ∃ V, wr.drewN nq = V := ⟨_, rfl⟩
      have e0 : V.cell? ⟨Bx, 0, none⟩ = some (.slice (some ⟨b, off, none⟩) N cap) := by rw [← hV]; exact c0
      have e1 : V.cell? ⟨By, 0, none⟩ = some (.int .i64 12) := by rw [← hV]; exact c1
      have hBV : Below wr.heap.size wr V := by rw [← hV]; exact below_drewN (Below.refl _ _) _
      have HSV := Lib.hid (show Same [Bx, By] W V from hS.trans (by rw [← hV]; exact fun _ _ => rfl))
      have hJV := HA.out _ _ _ hJk hBV
      obtain ⟨fn, tmps, assign, body, hy, hR⟩ := HY.out k V hJV (by omega)
      have henc : chEnc b off N k = #[.slice (some ⟨b, off + i * 12, none⟩) m m] := by unfold chEnc; rw [hm, hi]
      rw [henc] at hy
      rw [hV]
      rw [show min (12 : Int) ((N - i : Nat) : Int) = (m : Int) by omega]
      have hm9 : m ≤ 12 := by omega
      have hm1 : 1 ≤ m := by omega
      have hm0 : ¬ m = 0 := by omega
      have hmi : ¬ i + m = i := by omega
      clear hV hBV hJV hJk henc hm d0 d1 c0 c1 hS hmin hm2
      have hnat : i + m - i = m := by omega
      have hk1 : i + 12 = 12 * (k + 1) := by omega
      have HK1 := Lib.hid hk1
      have HI := Lib.hid hi
      clear hi hk1
      gi_wp2
      refine hR.mono ?_
      rintro e W3 (⟨rfl, hJ3, hk3⟩ | ⟨rfl, hJx3⟩)
      · obtain ⟨q0, q1⟩ := HX.out W3 (HSV.out.trans hk3)
        gi_wp2
        go_roundw
        case rel => exact ⟨k + 1, by have := HI.out; omega, by rw [← HK1.out]; go_num, hJ3, HSV.out.trans hk3⟩
        case measure => simp [intOf]; omega
      · gi_wp2
        refine bodyPost_ret (results_none rfl _ _ _) rfl ?_
        exact ⟨⟨_, rfl⟩, .inr ⟨k, by have := HI.out; omega, hJx3⟩⟩
    · have hkk : (N + 11) / 12 = k := by omega
      have HJ : Hid (J ((N + 11) / 12) wr) := by rw [hkk]; exact hJk
      clear hi hJk hkk
      gi_wp2
      go_end0
      exact ⟨⟨_, rfl⟩, .inl HJ.out⟩
theorem chunk_in (n : Nat) (a : Option Addr) (N cap : Nat) (w : World) :
    CallsIn Fence.wide n Try.prog 49 #[.slice a N cap, .int .i64 12] w fun e w' => e = .returned (.func (.func 62) #[] #[.pointer (some ⟨w.heap.size, 0, none⟩), .pointer (some ⟨w.heap.size + 1, 0, none⟩)]) ∧ (w.alloc (.cells #[.slice a N cap] 50)).alloc (.cells #[.int .i64 12] 3) = w' := by
  refine callsIn_of_wp Try.func49 rfl trivial ?_ rfl
  simp only [Try.ntmps49, List.size_toArray, List.length_cons, List.length_nil, Nat.reduceAdd, Nat.reduceSub, Array.replicate_succ, Array.replicate_zero, List.push_toArray, List.append_toArray, List.nil_append, List.cons_append]
  gi_wp2
  go_ret
  exact ⟨rfl, rfl⟩
end
end Go.Proofs.Yteopcjfakhmifaa.Vol
