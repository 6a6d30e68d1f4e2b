/- Moving an item from the left of two nodes to the right one. -/
import Derived.Deep.QuietTactic
import Derived.BigQuiet
import Derived.Deep.RegionLaw
import Derived.Deep.Cut
import Derived.Deep.DeepCutAuto
import Derived.Deep.AppendLies
import Derived.Test.YtkhbfjncamobdaaBagTrioS
namespace Go.Proofs.Ytkhbfjncamobdaa.S
open Go.RowKit
set_option linter.unusedVariables false

theorem ins_row {W W' : World} {o : Obj} {B : Nat} {c : Array Value} {t : TypeId} (e : W'.heap = (W.alloc (.cells c t)).heap) (hB : B = W.heap.size) : Row W' B t c.toList := by
  unfold Row
  rw [e, hB]
  exact heap_alloc_new W _

set_option maxRecDepth 100000 in
set_option maxHeartbeats 8000000 in
theorem moveRight_trio (S X : Nat → Prop) (w0 w : World) (B : Nat → Prop) (L : List (Rec ByteArray)) (r rl rr : Rec ByteArray) (p : Nat) (x y : It) (xs : List It) (f : Nat × Nat) (lk rk : List Nat)
    (hT : Trio S X w0 w B L w r rl rr) (hkv : r.kv = some f) (hl : r.kids[p]? = some rl.b) (hr : r.kids[p + 1]? = some rr.b) (hx : r.items[p]? = some x) (hy : rl.items = xs ++ [y]) (h1 : r.items.length ≤ 7) (h2 : rl.items.length ≤ 7) (h3 : rr.items.length ≤ 7) (h4 : r.kids.length ≤ 8)
    (hk : (rl.kv = none ∧ rr.kv = none ∧ lk = rl.kids ∧ rk = rr.kids) ∨ ∃ fl fr c cs, rl.kv = some fl ∧ rr.kv = some fr ∧ rl.kids = cs ++ [c] ∧ cs.length = xs.length + 1 ∧ rr.kids.length ≤ 8 ∧ lk = cs ∧ rk = c :: rr.kids) :
    Calls Try.prog 44 #[ptrV r.b, .int .i64 p] w (MovPost S X w0 w B L r rl rr p y xs (x :: rr.items) lk rk) := by
  have hpl := (List.getElem?_eq_some_iff.1 hr).1
  have n1 := hT.okT.c1
  simp only [Rec.kvv, hkv] at n1
  have k0 := hT.okT.kid hkv hl
  have k1 := hT.okT.kid hkv hr
  unfold ptrV at k0 k1 ⊢
  have HT := Lib.hid hT
  have hw1 : IntKind.i64.wrap ((p : Int) + 1) = (p : Int) + 1 := by rw [IntKind.wrap_i64]; omega
  have hb1 : (p : Int) < (r.kids.length : Int) := by omega
  have hb2 : (p : Int) + 1 < (r.kids.length : Int) := by omega
  have hxl : rl.items.length = xs.length + 1 := by rw [hy]; simp
  have hxs : xs.length ≤ 6 := by omega
  have HY := Lib.hid hy
  have HXL := Lib.hid hxl
  clear hT hy
  go_enter Try.func44, Try.ntmps44
  go_wp2_with fail
  go_quiet (fail)
  go_upto_region 1 with fail
  obtain ⟨i0, hi, hz0, hz1, hz2⟩ := info_parts info_item
  obtain ⟨W1, hW1⟩ : ∃ W1, w.drewN nq = W1 := ⟨_, rfl⟩
  have hBn : Below w.heap.size w W1 := by rw [← hW1]; exact below_drewN (Below.refl _ w) nq
  have hT1 := HT.out.below hBn
  rw [hW1]
  have HT1 := Lib.hid hT1
  clear n1 k0 k1 HT hBn hW1 hw1 hb1 hb2
  have l0 := hT1.okL.c0
  unfold Rec.iv at l0
  rw [hxl] at l0
  clear hxl
  have q0 := hT1.okR.c0
  have qf := hT1.okR.f 0
  have t0 := hT1.okT.c0
  have tx := hT1.okT.item hx
  have tx0 := tx.1
  have tx1 := tx.2
  unfold Rec.iv at q0 t0
  have hpi := (List.getElem?_eq_some_iff.1 hx).1
  have hbi : (p : Int) < (r.items.length : Int) := by omega
  have hlt1 := hT1.okR.blk rr.b (by simp [Rec.blocks])
  have hlt2 := hT1.okT.blk r.b (by simp [Rec.blocks])
  have hlt3 := hT1.okT.blk r.g (by simp [Rec.blocks])
  have hlt4 := hT1.okR.blk rr.g (by simp [Rec.blocks])
  have hbg := hT1.okR.b_ne_g
  have hBA : Below W1.heap.size W1 ((W1.alloc (.cells #[.int .i64 x.1, .string x.2] 62)).drew) := ((Below.refl _ W1).alloc (Nat.le_refl _) _).drew
  have cI : Calls Try.prog 39 #[.slice (some ⟨rr.g, 0, none⟩) rr.items.length rr.cap, .int .i64 0, .slice (some ⟨W1.heap.size, 0, none⟩) 1 1] ((W1.alloc (.cells #[.int .i64 x.1, .string x.2] 62)).drew) (InsdI rr.g rr.items.length 0 (cellsI rr.items) [.int .i64 x.1, .string x.2] ((W1.alloc (.cells #[.int .i64 x.1, .string x.2] 62)).drew)) :=
    insI_at rr 0 W1.heap.size x _ (hT1.okR.below hBA) (Nat.zero_le _) (by omega) (heap_alloc_new W1 _) (by omega)
  have HBA := Lib.hid hBA
  have HLEFT := Lib.hid (fun (w1 : World) (hon : Only (fun k => k = rr.g) ((W1.alloc (.cells #[.int .i64 x.1, .string x.2] 62)).drew) w1) => (⟨(World.cell?_of_block (a := ⟨rr.b, 0, none⟩) (hon.block rr.b ((hT1.okR.below hBA).blk rr.b (by simp [Rec.blocks])) hbg)).trans (hT1.okR.below hBA).c0, (World.frozen?_of_block (a := ⟨rr.b, 0, none⟩) (hon.block rr.b ((hT1.okR.below hBA).blk rr.b (by simp [Rec.blocks])) hbg)).trans ((hT1.okR.below hBA).f 0)⟩ : _ ∧ _))
  clear hT1 tx hBA
  go_upto_region 2 with fail
  go_cut [4, 5, 6] (fun s4 s5 s6 wx => ∃ rr1, s4 = .pointer (some ⟨rl.b, 0, none⟩) ∧ s5 = .pointer (some ⟨rr1.b, 0, none⟩) ∧ s6 = .int .i64 (xs.length : Int) ∧ Trio S X w0 w B L wx r rl rr1 ∧ rr1.b = rr.b ∧ rr1.items = x :: rr.items ∧ rr1.kids = rr.kids ∧ rr1.kv = rr.kv)
  case first =>
    go_region_with (first | (go_at_call 39; refine cI.mono ?_; rintro e w1 ⟨g', cap', rfl, hown1, hon1, hg1⟩; obtain ⟨d0, e0⟩ := HLEFT.out _ hon1))
    all_goals
      have hT2 := (HT1.out.below HBA.out).turnR (turned_items (n := rr.items.length + 1) (items' := x :: rr.items) (HT1.out.okR.below HBA.out) hon1 (by simp) hown1 hg1)
      have HT2 := Lib.hid hT2
      clear hT2 hown1 hon1 hg1
      go_wp2_with fail
      go_meet
      exact ⟨{ rr with g := g', cap := cap', items := x :: rr.items }, rfl, rfl, by go_num, HT2.out, rfl, rfl, rfl, rfl⟩
  case rest =>
    obtain ⟨rr1, rfl, rfl, rfl, hT2, br1, ir1, kr1, vr1⟩ := hcut
    have HEq := Lib.hid (And.intro br1 (And.intro ir1 (And.intro kr1 vr1)))
    clear br1 ir1 kr1 vr1 HT1 cI HBA HLEFT hlt1 hlt2 hlt3 hlt4 hbg q0 qf l0 t0 tx0 tx1
    -- the last item of the left up
    have HT2 := Lib.hid hT2
    have t0 := hT2.okT.c0
    have q0 := hT2.okL.c0
    unfold Rec.iv at t0 q0
    rw [HXL.out] at q0
    have yx := hT2.okL.item (k := xs.length) (x := y) (by rw [HY.out]; simp)
    have y0 := yx.1
    have y1 := yx.2
    have tx := hT2.okT.item hx
    have tx0 := tx.1
    have tx1 := tx.2
    have tf0 := hT2.okT.itemF (p * 2)
    have tf1 := hT2.okT.itemF (p * 2 + 1)
    have HKS := Lib.hid hk
    have hq0 : (xs.length : Int) < ((xs.length + 1 : Nat) : Int) := by omega
    have hq1 : (xs.length : Int) < (xs.length : Int) + 1 := by omega
    clear hT2 yx tx hk
    go_upto_region 3 with fail
    go_cut [4, 5, 6] (fun s4 s5 s6 wx => ∃ r1, s4 = .pointer (some ⟨rl.b, 0, none⟩) ∧ s5 = .pointer (some ⟨rr1.b, 0, none⟩) ∧ s6 = .int .i64 (xs.length : Int) ∧ Trio S X w0 w B L wx r1 rl rr1 ∧ r1.b = r.b ∧ r1.items = r.items.set p y ∧ r1.kids = r.kids ∧ r1.kv = r.kv)
    case first =>
      go_region
      all_goals
        have hT3 := (HT2.out.below (Below.refl _ wc).drew).turnT (turned_item (HT2.out.okT.drew) p x y hx)
        have HT3 := Lib.hid hT3
        clear hT3
        go_wp2_with fail
        go_meet
        exact ⟨{ r with items := r.items.set p y }, rfl, rfl, rfl, HT3.out, rfl, rfl, rfl, rfl⟩
    case rest =>
      obtain ⟨r1, rfl, rfl, rfl, hT3, b1, i1, k1, v1⟩ := hcut
      have HEr := Lib.hid (And.intro b1 (And.intro i1 (And.intro k1 v1)))
      clear b1 i1 k1 v1 HT2 t0 q0 y0 y1 tx0 tx1 tf0 tf1 hq0 hq1
      -- which is gone from there
      have HT3 := Lib.hid hT3
      have q0 := hT3.okL.c0
      unfold Rec.iv at q0
      rw [HXL.out] at q0
      have qf := hT3.okL.f 0
      have hqr := hT3.okL.irow
      unfold Rec.iv at hqr
      rw [HXL.out] at hqr
      have cD : Calls Try.prog 35 #[.slice (some ⟨rl.g, 0, none⟩) (xs.length + 1) rl.cap, .int .i64 (xs.length : Int), .int .i64 ((xs.length : Int) + 1)] _ _ := delI_some 0 rl.g (xs.length + 1) rl.cap xs.length (xs.length + 1) (cellsI rl.items) _ (by omega) (by omega) (by omega) hqr (cellsI_one _)
      have HL3 := Lib.hid (fun (w1 : World) (hon : Only (fun k => k = rl.g) _ w1) => (⟨(World.cell?_of_block (a := ⟨rl.b, 0, none⟩) (hon.block rl.b (hT3.okL.blk rl.b (by simp [Rec.blocks])) hT3.okL.b_ne_g)).trans q0, (World.frozen?_of_block (a := ⟨rl.b, 0, none⟩) (hon.block rl.b (hT3.okL.blk rl.b (by simp [Rec.blocks])) hT3.okL.b_ne_g)).trans qf⟩ : _ ∧ _))
      clear hT3 hqr
      have hw2 : IntKind.i64.wrap ((xs.length : Int) + 1) = (xs.length : Int) + 1 := by rw [IntKind.wrap_i64]; omega
      go_upto_region 4 with fail
      go_cut [4, 5, 6] (fun s4 s5 s6 wx => ∃ rl1, s4 = .pointer (some ⟨rl1.b, 0, none⟩) ∧ s5 = .pointer (some ⟨rr1.b, 0, none⟩) ∧ s6 = .int .i64 (xs.length : Int) ∧ Trio S X w0 w B L wx r1 rl1 rr1 ∧ rl1.b = rl.b ∧ rl1.items = xs ∧ rl1.kids = rl.kids ∧ rl1.kv = rl.kv)
      case first =>
        go_wp2_with (go_at_call 35; refine cD.mono ?_; rintro e w3 ⟨rfl, hown3, hon3⟩; obtain ⟨d3, e3⟩ := HL3.out _ hon3)
        have hcut2 : (cellsI rl.items).take (xs.length * 2) ++ (cellsI rl.items).drop ((xs.length + 1) * 2) = cellsI xs := by
          rw [← cellsI_take, ← cellsI_drop, ← cellsI_append, HY.out, List.take_left, List.drop_eq_nil_of_le (by simp), List.append_nil]
        rw [hcut2] at hown3
        have hT4 := HT3.out.turnL (turned_items (items' := xs) (n := xs.length + (xs.length + 1 - (xs.length + 1))) HT3.out.okL hon3 (by omega) hown3 (.inl rfl))
        rw [show xs.length + (xs.length + 1 - (xs.length + 1)) = xs.length by omega] at hT4
        have HT4 := Lib.hid hT4
        clear hT4 hown3 hon3 hcut2
        go_meet
        exact ⟨{ rl with items := xs }, rfl, rfl, rfl, HT4.out, rfl, rfl, rfl, rfl⟩
      case rest =>
        obtain ⟨rl1, rfl, rfl, rfl, hT4, bl1, il1, kl1, vl1⟩ := hcut
        have HEl := Lib.hid (And.intro bl1 (And.intro il1 (And.intro kl1 vl1)))
        clear bl1 il1 kl1 vl1 HT3 q0 qf cD HL3
        have HT4 := Lib.hid hT4
        have q1 := hT4.okL.c1
        have hne0 := neqN none 0 0
        have hne1 := fun q : Nat × Nat => neqN (some ⟨q.1, 0, none⟩)
        rcases HKS.out with ⟨ka, kb, hlk, hrk⟩ | ⟨fl, fr, c, cs, ka, kb, kc, kd, ke, hlk, hrk⟩
        · have hnone : rl1.kv = none := by rw [HEl.out.2.2.2]; exact ka
          simp only [Rec.kvv, hnone] at q1
          clear hT4 hnone
          go_wp2_with fail
          go_end0
          exact ⟨rfl, r1, rl1, rr1, HT4.out, HEr.out, ⟨HEl.out.1, HEl.out.2.1, HEl.out.2.2.1.trans hlk.symm, by rw [HEl.out.2.2.2]⟩, ⟨HEq.out.1, HEq.out.2.1, HEq.out.2.2.1.trans hrk.symm, by rw [HEq.out.2.2.2]⟩⟩
        · have hsome : rl1.kv = some fl := by rw [HEl.out.2.2.2]; exact ka
          have hrsome : rr1.kv = some fr := by rw [HEq.out.2.2.2]; exact kb
          have hkr : rl1.kids = cs ++ [c] := by rw [HEl.out.2.2.1]; exact kc
          simp only [Rec.kvv, hsome] at q1
          have hkl : rl1.kids.length = xs.length + 2 := by rw [hkr]; simp; omega
          rw [hkl] at q1
          have l1 := hT4.okR.c1
          simp only [Rec.kvv, hrsome] at l1
          have lf1 := hT4.okR.f 1
          have c0 := hT4.okL.kid hsome (k := xs.length + 1) (x := c) (by rw [hkr, ← kd]; simp)
          unfold ptrV at c0
          have hkr8 : rr1.kids.length ≤ 8 := by rw [HEq.out.2.2.1]; exact ke
          have hq0 : (xs.length : Int) + 1 < ((xs.length + 2 : Nat) : Int) := by omega
          have hq2 : (xs.length : Int) + 1 < (xs.length : Int) + 2 := by omega
          have hw3 : IntKind.i64.wrap ((xs.length : Int) + 2) = (xs.length : Int) + 2 := by rw [IntKind.wrap_i64]; omega
          have hlt1 := hT4.okL.blk rl1.b (by simp [Rec.blocks])
          have hlt2 := hT4.okR.blk rr1.b (by simp [Rec.blocks])
          have hlt3 := hT4.okL.blk fl.1 ((mem_blocks _ _).2 (.inr (.inr ⟨fl, hsome, rfl⟩)))
          have hlt4 := hT4.okR.blk fr.1 ((mem_blocks _ _).2 (.inr (.inr ⟨fr, hrsome, rfl⟩)))
          have hbg := hT4.okR.b_ne_k hrsome
          have hBA : Below wc.heap.size wc ((wc.alloc (.cells #[ptrV c] 40)).drew) := ((Below.refl _ wc).alloc (Nat.le_refl _) _).drew
          have cI : Calls Try.prog 40 #[.slice (some ⟨fr.1, 0, none⟩) rr1.kids.length fr.2, .int .i64 0, .slice (some ⟨wc.heap.size, 0, none⟩) 1 1] ((wc.alloc (.cells #[ptrV c] 40)).drew) (InsdP fr.1 rr1.kids.length 0 (cellsP rr1.kids) [ptrV c] ((wc.alloc (.cells #[ptrV c] 40)).drew)) :=
            insP_at rr1 0 0 wc.heap.size c fr _ (hT4.okR.below hBA) hrsome rfl (Nat.zero_le _) (by omega) (heap_alloc_new wc _) (by omega)
          have HBA := Lib.hid hBA
          have HLEFT := Lib.hid (fun (w1 : World) (hon : Only (fun k => k = fr.1) ((wc.alloc (.cells #[ptrV c] 40)).drew) w1) => (⟨(World.cell?_of_block (a := ⟨rr1.b, 1, none⟩) (hon.block rr1.b ((hT4.okR.below hBA).blk rr1.b (by simp [Rec.blocks])) hbg)).trans (hT4.okR.below hBA).c1, (World.frozen?_of_block (a := ⟨rr1.b, 1, none⟩) (hon.block rr1.b ((hT4.okR.below hBA).blk rr1.b (by simp [Rec.blocks])) hbg)).trans ((hT4.okR.below hBA).f 1)⟩ : _ ∧ _))
          have HKR := Lib.hid hkr
          have HKL := Lib.hid hkl
          unfold ptrV at cI
          clear hT4 hkr hkl hBA
          go_upto_region 6 with fail
          go_cut [4, 5, 6] (fun s4 s5 s6 wx => ∃ rr2, s4 = .pointer (some ⟨rl1.b, 0, none⟩) ∧ s5 = .pointer (some ⟨rr2.b, 0, none⟩) ∧ s6 = .int .i64 (xs.length : Int) ∧ Trio S X w0 w B L wx r1 rl1 rr2 ∧ rr2.b = rr1.b ∧ rr2.items = rr1.items ∧ rr2.kids = c :: rr1.kids ∧ rr2.kv.isSome = true)
          case first =>
            go_region_with (first | (go_at_call 40; refine cI.mono ?_; rintro e w1 ⟨g', cap', rfl, hown1, hon1, hg1⟩; obtain ⟨d0, e0⟩ := HLEFT.out _ hon1))
            all_goals
              have hT5 := (HT4.out.below HBA.out).turnR (turned_kids (n := rr1.kids.length + 1) (kids' := c :: rr1.kids) (HT4.out.okR.below HBA.out) hrsome hon1 (by simp) hown1 hg1)
              have HT5 := Lib.hid hT5
              clear hT5 hown1 hon1 hg1
              go_wp2_with fail
              go_meet
              exact ⟨{ rr1 with kv := some (g', cap'), kids := c :: rr1.kids }, rfl, rfl, rfl, HT5.out, rfl, rfl, rfl, rfl⟩
          case rest =>
            obtain ⟨rr2, rfl, rfl, rfl, hT5, br2, ir2, kr2, vr2⟩ := hcut
            have HEq2 := Lib.hid (And.intro br2 (And.intro ir2 (And.intro kr2 vr2)))
            clear br2 ir2 kr2 vr2 HT4 q1 l1 lf1 c0 cI HBA HLEFT hlt1 hlt2 hlt3 hlt4 hbg hq0 hq2
            have HT5 := Lib.hid hT5
            have q1 := hT5.okL.c1
            simp only [Rec.kvv, hsome] at q1
            rw [HKL.out] at q1
            have qf := hT5.okL.f 1
            have hqr := hT5.okL.krow
            simp only [Rec.kvv, hsome] at hqr
            rw [HKL.out] at hqr
            have cD : Calls Try.prog 43 #[.slice (some ⟨fl.1, 0, none⟩) (xs.length + 2) fl.2, .int .i64 ((xs.length : Int) + 1), .int .i64 ((xs.length : Int) + 2)] _ _ := delP_some 0 fl.1 (xs.length + 2) fl.2 (xs.length + 1) (xs.length + 2) (cellsP rl1.kids) _ (by omega) (by omega) (by omega) hqr (cellsP_one _)
            have HL5 := Lib.hid (fun (w1 : World) (hon : Only (fun k => k = fl.1) _ w1) => (⟨(World.cell?_of_block (a := ⟨rl1.b, 1, none⟩) (hon.block rl1.b (hT5.okL.blk rl1.b (by simp [Rec.blocks])) (hT5.okL.b_ne_k hsome))).trans q1, (World.frozen?_of_block (a := ⟨rl1.b, 1, none⟩) (hon.block rl1.b (hT5.okL.blk rl1.b (by simp [Rec.blocks])) (hT5.okL.b_ne_k hsome))).trans qf⟩ : _ ∧ _))
            clear hT5 hqr
            go_wp2_with (go_at_call 43; refine cD.mono ?_; rintro e w3 ⟨rfl, hown3, hon3⟩; obtain ⟨d3, e3⟩ := HL5.out _ hon3)
            have hcut2 : (cellsP rl1.kids).take ((xs.length + 1) * 1) ++ (cellsP rl1.kids).drop ((xs.length + 2) * 1) = cellsP cs := by
              rw [HKR.out]
              unfold cellsP
              rw [List.map_append, Nat.mul_one, Nat.mul_one, List.take_left' (by simp [kd]), List.drop_eq_nil_of_le (by simp [kd]), List.append_nil]
            rw [hcut2] at hown3
            have hT6 := HT5.out.turnL (turned_kids (kids' := cs) (n := xs.length + 1 + (xs.length + 2 - (xs.length + 2))) HT5.out.okL hsome hon3 (by omega) hown3 (.inl rfl))
            rw [show xs.length + 1 + (xs.length + 2 - (xs.length + 2)) = xs.length + 1 by omega] at hT6
            have HT6 := Lib.hid hT6
            clear hT6 hown3 hon3 hcut2
            go_end0
            exact ⟨rfl, r1, _, rr2, HT6.out, HEr.out, ⟨HEl.out.1, HEl.out.2.1, hlk.symm, by rw [ka]⟩, ⟨HEq2.out.1.trans HEq.out.1, HEq2.out.2.1.trans HEq.out.2.1, by rw [HEq2.out.2.2.1, HEq.out.2.2.1, hrk], by rw [HEq2.out.2.2.2, kb]; exact rfl⟩⟩
end Go.Proofs.Ytkhbfjncamobdaa.S
