/- Moving an item from the right of two nodes to the left one. -/
import Derived.Deep.QuietTactic
import Derived.BigQuiet
import Derived.Deep.RegionLaw
import Derived.Deep.Cut
import Derived.Deep.DeepCutAuto
import Derived.Deep.AppendLies
import Derived.Test.YtkhbfjncamobdaaBagTrioS
namespace Go.Proofs.Ytkhbfjncamobdaa.S
open Go.RowKit
set_option linter.unusedVariables false

set_option maxRecDepth 100000 in
set_option maxHeartbeats 8000000 in
theorem moveLeft_trio (S X : Nat → Prop) (w0 w : World) (B : Nat → Prop) (L : List (Rec ByteArray)) (r rl rr : Rec ByteArray) (p : Nat) (x y : It) (ys : List It) (f : Nat × Nat) (lk rk : List Nat)
    (hT : Trio S X w0 w B L w r rl rr) (hkv : r.kv = some f) (hl : r.kids[p]? = some rl.b) (hr : r.kids[p + 1]? = some rr.b) (hx : r.items[p]? = some x) (hy : rr.items = y :: ys) (h1 : r.items.length ≤ 7) (h2 : rl.items.length ≤ 7) (h3 : rr.items.length ≤ 7) (h4 : r.kids.length ≤ 8)
    (hk : (rl.kv = none ∧ rr.kv = none ∧ lk = rl.kids ∧ rk = rr.kids) ∨ ∃ fl fr c cs, rl.kv = some fl ∧ rr.kv = some fr ∧ rr.kids = c :: cs ∧ rl.kids.length ≤ 8 ∧ cs.length ≤ 8 ∧ lk = rl.kids ++ [c] ∧ rk = cs) :
    Calls Try.prog 45 #[ptrV r.b, .int .i64 p] w (MovPost S X w0 w B L r rl rr p y (rl.items ++ [x]) ys lk rk) := by
  have hpl := (List.getElem?_eq_some_iff.1 hr).1
  have n1 := hT.okT.c1
  simp only [Rec.kvv, hkv] at n1
  have k0 := hT.okT.kid hkv hl
  have k1 := hT.okT.kid hkv hr
  unfold ptrV at k0 k1 ⊢
  have HT := Lib.hid hT
  have hw1 : IntKind.i64.wrap ((p : Int) + 1) = (p : Int) + 1 := by rw [IntKind.wrap_i64]; omega
  have hb1 : (p : Int) < (r.kids.length : Int) := by omega
  have hb2 : (p : Int) + 1 < (r.kids.length : Int) := by omega
  clear hT
  go_enter Try.func45, Try.ntmps45
  go_wp2_with fail
  go_quiet (fail)
  obtain ⟨i0, hi, hz0, hz1, hz2⟩ := info_parts info_item
  obtain ⟨W1, hW1⟩ : ∃ W1, w.drewN nq = W1 := ⟨_, rfl⟩
  have hBn : Below w.heap.size w W1 := by rw [← hW1]; exact below_drewN (Below.refl _ w) nq
  have hT1 := HT.out.below hBn
  rw [hW1]
  have HT1 := Lib.hid hT1
  clear n1 k0 k1 HT hBn hW1 hw1 hb1 hb2
  -- the item down to the left
  have l0 := hT1.okL.c0
  have lf := hT1.okL.f 0
  have t0 := hT1.okT.c0
  have tx := hT1.okT.item hx
  have tx0 := tx.1
  have tx1 := tx.2
  unfold Rec.iv at l0 t0
  have hpi := (List.getElem?_eq_some_iff.1 hx).1
  have hlt1 := hT1.okL.blk rl.b (by simp [Rec.blocks])
  have hlt2 := hT1.okT.blk r.b (by simp [Rec.blocks])
  have hlt3 := hT1.okT.blk r.g (by simp [Rec.blocks])
  have hbi : (p : Int) < (r.items.length : Int) := by omega
  have HOWN := Lib.hid (app_own hT1.okL (.cells #[.int .i64 x.1, .string x.2] 62))
  have HNEW := Lib.hid (app_news (W := W1) x)
  have HLEFT := Lib.hid (fun (W' w1 : World) (o : Option Nat) (hb : Below W1.heap.size W1 W') (hg : W'.grownBy w1 o) (ho : o = some rl.g) => append_left hT1.okL hb hg ho)
  clear hT1 tx
  go_wp2_with fail
  go_cut [4, 5] (fun s4 s5 wx => ∃ rl', s4 = .pointer (some ⟨rl'.b, 0, none⟩) ∧ s5 = .pointer (some ⟨rr.b, 0, none⟩) ∧ Trio S X w0 w B L wx r rl' rr ∧ rl'.b = rl.b ∧ rl'.items = rl.items ++ [x] ∧ rl'.kv = rl.kv ∧ rl'.kids = rl.kids)
  case first =>
    go_region_law (refine step_append_lies _ rfl (.tmp 25) (.tmp 33) 53 rfl 0 62 i0 (.agg #[.int .i64 0, .string ⟨#[]⟩]) 2 24 Try.underlying53 hi hz0 hz1 hz2 rfl (by decide) _ _ _ rfl (HOWN.out _ rfl) ⟨W1.heap.size, 0, none⟩ 1 1 [.int .i64 x.1, .string x.2] rfl rfl (HNEW.out _ rfl) (by simp [Value.oneCell']) (by decide) (by unfold maxLen; omega) (by omega) (Nat.zero_le _) _ rfl ?_; intro g2 cap2 w2 hown2 hgrow2 hat2 hlt2; obtain ⟨d0, e0⟩ := HLEFT.out _ _ _ (by first | exact ((Below.refl _ W1).alloc (Nat.le_refl _) _).drew | exact ((Below.refl _ W1).drew).alloc (Nat.le_refl _) _) hgrow2 rfl)
    all_goals
      have hBw : Below W1.heap.size W1 ((W1.alloc (.cells #[.int .i64 x.1, .string x.2] 62)).drew) := ((Below.refl _ W1).alloc (Nat.le_refl _) _).drew
      have hT2 := (HT1.out.below hBw).turnL (append_turned HT1.out.okL hBw hgrow2 rfl hown2 hat2 rfl)
      have HT2 := Lib.hid hT2
      clear hT2 hgrow2 hown2 hat2
      go_wp2_with fail
      go_meet
      exact ⟨{ rl with g := g2, cap := cap2, items := rl.items ++ [x] }, rfl, rfl, HT2.out, rfl, rfl, rfl, rfl⟩
  case rest =>
    obtain ⟨rl1, rfl, rfl, hT2, bl1, il1, vl1, kl1⟩ := hcut
    have HEl := Lib.hid (And.intro bl1 (And.intro il1 (And.intro kl1 vl1)))
    clear bl1 il1 kl1 vl1
    clear HT1 HOWN HNEW HLEFT l0 lf t0 tx0 tx1 hlt1 hlt2 hlt3
    -- the first item of the right up
    have HT2 := Lib.hid hT2
    have t0 := hT2.okT.c0
    have q0 := hT2.okR.c0
    unfold Rec.iv at t0 q0
    have yx := hT2.okR.item (k := 0) (x := y) (by rw [hy]; rfl)
    have y0 := yx.1
    have y1 := yx.2
    have tx := hT2.okT.item hx
    have tx0 := tx.1
    have tx1 := tx.2
    have tf0 := hT2.okT.itemF (p * 2)
    have tf1 := hT2.okT.itemF (p * 2 + 1)
    have hry : rr.items.length = ys.length + 1 := by rw [hy]; rfl
    rw [Nat.zero_mul] at y0 y1
    rw [Nat.zero_add] at y1
    have HKS := Lib.hid hk
    have HY := Lib.hid hy
    rw [hry] at q0
    have hq0 : (0 : Int) < ((ys.length + 1 : Nat) : Int) := by omega
    clear hT2 yx tx hk hy
    go_wp2_with fail
    go_cut [4, 5] (fun s4 s5 wx => ∃ r1, s4 = .pointer (some ⟨rl1.b, 0, none⟩) ∧ s5 = .pointer (some ⟨rr.b, 0, none⟩) ∧ Trio S X w0 w B L wx r1 rl1 rr ∧ r1.b = r.b ∧ r1.items = r.items.set p y ∧ r1.kv = r.kv ∧ r1.kids = r.kids)
    case first =>
      go_region
      all_goals
        have hT3 := (HT2.out.below (Below.refl _ wc).drew).turnT (turned_item (HT2.out.okT.drew) p x y hx)
        have HT3 := Lib.hid hT3
        clear hT3
        go_wp2_with fail
        go_meet
        exact ⟨{ r with items := r.items.set p y }, rfl, rfl, HT3.out, rfl, rfl, rfl, rfl⟩
    case rest =>
      obtain ⟨r1, rfl, rfl, hT3, b1, i1, v1, k1⟩ := hcut
      have HEr := Lib.hid (And.intro b1 (And.intro i1 (And.intro k1 v1)))
      clear b1 i1 k1 v1
      clear HT2 t0 q0 y0 y1 tx0 tx1 tf0 tf1 hq0
      -- which is gone from there
      have HT3 := Lib.hid hT3
      have q0 := hT3.okR.c0
      unfold Rec.iv at q0
      rw [hry] at q0
      have qf := hT3.okR.f 0
      have hqr := hT3.okR.irow
      unfold Rec.iv at hqr
      rw [hry] at hqr
      have cD : Calls Try.prog 35 #[.slice (some ⟨rr.g, 0, none⟩) (ys.length + 1) rr.cap, .int .i64 0, .int .i64 1] _ _ := delI_some 0 rr.g (ys.length + 1) rr.cap 0 1 (cellsI rr.items) _ (by omega) (by omega) (by omega) hqr (cellsI_one _)
      have HL3 := Lib.hid (fun (w1 : World) (hon : Only (fun k => k = rr.g) _ w1) => (⟨(World.cell?_of_block (a := ⟨rr.b, 0, none⟩) (hon.block rr.b (hT3.okR.blk rr.b (by simp [Rec.blocks])) hT3.okR.b_ne_g)).trans q0, (World.frozen?_of_block (a := ⟨rr.b, 0, none⟩) (hon.block rr.b (hT3.okR.blk rr.b (by simp [Rec.blocks])) hT3.okR.b_ne_g)).trans qf⟩ : _ ∧ _))
      clear hT3 hqr
      go_upto_region 3 with fail
      go_cut [4, 5] (fun s4 s5 wx => ∃ rr1, s4 = .pointer (some ⟨rl1.b, 0, none⟩) ∧ s5 = .pointer (some ⟨rr1.b, 0, none⟩) ∧ Trio S X w0 w B L wx r1 rl1 rr1 ∧ rr1.b = rr.b ∧ rr1.items = ys ∧ rr1.kv = rr.kv ∧ rr1.kids = rr.kids)
      case first =>
        go_wp2_with (go_at_call 35; refine cD.mono ?_; rintro e w3 ⟨rfl, hown3, hon3⟩; obtain ⟨d3, e3⟩ := HL3.out _ hon3)
        have hT4 := HT3.out.turnR (turned_items (items' := ys) (n := 0 + (ys.length + 1 - 1)) HT3.out.okR hon3 (by omega) (by rw [HY.out] at hown3; exact hown3) (.inl rfl))
        rw [show 0 + (ys.length + 1 - 1) = ys.length by omega] at hT4
        have HT4 := Lib.hid hT4
        clear hT4 hown3 hon3
        go_meet
        exact ⟨{ rr with items := ys }, rfl, rfl, HT4.out, rfl, rfl, rfl, rfl⟩
      case rest =>
        obtain ⟨rr1, rfl, rfl, hT4, br1, ir1, vr1, kr1⟩ := hcut
        have HEq := Lib.hid (And.intro br1 (And.intro ir1 (And.intro kr1 vr1)))
        clear br1 ir1 kr1 vr1
        clear HT3 q0 qf cD HL3
        have HT4 := Lib.hid hT4
        have q1 := hT4.okR.c1
        have hne0 := neqN none 0 0
        have hne1 := fun q : Nat × Nat => neqN (some ⟨q.1, 0, none⟩)
        rcases HKS.out with ⟨ka, kb, hlk, hrk⟩ | ⟨fl, fr, c, cs, ka, kb, kc, kd, ke, hlk, hrk⟩
        · have hnone : rr1.kv = none := by rw [HEq.out.2.2.2]; exact kb
          simp only [Rec.kvv, hnone] at q1
          clear hT4 hnone
          go_wp2_with fail
          go_end0
          exact ⟨rfl, r1, rl1, rr1, HT4.out, HEr.out, ⟨HEl.out.1, HEl.out.2.1, HEl.out.2.2.1.trans hlk.symm, by rw [HEl.out.2.2.2]⟩, ⟨HEq.out.1, HEq.out.2.1, HEq.out.2.2.1.trans hrk.symm, by rw [HEq.out.2.2.2]⟩⟩
        · have hsome : rr1.kv = some fr := by rw [HEq.out.2.2.2]; exact kb
          have hlsome : rl1.kv = some fl := by rw [HEl.out.2.2.2]; exact ka
          have hkr : rr1.kids = c :: cs := by rw [HEq.out.2.2.1]; exact kc
          simp only [Rec.kvv, hsome] at q1
          have hkl : rr1.kids.length = cs.length + 1 := by rw [hkr]; rfl
          rw [hkl] at q1
          have l1 := hT4.okL.c1
          simp only [Rec.kvv, hlsome] at l1
          have lf1 := hT4.okL.f 1
          have c0 := hT4.okR.kid hsome (k := 0) (x := c) (by rw [hkr]; rfl)
          unfold ptrV at c0
          have hq0 : (0 : Int) < ((cs.length + 1 : Nat) : Int) := by omega
          have hlt1 := hT4.okL.blk rl1.b (by simp [Rec.blocks])
          have hlt2 := hT4.okR.blk rr1.b (by simp [Rec.blocks])
          have hlt3 := hT4.okR.blk fr.1 ((mem_blocks _ _).2 (.inr (.inr ⟨fr, hsome, rfl⟩)))
          have HOWN := Lib.hid (app_ownK hT4.okL hlsome (.cells #[ptrV c] 40))
          have HNEW := Lib.hid (app_newsK (W := wc) c)
          have HLEFT := Lib.hid (fun (W' w1 : World) (o : Option Nat) (hb : Below wc.heap.size wc W') (hg : W'.grownBy w1 o) (ho : o = some fl.1) => append_leftK hT4.okL hlsome hb hg ho)
          have hkl8 : rl1.kids.length ≤ 8 := by rw [HEl.out.2.2.1]; exact kd
          have hcl : rr1.kids.length ≤ 9 := by rw [hkl]; omega
          have HKR := Lib.hid hkr
          have HKL := Lib.hid hkl
          clear hT4 hkr hkl
          obtain ⟨j0, hj, hj0, hj1, hj2⟩ := info_parts info_node
          go_wp2_with fail
          go_cut [4, 5] (fun s4 s5 wx => ∃ rl2, s4 = .pointer (some ⟨rl2.b, 0, none⟩) ∧ s5 = .pointer (some ⟨rr1.b, 0, none⟩) ∧ Trio S X w0 w B L wx r1 rl2 rr1 ∧ rl2.b = rl1.b ∧ rl2.items = rl1.items ∧ rl2.kids = rl1.kids ++ [c] ∧ rl2.kv.isSome = true)
          case first =>
            go_region_law (refine step_append_lies _ rfl (.tmp 66) (.tmp 73) 52 rfl 0 40 j0 (.pointer none) 1 8 Try.underlying52 hj hj0 hj1 hj2 rfl (by decide) _ _ _ rfl (HOWN.out _ rfl) ⟨wc.heap.size, 0, none⟩ 1 1 [ptrV c] rfl rfl (HNEW.out _ rfl) (by simp [Value.oneCell', ptrV]) (by decide) (by unfold maxLen; omega) (by omega) (Nat.zero_le _) _ rfl ?_; intro g2 cap2 w2 hown2 hgrow2 hat2 hlt2; obtain ⟨d0, e0⟩ := HLEFT.out _ _ _ (by first | exact ((Below.refl _ wc).alloc (Nat.le_refl _) _).drew | exact ((Below.refl _ wc).drew).alloc (Nat.le_refl _) _) hgrow2 rfl)
            all_goals
              have hBw : Below wc.heap.size wc ((wc.alloc (.cells #[ptrV c] 40)).drew) := ((Below.refl _ wc).alloc (Nat.le_refl _) _).drew
              have hT5 := (HT4.out.below hBw).turnL (append_turnedK HT4.out.okL hlsome hBw hgrow2 rfl hown2 hat2 rfl)
              have HT5 := Lib.hid hT5
              clear hT5 hgrow2 hown2 hat2
              go_wp2_with fail
              go_meet
              exact ⟨{ rl1 with kv := some (g2, cap2), kids := rl1.kids ++ [c] }, rfl, rfl, HT5.out, rfl, rfl, rfl, rfl⟩
          case rest =>
            obtain ⟨rl2, rfl, rfl, hT5, bl2, il2, kl2, vl2⟩ := hcut
            have HEl2 := Lib.hid (And.intro bl2 (And.intro il2 (And.intro kl2 vl2)))
            clear bl2 il2 kl2 vl2 HT4 q1 l1 lf1 c0 HOWN HNEW HLEFT hlt1 hlt2 hlt3
            have HT5 := Lib.hid hT5
            have q1 := hT5.okR.c1
            simp only [Rec.kvv, hsome] at q1
            rw [HKL.out] at q1
            have qf := hT5.okR.f 1
            have hqr := hT5.okR.krow
            simp only [Rec.kvv, hsome] at hqr
            rw [HKL.out] at hqr
            have cD : Calls Try.prog 43 #[.slice (some ⟨fr.1, 0, none⟩) (cs.length + 1) fr.2, .int .i64 0, .int .i64 1] _ _ := delP_some 0 fr.1 (cs.length + 1) fr.2 0 1 (cellsP rr1.kids) _ (by omega) (by omega) (by omega) hqr (cellsP_one _)
            have HL5 := Lib.hid (fun (w1 : World) (hon : Only (fun k => k = fr.1) _ w1) => (⟨(World.cell?_of_block (a := ⟨rr1.b, 1, none⟩) (hon.block rr1.b (hT5.okR.blk rr1.b (by simp [Rec.blocks])) (hT5.okR.b_ne_k hsome))).trans q1, (World.frozen?_of_block (a := ⟨rr1.b, 1, none⟩) (hon.block rr1.b (hT5.okR.blk rr1.b (by simp [Rec.blocks])) (hT5.okR.b_ne_k hsome))).trans qf⟩ : _ ∧ _))
            clear hT5 hqr
            go_wp2_with (go_at_call 43; refine cD.mono ?_; rintro e w3 ⟨rfl, hown3, hon3⟩; obtain ⟨d3, e3⟩ := HL5.out _ hon3)
            have hT6 := HT5.out.turnR (turned_kids (kids' := cs) (n := 0 + (cs.length + 1 - 1)) HT5.out.okR hsome hon3 (by omega) (by rw [HKR.out] at hown3; exact hown3) (.inl rfl))
            rw [show 0 + (cs.length + 1 - 1) = cs.length by omega] at hT6
            have HT6 := Lib.hid hT6
            clear hT6 hown3 hon3
            go_end0
            exact ⟨rfl, r1, rl2, _, HT6.out, HEr.out, ⟨HEl2.out.1.trans HEl.out.1, HEl2.out.2.1.trans HEl.out.2.1, by rw [HEl2.out.2.2.1, HEl.out.2.2.1, hlk], by rw [HEl2.out.2.2.2, ka]; exact rfl⟩, ⟨HEq.out.1, HEq.out.2.1, hrk.symm, by rw [kb]⟩⟩
end Go.Proofs.Ytkhbfjncamobdaa.S
