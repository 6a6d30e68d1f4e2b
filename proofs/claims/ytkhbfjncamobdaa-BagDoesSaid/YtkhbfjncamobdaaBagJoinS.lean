/- Making one node of two and the item between them. -/
import Derived.Deep.QuietTactic
import Derived.BigQuiet
import Derived.Deep.RegionLaw
import Derived.Deep.Cut
import Derived.Deep.DeepCutAuto
import Derived.Deep.AppendLies
import Derived.Test.YtkhbfjncamobdaaBagTrioS
namespace Go.Proofs.Ytkhbfjncamobdaa.S
open Go.RowKit
set_option linter.unusedVariables false

/-- an append of items to a node's, and the store of what came out -/
theorem append_turnedL {W w1 : World} {r : Rec ByteArray} {o : Option Nat} {ms : List It} {g' cap' H : Nat} (h : Ok W r) (hg : W.grownBy w1 o) (ho : o = some r.g)
    (hown : w1.ownsRow 0 62 2 (.slice (some ⟨g', 0, none⟩) (r.items.length + ms.length) cap') (r.items.length + ms.length) (cellsI r.items ++ cellsI ms)) (hat : o = some g' ∨ g' = H) (hH : H = W.heap.size) :
    Turned W r (w1.setCell ⟨r.b, 0, none⟩ (.slice (some ⟨g', 0, none⟩) (r.items.length + ms.length) cap')) { r with g := g', cap := cap', items := r.items ++ ms } :=
  turned_items (items' := r.items ++ ms) (n := r.items.length + ms.length) h (only_grown hg ho) (by simp) (by rw [cellsI_append]; exact hown)
    (hat.imp (fun e => by rw [ho] at e; exact (Option.some.inj e).symm) (fun e => by omega))
theorem append_turnedLK {W w1 : World} {r : Rec ByteArray} {o : Option Nat} {q : Nat × Nat} {ms : List Nat} {g' cap' H : Nat} (h : Ok W r) (hkv : r.kv = some q) (hg : W.grownBy w1 o) (ho : o = some q.1)
    (hown : w1.ownsRow 0 40 1 (.slice (some ⟨g', 0, none⟩) (r.kids.length + ms.length) cap') (r.kids.length + ms.length) (cellsP r.kids ++ cellsP ms)) (hat : o = some g' ∨ g' = H) (hH : H = W.heap.size) :
    Turned W r (w1.setCell ⟨r.b, 1, none⟩ (.slice (some ⟨g', 0, none⟩) (r.kids.length + ms.length) cap')) { r with kv := some (g', cap'), kids := r.kids ++ ms } :=
  turned_kids (kids' := r.kids ++ ms) (n := r.kids.length + ms.length) h hkv (only_grown hg ho) (by simp) (by unfold cellsP at hown ⊢; rw [List.map_append]; exact hown)
    (hat.imp (fun e => by rw [ho] at e; exact (Option.some.inj e).symm) (fun e => by omega))
theorem turned_nokids {W : World} {r : Rec ByteArray} (h : Ok W r) (hkv : r.kv = none) : Turned W r (W.setCell ⟨r.b, 1, none⟩ (.slice none 0 0)) r := by
  have hb := (mem_blocks r r.b).2 (.inl rfl)
  refine ⟨⟨?_, ?_, ?_⟩, rfl, ((Only.refl _ W).setCell (.inr hb) _), fun k hk => .inl hk⟩
  · have := set_node1 (v' := .slice none 0 0) h.node
    simp only [Rec.kvv, hkv] at this ⊢
    exact this
  · exact own_kept h.irow (set_far _ _ _ _ _ h.b_ne_g.symm)
  · have := h.krow
    simp only [Rec.kvv, hkv] at this ⊢
    refine ⟨this.1, .inl ⟨rfl, ?_⟩⟩
    rcases this.2 with ⟨_, h0⟩ | ⟨_, _, _, hh, _⟩
    · exact h0
    · cases hh
theorem own_heap {W W' : World} {base size n : Nat} {e : TypeId} {v : Value} {xs : List Value} (h : W.ownsRow base e size v n xs) (he : W'.heap = W.heap) : W'.ownsRow base e size v n xs := by
  unfold World.ownsRow at h ⊢
  rw [he]
  exact h

/-- what a joining has made of two nodes -/
def JoinPost (S X : Nat → Prop) (w0 w : World) (B : Nat → Prop) (L : List (Rec ByteArray)) (r rl rr : Rec ByteArray) (p : Nat) (li : List It) (lk : List Nat) (e : Ending) (W : World) : Prop :=
  e = .returned (.tuple #[]) ∧ ∃ r' rl', Trio S X w0 w B L W r' rl' rr ∧ (r'.b = r.b ∧ r'.items = r.items.take p ++ r.items.drop (p + 1) ∧ r'.kids = r.kids.take (p + 1) ++ r.kids.drop (p + 2) ∧ r'.kv = r.kv) ∧ (rl'.b = rl.b ∧ rl'.items = li ∧ rl'.kids = lk ∧ rl'.kv.isSome = rl.kv.isSome)

set_option maxRecDepth 100000 in
set_option maxHeartbeats 8000000 in
theorem join_trio (S X : Nat → Prop) (w0 w : World) (B : Nat → Prop) (L : List (Rec ByteArray)) (r rl rr : Rec ByteArray) (p : Nat) (x : It) (f : Nat × Nat)
    (hT : Trio S X w0 w B L w r rl rr) (hkv : r.kv = some f) (hl : r.kids[p]? = some rl.b) (hr : r.kids[p + 1]? = some rr.b) (hx : r.items[p]? = some x) (h1 : r.items.length ≤ 7) (h2 : rl.items.length ≤ 7) (h3 : rr.items.length ≤ 7) (h4 : r.kids.length ≤ 8) (h5 : 1 ≤ rr.items.length)
    (hk : (rl.kv = none ∧ rr.kv = none ∧ rl.kids = [] ∧ rr.kids = []) ∨ ∃ fl fr, rl.kv = some fl ∧ rr.kv = some fr ∧ 1 ≤ rr.kids.length ∧ rl.kids.length ≤ 8 ∧ rr.kids.length ≤ 8) :
    Calls Try.prog 46 #[ptrV r.b, .int .i64 p] w (JoinPost S X w0 w B L r rl rr p (rl.items ++ x :: rr.items) (rl.kids ++ rr.kids)) := by
  have hpl := (List.getElem?_eq_some_iff.1 hr).1
  have n1 := hT.okT.c1
  simp only [Rec.kvv, hkv] at n1
  have k0 := hT.okT.kid hkv hl
  have k1 := hT.okT.kid hkv hr
  unfold ptrV at k0 k1 ⊢
  have HT := Lib.hid hT
  have hw1 : IntKind.i64.wrap ((p : Int) + 1) = (p : Int) + 1 := by rw [IntKind.wrap_i64]; omega
  have hb1 : (p : Int) < (r.kids.length : Int) := by omega
  have hb2 : (p : Int) + 1 < (r.kids.length : Int) := by omega
  clear hT
  go_enter Try.func46, Try.ntmps46
  go_wp2_with fail
  go_quiet (fail)
  obtain ⟨i0, hi, hz0, hz1, hz2⟩ := info_parts info_item
  obtain ⟨W1, hW1⟩ : ∃ W1, w.drewN nq = W1 := ⟨_, rfl⟩
  have hBn : Below w.heap.size w W1 := by rw [← hW1]; exact below_drewN (Below.refl _ w) nq
  have hT1 := HT.out.below hBn
  rw [hW1]
  have HT1 := Lib.hid hT1
  clear n1 k0 k1 HT hBn hW1 hw1 hb1 hb2
  -- the item down to the left
  have l0 := hT1.okL.c0
  have lf := hT1.okL.f 0
  have t0 := hT1.okT.c0
  have tx := hT1.okT.item hx
  have tx0 := tx.1
  have tx1 := tx.2
  unfold Rec.iv at l0 t0
  have hpi := (List.getElem?_eq_some_iff.1 hx).1
  have hlt1 := hT1.okL.blk rl.b (by simp [Rec.blocks])
  have hlt2 := hT1.okT.blk r.b (by simp [Rec.blocks])
  have hlt3 := hT1.okT.blk r.g (by simp [Rec.blocks])
  have hbi : (p : Int) < (r.items.length : Int) := by omega
  have HOWN := Lib.hid (app_own hT1.okL (.cells #[.int .i64 x.1, .string x.2] 62))
  have HNEW := Lib.hid (app_news (W := W1) x)
  have HLEFT := Lib.hid (fun (W' w1 : World) (o : Option Nat) (hb : Below W1.heap.size W1 W') (hg : W'.grownBy w1 o) (ho : o = some rl.g) => append_left hT1.okL hb hg ho)
  clear hT1 tx
  go_wp2_with fail
  go_cut [4, 5] (fun s4 s5 wx => ∃ rl', s4 = .pointer (some ⟨rl'.b, 0, none⟩) ∧ s5 = .pointer (some ⟨rr.b, 0, none⟩) ∧ Trio S X w0 w B L wx r rl' rr ∧ rl'.b = rl.b ∧ rl'.items = rl.items ++ [x] ∧ rl'.kv = rl.kv ∧ rl'.kids = rl.kids)
  case first =>
    go_region_law (refine step_append_lies _ rfl (.tmp 25) (.tmp 33) 53 rfl 0 62 i0 (.agg #[.int .i64 0, .string ⟨#[]⟩]) 2 24 Try.underlying53 hi hz0 hz1 hz2 rfl (by decide) _ _ _ rfl (HOWN.out _ rfl) ⟨W1.heap.size, 0, none⟩ 1 1 [.int .i64 x.1, .string x.2] rfl rfl (HNEW.out _ rfl) (by simp [Value.oneCell']) (by decide) (by unfold maxLen; omega) (by omega) (Nat.zero_le _) _ rfl ?_; intro g2 cap2 w2 hown2 hgrow2 hat2 hlt2; obtain ⟨d0, e0⟩ := HLEFT.out _ _ _ (by first | exact ((Below.refl _ W1).alloc (Nat.le_refl _) _).drew | exact ((Below.refl _ W1).drew).alloc (Nat.le_refl _) _) hgrow2 rfl)
    all_goals
      have hBw : Below W1.heap.size W1 ((W1.alloc (.cells #[.int .i64 x.1, .string x.2] 62)).drew) := ((Below.refl _ W1).alloc (Nat.le_refl _) _).drew
      have hT2 := (HT1.out.below hBw).turnL (append_turned HT1.out.okL hBw hgrow2 rfl hown2 hat2 rfl)
      have HT2 := Lib.hid hT2
      clear hT2 hgrow2 hown2 hat2
      go_wp2_with fail
      go_meet
      exact ⟨{ rl with g := g2, cap := cap2, items := rl.items ++ [x] }, rfl, rfl, HT2.out, rfl, rfl, rfl, rfl⟩
  case rest =>
    obtain ⟨rl1, rfl, rfl, hT2, bl1, il1, vl1, kl1⟩ := hcut
    have HEl := Lib.hid (And.intro bl1 (And.intro il1 (And.intro kl1 vl1)))
    have hl8 : rl1.items.length ≤ 8 := by rw [il1]; simp; omega
    clear bl1 il1 kl1 vl1
    clear HT1 HOWN HNEW HLEFT l0 lf t0 tx0 tx1 hlt1 hlt2 hlt3
    -- the items of the right behind
    have HT2 := Lib.hid hT2
    have l0 := hT2.okL.c0
    have lf := hT2.okL.f 0
    have q0 := hT2.okR.c0
    unfold Rec.iv at l0 q0
    have hlt1 := hT2.okL.blk rl1.b (by simp [Rec.blocks])
    have HOWN := Lib.hid (fun (W' : World) (e : W'.heap = wc.heap) => own_heap hT2.okL.irow e)
    have HNEW := Lib.hid (fun (W' : World) (e : W'.heap = wc.heap) => (own_heap hT2.okR.irow e).cells (g := rr.g) rfl)
    have HLEFT := Lib.hid (fun (W' w1 : World) (o : Option Nat) (hb : Below wc.heap.size wc W') (hg : W'.grownBy w1 o) (ho : o = some rl1.g) => append_left hT2.okL hb hg ho)
    have HKS := Lib.hid hk
    clear hT2 hk
    go_upto_region 2 with fail
    go_cut [4, 5] (fun s4 s5 wx => ∃ rl2, s4 = .pointer (some ⟨rl2.b, 0, none⟩) ∧ s5 = .pointer (some ⟨rr.b, 0, none⟩) ∧ Trio S X w0 w B L wx r rl2 rr ∧ rl2.b = rl1.b ∧ rl2.items = rl1.items ++ rr.items ∧ rl2.kids = rl1.kids ∧ rl2.kv = rl1.kv)
    case first =>
      go_region_law (refine step_append_lies _ rfl (.tmp 41) (.tmp 45) 53 rfl 0 62 i0 (.agg #[.int .i64 0, .string ⟨#[]⟩]) 2 24 Try.underlying53 hi hz0 hz1 hz2 rfl (by decide) _ _ _ rfl (HOWN.out _ rfl) ⟨rr.g, 0, none⟩ rr.items.length rr.cap (cellsI rr.items) rfl (cellsI_length _) (HNEW.out _ rfl) (cellsI_one _) (by omega) (by unfold maxLen; omega) (by omega) (Nat.zero_le _) _ rfl ?_; intro g2 cap2 w2 hown2 hgrow2 hat2 hlt2; obtain ⟨d0, e0⟩ := HLEFT.out _ _ _ (Below.refl _ wc).drew hgrow2 rfl)
      all_goals
        have hT3 := (HT2.out.below (Below.refl _ wc).drew).turnL (append_turnedL HT2.out.okL.drew hgrow2 rfl hown2 hat2 rfl)
        have HT3 := Lib.hid hT3
        clear hT3 hgrow2 hown2 hat2
        go_wp2_with fail
        go_meet
        exact ⟨{ rl1 with g := g2, cap := cap2, items := rl1.items ++ rr.items }, rfl, rfl, HT3.out, rfl, rfl, rfl, rfl⟩
    case rest =>
      obtain ⟨rl2, rfl, rfl, hT3, bl2, il2, kl2, vl2⟩ := hcut
      have HEl2 := Lib.hid (And.intro (bl2.trans HEl.out.1) (And.intro (il2.trans (by rw [HEl.out.2.1])) (And.intro (kl2.trans HEl.out.2.2.1) (vl2.trans HEl.out.2.2.2))))
      clear bl2 il2 kl2 vl2 HT2 l0 lf q0 hlt1 HOWN HNEW HLEFT
      -- and the nodes below
      have HT3 := Lib.hid hT3
      go_upto_region 3 with fail
      go_cut [4, 5] (fun s4 s5 wx => ∃ rl3, s4 = .pointer (some ⟨rl3.b, 0, none⟩) ∧ s5 = .pointer (some ⟨rr.b, 0, none⟩) ∧ Trio S X w0 w B L wx r rl3 rr ∧ rl3.b = rl2.b ∧ rl3.items = rl2.items ∧ rl3.kids = rl.kids ++ rr.kids ∧ rl3.kv.isSome = rl.kv.isSome)
      case first =>
        have l1 := hT3.okL.c1
        have lf1 := hT3.okL.f 1
        have q1 := hT3.okR.c1
        have hlt1 := hT3.okL.blk rl2.b (by simp [Rec.blocks])
        rcases HKS.out with ⟨ka, kb, kc, kd⟩ | ⟨fl, fr, ka, kb, kc, kd, ke⟩
        · have hnone : rl2.kv = none := by rw [HEl2.out.2.2.2]; exact ka
          simp only [Rec.kvv, hnone] at l1
          simp only [Rec.kvv, kb] at q1
          clear hT3
          go_region
          all_goals
            have hT4 := (HT3.out.below (Below.refl _ wc).drew).turnL (turned_nokids HT3.out.okL.drew hnone)
            have HT4 := Lib.hid hT4
            clear hT4
            go_wp2_with fail
            go_meet
            exact ⟨rl2, rfl, rfl, HT4.out, rfl, rfl, by rw [HEl2.out.2.2.1, kd]; simp, by rw [HEl2.out.2.2.2]⟩
        · have hsome : rl2.kv = some fl := by rw [HEl2.out.2.2.2]; exact ka
          have hlen2 : rl2.kids.length ≤ 8 := by rw [HEl2.out.2.2.1]; exact kd
          simp only [Rec.kvv, hsome] at l1
          simp only [Rec.kvv, kb] at q1
          obtain ⟨j0, hj, hj0, hj1, hj2⟩ := info_parts info_node
          have hrL := hT3.okL.krow
          simp only [Rec.kvv, hsome] at hrL
          have hrR := hT3.okR.krow
          simp only [Rec.kvv, kb] at hrR
          have HOWN := Lib.hid (fun (W' : World) (e : W'.heap = wc.heap) => own_heap hrL e)
          have HNEW := Lib.hid (fun (W' : World) (e : W'.heap = wc.heap) => (own_heap hrR e).cells (g := fr.1) rfl)
          have HLEFT := Lib.hid (fun (W' w1 : World) (o : Option Nat) (hb : Below wc.heap.size wc W') (hg : W'.grownBy w1 o) (ho : o = some fl.1) => append_leftK hT3.okL hsome hb hg ho)
          clear hT3 hrL hrR
          go_region_law (refine step_append_lies _ rfl (.tmp 53) (.tmp 57) 52 rfl 0 40 j0 (.pointer none) 1 8 Try.underlying52 hj hj0 hj1 hj2 rfl (by decide) _ _ _ rfl (HOWN.out _ rfl) ⟨fr.1, 0, none⟩ rr.kids.length fr.2 (cellsP rr.kids) rfl (by simp [cellsP]) (HNEW.out _ rfl) (cellsP_one _) (by omega) (by unfold maxLen; omega) (by omega) (Nat.zero_le _) _ rfl ?_; intro g2 cap2 w2 hown2 hgrow2 hat2 hlt2; obtain ⟨d0, e0⟩ := HLEFT.out _ _ _ (Below.refl _ wc).drew hgrow2 rfl)
          all_goals
            have hT4 := (HT3.out.below (Below.refl _ wc).drew).turnL (append_turnedLK HT3.out.okL.drew hsome hgrow2 rfl hown2 hat2 rfl)
            have HT4 := Lib.hid hT4
            clear hT4 hgrow2 hown2 hat2
            go_wp2_with fail
            go_meet
            exact ⟨{ rl2 with kv := some (g2, cap2), kids := rl2.kids ++ rr.kids }, rfl, rfl, HT4.out, rfl, rfl, by rw [← HEl2.out.2.2.1], by rw [ka]; rfl⟩
      case rest =>
        obtain ⟨rl3, rfl, rfl, hT4, bl3, il3, kl3, vl3⟩ := hcut
        have HEl3 := Lib.hid (And.intro (bl3.trans HEl2.out.1) (And.intro (il3.trans HEl2.out.2.1) (And.intro kl3 vl3)))
        clear bl3 il3 kl3 vl3 HT3
        -- the item and the right node go from above
        have HT4 := Lib.hid hT4
        have t0 := hT4.okT.c0
        have tf := hT4.okT.f 0
        unfold Rec.iv at t0
        have hqr := hT4.okT.irow
        unfold Rec.iv at hqr
        have hw2 : IntKind.i64.wrap ((p : Int) + 1) = (p : Int) + 1 := by rw [IntKind.wrap_i64]; omega
        have hw3 : IntKind.i64.wrap ((p : Int) + 2) = (p : Int) + 2 := by rw [IntKind.wrap_i64]; omega
        have cD : Calls Try.prog 35 #[.slice (some ⟨r.g, 0, none⟩) r.items.length r.cap, .int .i64 (p : Int), .int .i64 ((p : Int) + 1)] _ _ := delI_some 0 r.g r.items.length r.cap p (p + 1) (cellsI r.items) _ (by omega) (by omega) (by omega) hqr (cellsI_one _)
        have HL4 := Lib.hid (fun (w1 : World) (hon : Only (fun k => k = r.g) _ w1) => (⟨(World.cell?_of_block (a := ⟨r.b, 0, none⟩) (hon.block r.b (hT4.okT.blk r.b (by simp [Rec.blocks])) hT4.okT.b_ne_g)).trans t0, (World.frozen?_of_block (a := ⟨r.b, 0, none⟩) (hon.block r.b (hT4.okT.blk r.b (by simp [Rec.blocks])) hT4.okT.b_ne_g)).trans tf⟩ : _ ∧ _))
        clear hT4 hqr
        go_upto_region 4 with fail
        go_cut [4, 5] (fun s4 s5 wx => ∃ r1, s4 = .pointer (some ⟨rl3.b, 0, none⟩) ∧ s5 = .pointer (some ⟨rr.b, 0, none⟩) ∧ Trio S X w0 w B L wx r1 rl3 rr ∧ r1.b = r.b ∧ r1.items = r.items.take p ++ r.items.drop (p + 1) ∧ r1.kids = r.kids ∧ r1.kv = r.kv)
        case first =>
          go_wp2_with (go_at_call 35; refine cD.mono ?_; rintro e w3 ⟨rfl, hown3, hon3⟩; obtain ⟨d3, e3⟩ := HL4.out _ hon3)
          rw [← cellsI_take, ← cellsI_drop, ← cellsI_append] at hown3
          have hT5 := HT4.out.turnT (turned_items (items' := r.items.take p ++ r.items.drop (p + 1)) (n := p + (r.items.length - (p + 1))) HT4.out.okT hon3 (by simp; omega) hown3 (.inl rfl))
          have HT5 := Lib.hid hT5
          clear hT5 hown3 hon3
          go_meet
          exact ⟨{ r with items := r.items.take p ++ r.items.drop (p + 1) }, rfl, rfl, HT5.out, rfl, rfl, rfl, rfl⟩
        case rest =>
          obtain ⟨r1, rfl, rfl, hT5, b1, i1, k1, v1⟩ := hcut
          have hsome : r1.kv = some f := v1.trans hkv
          have hkk : r1.kids.length = r.kids.length := by rw [k1]
          have HEr := Lib.hid (And.intro b1 (And.intro i1 (And.intro k1 v1)))
          have HT5 := Lib.hid hT5
          have q1 := hT5.okT.c1
          simp only [Rec.kvv, hsome, hkk, b1] at q1
          have qf := hT5.okT.f 1
          rw [b1] at qf
          have hqr := hT5.okT.krow
          simp only [Rec.kvv, hsome, hkk] at hqr
          have cD2 : Calls Try.prog 43 #[.slice (some ⟨f.1, 0, none⟩) r.kids.length f.2, .int .i64 ((p : Int) + 1), .int .i64 ((p : Int) + 2)] _ _ := delP_some 0 f.1 r.kids.length f.2 (p + 1) (p + 2) (cellsP r1.kids) _ (by omega) (by omega) (by omega) hqr (cellsP_one _)
          have HL5 := Lib.hid (fun (w1 : World) (hon : Only (fun k => k = f.1) _ w1) => (⟨(World.cell?_of_block (a := ⟨r.b, 1, none⟩) (hon.block r.b (by rw [← b1]; exact hT5.okT.blk r1.b (by simp [Rec.blocks])) (by rw [← b1]; exact hT5.okT.b_ne_k hsome))).trans q1, (World.frozen?_of_block (a := ⟨r.b, 1, none⟩) (hon.block r.b (by rw [← b1]; exact hT5.okT.blk r1.b (by simp [Rec.blocks])) (by rw [← b1]; exact hT5.okT.b_ne_k hsome))).trans qf⟩ : _ ∧ _))
          clear b1 i1 k1 v1 HT4 t0 tf cD HL4 hT5 hqr hkk
          go_wp2_with (go_at_call 43; refine cD2.mono ?_; rintro e w3 ⟨rfl, hown3, hon3⟩; obtain ⟨d3, e3⟩ := HL5.out _ hon3)
          have hcells : (cellsP r1.kids).take ((p + 1) * 1) ++ (cellsP r1.kids).drop ((p + 2) * 1) = cellsP (r.kids.take (p + 1) ++ r.kids.drop (p + 2)) := by
            rw [HEr.out.2.2.1]
            unfold cellsP
            simp
          rw [hcells] at hown3
          have hT6 := HT5.out.turnT (turned_kids (kids' := r.kids.take (p + 1) ++ r.kids.drop (p + 2)) (n := p + 1 + (r.kids.length - (p + 2))) HT5.out.okT hsome hon3 (by simp; omega) hown3 (.inl rfl))
          rw [HEr.out.1] at hT6
          have HT6 := Lib.hid hT6
          clear hT6 hown3 hon3 hcells
          go_end0
          exact ⟨rfl, _, rl3, HT6.out, ⟨rfl, HEr.out.2.1, rfl, hkv.symm⟩, ⟨HEl3.out.1, by rw [HEl3.out.2.1]; simp, HEl3.out.2.2.1, HEl3.out.2.2.2⟩⟩
end Go.Proofs.Ytkhbfjncamobdaa.S
