/- The way down a bag's tree to a number: which nodes and places it has, and whether it ends where the number stands. -/
import Derived.Deep.LoopGhost
import Derived.Test.YtbelgkccfajjoaaBagTree
import Derived.Test.YtbelgkccfajjoaaBagMemS
namespace Go.Proofs.Ytbelgkccfajjoaa.S
open Go.RowKit
set_option linter.unusedVariables false

def cellsS (l : List (Nat × Nat)) : List Value := l.flatMap fun s => [ptrV s.1, .int .i64 (s.2 : Int)]
theorem cellsS_snoc (l : List (Nat × Nat)) (s : Nat × Nat) : cellsS (l ++ [s]) = cellsS l ++ [ptrV s.1, .int .i64 (s.2 : Int)] := by simp [cellsS]
theorem cellsS_length (l : List (Nat × Nat)) : (cellsS l).length = l.length * 2 := by
  induction l with
  | nil => rfl
  | cons x l ih => simp only [cellsS, List.flatMap_cons, List.length_append, List.length_cons, List.length_nil] at ih ⊢; omega

theorem infoStep : (Try.prog.info? 95).map (fun i => (i.zero, i.size, i.bytes)) = some (some (.agg #[.pointer none, .int .i64 0]), 2, 16) := by kernel_rfl

/-- what the way says of the nodes that are still to come -/
def Down (at0 : Int) (d : Nat) (t : T ByteArray) (w : World) (pre : List (Nat × Nat)) (d' : Nat) (t' : T ByteArray) : Prop :=
  (∀ r, r ∈ t'.recs → Ok w r) ∧ T.wf d' t' ∧ T.wsteps at0 d t = pre ++ T.wsteps at0 d' t' ∧ T.wfound at0 d t = T.wfound at0 d' t'

def WayRel (at0 : Int) (d : Nat) (t : T ByteArray) (w : World) (gk : Nat) (s0 s6 : Value) (wr : World) : Prop :=
  ∃ pre : List (Nat × Nat), wr.ownsRow w.heap.size 95 2 s6 pre.length (cellsS pre) ∧ Below w.heap.size w wr ∧ pre.length + gk ≤ d + 1 ∧
    ((∃ d' t', gk = d' + 1 ∧ s0 = ptrV t'.r.b ∧ Down at0 d t w pre d' t') ∨ (gk = 0 ∧ s0 = .pointer none ∧ T.wsteps at0 d t = pre ∧ T.wfound at0 d t = false))

def WayEnd (at0 : Int) (d : Nat) (t : T ByteArray) (w : World) (e : Ending) (w' : World) : Prop :=
  ∃ v, e = .returned (.tuple #[v, .bool (T.wfound at0 d t)]) ∧ w'.ownsRow w.heap.size 95 2 v (T.wsteps at0 d t).length (cellsS (T.wsteps at0 d t)) ∧ Below w.heap.size w w'

theorem way_push {w wr w1 : World} {v v' : Value} {pre : List (Nat × Nat)} {b p : Nat} {o : Obj} (hown : wr.ownsRow w.heap.size 95 2 v pre.length (cellsS pre)) (hB : Below w.heap.size w wr)
    (h1 : w1.ownsRow w.heap.size 95 2 v' (pre.length + 1) (cellsS pre ++ [ptrV b, .int .i64 (p : Int)])) (hg : (wr.alloc o).grownBy w1 v.ownBlock) :
    w1.ownsRow w.heap.size 95 2 v' (pre ++ [(b, p)]).length (cellsS (pre ++ [(b, p)])) ∧ Below w.heap.size w w1 :=
  ⟨by rw [cellsS_snoc, List.length_append]; exact h1, (hB.alloc hB.size o).grown hg (by rw [World.size_alloc]; have := hB.size; omega) (fun k hk => (hown.lt k hk).1)⟩

set_option maxRecDepth 100000 in
set_option maxHeartbeats 1000000 in
theorem way_some (at0 : Int) (d : Nat) (t : T ByteArray) (w : World) (hT : ∀ r, r ∈ t.recs → Ok w r) (hwf : T.wf d t) (hd : d ≤ 1000) :
    Calls Try.prog 43 #[ptrV t.r.b, .int .i64 at0] w (WayEnd at0 d t w) := by
  obtain ⟨i0, hi, hz0, hz1, hz2⟩ := info_parts infoStep
  have HS : WayRel at0 d t w (d + 1) (ptrV t.r.b) (.slice none 0 0) w := ⟨[], World.ownsRow_nil _ _ _ _, Below.refl _ _, by simp, .inl ⟨d, t, rfl, rfl, hT, hwf, by simp, rfl⟩⟩
  clear hT hwf
  obtain ⟨nv, hnv⟩ : ∃ nv, ptrV t.r.b = nv := ⟨_, rfl⟩
  rw [hnv] at HS ⊢
  clear hnv
  go_enter Try.func43, Try.ntmps43
  go_wp2
  go_step3
  go_wp2
  go_step3
  go_wp2
  go_loopg [0, 6] (d + 1) (fun gk s0 s6 wr => WayRel at0 d t w gk s0 s6 wr)
  case atStart => exact HS
  case round =>
    obtain ⟨pre, hown, hB, hlen, hcase⟩ := hrel
    rcases hcase with ⟨d', t', rfl, rfl, hdn⟩ | ⟨rfl, rfl, hst, hfo⟩
    · have hT := (hdn.1 _ t'.r_mem).below hB
      obtain ⟨R, hR⟩ : ∃ R, t'.r = R := ⟨_, rfl⟩
      have HDN := Lib.hid hdn
      have hlow := T.lower_le at0 t'.r.items
      have c0 := hT.c0
      have hil := hT.ilen
      unfold Rec.iv at c0
      unfold ptrV
      clear hdn hR
      go_wp2
      go_loopg [0, 6, 16] t'.r.items.length (fun g2 v0 v6 v16 wx => ∃ k : Nat, k + g2 = t'.r.items.length ∧ k ≤ T.lower at0 t'.r.items ∧ v16 = .int .i64 k ∧ v0 = .pointer (some ⟨t'.r.b, 0, none⟩) ∧ v6 = u6 ∧ wr = wx)
      case atStart => exact ⟨0, by simp, Nat.zero_le _, rfl, rfl, rfl, rfl⟩
      case round =>
        obtain ⟨k, hk, hkl, rfl, rfl, rfl, rfl⟩ := hrel
        by_cases hkn : k < t'.r.items.length
        · obtain ⟨x, hx⟩ : ∃ x, t'.r.items[k]? = some x := ⟨_, List.getElem?_eq_getElem hkn⟩
          have cx := (hT.item hx).1
          by_cases hk2 : k < T.lower at0 t'.r.items
          · have hlt := T.lower_lt at0 _ k x hk2 hx
            clear hx
            go_wp2
            go_roundg (gk - 1)
            case measure => omega
            case rel => exact ⟨k + 1, by omega, by omega, by go_num, rfl, rfl, rfl⟩
          · obtain rfl : T.lower at0 t'.r.items = k := by omega
            have hge := T.lower_ge at0 _ x hx
            have hnl : ¬ x.1 < at0 := by omega
            have hlw := hB.size
            have hmx : pre.length + 1 ≤ maxLen := by unfold maxLen; omega
            have HH : Hid (T.hit at0 t' = (x.1 == at0)) := by unfold Hid T.hit; rw [hx]
            by_cases hh : x.1 = at0
            · have hb : (x.1 == at0) = true := by simpa using hh
              replace HH := Lib.hid (HH.out.trans hb)
              clear hh
              go_wp2_with (at_builtin; refine wpList_append_own _ rfl _ _ 91 rfl w.heap.size 95 i0 (.agg #[.pointer none, .int .i64 0]) 2 16 Try.underlying91 hi hz0 hz1 hz2 rfl (by decide) _ _ _ rfl (hown.alloc _) ⟨wr.heap.size, 0, none⟩ 1 1 [.pointer (some ⟨t'.r.b, 0, none⟩), .int .i64 (T.lower at0 t'.r.items : Int)] rfl rfl (World.news_of_block (heap_alloc_new wr _)) (by simp [Value.oneCell']) (by omega) (by omega) (by simp; omega) ?_; intro v' w1 hown' hgrow _; obtain ⟨hown1, hB1⟩ := way_push hown hB hown' hgrow; have hT1 := (HDN.out.1 _ t'.r_mem).below hB1; have c0' := hT1.c0; unfold Rec.iv at c0'; have cx' := (hT1.item hx).1; clear hown' hgrow)
              go_ret2
              obtain ⟨e1, e2⟩ := T.wsteps_hit at0 d' t' HH.out
              exact ⟨_, by rw [HDN.out.2.2.2, e2]; rfl, by rw [HDN.out.2.2.1, e1]; exact hown1, hB1⟩
            · have hb : (x.1 == at0) = false := by simpa using hh
              replace HH := Lib.hid (HH.out.trans hb)
              clear hh
              cases d' with
              | zero =>
                go_wp2_with (first | (at_builtin; refine wpList_append_own _ rfl _ _ 91 rfl w.heap.size 95 i0 (.agg #[.pointer none, .int .i64 0]) 2 16 Try.underlying91 hi hz0 hz1 hz2 rfl (by decide) _ _ _ rfl (hown.alloc _) ⟨wr.heap.size, 0, none⟩ 1 1 [.pointer (some ⟨t'.r.b, 0, none⟩), .int .i64 (T.lower at0 t'.r.items : Int)] rfl rfl (World.news_of_block (heap_alloc_new wr _)) (by simp [Value.oneCell']) (by omega) (by omega) (by simp; omega) ?_; intro v' w1 hown' hgrow _; obtain ⟨hown1, hB1⟩ := way_push hown hB hown' hgrow; have hT1 := (HDN.out.1 _ t'.r_mem).below hB1; have c0' := hT1.c0; unfold Rec.iv at c0'; have cx' := (hT1.item hx).1; have cU := under_none t'.r (T.lower at0 t'.r.items : Nat) w1 hT1 HDN.out.2.1.2.1; clear hown' hgrow) | (go_at_call 63; refine cU.mono ?_; rintro e w' ⟨rfl, rfl⟩))
                go_roundg 0
                case measure => omega
                case rel => exact ⟨_, hown1, hB1, by simp; omega, .inr ⟨rfl, rfl, by rw [HDN.out.2.2.1]; rfl, HDN.out.2.2.2.trans HH.out⟩⟩
              | succ d' =>
                obtain ⟨kd, hk1, hk2, hk3, hk4⟩ := T.kid_at d' t' (T.lower at0 t'.r.items) HDN.out.2.1 (by omega)
                obtain ⟨q, hq⟩ := Option.isSome_iff_exists.1 HDN.out.2.1.1
                have HQ := Lib.hid hq
                have HK1 := Lib.hid hk1
                have HK := Lib.hid hk2
                have HK3 := Lib.hid hk3
                have HK4 := Lib.hid hk4
                clear hq hk1 hk2 hk3 hk4
                go_wp2_with (first | (at_builtin; refine wpList_append_own _ rfl _ _ 91 rfl w.heap.size 95 i0 (.agg #[.pointer none, .int .i64 0]) 2 16 Try.underlying91 hi hz0 hz1 hz2 rfl (by decide) _ _ _ rfl (hown.alloc _) ⟨wr.heap.size, 0, none⟩ 1 1 [.pointer (some ⟨t'.r.b, 0, none⟩), .int .i64 (T.lower at0 t'.r.items : Int)] rfl rfl (World.news_of_block (heap_alloc_new wr _)) (by simp [Value.oneCell']) (by omega) (by omega) (by simp; omega) ?_; intro v' w1 hown' hgrow _; obtain ⟨hown1, hB1⟩ := way_push hown hB hown' hgrow; have hT1 := (HDN.out.1 _ t'.r_mem).below hB1; have c0' := hT1.c0; unfold Rec.iv at c0'; have cx' := (hT1.item hx).1; have cU := under_some t'.r (T.lower at0 t'.r.items) q kd.r.b w1 hT1 HQ.out HK.out; unfold ptrV at cU; clear hown' hgrow) | (go_at_call 63; refine cU.mono ?_; rintro e w' ⟨rfl, rfl⟩))
                go_roundg (d' + 1)
                case measure => omega
                case rel => exact ⟨_, hown1, hB1, by simp; omega, .inl ⟨d', kd, rfl, rfl, fun r hr => HDN.out.1 r (T.ks_sub HK4.out r hr), HK3.out, by rw [HDN.out.2.2.1, (T.wsteps_down at0 d' t' kd HH.out HK1.out).1]; simp, HDN.out.2.2.2.trans (T.wsteps_down at0 d' t' kd HH.out HK1.out).2⟩⟩
        · obtain rfl : k = t'.r.items.length := by omega
          have hlw := hB.size
          have hmx : pre.length + 1 ≤ maxLen := by unfold maxLen; omega
          have HH : Hid (T.hit at0 t' = false) := by unfold Hid T.hit; rw [show T.lower at0 t'.r.items = t'.r.items.length from by omega]; simp
          cases d' with
          | zero =>
            go_wp2_with (first | (at_builtin; refine wpList_append_own _ rfl _ _ 91 rfl w.heap.size 95 i0 (.agg #[.pointer none, .int .i64 0]) 2 16 Try.underlying91 hi hz0 hz1 hz2 rfl (by decide) _ _ _ rfl (hown.alloc _) ⟨wr.heap.size, 0, none⟩ 1 1 [.pointer (some ⟨t'.r.b, 0, none⟩), .int .i64 (t'.r.items.length : Int)] rfl rfl (World.news_of_block (heap_alloc_new wr _)) (by simp [Value.oneCell']) (by omega) (by omega) (by simp; omega) ?_; intro v' w1 hown' hgrow _; obtain ⟨hown1, hB1⟩ := way_push hown hB hown' hgrow; have hT1 := (HDN.out.1 _ t'.r_mem).below hB1; have c0' := hT1.c0; unfold Rec.iv at c0'; have cU := under_none t'.r (t'.r.items.length : Nat) w1 hT1 HDN.out.2.1.2.1; clear hown' hgrow) | (go_at_call 63; refine cU.mono ?_; rintro e w' ⟨rfl, rfl⟩))
            go_roundg 0
            case measure => omega
            case rel => exact ⟨_, hown1, hB1, by simp; omega, .inr ⟨rfl, rfl, by rw [HDN.out.2.2.1]; rw [T.wsteps, show T.lower at0 t'.r.items = t'.r.items.length from by omega]; try rfl, HDN.out.2.2.2.trans HH.out⟩⟩
          | succ d' =>
            obtain ⟨kd, hk1, hk2, hk3, hk4⟩ := T.kid_at d' t' (t'.r.items.length) HDN.out.2.1 (by omega)
            obtain ⟨q, hq⟩ := Option.isSome_iff_exists.1 HDN.out.2.1.1
            have HQ := Lib.hid hq
            have HK1 := Lib.hid hk1
            have HK := Lib.hid hk2
            have HK3 := Lib.hid hk3
            have HK4 := Lib.hid hk4
            clear hq hk1 hk2 hk3 hk4
            go_wp2_with (first | (at_builtin; refine wpList_append_own _ rfl _ _ 91 rfl w.heap.size 95 i0 (.agg #[.pointer none, .int .i64 0]) 2 16 Try.underlying91 hi hz0 hz1 hz2 rfl (by decide) _ _ _ rfl (hown.alloc _) ⟨wr.heap.size, 0, none⟩ 1 1 [.pointer (some ⟨t'.r.b, 0, none⟩), .int .i64 (t'.r.items.length : Int)] rfl rfl (World.news_of_block (heap_alloc_new wr _)) (by simp [Value.oneCell']) (by omega) (by omega) (by simp; omega) ?_; intro v' w1 hown' hgrow _; obtain ⟨hown1, hB1⟩ := way_push hown hB hown' hgrow; have hT1 := (HDN.out.1 _ t'.r_mem).below hB1; have c0' := hT1.c0; unfold Rec.iv at c0'; have cU := under_some t'.r (t'.r.items.length) q kd.r.b w1 hT1 HQ.out HK.out; unfold ptrV at cU; clear hown' hgrow) | (go_at_call 63; refine cU.mono ?_; rintro e w' ⟨rfl, rfl⟩))
            go_roundg (d' + 1)
            case measure => omega
            case rel => exact ⟨_, hown1, hB1, by simp; omega, .inl ⟨d', kd, rfl, rfl, fun r hr => HDN.out.1 r (T.ks_sub HK4.out r hr), HK3.out, by rw [HDN.out.2.2.1, (T.wsteps_down at0 d' t' kd HH.out (by rw [show T.lower at0 t'.r.items = t'.r.items.length from by omega]; exact HK1.out)).1, show T.lower at0 t'.r.items = t'.r.items.length from by omega]; simp, HDN.out.2.2.2.trans (T.wsteps_down at0 d' t' kd HH.out (by rw [show T.lower at0 t'.r.items = t'.r.items.length from by omega]; exact HK1.out)).2⟩⟩
    · have HST := Lib.hid hst
      have HFO := Lib.hid hfo
      clear hst hfo
      go_wp2
      rw [Exit.noGoto_ret]
      go_ret2
      exact ⟨_, by rw [HFO.out]; rfl, by rw [HST.out]; exact hown, hB⟩

end Go.Proofs.Ytbelgkccfajjoaa.S
