/- find of the program: where a name stands. -/
import Derived.Test.YtafbkagoajcmeaaDirLst
import Derived.Scope
namespace Go.Proofs.Ytafbkagoajcmeaa.Dir
open Go.RowKit
attribute [local go_sem] Oper.semAt_some
set_option linter.unusedVariables false
set_option linter.unusedSimpArgs false

/-- the entry that is found -/
def fndT (D : Option (List N)) (name : ByteArray) : Et := match D with
  | some L => if findE L name = 0 then etAt L (idx L name) else Et.zero
  | none => Et.zero
theorem fndT_no {D : Option (List N)} {name : ByteArray} (h : ¬ findEo D name = 0) : fndT D name = Et.zero := by
  cases D with
  | none => rfl
  | some L => exact if_neg h
theorem fnd_end {D : Option (List N)} {name : ByteArray} {w W : World} {t : Et} {n : Int} (h : fndT D name = t) (h2 : findEo D name = n) (hB : Below w.heap.size w W) :
    Ans w (.tuple #[(fndT D name).val, .int .i64 (findEo D name)]) (.returned (.tuple #[t.val, .int .i64 n])) W := by
  rw [h, h2]
  exact ⟨rfl, hB⟩
theorem put4_other (W : World) (b : Nat) (u0 u1 u2 u3 : Value) (j : Nat) (hj : j ≠ b) : ((((W.setCell ⟨b, 0, none⟩ u0).setCell ⟨b, 1, none⟩ u1).setCell ⟨b, 2, none⟩ u2).setCell ⟨b, 3, none⟩ u3).heap[j]? = W.heap[j]? :=
  (Below.heap_setCell _ _ _ _ hj).trans ((Below.heap_setCell _ _ _ _ hj).trans ((Below.heap_setCell _ _ _ _ hj).trans (Below.heap_setCell _ _ _ _ hj)))
section
set_option maxRecDepth 100000
set_option maxHeartbeats 8000000
theorem find_none (s name : ByteArray) (w : World) (hs : s.size ≤ 281474976710656) (h : DirO s none) : Calls Try.prog 34 #[.string s, .string name] w (Ans w (.tuple #[(fndT none name).val, .int .i64 (findEo none name)])) := by
  have hR := Lib.hid (fun W => right_any s none W hs h)
  have HF := Lib.hid (fun W (hB : Below w.heap.size w W) => fnd_end (D := none) (name := name) (w := w) (W := W) (t := Et.zero) (n := 110) rfl rfl hB)
  have HZ := Lib.hid (AtT.newZ (w.alloc (.cells #[.string name] 9)))
  have HB0 := Lib.hid (below_al (below_new w (.cells #[.string name] 9)) boxTZ)
  unfold rightO Ans at hR
  rw [World.size_alloc] at HZ
  unfold boxTZ at HZ HB0
  clear h hs
  go_enter Try.func34, Try.ntmps34
  go_wp2
  apply wp_scope_straight
  go_wp2_with (go_at_call 15; (with_reducible refine Calls.mono (hR.out _) ?_); rintro e w1 ⟨rfl, hB1⟩; have hZ9 := HZ.out.th hB1; obtain ⟨c0, c1, c2, c3⟩ := hZ9.cZ; have f0 := hZ9.f 0; have f1 := hZ9.f 1; have f2 := hZ9.f 2; have f3 := hZ9.f 3; obtain ⟨p0, p1, p2, p3, hP, hBp⟩ := hZ9.putZ; have HP := Lib.hid hP; have HBp := Lib.hid hBp; clear hP hBp hZ9)
  refine noGoto_ret ?_
  refine bodyPost_ret (results_et rfl _ _ rfl HP.out) rfl ?_
  exact HF.out _ ((below_th HB0.out hB1).trans (HBp.out.mono (by omega)))
theorem find_bad (s name : ByteArray) (L : List N) (w : World) (hs : s.size ≤ 281474976710656) (hn : name.size ≤ 281474976710656) (h : DirP s L) (h1 : ¬ nameP name) : Calls Try.prog 34 #[.string s, .string name] w (Ans w (.tuple #[(fndT (some L) name).val, .int .i64 (findEo (some L) name)])) := by
  have hR := Lib.hid (fun W => right_any s (some L) W hs h)
  have hN := Lib.hid (fun W => isName_any name W hn)
  rw [nameB_no h1] at hN
  have hE : findEo (some L) name = 111 := by unfold findEo findE; simp [h1]
  have HF := Lib.hid (fun W (hB : Below w.heap.size w W) => fnd_end (D := some L) (name := name) (w := w) (W := W) (t := Et.zero) (n := 111) (fndT_no (by rw [hE]; decide)) hE hB)
  have HZ := Lib.hid (AtT.newZ (w.alloc (.cells #[.string name] 9)))
  have HB0 := Lib.hid (below_al (below_new w (.cells #[.string name] 9)) boxTZ)
  have HS : Hid (AtS ((w.alloc (.cells #[.string name] 9)).alloc boxTZ) w.heap.size name) := (AtS.new w name).th (below_new _ _)
  unfold rightO Ans at hR
  unfold Ans at hN
  rw [World.size_alloc] at HZ
  unfold boxTZ at HZ HB0 HS
  clear h hs hE hn h1
  go_enter Try.func34, Try.ntmps34
  go_wp2
  apply wp_scope_straight
  go_wp2_with (first
    | (go_at_call 15; (with_reducible refine Calls.mono (hR.out _) ?_); rintro e w1 ⟨rfl, hB1⟩; have hs1 := (HS.out.th hB1).c)
    | (go_at_call 13; (with_reducible refine Calls.mono (hN.out _) ?_); rintro e w2 ⟨rfl, hB2⟩; have hZ9 := (HZ.out.th hB1).th hB2; obtain ⟨c0, c1, c2, c3⟩ := hZ9.cZ; have f0 := hZ9.f 0; have f1 := hZ9.f 1; have f2 := hZ9.f 2; have f3 := hZ9.f 3; obtain ⟨p0, p1, p2, p3, hP, hBp⟩ := hZ9.putZ; have HP := Lib.hid hP; have HBp := Lib.hid hBp; clear hP hBp hZ9))
  refine noGoto_ret ?_
  refine bodyPost_ret (results_et rfl _ _ rfl HP.out) rfl ?_
  exact HF.out _ ((below_th (below_th HB0.out hB1) hB2).trans (HBp.out.mono (by omega)))
/-- between two rounds -/
structure FndI (L : List N) (name : ByteArray) (nB rB fB : Nat) (w W0 : World) (k : Nat) (W : World) : Prop where
  no : ∀ j, j < k → ¬ (nm L j).name = name
  only : Only (fun i => i = fB ∨ i = fB + 1) W0 W
  at_ : AtT W fB Et.zero
  err : Boxed W (fB + 1) 25 (.int .i64 112)
def FndX (L : List N) (name : ByteArray) (fB : Nat) (W0 : World) (c : Code) (k : Nat) (W : World) : Prop :=
  c = .exit 1 ∧ (nm L k).name = name ∧ (∀ j, j < k → ¬ (nm L j).name = name) ∧ Only (fun i => i = fB ∨ i = fB + 1) W0 W ∧ AtT W fB (etAt L k) ∧ Boxed W (fB + 1) 25 (.int .i64 0)
theorem fndI_own {L : List N} {name : ByteArray} {nB rB fB : Nat} {w W0 : World} : OwnFrom W0.heap.size (FndI L name nB rB fB w W0) := fun k W W' row h hg hr =>
  ⟨h.no, h.only.grown hg (fun r e => .inl (hr r e).1), kept_cells h.at_ hg hr, kept_cells h.err hg hr⟩
theorem fndX_own {L : List N} {name : ByteArray} {fB : Nat} {W0 : World} (c : Code) : OwnFrom W0.heap.size (FndX L name fB W0 c) := fun k W W' row h hg hr =>
  ⟨h.1, h.2.1, h.2.2.1, h.2.2.2.1.grown hg (fun r e => .inl (hr r e).1), kept_cells h.2.2.2.2.1 hg hr, kept_cells h.2.2.2.2.2 hg hr⟩
theorem find_in (s name : ByteArray) (L : List N) (hR : Run s L) (w : World) (hs : s.size ≤ 20000) (h : DirP s L) (h1 : nameP name) :
    CallsIn Fence.wide 9 Try.prog 34 #[.string s, .string name] w (Ans w (.tuple #[(fndT (some L) name).val, .int .i64 (findEo (some L) name)])) := by
  have hfn : ∀ f, Fence.wide.fn f := fun _ => trivial
  have hRi := Lib.hid (fun W => right_any s (some L) W (by omega) h)
  have hN := Lib.hid (fun W => isName_any name W (by have := h1.2.1; omega))
  rw [nameB_yes h1] at hN
  have HZ := Lib.hid (AtT.newZ (w.alloc (.cells #[.string name] 9)))
  have HB0 := Lib.hid (below_al (below_new w (.cells #[.string name] 9)) boxTZ)
  have HS : Hid (AtS ((w.alloc (.cells #[.string name] 9)).alloc boxTZ) w.heap.size name) := (AtS.new w name).th (below_new _ _)
  unfold rightO Ans at hRi
  unfold Ans at hN
  rw [World.size_alloc] at HZ
  unfold boxTZ at HZ HB0 HS
  refine callsIn_of_wp_marks Try.func34 rfl trivial ?_ rfl
  simp only [Try.ntmps34, List.size_toArray, List.length_cons, List.length_nil, Nat.reduceAdd, Nat.reduceSub, Array.replicate_succ, Array.replicate_zero, List.push_toArray, List.append_toArray, List.nil_append, List.cons_append]
  gi_wp2
  apply wide_scope
  gi_wp2_with (first
    | (gi_at_call 15; refine (callsIn_wide.2 (hRi.out _)).mono ?_; rintro e w1 ⟨rfl, hB1⟩; have hs1 := (HS.out.th hB1).c)
    | (gi_at_call 13; refine (callsIn_wide.2 (hN.out _)).mono ?_; rintro e w2 ⟨rfl, hB2⟩; have hs2 := ((HS.out.th hB1).th hB2).c))
  apply wide_label
  gi_wp2_with (gi_at_call 26; refine (entries_in _ _ _).mono ?_; rintro e w' ⟨rfl, rfl⟩)
  obtain ⟨W0, hW0⟩ : ∃ W0, ((w2.alloc (.cells #[.string ⟨#[]⟩, .int .u32 0, .int .i64 0, .int .i64 0] 46)).alloc (.cells #[.int .i64 112] 25)).alloc (.cells #[.string s] 9) = W0 := ⟨_, rfl⟩
  have hb2 := hB2.size
  have hb1 := hB1.size
  simp only [World.size_alloc] at hb1
  have hs0 : W0.heap.size = w2.heap.size + 3 := by rw [← hW0]; simp
  have hW2 : Below w2.heap.size w2 W0 := by
    rw [← hW0]
    exact below_al (below_al (below_new w2 _) _) _
  have hBW : Below w.heap.size w W0 := below_th (below_th (below_th HB0.out hB1) hB2) hW2
  have hn0 : AtS W0 w.heap.size name := ((HS.out.th hB1).th hB2).th hW2
  have hr0 : AtT W0 (w.heap.size + 1) Et.zero := ((HZ.out.th hB1).th hB2).th hW2
  have hf0 : AtT W0 w2.heap.size Et.zero := by
    rw [← hW0]
    exact ((AtT.newZ w2).th (below_new _ _)).th (below_new _ _)
  have he0 : Boxed W0 (w2.heap.size + 1) 25 (.int .i64 112) := by
    rw [← hW0]
    have := Boxed.new (w2.alloc (.cells #[.string ⟨#[]⟩, .int .u32 0, .int .i64 0, .int .i64 0] 46)) 25 (.int .i64 112)
    rw [World.size_alloc] at this
    exact this.alloc _
  have hx0 : AtS W0 (w2.heap.size + 1 + 1) s := by
    rw [← hW0]
    have := AtS.new ((w2.alloc (.cells #[.string ⟨#[]⟩, .int .u32 0, .int .i64 0, .int .i64 0] 46)).alloc (.cells #[.int .i64 112] 25)) s
    simp only [World.size_alloc] at this
    exact this
  have hst := entries_steps (w2.heap.size + 1 + 1) s L hR (by omega) W0 hx0
  obtain ⟨fB, hfB⟩ : ∃ fB, w2.heap.size = fB := ⟨_, rfl⟩
  rw [hW0]
  rw [hfB] at hs0 hf0 he0 hx0 hst hb2 ⊢
  have hI0 : FndI L name w.heap.size (w.heap.size + 1) fB w W0 0 W0 := ⟨fun j hj => absurd hj (Nat.not_lt_zero _), Only.refl _ _, hf0, he0⟩
  clear hW0 hW2 hB1 hB2 hfB hs1 hs2
  refine wpIn_rangeFunc_steps rfl (by decide) (gf := 40) (lb := #[.pointer (some ⟨fB + 1 + 1, 0, none⟩)]) rfl trivial (enters_of Try.func40 (by kernel_rfl) rfl)
    hst keepE_t keepE_b (Below.refl _ _) (fun _ => rfl)
    (FndI L name w.heap.size (w.heap.size + 1) fB w W0) (FndX L name fB W0) fndI_own fndX_own hI0
    (LstA L W0 (fun k Bx => #[.string s, .string name, undef, .pointer (some ⟨w.heap.size, 0, none⟩), .pointer (some ⟨w.heap.size + 1, 0, none⟩), .int .i64 0, .pointer (some ⟨fB, 0, none⟩), .pointer (some ⟨fB + 1, 0, none⟩), .pointer (some ⟨Bx, 0, none⟩), .bool false, .string s, .bool true, .bool false, undef, .bool false, .string name, .bool true, .bool false, undef, .agg #[.string ⟨#[]⟩, .int .u32 0, .int .i64 0, .int .i64 0], .string s, .func (.func 40) #[] #[.pointer (some ⟨fB + 1 + 1, 0, none⟩)], (etAt L k).val, undef, undef, undef, undef, undef, undef, undef, undef])) (fun k a' => lstA_own k a') ?assign ?body ?done ?stop
  case assign =>
    intro l k W K hI hk hK
    have hz : W0.heap.size ≤ W.heap.size := hI.only.size
    have HK := Lib.hid (hK _ _ ((KeepsOthers.alloc W _).from _) (KeepE.of_below (below_new W _)) (fndI_own _ _ _ none hI (World.grownBy_alloc W _ _) (fun r e => by cases e)) ⟨W.heap.size, hz, AtT.new W (etAt L k), rfl⟩)
    unfold encT
    clear hK hI hst
    unfold boxT Et.val at HK
    unfold Et.val
    dsimp only at HK
    generalize etAt L k = y at HK ⊢
    obtain ⟨y0, y1, y2, y3⟩ := y
    dsimp only at HK ⊢
    gi_wp2
    exact HK.out
  case body =>
    rintro l k a' W hl hrec ⟨hno, hon, hA, hE⟩ ⟨Bx, hBx, hX, rfl⟩ hk
    have hsz := hon.size
    have hnm : AtS W w.heap.size name := (hon.block w.heap.size (by omega) (by omega)).trans hn0
    have cn := hnm.c
    obtain ⟨x0, x1, x2, x3⟩ := hX.c
    have f0 := hA.f 0
    have f1 := hA.f 1
    have f2 := hA.f 2
    have f3 := hA.f 3
    obtain ⟨y0, y1, y2, y3⟩ := hA.cZ
    have fq := hE.frozen
    have cq := hE.cell
    have hen : (etAt L k).name = (nm L k).name := rfl
    by_cases heq : (nm L k).name = name
    · have hb := beq_yes heq
      rw [← hen] at hb
      obtain ⟨k0, k1, k2, k3, hAp, hBp⟩ := hA.put4 (etAt L k)
      have hon2 : Only (fun i => i = fB ∨ i = fB + 1) W (((((W.setCell ⟨fB, 0, none⟩ (.string (etAt L k).name)).setCell ⟨fB, 1, none⟩ (.int .u32 (etAt L k).ino)).setCell ⟨fB, 2, none⟩ (.int .i64 (etAt L k).a)).setCell ⟨fB, 3, none⟩ (.int .i64 (etAt L k).b)).setCell ⟨fB + 1, 0, none⟩ (.int .i64 0)) :=
        (((((Only.refl _ W).setCell (p := ⟨fB, 0, none⟩) (.inr (.inl rfl)) _).setCell (p := ⟨fB, 1, none⟩) (.inr (.inl rfl)) _).setCell (p := ⟨fB, 2, none⟩) (.inr (.inl rfl)) _).setCell (p := ⟨fB, 3, none⟩) (.inr (.inl rfl)) _).setCell (p := ⟨fB + 1, 0, none⟩) (.inr (.inr rfl)) _
      have hE2 : Boxed (((((W.setCell ⟨fB, 0, none⟩ (.string (etAt L k).name)).setCell ⟨fB, 1, none⟩ (.int .u32 (etAt L k).ino)).setCell ⟨fB, 2, none⟩ (.int .i64 (etAt L k).a)).setCell ⟨fB, 3, none⟩ (.int .i64 (etAt L k).b)).setCell ⟨fB + 1, 0, none⟩ (.int .i64 0)) (fB + 1) 25 (.int .i64 0) :=
        Boxed.set (v := .int .i64 112) _ ((put4_other W fB _ _ _ _ (fB + 1) (by omega)).trans hE)
      have HX := Lib.hid (show KeepsFrom W0.heap.size W _ ∧ FndX L name fB W0 (.exit 1) k _ from ⟨keeps_of_only _ hon2 (by rintro j (rfl | rfl); exact ⟨_, _, _, hA⟩; exact ⟨_, _, _, hE⟩), rfl, heq, hno, hon.step hon2 (fun i _ hi => hi), hAp.of_heap (Below.heap_setCell _ _ _ _ (by show fB ≠ fB + 1; omega)), hE2⟩)
      obtain ⟨t, ht⟩ : ∃ t, etAt L k = t := ⟨_, rfl⟩
      simp only [ht] at x0 x1 x2 x3 hb k0 k1 k2 k3 HX
      clear hno hon hA hE hX hst hAp hBp hon2 hE2 hen heq ht hnm hrec
      obtain ⟨t0, t1, t2, t3⟩ := t
      dsimp only at x0 x1 x2 x3 hb k0 k1 k2 k3 HX
      gi_wp2
      exact HX.out
    · have hb := beq_no heq
      rw [← hen] at hb
      have HI := Lib.hid (show KeepsFrom W0.heap.size W W ∧ KeepE W W ∧ FndI L name w.heap.size (w.heap.size + 1) fB w W0 (k + 1) W from ⟨KeepsFrom.refl _ _, KeepE.refl _, ⟨fun j hj => by
        rcases Nat.lt_succ_iff_lt_or_eq.1 hj with h | h
        · exact hno j h
        · rw [h]; exact heq, hon, hA, hE⟩⟩)
      obtain ⟨t, ht⟩ : ∃ t, etAt L k = t := ⟨_, rfl⟩
      simp only [ht] at x0 x1 x2 x3 hb
      clear hno hon hA hE hX hst hen heq ht hnm hrec
      obtain ⟨t0, t1, t2, t3⟩ := t
      dsimp only at x0 x1 x2 x3 hb
      gi_wp2
      exact HI.out
  case done =>
    rintro D2 W hD ⟨hno, hon, hA, hE⟩ hKD
    have hidx : idx L name = L.length := idx_none.2 hno
    have hEE : findEo (some L) name = 112 := by unfold findEo findE; simp [h1, hidx]
    have HFI := Lib.hid (fun W (hB : Below w.heap.size w W) => fnd_end (D := some L) (name := name) (w := w) (W := W) (t := Et.zero) (n := 112) (fndT_no (by rw [hEE]; decide)) hEE hB)
    have hsz := hon.size
    have hA0 : AtT W (w.heap.size + 1) Et.zero := hr0.of_heap (hon.block (w.heap.size + 1) (by omega) (by omega))
    have f0 := hA0.f 0
    have f1 := hA0.f 1
    have f2 := hA0.f 2
    have f3 := hA0.f 3
    obtain ⟨x0, x1, x2, x3⟩ := hA0.cZ
    have cq := hE.cell
    obtain ⟨y0, y1, y2, y3, hyz⟩ : ∃ y0 y1 y2 y3, Et.zero = ⟨y0, y1, y2, y3⟩ := ⟨_, _, _, _, rfl⟩
    rw [hyz] at hA HFI
    clear hyz
    obtain ⟨u0, u1, u2, u3⟩ := hA.c
    obtain ⟨k0, k1, k2, k3, hAp, hBp⟩ := hA0.put4 ⟨y0, y1, y2, y3⟩
    dsimp only at u0 u1 u2 u3 k0 k1 k2 k3 hBp hAp
    have hBw : Below w.heap.size w W := hBW.trans (hon.below (by omega) (by rintro j (rfl | rfl) <;> omega))
    have HBB := Lib.hid (hBw.trans (hBp.mono (by omega)))
    have HKD := Lib.hid hKD
    have HAp := Lib.hid hAp
    have hset := put4_other W (w.heap.size + 1) (.string y0) (.int .u32 (y1 : Int)) (.int .i64 (y2 : Int)) (.int .i64 (y3 : Int))
    have HSET := Lib.hid hset
    clear hset hno hon hA hA0 hE hBw hKD hAp hBp hst hx0 hr0 hf0 he0 hn0 hBW hRi hN HZ HB0 HS hfn
    gi_wp2
    gi_region
    all_goals
      gi_wp2
      refine ⟨by simp, .inl ⟨_, _, rfl, run_takeDeferred ((HSET.out D2 (by omega)).trans HKD.out), ?_⟩⟩
      refine ⟨_, results_et rfl _ _ rfl (HAp.out.of_heap (World.putObj_heap_other (by omega))), ?_⟩
      exact HFI.out _ (below_put HBB.out.drew (b := D2) (by omega) _)
  case stop =>
    rintro D2 c k W hD hk ⟨rfl, heq, hno, hon, hA, hE⟩ hKD
    have hidx : idx L name = k := idx_eq h.1 hk heq
    have hEE : findEo (some L) name = 0 := find_zero.2 ⟨h1, by rw [hidx]; exact hk⟩
    have hTT : fndT (some L) name = etAt L k := by
      have : findE L name = 0 := hEE
      unfold fndT
      simp only [this, if_true, hidx]
    have HFI := Lib.hid (fun W (hB : Below w.heap.size w W) => fnd_end (D := some L) (name := name) (w := w) (W := W) (t := etAt L k) (n := 0) hTT hEE hB)
    have hsz := hon.size
    have hA0 : AtT W (w.heap.size + 1) Et.zero := hr0.of_heap (hon.block (w.heap.size + 1) (by omega) (by omega))
    have f0 := hA0.f 0
    have f1 := hA0.f 1
    have f2 := hA0.f 2
    have f3 := hA0.f 3
    obtain ⟨x0, x1, x2, x3⟩ := hA0.cZ
    have cq := hE.cell
    obtain ⟨⟨y0, y1, y2, y3⟩, hyz⟩ : ∃ y, etAt L k = y := ⟨_, rfl⟩
    rw [hyz] at hA HFI
    clear hyz hTT hidx heq
    obtain ⟨u0, u1, u2, u3⟩ := hA.c
    obtain ⟨k0, k1, k2, k3, hAp, hBp⟩ := hA0.put4 ⟨y0, y1, y2, y3⟩
    dsimp only at u0 u1 u2 u3 k0 k1 k2 k3 hBp hAp
    have hBw : Below w.heap.size w W := hBW.trans (hon.below (by omega) (by rintro j (rfl | rfl) <;> omega))
    have HBB := Lib.hid (hBw.trans (hBp.mono (by omega)))
    have HKD := Lib.hid hKD
    have HAp := Lib.hid hAp
    have hset := put4_other W (w.heap.size + 1) (.string y0) (.int .u32 (y1 : Int)) (.int .i64 (y2 : Int)) (.int .i64 (y3 : Int))
    have HSET := Lib.hid hset
    clear hset hno hon hA hA0 hE hBw hKD hAp hBp hst hx0 hr0 hf0 he0 hn0 hBW hRi hN HZ HB0 HS hfn
    gi_wp2
    gi_region
    all_goals
      gi_wp2
      refine ⟨by simp, .inl ⟨_, _, rfl, run_takeDeferred ((HSET.out D2 (by omega)).trans HKD.out), ?_⟩⟩
      refine ⟨_, results_et rfl _ _ rfl (HAp.out.of_heap (World.putObj_heap_other (by omega))), ?_⟩
      exact HFI.out _ (below_put HBB.out.drew (b := D2) (by omega) _)
end
end Go.Proofs.Ytafbkagoajcmeaa.Dir
