/- Several texts in one, each under its own heading. -/
import Derived.Test.YteopcjfakhmifaaPk12
import Derived.Test.YteopcjfakhmifaaPk16
/- The first numbers of a map. -/
namespace Go.Proofs.Yteopcjfakhmifaa.Ino
open Go.RowKit
attribute [local go_sem] Oper.semAt_some
set_option linter.unusedVariables false
set_option linter.unusedSimpArgs false

theorem results_cellM {fn : Func} {r : Tmp} (h : fn.results = #[.cell r 39]) (tmps : Array Value) (w : World) {b : Nat} {m : M} (hp : tmps.getD r undef = .pointer (some ⟨b, 0, none⟩)) (hA : AtM w b m) :
    (results fn tmps).run Try.prog w = .ok m.val w := by
  obtain ⟨c0, c1, c2, c3, c4, c5⟩ := hA.c
  rw [Array.getD_eq_getD_getElem?] at hp
  simp [results, h, hp, go_sem, c0, c1, c2, c3, c4, c5]
  rfl
/-- a map laid over another one -/
theorem AtM.put6 {W : World} {b : Nat} {m : M} (h : AtM W b m) (t : M) :
    AtM ((((((W.setCell ⟨b, 0, none⟩ (.int .u32 t.a)).setCell ⟨b, 1, none⟩ (.int .u32 t.b)).setCell ⟨b, 2, none⟩ (.int .u32 t.c)).setCell ⟨b, 3, none⟩ (.int .u32 t.d)).setCell ⟨b, 4, none⟩ (.int .u32 t.e)).setCell ⟨b, 5, none⟩ (.int .u32 t.f)) b t ∧
    Below b W ((((((W.setCell ⟨b, 0, none⟩ (.int .u32 t.a)).setCell ⟨b, 1, none⟩ (.int .u32 t.b)).setCell ⟨b, 2, none⟩ (.int .u32 t.c)).setCell ⟨b, 3, none⟩ (.int .u32 t.d)).setCell ⟨b, 4, none⟩ (.int .u32 t.e)).setCell ⟨b, 5, none⟩ (.int .u32 t.f)) := by
  unfold AtM at h
  have h0 := heap_setCell_same W b 0 _ _ (.int .u32 t.a) h
  have h1 := heap_setCell_same _ b 1 _ _ (.int .u32 t.b) h0
  have h2 := heap_setCell_same _ b 2 _ _ (.int .u32 t.c) h1
  have h3 := heap_setCell_same _ b 3 _ _ (.int .u32 t.d) h2
  have h4 := heap_setCell_same _ b 4 _ _ (.int .u32 t.e) h3
  have h5 := heap_setCell_same _ b 5 _ _ (.int .u32 t.f) h4
  refine ⟨h5, ?_⟩
  exact ((((((Below.refl b W).setCell (p := ⟨b, 0, none⟩) (Nat.le_refl _) _).setCell (p := ⟨b, 1, none⟩) (Nat.le_refl _) _).setCell (p := ⟨b, 2, none⟩) (Nat.le_refl _) _).setCell (p := ⟨b, 3, none⟩) (Nat.le_refl _) _).setCell (p := ⟨b, 4, none⟩) (Nat.le_refl _) _).setCell (p := ⟨b, 5, none⟩) (Nat.le_refl _) _
theorem cutM_zero (m : M) : cutM m 0 = M.zero := by
  apply M.ext'
  intro i hi
  rw [cutM_at m 0 i hi, if_neg (by omega)]
  unfold M.zero M.at'
  split <;> rfl
theorem cutM_succ (m : M) (k : Nat) (hk : k < 6) : (cutM m k).set k (m.at' k) = cutM m (k + 1) := by
  apply M.ext'
  intro i hi
  rw [M.set_at _ _ _ _ hi, cutM_at m (k + 1) i hi, cutM_at m k i hi]
  by_cases h : k = i
  · subst h
    rw [if_pos rfl, if_pos (by omega)]
  · rw [if_neg h]
    by_cases h2 : i < k
    · rw [if_pos h2, if_pos (by omega)]
    · rw [if_neg h2, if_neg (by omega)]
theorem cutM_all (m : M) (k : Nat) (hk : 6 ≤ k) : cutM m 6 = cutM m k := by
  apply M.ext'
  intro i hi
  rw [cutM_at m 6 i hi, cutM_at m k i hi, if_pos hi, if_pos (by omega)]

theorem set6_other (W : World) (b : Nat) (u0 u1 u2 u3 u4 u5 : Value) (j : Nat) (hj : j ≠ b) : ((((((W.setCell ⟨b, 0, none⟩ u0).setCell ⟨b, 1, none⟩ u1).setCell ⟨b, 2, none⟩ u2).setCell ⟨b, 3, none⟩ u3).setCell ⟨b, 4, none⟩ u4).setCell ⟨b, 5, none⟩ u5).heap[j]? = W.heap[j]? :=
  (Below.heap_setCell _ _ _ _ hj).trans ((Below.heap_setCell _ _ _ _ hj).trans ((Below.heap_setCell _ _ _ _ hj).trans ((Below.heap_setCell _ _ _ _ hj).trans ((Below.heap_setCell _ _ _ _ hj).trans (Below.heap_setCell _ _ _ _ hj)))))
theorem below_putObj {n : Nat} {w W : World} (h : Below n w W) (D : Nat) (hD : n ≤ D) (o : Obj) : Below n w (W.putObj D o) := ⟨h.1, h.2, h.3, by simpa [World.putObj] using h.4, fun k hk => (World.putObj_heap_other (by omega)).trans (h.5 k hk)⟩

/-- what the rounds have laid -/
def FrI (W0 : World) (p c : Nat) (m : M) (k : Nat) (W : World) : Prop := k ≤ c ∧ Only (fun i => i = p) W0 W ∧ AtM W p (cutM m k)
theorem frI_own {W0 : World} {p c : Nat} {m : M} : OwnFrom W0.heap.size (FrI W0 p c m) := fun k W W' row hI hg hr =>
  ⟨hI.1, hI.2.1.grown hg (fun r e => .inl (hr r e).1), kept_cells hI.2.2 hg hr⟩
def FrIx (W0 : World) (p c : Nat) (m : M) (cd : Code) (k : Nat) (W : World) : Prop := cd = .exit 0 ∧ k = c ∧ FrI W0 p c m k W
theorem frIx_own {W0 : World} {p c : Nat} {m : M} (cd : Code) : OwnFrom W0.heap.size (FrIx W0 p c m cd) := fun k W W' row hI hg hr => ⟨hI.1, hI.2.1, frI_own k W W' row hI.2.2 hg hr⟩
def FrA (m : M) (c : Nat) (s : Nat) (k : Nat) (a' : Act) (W : World) : Prop :=
  a' = { tmps := #[m.val, .int .i64 c, .pointer (some ⟨s, 0, none⟩), .pointer (some ⟨s + 1, 0, none⟩), .pointer (some ⟨s + 1 + 1, 0, none⟩), .pointer (some ⟨s + 1 + 1 + 1, 0, none⟩), .int .i64 k, .int .u32 (m.at' k), m.val, .func (.func 83) #[] #[.pointer (some ⟨s + 1 + 1 + 1 + 1, 0, none⟩)], .int .i64 k, .int .u32 (m.at' k), undef, undef, undef, undef, undef, undef, undef], defers := [] }
theorem frA_own {m : M} {c s B : Nat} (k : Nat) (a' : Act) : OwnFrom B (fun (_ : Unit) W => FrA m c s k a' W) := fun _ W W' row hI hg hr => hI

section
set_option maxRecDepth 100000
set_option maxHeartbeats 4000000
theorem front_in (m : M) (c : Nat) (hc : c < 9000000) (w : World) :
    CallsIn Fence.wide 9 Try.prog 71 #[m.val, .int .i64 c] w (Ans w (cutM m c).val) := by
  have hfn : ∀ f, Fence.wide.fn f := fun _ => trivial
  refine callsIn_of_wp_marks Try.func71 rfl trivial ?_ rfl
  simp only [Try.ntmps71, List.size_toArray, List.length_cons, List.length_nil, Nat.reduceAdd, Nat.reduceSub, Array.replicate_succ, Array.replicate_zero, List.push_toArray, List.append_toArray, List.nil_append, List.cons_append]
  unfold M.val
  gi_wp2
  apply wide_scope
  gi_wp2
  apply wide_label
  gi_wp2_with (gi_at_call 78; refine (numbers_in _ m _).mono ?_; rintro e w' ⟨rfl, rfl⟩)
  unfold boxM
  obtain ⟨W0, hW0⟩ : ∃ W0, ((((w.alloc (.cells #[.int .u32 m.a, .int .u32 m.b, .int .u32 m.c, .int .u32 m.d, .int .u32 m.e, .int .u32 m.f] 39)).alloc (.cells #[.int .i64 c] 3)).alloc (.cells #[.int .u32 0, .int .u32 0, .int .u32 0, .int .u32 0, .int .u32 0, .int .u32 0] 39)).alloc (.cells #[.int .u32 0, .int .u32 0, .int .u32 0, .int .u32 0, .int .u32 0, .int .u32 0] 39)).alloc (.cells #[.int .u32 m.a, .int .u32 m.b, .int .u32 m.c, .int .u32 m.d, .int .u32 m.e, .int .u32 m.f] 39) = W0 := ⟨_, rfl⟩
  have hs0 : W0.heap.size = w.heap.size + 5 := by rw [← hW0]; simp
  have hBW : Below w.heap.size w W0 := by
    rw [← hW0]
    exact below_al (below_al (below_al (below_al (below_al (Below.refl _ _) _) _) _) _) _
  have hz : ∀ (W : World) (o : Obj) (k : Nat) (x : Obj), W.heap[k]? = some x → (W.alloc o).heap[k]? = some x := fun W o k x h => (Below.heap_alloc _ _ _ (Array.getElem?_eq_some_iff.1 h).1).trans h
  have hn : ∀ (W : World) (o : Obj) (n : Nat), W.heap.size = n → (W.alloc o).heap[n]? = some o := fun W o n h => h ▸ World.alloc_heap_new W o
  have hb1 : W0.cell? ⟨w.heap.size + 1, 0, none⟩ = some (.int .i64 c) := by
    have : W0.heap[w.heap.size + 1]? = some (.cells #[.int .i64 c] 3 (0, 0)) := by rw [← hW0]; exact hz _ _ _ _ (hz _ _ _ _ (hz _ _ _ _ (hn _ _ _ (by simp))))
    simp only [World.cell?, this]; rfl
  have hb2 : AtM W0 (w.heap.size + 1 + 1) M.zero := by rw [← hW0]; exact hz _ _ _ _ (hz _ _ _ _ (hn _ _ _ (by simp)))
  have hb3 : AtM W0 (w.heap.size + 1 + 1 + 1) M.zero := by rw [← hW0]; exact hz _ _ _ _ (hn _ _ _ (by simp))
  have hb4 : AtM W0 (w.heap.size + 1 + 1 + 1 + 1) m := by rw [← hW0]; exact hn _ _ _ (by simp)
  have hsq := numbers_steps _ m W0 hb4
  clear hz hn hb4
  rw [hW0]
  refine wpIn_rangeFunc_steps rfl (by decide) (gf := 83) (lb := #[.pointer (some ⟨w.heap.size + 1 + 1 + 1 + 1, 0, none⟩)]) rfl trivial (enters_of Try.func83 (by kernel_rfl) rfl)
    hsq any_t any_b (Below.refl _ _) (fun k => rfl)
    (FrI W0 (w.heap.size + 1 + 1 + 1) c m) (FrIx W0 (w.heap.size + 1 + 1 + 1) c m) frI_own frIx_own ⟨by omega, Only.refl _ _, by rw [cutM_zero]; exact hb3⟩
    (FrA m c w.heap.size) (fun k a' => frA_own k a') ?assign ?body ?done ?stop
  case assign =>
    intro l k W K hI hk hK
    have HK := Lib.hid (hK _ _ ((KeepsOthers.refl W).from _) trivial hI rfl)
    clear hK hI hsq
    unfold M.val at HK
    unfold encM
    gi_wp2
    exact HK.out
  case body =>
    rintro l k a' W hl hrec ⟨hkc, hon, hA⟩ rfl hk
    have hsz := hon.size
    have cq : W.cell? ⟨w.heap.size + 1, 0, none⟩ = some (.int .i64 c) := (World.cell?_of_block (w := W0) (hon.block (w.heap.size + 1) (by omega) (by omega))).trans hb1
    have ck := hA.cell hk
    have fk := hA.f k
    unfold M.val
    by_cases he : k = c
    · have heq : ((k : Int) == (c : Int)) = true := by simp [he]
      have HI := Lib.hid (show FrIx W0 (w.heap.size + 1 + 1 + 1) c m (.exit 0) k W from ⟨rfl, he, hkc, hon, hA⟩)
      clear hon hA hsq hrec hkc ck fk hb1 hb2 hb3 he
      gi_wp2
      exact ⟨(KeepsOthers.refl W).from _, HI.out⟩
    · have heq : ((k : Int) == (c : Int)) = false := beq_eq_false_iff_ne.2 (by omega)
      have hlt6 : (k : Int) < 6 := by omega
      obtain ⟨hp, hBp⟩ := hA.put hk (m.at' k)
      have ho : Only (fun i => i = w.heap.size + 1 + 1 + 1) W (W.setCell ⟨w.heap.size + 1 + 1 + 1, k, none⟩ (.int .u32 (m.at' k))) := (Only.refl (fun i => i = w.heap.size + 1 + 1 + 1) W).setCell (p := ⟨w.heap.size + 1 + 1 + 1, k, none⟩) (.inr (show w.heap.size + 1 + 1 + 1 = w.heap.size + 1 + 1 + 1 from rfl)) _
      rw [cutM_succ m k hk] at hp
      have HI := Lib.hid (show KeepsFrom W0.heap.size W (W.setCell ⟨w.heap.size + 1 + 1 + 1, k, none⟩ (.int .u32 (m.at' k))) ∧ Any W (W.setCell ⟨w.heap.size + 1 + 1 + 1, k, none⟩ (.int .u32 (m.at' k))) ∧ FrI W0 (w.heap.size + 1 + 1 + 1) c m (k + 1) (W.setCell ⟨w.heap.size + 1 + 1 + 1, k, none⟩ (.int .u32 (m.at' k))) from
        ⟨keeps_of_only _ ho (by rintro j rfl; exact ⟨_, _, _, hA⟩), trivial, by omega, hon.step ho (fun i _ hi => hi), hp⟩)
      clear hon hA hsq hrec hkc hb1 hb2 hb3 he hp ho hBp
      gi_wp2
      exact HI.out
  case done =>
    rintro D W hD ⟨hkc, hon, hA⟩ hKD
    have hsz := hon.size
    have hA0 : AtM W (w.heap.size + 1 + 1) M.zero := hb2.of_heap (hon.block (w.heap.size + 1 + 1) (by omega) (by omega))
    have f0 := hA0.f 0
    have f1 := hA0.f 1
    have f2 := hA0.f 2
    have f3 := hA0.f 3
    have f4 := hA0.f 4
    have f5 := hA0.f 5
    obtain ⟨x0, x1, x2, x3, x4, x5⟩ := hA0.c
    have hBw : ∀ W', Below w.heap.size W W' → Below w.heap.size w W' := fun W' h => (hBW.trans (hon.below (by omega) (by rintro j rfl; omega))).trans h
    have HBW := Lib.hid hBw
    rw [cutM_all m c (by omega)] at hA
    obtain ⟨X, hX⟩ : ∃ X, cutM m c = X := ⟨_, rfl⟩
    rw [hX] at hA ⊢
    obtain ⟨y0, y1, y2, y3, y4, y5⟩ := hA.c
    obtain ⟨hAp, hBp⟩ := hA0.put6 X
    have HKD := Lib.hid hKD
    have HAp := Lib.hid hAp
    have HBp := Lib.hid hBp
    have hDne : ∀ u0 u1 u2 u3 u4 u5, ((((((W.setCell ⟨w.heap.size + 1 + 1, 0, none⟩ u0).setCell ⟨w.heap.size + 1 + 1, 1, none⟩ u1).setCell ⟨w.heap.size + 1 + 1, 2, none⟩ u2).setCell ⟨w.heap.size + 1 + 1, 3, none⟩ u3).setCell ⟨w.heap.size + 1 + 1, 4, none⟩ u4).setCell ⟨w.heap.size + 1 + 1, 5, none⟩ u5).heap[D]? = W.heap[D]? := fun u0 u1 u2 u3 u4 u5 => set6_other W _ u0 u1 u2 u3 u4 u5 D (by omega)
    have HD := Lib.hid hDne
    have HDL := Lib.hid (show w.heap.size ≤ D ∧ ¬ D = w.heap.size + 1 + 1 by omega)
    have HX := Lib.hid hX
    clear hX hA hA0 hKD hAp hBp hDne hb1 hb2 hb3 hsq hBw hon hkc
    gi_wp2
    refine ⟨by simp, .inl ⟨_, _, rfl, run_takeDeferred ((HD.out _ _ _ _ _ _).trans HKD.out), ?_⟩⟩
    exact ⟨_, results_cellM rfl _ _ rfl (HAp.out.of_heap (World.putObj_heap_other (by have := HDL.out; omega))), by rw [← HX.out]; rfl, HBW.out _ (below_putObj (HBp.out.mono (by omega)) D (by have := HDL.out; omega) _)⟩
  case stop =>
    rintro D cd k W hD hk ⟨rfl, rfl, hkc, hon, hA⟩ hKD
    have hsz := hon.size
    have hA0 : AtM W (w.heap.size + 1 + 1) M.zero := hb2.of_heap (hon.block (w.heap.size + 1 + 1) (by omega) (by omega))
    have f0 := hA0.f 0
    have f1 := hA0.f 1
    have f2 := hA0.f 2
    have f3 := hA0.f 3
    have f4 := hA0.f 4
    have f5 := hA0.f 5
    obtain ⟨x0, x1, x2, x3, x4, x5⟩ := hA0.c
    have hBw : ∀ W', Below w.heap.size W W' → Below w.heap.size w W' := fun W' h => (hBW.trans (hon.below (by omega) (by rintro j rfl; omega))).trans h
    have HBW := Lib.hid hBw
    obtain ⟨X, hX⟩ : ∃ X, cutM m k = X := ⟨_, rfl⟩
    rw [hX] at hA ⊢
    obtain ⟨y0, y1, y2, y3, y4, y5⟩ := hA.c
    obtain ⟨hAp, hBp⟩ := hA0.put6 X
    have HKD := Lib.hid hKD
    have HAp := Lib.hid hAp
    have HBp := Lib.hid hBp
    have hDne : ∀ u0 u1 u2 u3 u4 u5, ((((((W.setCell ⟨w.heap.size + 1 + 1, 0, none⟩ u0).setCell ⟨w.heap.size + 1 + 1, 1, none⟩ u1).setCell ⟨w.heap.size + 1 + 1, 2, none⟩ u2).setCell ⟨w.heap.size + 1 + 1, 3, none⟩ u3).setCell ⟨w.heap.size + 1 + 1, 4, none⟩ u4).setCell ⟨w.heap.size + 1 + 1, 5, none⟩ u5).heap[D]? = W.heap[D]? := fun u0 u1 u2 u3 u4 u5 => set6_other W _ u0 u1 u2 u3 u4 u5 D (by omega)
    have HD := Lib.hid hDne
    have HDL := Lib.hid (show w.heap.size ≤ D ∧ ¬ D = w.heap.size + 1 + 1 by omega)
    have HX := Lib.hid hX
    clear hX hA hA0 hKD hAp hBp hDne hb1 hb2 hb3 hsq hBw hon hkc
    gi_wp2
    refine ⟨by simp, .inl ⟨_, _, rfl, run_takeDeferred ((HD.out _ _ _ _ _ _).trans HKD.out), ?_⟩⟩
    exact ⟨_, results_cellM rfl _ _ rfl (HAp.out.of_heap (World.putObj_heap_other (by have := HDL.out; omega))), by rw [← HX.out]; rfl, HBW.out _ (below_putObj (HBp.out.mono (by omega)) D (by have := HDL.out; omega) _)⟩
theorem front_any (m : M) (c : Nat) (hc : c < 9000000) (w : World) : Calls Try.prog 71 #[m.val, .int .i64 c] w (Ans w (cutM m c).val) := callsIn_wide.1 (front_in m c hc w)
end
end Go.Proofs.Yteopcjfakhmifaa.Ino
/- Which maps may be: the program's and the document's. -/
namespace Go.Proofs.Yteopcjfakhmifaa.Ino
open Go.RowKit
attribute [local go_sem] Oper.semAt_some
set_option linter.unusedVariables false
set_option linter.unusedSimpArgs false

section
set_option maxRecDepth 100000
set_option maxHeartbeats 1000000
theorem isKind_any (k : Int) (w : World) : Calls Try.prog 59 #[.int .i64 k] w fun e w' => e = .returned (.bool (decide (1 ≤ k ∧ k ≤ 3))) ∧ w = w' := by
  by_cases h1 : 1 ≤ k
  · by_cases h3 : k ≤ 3
    · rw [decide_eq_true (And.intro h1 h3)]
      go_enter Try.func59, Try.ntmps59
      go_wp2
      go_ret
      exact ⟨rfl, rfl⟩
    · rw [decide_eq_false (fun h => h3 h.2)]
      go_enter Try.func59, Try.ntmps59
      go_wp2
      go_ret
      exact ⟨rfl, rfl⟩
  · rw [decide_eq_false (fun h => h1 h.1)]
    go_enter Try.func59, Try.ntmps59
    go_wp2
    go_ret
    exact ⟨rfl, rfl⟩

theorem isMap_any (m : M) (s : Nat) (hs : s < 4294967296) (w : World) : Calls Try.prog 60 #[m.val, .int .u32 s] w (Ans w (.bool (decide (mapP m s)))) := by
  have hd := fun W => depth_any s W hs
  have hb := fun W => blocks_any s W hs
  have hm : mapP m s = if dpN s = 0 then m = cutM m (blN s) else ¬ m.a = 0 ∧ m = cutM m 1 := rfl
  have hbl := bl_le s hs
  generalize dpN s = d at hd hm
  generalize blN s = b at hb hm hbl
  have hA := AtM.new w m
  have hB := below_new w (boxM m)
  unfold boxM at hA hB
  obtain ⟨W0, hW0⟩ : ∃ W0, w.alloc (.cells #[.int .u32 m.a, .int .u32 m.b, .int .u32 m.c, .int .u32 m.d, .int .u32 m.e, .int .u32 m.f] 39) = W0 := ⟨_, rfl⟩
  rw [hW0] at hA hB
  have HC : Hid (∀ W, Below W0.heap.size W0 W → W.cell? ⟨w.heap.size, 0, none⟩ = some (.int .u32 m.a) ∧ W.cell? ⟨w.heap.size, 1, none⟩ = some (.int .u32 m.b) ∧ W.cell? ⟨w.heap.size, 2, none⟩ = some (.int .u32 m.c) ∧ W.cell? ⟨w.heap.size, 3, none⟩ = some (.int .u32 m.d) ∧ W.cell? ⟨w.heap.size, 4, none⟩ = some (.int .u32 m.e) ∧ W.cell? ⟨w.heap.size, 5, none⟩ = some (.int .u32 m.f)) := fun W hW => (hA.th hW).c
  have HB := Lib.hid hB
  obtain ⟨c0, c1, c2, c3, c4, c5⟩ := hA.c
  have hD1 : Below W0.heap.size W0 W0.drew := (Below.refl _ _).drew
  by_cases h0 : d = 0
  · have hq : ((d : Int) == 0) = true := by simp [h0]
    rw [if_pos h0] at hm
    have hE := fun W => eqlM m (cutM m b) W
    have hF := fun W => front_any m b (by omega) W
    have HM : Hid (decide (mapP m s) = decide (m = cutM m b)) := by unfold Hid; exact decide_eq_decide.2 (by rw [hm])
    generalize decide (m = cutM m b) = r at hE HM
    obtain ⟨X, hX⟩ : ∃ X, cutM m b = X := ⟨_, rfl⟩
    rw [hX] at hE hF
    unfold M.val at hE hF ⊢
    have HF := Lib.hid hF
    clear hF h0 hm hA hB hX hbl hs
    go_enter Try.func60, Try.ntmps60
    go_wp2_with (go_at_call 44; refine (hd _).mono ?_; rintro e w1 ⟨rfl, rfl⟩)
    go_region_held3 (fun w' => (w'.cell? ⟨w.heap.size, 0, none⟩ = some (.int .u32 m.a) ∧ w'.cell? ⟨w.heap.size, 1, none⟩ = some (.int .u32 m.b) ∧ w'.cell? ⟨w.heap.size, 2, none⟩ = some (.int .u32 m.c) ∧ w'.cell? ⟨w.heap.size, 3, none⟩ = some (.int .u32 m.d) ∧ w'.cell? ⟨w.heap.size, 4, none⟩ = some (.int .u32 m.e) ∧ w'.cell? ⟨w.heap.size, 5, none⟩ = some (.int .u32 m.f))) (first | exact HC.out _ hD1 | exact HC.out _ (by assumption)) (first
      | (go_at_call 32; (with_reducible refine Calls.mono (hb _) ?_); rintro e w1 ⟨rfl, rfl⟩; have := hD1)
      | (go_at_call 71; (with_reducible refine Calls.mono (HF.out _) ?_); rintro e w2 ⟨rfl, hBn⟩; have := below_th hD1 hBn))
    go_wp2
    go_ret
    exact ⟨by rw [HM.out]; rfl, below_th HB.out (by assumption)⟩
  · have hq : ((d : Int) == 0) = false := beq_eq_false_iff_ne.2 (by omega)
    rw [if_neg h0] at hm
    have hE := fun W => eqlM m (cutM m 1) W
    have hF := fun W => front_any m 1 (by omega) W
    by_cases ha : m.a = 0
    · have hz : ((m.a : Int) != 0) = false := by simp [ha]
      have HM : Hid (decide (mapP m s) = false) := by unfold Hid; exact decide_eq_false (by rw [hm]; exact fun h => h.1 ha)
      unfold M.val
      clear hE hF h0 hm hA hB hbl hs ha
      go_enter Try.func60, Try.ntmps60
      go_wp2_with (go_at_call 44; refine (hd _).mono ?_; rintro e w1 ⟨rfl, rfl⟩)
      go_quiet (fail)
      go_wp2
      go_ret
      exact ⟨by rw [HM.out]; rfl, below_drewN HB.out _⟩
    · have hz : ((m.a : Int) != 0) = true := by simp [ha]
      have HM : Hid (decide (mapP m s) = decide (m = cutM m 1)) := by unfold Hid; exact decide_eq_decide.2 (by rw [hm]; exact ⟨fun h => h.2, fun h => ⟨ha, h⟩⟩)
      generalize decide (m = cutM m 1) = r at hE HM
      obtain ⟨X, hX⟩ : ∃ X, cutM m 1 = X := ⟨_, rfl⟩
      rw [hX] at hE hF
      unfold M.val at hE hF ⊢
      have HF := Lib.hid hF
      clear hF h0 hm hA hB hX hbl hs ha
      go_enter Try.func60, Try.ntmps60
      go_wp2_with (go_at_call 44; refine (hd _).mono ?_; rintro e w1 ⟨rfl, rfl⟩)
      go_region_held3 (fun w' => (w'.cell? ⟨w.heap.size, 0, none⟩ = some (.int .u32 m.a) ∧ w'.cell? ⟨w.heap.size, 1, none⟩ = some (.int .u32 m.b) ∧ w'.cell? ⟨w.heap.size, 2, none⟩ = some (.int .u32 m.c) ∧ w'.cell? ⟨w.heap.size, 3, none⟩ = some (.int .u32 m.d) ∧ w'.cell? ⟨w.heap.size, 4, none⟩ = some (.int .u32 m.e) ∧ w'.cell? ⟨w.heap.size, 5, none⟩ = some (.int .u32 m.f))) (first | exact HC.out _ hD1 | exact HC.out _ (by assumption)) (first
        | (go_at_call 71; (with_reducible refine Calls.mono (HF.out _) ?_); rintro e w2 ⟨rfl, hBn⟩; have := below_th hD1 hBn))
      go_wp2
      go_ret
      exact ⟨by rw [HM.out]; rfl, below_th HB.out (by assumption)⟩
end
end Go.Proofs.Yteopcjfakhmifaa.Ino
