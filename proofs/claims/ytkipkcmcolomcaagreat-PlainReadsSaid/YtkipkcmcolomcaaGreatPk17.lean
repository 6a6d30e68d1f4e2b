/- Several texts in one, each under its own heading. -/
import Derived.Test.YtkipkcmcolomcaaGreatPk16
import Derived.Scope
import Derived.Lib.SliceRun
import Derived.Test.YtkipkcmcolomcaaGreatPk11
import Derived.Deep.AppendLies
import Derived.Maps.AppendAt
import Derived.Test.YtkipkcmcolomcaaGreatPk01
import Derived.Test.YtkipkcmcolomcaaGreatPk08
import Derived.Maps.Own
import Derived.Maps.OwnOps
import Derived.Maps.OwnSet
import Derived.Maps.Views
import Derived.WalkKit
/- Split of the program. -/
namespace Go.Proofs.YtkipkcmcolomcaaGreat.Pth
open Go.RowKit Nam
attribute [local go_sem] Oper.semAt_some
set_option linter.unusedVariables false
set_option linter.unusedSimpArgs false
theorem pre_iff (s : ByteArray) : Lib.hasPrefix s.data.toList [47] = true ↔ 0 < s.size ∧ sb s 0 = 47 := by
  have hz := size_list s
  unfold sb Lib.hasPrefix
  cases h : s.data.toList with
  | nil =>
    rw [h] at hz
    have h0 : s.size = 0 := hz.symm
    simp [h0]
  | cons c r =>
    rw [h] at hz
    have h0 : 0 < s.size := by rw [← hz]; simp
    constructor
    · intro h1
      have hc : c = 47 := by simpa [List.isPrefixOf] using (by simpa [List.isPrefixOf] using h1 : (47 : UInt8) = c).symm
      exact ⟨h0, by rw [hc]; rfl⟩
    · rintro ⟨_, h1⟩
      have hc : c = 47 := UInt8.toNat_inj.1 h1
      rw [hc]
      rfl
theorem wide_scope {n : Nat} {P : Program} {c : Code} {Q : Exit → Act → World → Prop} {a : Act} {w : World} (h : c.wpIn Fence.wide n P (Exit.noGoto Q) a w) : (Code.scope c).wpIn Fence.wide n P Q a w := wpIn_wide.2 (wp_scope_straight (wpIn_wide.1 h))
theorem wide_label {n l : Nat} {P : Program} {Q : Exit → Act → World → Prop} {a : Act} {w : World} (h : Q .normal a w) : (Code.label l).wpIn Fence.wide n P Q a w := wpIn_wide.2 (wp_label h)
theorem below_putObj {n : Nat} {w W : World} (h : Below n w W) (D : Nat) (hD : n ≤ D) (o : Obj) : Below n w (W.putObj D o) := ⟨h.1, h.2, h.3, by simpa [World.putObj] using h.4, fun k hk => (World.putObj_heap_other (by omega)).trans (h.5 k hk)⟩
/-- a value in a box -/
def CellAt (W : World) (q : Nat) (t : TypeId) (v : Value) : Prop := W.heap[q]? = some (.cells #[v] t (0, 0))
theorem CellAt.lt {W : World} {q : Nat} {t : TypeId} {v : Value} (h : CellAt W q t v) : q < W.heap.size := (Array.getElem?_eq_some_iff.1 h).1
theorem CellAt.c {W : World} {q : Nat} {t : TypeId} {v : Value} (h : CellAt W q t v) : W.cell? ⟨q, 0, none⟩ = some v := by
  unfold CellAt at h
  simp only [World.cell?, h]
  rfl
theorem CellAt.f {W : World} {q : Nat} {t : TypeId} {v : Value} (h : CellAt W q t v) : W.frozen? ⟨q, 0, none⟩ = false := by
  unfold CellAt at h
  simp [World.frozen?, h]
theorem CellAt.of_heap {W W' : World} {q : Nat} {t : TypeId} {v : Value} (h : CellAt W q t v) (e : W'.heap[q]? = W.heap[q]?) : CellAt W' q t v := e.trans h
theorem CellAt.th {W W' : World} {q : Nat} {t : TypeId} {v : Value} (h : CellAt W q t v) (hB : Below W.heap.size W W') : CellAt W' q t v := h.of_heap (hB.block q h.lt)
theorem CellAt.put {W : World} {q : Nat} {t : TypeId} {v : Value} (h : CellAt W q t v) (v' : Value) : CellAt (W.setCell ⟨q, 0, none⟩ v') q t v' := by
  unfold CellAt at h ⊢
  rw [heap_setCell_same _ _ _ _ _ _ h]
  rfl
theorem CellAt.other {W : World} {q r : Nat} {t : TypeId} {v : Value} (h : CellAt W q t v) (hr : r ≠ q) (v' : Value) : CellAt (W.setCell ⟨r, 0, none⟩ v') q t v := h.of_heap (Below.heap_setCell _ _ _ _ (fun e => hr e.symm))
/-- a slice as long as its row -/
theorem Strs.tight {w : World} {a : Option Addr} {n cap : Nat} {X : List ByteArray} (h : Strs w (.slice a n cap) X) : Strs w (.slice a n n) X := by
  obtain ⟨a', cap', e, h2, ⟨h3, h3b⟩, h4, h5⟩ := h
  cases e
  exact ⟨a, X.length, rfl, Nat.le_refl _, ⟨by omega, fun e => by have := h3b e; omega⟩, h4, h5⟩
/-- the last one taken away -/
theorem own_drop {w : World} {base n cap : Nat} {a : Option Addr} {L : List ByteArray} (h : w.ownsRow base 9 1 (.slice a n cap) L.length (L.map .string)) : w.ownsRow base 9 1 (.slice a (n - 1) cap) L.dropLast.length (L.dropLast.map .string) := by
  refine ⟨by simp, ?_⟩
  rcases h.2 with ⟨h1, h2⟩ | ⟨g, cap2, cur, e, h1, h2, h3, h4, h5, h6⟩
  · obtain ⟨rfl, rfl, rfl⟩ : a = none ∧ n = 0 ∧ cap = 0 := by simpa using h1
    exact .inl ⟨rfl, by rw [List.length_dropLast]; omega⟩
  · obtain ⟨rfl, rfl, rfl⟩ : a = some ⟨g, 0, none⟩ ∧ n = L.length ∧ cap = cap2 := by simpa using e
    refine .inr ⟨g, cap, cur, by rw [List.length_dropLast], h1, h2, by rw [List.length_dropLast]; omega, h4, h5, ?_⟩
    rw [List.map_dropLast, ← h6, List.length_dropLast, List.dropLast_eq_take, List.take_take]
    congr 1
    have : cur.toList.length = cap * 1 := by simpa using h5
    rw [List.length_take]
    omega
theorem own_set {w : World} {base n cap : Nat} {a : Option Addr} {xs : List Value} {q : Nat} {u : Value} (h : w.ownsRow base 9 1 (.slice a n cap) n xs) (hq : q < base) : (w.setCell ⟨q, 0, none⟩ u).ownsRow base 9 1 (.slice a n cap) n xs :=
  h.kept (row := some q) ⟨rfl, rfl, rfl, (KeepsWalks.setCell w ⟨q, 0, none⟩ u).size, fun j hj hn => Below.heap_setCell _ _ _ _ (fun e => hn (by rw [e]))⟩ (by
    cases hv : (Value.slice a n cap).ownBlock with
    | none => exact .inl rfl
    | some g => exact .inr (fun e => by have := (h.lt g hv).1; cases e; omega))
/-- a region's plain walk holds in a round, too -/
theorem wpIn_round_any {P : Program} {ops : Array Oper} {Q : Exit → Act → World → Prop} {id l0 nF : Nat} {a : Act} {w : World} (hm : P.follows .mixedOrders = true) (hd : noDefer ops = true) (hQ : ¬ LetsOut Q)
    (h : wpAny P .any ops Q ops.size (Array.replicate ops.size false) a w.drew) : (Code.region id ops true).wpIn (Fence.wide.inRound l0) nF P Q a w := wpIn_region_any hm (anyIn_of_any hd hQ _ _ _ _ h)
/-- between two rounds -/
structure SplI (P : List ByteArray) (w W0 : World) (k : Nat) (W : World) : Prop where
  got : ∃ (L : List ByteArray) (a : Option Addr) (cap : Nat), goP (P.take k) (some []) = some L ∧ L.length ≤ k ∧ CellAt W w.heap.size 54 (.slice a L.length cap) ∧ W.ownsRow W0.heap.size 9 1 (.slice a L.length cap) L.length (L.map .string)
  rt : CellAt W (w.heap.size + 1) 4 (.bool true)
  below : Below w.heap.size w W
  size : W0.heap.size ≤ W.heap.size
theorem own_row {W W' : World} {B : Nat} {v : Value} {n : Nat} {xs : List Value} {row : Option Nat} (h : W.ownsRow B 9 1 v n xs) (hg : W.grownBy W' row) (hr : ∀ r, row = some r → B ≤ r ∧ ∃ o : Obj, W.heap[r]? = some o ∧ o.isCells = false) : W'.ownsRow B 9 1 v n xs := by
  refine h.kept hg ?_
  rcases h.2 with ⟨rfl, _⟩ | ⟨g, cap, cur, rfl, _, hgb, _⟩
  · exact .inl rfl
  · refine .inr fun e' => ?_
    obtain ⟨_, o, ho, hc⟩ := hr g (by simpa [Value.ownBlock] using e'.symm)
    rw [hgb] at ho; cases ho; cases hc
theorem splI_own {P : List ByteArray} {w W0 : World} (hz : w.heap.size ≤ W0.heap.size) : OwnFrom W0.heap.size (SplI P w W0) := fun k W W' row h hg hr => by
  obtain ⟨L, a, cap, h1, h2, h3, h4⟩ := h.got
  exact ⟨⟨L, a, cap, h1, h2, kept_cells h3 hg hr, own_row h4 hg hr⟩, kept_cells h.rt hg hr, h.below.grown hg h.below.size (fun r e => Nat.le_trans hz (hr r e).1), Nat.le_trans h.size hg.size⟩
/-- left by a piece that is no name -/
structure SplX (P : List ByteArray) (w W0 : World) (c : Code) (k : Nat) (W : World) : Prop where
  code : c = .exit 0
  bad : goP P (some []) = none
  got : ∃ (a : Option Addr) (n cap : Nat), CellAt W w.heap.size 54 (.slice a n cap) ∧ n ≤ 1001
  rt : CellAt W (w.heap.size + 1) 4 (.bool false)
  below : Below w.heap.size w W
  size : W0.heap.size ≤ W.heap.size
theorem splX_own {P : List ByteArray} {w W0 : World} (hz : w.heap.size ≤ W0.heap.size) (c : Code) : OwnFrom W0.heap.size (SplX P w W0 c) := fun k W W' row h hg hr => by
  obtain ⟨a, n, cap, h1, h2⟩ := h.got
  exact ⟨h.code, h.bad, ⟨a, n, cap, kept_cells h1 hg hr, h2⟩, kept_cells h.rt hg hr, h.below.grown hg h.below.size (fun r e => Nat.le_trans hz (hr r e).1), Nat.le_trans h.size hg.size⟩
def ActA (tmps : Nat → Array Value) (k : Nat) (a' : Act) (W : World) : Prop := a' = { tmps := tmps k, defers := [] }
theorem actA_own {B : Nat} {tmps : Nat → Array Value} (k : Nat) (a' : Act) : OwnFrom B (fun (_ : Unit) W => ActA tmps k a' W) := fun _ W W' row h _ _ => h
theorem results_two {fn : Func} {r t : Tmp} (h : fn.results = #[.tmp r, .tmp t]) (tmps : Array Value) (w : World) : (results fn tmps).run Tryz.prog w = .ok (.tuple #[tmps.getD r undef, tmps.getD t undef]) w := by
  simp [results, h, go_sem]
section
set_option maxRecDepth 100000
set_option maxHeartbeats 8000000
theorem clone_any (s : ByteArray) (w : World) (hs : s.size ≤ 281474976710656) : Calls Tryz.prog 47 #[.string s] w (Ans w (.string s)) := by
  have h := Lib.hid (Shf.Tryz.stringslite_Clone s w hs)
  clear hs
  go_enter Tryz.func47, Tryz.ntmps47
  go_wp2_with (go_at_call 81; (with_reducible refine Calls.mono h.out ?_); rintro e w1 ⟨rfl, hB⟩)
  go_ret
  exact ⟨rfl, hB⟩
theorem split_in (s : ByteArray) (w : World) (hp : pathP s) :
    CallsIn Fence.wide 9 Tryz.prog 77 #[.string s] w (SplitPost s w) := by
  have hfn : ∀ f, Fence.wide.fn f := fun _ => trivial
  have hz := hp.1
  have g1 : ¬ (1000 : Int) < (s.size : Int) := by omega
  obtain ⟨i0, hin, hz0, hz1, hz2⟩ := info_parts infoStr
  have hPre := fun W => Shf.Tryz.strings_HasPrefix s ⟨#[47]⟩ W
  rw [show Lib.hasPrefix s.data.toList (⟨#[47]⟩ : ByteArray).data.toList = true from (pre_iff s).2 ⟨hp.2.1, hp.2.2⟩] at hPre
  have HPRE := Lib.hid hPre
  have HBAD : Hid (goP (pcs s) (some []) = none → ∀ w', Below w.heap.size w w' → SplitPost s w (.returned (.tuple #[.slice none 0 0, .int .i64 120])) w') := fun h w' hB => split_bad (by unfold splitD; rw [if_pos hp, h]; rfl) hB
  have HBIG : Hid (∀ l, goP (pcs s) (some []) = some l → 40 < l.length → ∀ w', Below w.heap.size w w' → SplitPost s w (.returned (.tuple #[.slice none 0 0, .int .i64 120])) w') := fun l h h4 w' hB => split_bad (by unfold splitD; rw [if_pos hp, h]; exact if_neg (by omega)) hB
  have HYES : Hid (∀ l, goP (pcs s) (some []) = some l → ¬ 40 < l.length → ∀ v w', Strs w' v l → Below w.heap.size w w' → SplitPost s w (.returned (.tuple #[v, .int .i64 0])) w') := fun l h h4 v w' hv hB => split_good (by unfold splitD; rw [if_pos hp, h]; exact if_pos (by omega)) hv hB
  have hmany := pcs_many s
  have HSZ : Hid (∀ k, k < (pcs s).length → ((pcs s).getD k ⟨#[]⟩).size ≤ 1000) := fun k hk => Nat.le_trans (pcs_size (getD_mem hk)) hz
  have hSt := Lib.hid (fun Bs W hS => pieces_steps Bs s (pcs s) rfl (by omega) W hS)
  generalize pcs s = P at *
  have hPn : P.length ≤ 1001 := by omega
  clear hPre hmany hp
  refine callsIn_of_wp_marks Tryz.func77 rfl trivial ?_ rfl
  simp only [Tryz.ntmps77, List.size_toArray, List.length_cons, List.length_nil, Nat.reduceAdd, Nat.reduceSub, Array.replicate_succ, Array.replicate_zero, List.push_toArray, List.append_toArray, List.nil_append, List.cons_append]
  gi_wp2
  apply wide_scope
  gi_wp2_with (gi_at_call 110; refine (callsIn_wide.2 (HPRE.out _)).mono ?_; rintro e w1 ⟨rfl, rfl⟩)
  apply wide_label
  gi_wp2_with (gi_at_call 111; refine (pieces_in _ _ _).mono ?_; rintro e w' ⟨rfl, rfl⟩)
  obtain ⟨W0, hW0⟩ : ∃ W0, ((w1.alloc (.cells #[.slice none 0 0] 54)).alloc (.cells #[.bool true] 4)).alloc (.cells #[.string s] 9) = W0 := ⟨_, rfl⟩
  have hs0 : W0.heap.size = w1.heap.size + 3 := by rw [← hW0]; simp
  have hBW : Below w1.heap.size w1 W0 := by
    rw [← hW0]
    exact below_al (below_al (below_new w1 _) _) _
  have hz : ∀ (W : World) (o : Obj) (k : Nat) (x : Obj), W.heap[k]? = some x → (W.alloc o).heap[k]? = some x := fun W o k x h => (Below.heap_alloc _ _ _ (Array.getElem?_eq_some_iff.1 h).1).trans h
  have hn : ∀ (W : World) (o : Obj) (n : Nat), W.heap.size = n → (W.alloc o).heap[n]? = some o := fun W o n h => h ▸ World.alloc_heap_new W o
  have b0 : CellAt W0 w1.heap.size 54 (.slice none 0 0) := by rw [← hW0]; exact hz _ _ _ _ (hz _ _ _ _ (hn _ _ _ rfl))
  have b1 : CellAt W0 (w1.heap.size + 1) 4 (.bool true) := by rw [← hW0]; exact hz _ _ _ _ (hn _ _ _ (by simp))
  have b2 : CellAt W0 (w1.heap.size + 1 + 1) 9 (.string s) := by rw [← hW0]; exact hn _ _ _ (by simp)
  have hst := hSt.out _ _ b2.c
  have hI0 : SplI P w1 W0 0 W0 := ⟨⟨[], none, 0, rfl, Nat.le_refl _, b0, World.ownsRow_nil _ _ _ _⟩, b1, hBW, Nat.le_refl _⟩
  rw [hW0]
  clear hW0 hz hn b0 b1 b2
  refine wpIn_rangeFunc_steps rfl (by decide) (gf := 139) (lb := #[.pointer (some ⟨w1.heap.size + 1 + 1, 0, none⟩)]) rfl trivial (enters_of Tryz.func139 (by kernel_rfl) rfl)
    hst (fun _ _ => trivial) (fun _ _ _ _ _ _ _ _ => trivial) (Below.refl _ _) (fun _ => rfl)
    (SplI P w1 W0) (SplX P w1 W0) (splI_own (by omega)) (splX_own (by omega)) hI0
    (ActA (fun k => #[.string s, undef, .slice none 0 0, .int .i64 0, .pointer (some ⟨w1.heap.size, 0, none⟩), .pointer (some ⟨w1.heap.size + 1, 0, none⟩), .string (P.getD k ⟨#[]⟩), undef, .string s, .bool true, .bool false, .bool false, .string s, .int .i64 s.size, .bool (decide ((1000 : Int) < s.size)), .bool (decide ((1000 : Int) < s.size)), .string s, .func (.func 139) #[] #[.pointer (some ⟨w1.heap.size + 1 + 1, 0, none⟩)], .string (P.getD k ⟨#[]⟩), undef, undef, undef, undef, undef, undef, undef, undef, undef, undef, undef, undef, undef, undef, undef, undef, undef, undef, undef, undef, undef, undef, undef, undef, undef, undef, undef, undef, undef, undef, undef, undef, undef, undef, undef, undef])) (fun k a' => actA_own k a') ?assign ?body ?done ?stop
  case assign =>
    intro l k W K hI hk hK
    have HK := Lib.hid (hK _ _ (KeepsFrom.refl _ _) trivial hI rfl)
    unfold encP
    clear hK hI hst
    dsimp only at HK
    generalize P.getD k ⟨#[]⟩ = x at HK ⊢
    gi_wp2
    exact HK.out
  case body =>
    rintro l k a' W hl hrec hI rfl hk
    obtain ⟨L, a, cap, hG, hLk, hc, hown⟩ := hI.got
    obtain ⟨_, _, e0, hcap1, hcap2⟩ := (Strs.own hown).parts
    cases e0
    have hS := goP_next hk hG
    have hxz := HSZ.out k hk
    have hsz := hI.size
    have hrt := hI.rt
    have hbel := hI.below
    have hbz := hbel.size
    have c4 := hc.c
    have f4 := hc.f
    dsimp only
    generalize P.getD k ⟨#[]⟩ = x at hS hxz ⊢
    rw [stp_some] at hS
    by_cases k1 : x = ⟨#[]⟩
    · rw [if_pos (Or.inl k1)] at hS
      have HF : Hid (SplI P w1 W0 (k + 1) W) := ⟨⟨L, a, cap, hS, by omega, hc, hown⟩, hrt, hbel, hsz⟩
      have q0 : (x.toList == []) = true := by rw [k1, Lib.toList_data]; rfl
      clear hS k1 hI hst hG hc hown hrt hbel hrec
      gi_wp2
      exact ⟨KeepsFrom.refl _ _, trivial, HF.out⟩
    have q0 : (x.toList == []) = false := lit_no2 k1
    by_cases k2 : x = dot
    · rw [if_pos (Or.inr k2)] at hS
      have HF : Hid (SplI P w1 W0 (k + 1) W) := ⟨⟨L, a, cap, hS, by omega, hc, hown⟩, hrt, hbel, hsz⟩
      have q1 : (x.toList == [46]) = true := by rw [k2, Lib.toList_data]; rfl
      clear hS k1 k2 hI hst hG hc hown hrt hbel hrec
      gi_wp2
      exact ⟨KeepsFrom.refl _ _, trivial, HF.out⟩
    have q1 : (x.toList == [46]) = false := lit_no2 k2
    rw [if_neg (fun h => h.elim k1 k2)] at hS
    by_cases k3 : x = dots
    · rw [if_pos k3] at hS
      have q2 : (x.toList == [46, 46]) = true := by rw [k3, Lib.toList_data]; rfl
      have hd := own_drop hown
      obtain ⟨N, hN⟩ : ∃ N, L.length = N := ⟨_, rfl⟩
      have HF : Hid (KeepsFrom W0.heap.size W (W.setCell ⟨w1.heap.size, 0, none⟩ (.slice a (N - 1) cap)) ∧ SplI P w1 W0 (k + 1) (W.setCell ⟨w1.heap.size, 0, none⟩ (.slice a (N - 1) cap))) := by
        have hon : Only (fun i => i = w1.heap.size) W (W.setCell ⟨w1.heap.size, 0, none⟩ (.slice a (N - 1) cap)) := Only.setCell (p := ⟨w1.heap.size, 0, none⟩) (Only.refl (fun i => i = w1.heap.size) W) (.inr rfl) _
        rw [hN] at hd
        refine ⟨keeps_of_only _ hon (by rintro j rfl; exact ⟨_, _, _, hc⟩), ⟨⟨L.dropLast, a, cap, hS, by rw [List.length_dropLast]; omega, ?_, ?_⟩, hrt.other (by omega) _, hbel.trans (hon.below (n := w1.heap.size) (by omega) (by rintro j rfl; omega)), Nat.le_trans hsz hon.size⟩⟩
        · rw [List.length_dropLast, hN]; exact hc.put _
        · rw [List.length_dropLast, hN] at hd ⊢
          exact own_set hd (by omega)
      rw [hN] at c4 hcap1 hLk
      have hw1 : IntKind.i64.wrap ((N : Int) - 1) = (N : Int) - 1 := by rw [IntKind.wrap_i64] <;> omega
      have hw2 : max ((N : Int) - 1) (0 : Int) = ((N - 1 : Nat) : Int) := by omega
      have hm1 : N - 1 ≤ cap := by omega
      have hm2 : ((N - 1 : Nat) : Int) ≤ (cap : Int) := by omega
      obtain ⟨m, hm⟩ : ∃ m, N - 1 = m := ⟨_, rfl⟩
      rw [hm] at HF hw2 hm1 hm2
      have HM := Lib.hid hm
      clear hS k1 k2 k3 hI hst hG hc hown hrt hbel hrec hd hN hm
      gi_wp2
      exact ⟨HF.out.1, trivial, HF.out.2⟩
    have q2 : (x.toList == [46, 46]) = false := lit_no2 k3
    rw [if_neg k3] at hS
    have hI9 := fun W => isName_all x W
    by_cases k4 : nameP x
    · rw [if_pos k4] at hS
      rw [nameB_yes k4] at hI9
      have HI9 := Lib.hid hI9
      have HCL := Lib.hid (fun W => clone_any x W (by omega))
      have hfin : ∀ W2 v' W4, Below W.heap.size W W2 → W4.ownsRow W0.heap.size 9 1 v' (L.length + 1) (L.map .string ++ [.string x]) → (W2.alloc (.cells #[.string x] 9)).grownBy W4 (Value.slice a L.length cap).ownBlock → (∃ g c2, v' = .slice (some ⟨g, 0, none⟩) (L.length + 1) c2) → CellAt W4 w1.heap.size 54 (.slice a L.length cap) ∧ (KeepsFrom W0.heap.size W (W4.setCell ⟨w1.heap.size, 0, none⟩ v') ∧ SplI P w1 W0 (k + 1) (W4.setCell ⟨w1.heap.size, 0, none⟩ v')) := fun W2 v' W4 h2 ho hg hsh => by
        have hvb : ∀ r, (Value.slice a L.length cap).ownBlock = some r → W0.heap.size ≤ r ∧ ∃ c t f, W.heap[r]? = some (.cells c t f) := fun r e => by
          rcases hown.2 with ⟨e1, _⟩ | ⟨g2, cap2, cur, e1, hb2, hgg, _⟩
          · rw [e1] at e; cases e
          · rw [e1] at e
            have e2 : g2 = r := by simpa [Value.ownBlock] using e
            rw [← e2]
            exact ⟨hb2, _, _, _, hgg⟩
        have hon2 : Only (fun i => i = w1.heap.size ∨ (Value.slice a L.length cap).ownBlock = some i) W W4 := ((Only.of_below h2).alloc (.cells #[.string x] 9)).grown hg (fun r e => .inr (.inr e))
        have hne : ∀ r, (Value.slice a L.length cap).ownBlock = some r → w1.heap.size < r ∧ w1.heap.size + 1 < r := fun r e => by have := (hvb r e).1; omega
        have hc4 : CellAt W4 w1.heap.size 54 (.slice a L.length cap) := by
          have h3 := (hc.th h2).th (below_new W2 (.cells #[.string x] 9))
          exact h3.of_heap (hg.block _ h3.lt (fun e => by have := (hne _ e.symm).1; omega))
        have hr4 : CellAt W4 (w1.heap.size + 1) 4 (.bool true) := by
          have h3 := (hrt.th h2).th (below_new W2 (.cells #[.string x] 9))
          exact h3.of_heap (hg.block _ h3.lt (fun e => by have := (hne _ e.symm).2; omega))
        have hon5 : Only (fun i => i = w1.heap.size ∨ (Value.slice a L.length cap).ownBlock = some i) W (W4.setCell ⟨w1.heap.size, 0, none⟩ v') := hon2.setCell (p := ⟨w1.heap.size, 0, none⟩) (.inr (.inl rfl)) _
        obtain ⟨g, c2, rfl⟩ := hsh
        refine ⟨hc4, keeps_of_only _ hon5 (fun j hj => ?_), ⟨⟨L ++ [x], some ⟨g, 0, none⟩, c2, hS, by rw [List.length_append]; show L.length + 1 ≤ _; omega, ?_, ?_⟩, hr4.other (by omega) _, hbel.trans (hon5.below (n := w1.heap.size) (by omega) (fun i hb => ?_)), Nat.le_trans hsz hon5.size⟩⟩
        · rcases hj with rfl | hj
          · exact ⟨_, _, _, hc⟩
          · exact (hvb j hj).2
        · rw [List.length_append]; exact hc4.put _
        · rw [List.length_append, List.map_append]
          exact own_set ho (by omega)
        · rcases hb with rfl | hb
          · omega
          · have := hne i hb; omega
      have HFIN := Lib.hid hfin
      have hk9 : L.length ≤ 1001 := by omega
      have HOW : Hid (∀ W2, Below W.heap.size W W2 → (W2.alloc (.cells #[.string x] 9)).ownsRow W0.heap.size 9 1 (.slice a L.length cap) L.length (L.map .string)) := fun W2 h => (own_row hown (grown_of_below h) (fun r e => by cases e)).alloc _
      have HC4 : Hid (∀ W2, Below W.heap.size W W2 → W2.cell? ⟨w1.heap.size, 0, none⟩ = some (.slice a L.length cap) ∧ (W2.alloc (.cells #[.string x] 9)).cell? ⟨w1.heap.size, 0, none⟩ = some (.slice a L.length cap)) := fun W2 h => ⟨(hc.th h).c, ((hc.th h).th (below_new W2 _)).c⟩
      have HSZ2 : Hid (∀ W2, Below W.heap.size W W2 → W0.heap.size ≤ (W2.alloc (.cells #[.string x] 9)).heap.size) := fun W2 h => by have := h.size; simp; omega
      clear hS k1 k2 k3 hI hst hG hc hown hrt hbel hrec hI9 hfin f4
      gi_wp2_with (gi_at_call 112; refine (callsIn_wide.2 (HI9.out _)).mono ?_; rintro e w2 ⟨rfl, hB2⟩)
      have hself : Below W.heap.size W w2.drew := hB2.drew
      have d4 : w2.drew.cell? ⟨w1.heap.size, 0, none⟩ = some (.slice a L.length cap) := (HC4.out _ hself).1
      refine wpIn_round_any (by kernel_rfl) (by kernel_rfl) (by rintro ⟨_, _, hh⟩; exact hh) ?_
      refine wpAny_take (i := 1) (v := .string x) rfl (by kernel_rfl) (by kernel_rfl) (by kernel_rfl) (fun _ _ _ h => h) (Or.inl ⟨by rfl, by intro w; go_simp⟩) ?_
      refine wpAny_ready (rs := [0, 2]) (by kernel_rfl) (by simp) ?_
      refine AllReady.cons rfl (fun K hK => ?_) (AllReady.cons rfl (fun K hK => ?_) AllReady.nil)
      · go_simp
        refine hK _ _ ?_
        clear hK K
        refine wpAny_ready (rs := [2]) (by kernel_rfl) (by simp) ?_
        refine AllReady.cons rfl (fun K hK => ?_) AllReady.nil
        go_simp
        go_at_call 47
        (with_reducible refine Calls.mono (HCL.out _) ?_)
        rintro e w3 ⟨rfl, hB3⟩
        have hb3 : Below W.heap.size W w3 := below_th hself hB3
        obtain ⟨q1, q2⟩ := HC4.out _ hb3
        try go_simp
        refine hK _ _ ?_
        clear hK K
        refine wpAny_ready (rs := [3]) (by kernel_rfl) (by simp) ?_
        refine AllReady.cons rfl (fun K hK => ?_) AllReady.nil
        go_simp
        refine hK _ _ ?_
        clear hK K
        refine wpAny_ready (rs := [4]) (by kernel_rfl) (by simp) ?_
        refine AllReady.cons rfl (fun K hK => ?_) AllReady.nil
        refine step_append_lies _ rfl (.tmp 38) (.tmp 41) 54 rfl W0.heap.size 9 i0 (.string ⟨#[]⟩) 1 16 Tryz.underlying54 hin hz0 hz1 hz2 rfl (by decide) (.slice a L.length cap) L.length (L.map .string) rfl (HOW.out _ hb3) ⟨w3.heap.size, 0, none⟩ 1 1 [.string x] rfl rfl (World.news_of_block (World.alloc_heap_new w3 _)) (by simp [Value.oneCell']) (by decide) (by unfold maxLen; omega) (by omega) (HSZ2.out _ hb3) _ rfl ?_
        intro g2 cap2 w4 hown4 hgrow4 hat4 hlt4
        obtain ⟨hcc, hfi⟩ := HFIN.out w3 _ w4 hb3 hown4 hgrow4 ⟨_, _, rfl⟩
        have e4 := hcc.c
        have f4 := hcc.f
        have HFI := Lib.hid hfi
        clear hown4 hgrow4 hat4 hlt4 hcc hfi
        try go_simp
        refine hK _ _ ?_
        clear hK K
        refine wpAny_ready (rs := [5]) (by kernel_rfl) (by simp) ?_
        refine AllReady.cons rfl (fun K hK => ?_) AllReady.nil
        go_simp
        refine hK _ _ ?_
        clear hK K
        refine wpAny_done (by kernel_rfl) ?_ _
        exact ⟨HFI.out.1, trivial, HFI.out.2⟩
      · go_simp
        go_at_call 47
        (with_reducible refine Calls.mono (HCL.out _) ?_)
        rintro e w3 ⟨rfl, hB3⟩
        have hb3 : Below W.heap.size W w3 := below_th hself hB3
        obtain ⟨q1, q2⟩ := HC4.out _ hb3
        try go_simp
        refine hK _ _ ?_
        clear hK K
        refine wpAny_ready (rs := [0, 3]) (by kernel_rfl) (by simp) ?_
        refine AllReady.cons rfl (fun K hK => ?_) (AllReady.cons rfl (fun K hK => ?_) AllReady.nil)
        · go_simp
          refine hK _ _ ?_
          clear hK K
          refine wpAny_ready (rs := [3]) (by kernel_rfl) (by simp) ?_
          refine AllReady.cons rfl (fun K hK => ?_) AllReady.nil
          go_simp
          refine hK _ _ ?_
          clear hK K
          refine wpAny_ready (rs := [4]) (by kernel_rfl) (by simp) ?_
          refine AllReady.cons rfl (fun K hK => ?_) AllReady.nil
          refine step_append_lies _ rfl (.tmp 38) (.tmp 41) 54 rfl W0.heap.size 9 i0 (.string ⟨#[]⟩) 1 16 Tryz.underlying54 hin hz0 hz1 hz2 rfl (by decide) (.slice a L.length cap) L.length (L.map .string) rfl (HOW.out _ hb3) ⟨w3.heap.size, 0, none⟩ 1 1 [.string x] rfl rfl (World.news_of_block (World.alloc_heap_new w3 _)) (by simp [Value.oneCell']) (by decide) (by unfold maxLen; omega) (by omega) (HSZ2.out _ hb3) _ rfl ?_
          intro g2 cap2 w4 hown4 hgrow4 hat4 hlt4
          obtain ⟨hcc, hfi⟩ := HFIN.out w3 _ w4 hb3 hown4 hgrow4 ⟨_, _, rfl⟩
          have e4 := hcc.c
          have f4 := hcc.f
          have HFI := Lib.hid hfi
          clear hown4 hgrow4 hat4 hlt4 hcc hfi
          try go_simp
          refine hK _ _ ?_
          clear hK K
          refine wpAny_ready (rs := [5]) (by kernel_rfl) (by simp) ?_
          refine AllReady.cons rfl (fun K hK => ?_) AllReady.nil
          go_simp
          refine hK _ _ ?_
          clear hK K
          refine wpAny_done (by kernel_rfl) ?_ _
          exact ⟨HFI.out.1, trivial, HFI.out.2⟩
        · go_simp
          refine hK _ _ ?_
          clear hK K
          refine wpAny_ready (rs := [0]) (by kernel_rfl) (by simp) ?_
          refine AllReady.cons rfl (fun K hK => ?_) AllReady.nil
          go_simp
          refine hK _ _ ?_
          clear hK K
          refine wpAny_ready (rs := [4]) (by kernel_rfl) (by simp) ?_
          refine AllReady.cons rfl (fun K hK => ?_) AllReady.nil
          refine step_append_lies _ rfl (.tmp 38) (.tmp 41) 54 rfl W0.heap.size 9 i0 (.string ⟨#[]⟩) 1 16 Tryz.underlying54 hin hz0 hz1 hz2 rfl (by decide) (.slice a L.length cap) L.length (L.map .string) rfl (HOW.out _ hb3) ⟨w3.heap.size, 0, none⟩ 1 1 [.string x] rfl rfl (World.news_of_block (World.alloc_heap_new w3 _)) (by simp [Value.oneCell']) (by decide) (by unfold maxLen; omega) (by omega) (HSZ2.out _ hb3) _ rfl ?_
          intro g2 cap2 w4 hown4 hgrow4 hat4 hlt4
          obtain ⟨hcc, hfi⟩ := HFIN.out w3 _ w4 hb3 hown4 hgrow4 ⟨_, _, rfl⟩
          have e4 := hcc.c
          have f4 := hcc.f
          have HFI := Lib.hid hfi
          clear hown4 hgrow4 hat4 hlt4 hcc hfi
          try go_simp
          refine hK _ _ ?_
          clear hK K
          refine wpAny_ready (rs := [5]) (by kernel_rfl) (by simp) ?_
          refine AllReady.cons rfl (fun K hK => ?_) AllReady.nil
          go_simp
          refine hK _ _ ?_
          clear hK K
          refine wpAny_done (by kernel_rfl) ?_ _
          exact ⟨HFI.out.1, trivial, HFI.out.2⟩
    · rw [if_neg k4] at hS
      rw [nameB_no k4] at hI9
      have HI9 := Lib.hid hI9
      have hstop := goP_stop hS
      have HF : Hid (∀ W2, Below W.heap.size W W2 → CellAt W2 (w1.heap.size + 1) 4 (.bool true) ∧ KeepsFrom W0.heap.size W (W2.setCell ⟨w1.heap.size + 1, 0, none⟩ (.bool false)) ∧ SplX P w1 W0 (.exit 0) k (W2.setCell ⟨w1.heap.size + 1, 0, none⟩ (.bool false))) := fun W2 h2 => by
        have hon : Only (fun i => i = w1.heap.size + 1) W (W2.setCell ⟨w1.heap.size + 1, 0, none⟩ (.bool false)) := Only.setCell (p := ⟨w1.heap.size + 1, 0, none⟩) (Only.of_below (S := fun i => i = w1.heap.size + 1) h2) (.inr rfl) _
        exact ⟨hrt.th h2, keeps_of_only _ hon (by rintro j rfl; exact ⟨_, _, _, hrt⟩), ⟨rfl, hstop, ⟨a, L.length, cap, (hc.th h2).other (by omega) _, by omega⟩, (hrt.th h2).put _, hbel.trans (hon.below (n := w1.heap.size) (by omega) (by rintro j rfl; omega)), Nat.le_trans hsz hon.size⟩⟩
      clear hS k1 k2 k3 hI hst hG hc hown hrt hbel hrec hI9 hstop c4 f4
      gi_wp2_with (gi_at_call 112; refine (callsIn_wide.2 (HI9.out _)).mono ?_; rintro e w2 ⟨rfl, hB2⟩; have hr2 := (HF.out _ hB2).1; have c5 := hr2.c; have f5 := hr2.f)
      exact ⟨(HF.out _ hB2).2.1, (HF.out _ hB2).2.2⟩
  case done =>
    rintro D W hD hI hKD
    obtain ⟨L, a, cap, hG, hLk, hc, hown⟩ := hI.got
    obtain ⟨_, _, e0, hcap1, hcap2⟩ := (Strs.own hown).parts
    cases e0
    rw [List.take_length] at hG
    have c4 := hc.c
    have c5 := hI.rt.c
    have hsz := hI.size
    have hq : Below w1.heap.size w1 (W.putObj D (.deferred none)) := below_putObj hI.below D (by omega) _
    have hgr : W.grownBy (W.putObj D (.deferred none)) (some D) := ⟨rfl, rfl, rfl, by simp [World.putObj], fun j _ hj => World.putObj_heap_other (fun e => hj (by rw [e]))⟩
    have hL : Strs (W.putObj D (.deferred none)) (.slice a L.length L.length) L := Lies.grown (Strs.tight (Strs.own hown)) hgr (fun j hj c t f h => by cases hj; rw [hKD] at h; cases h)
    have HKD := Lib.hid hKD
    by_cases h4 : 40 < L.length
    · have g4 : (40 : Int) < (L.length : Int) := by omega
      have HF := Lib.hid (HBIG.out L hG h4 _ hq)
      clear hI hst hG hc hown hq hgr hL hKD h4 hLk
      gi_wp2
      refine ⟨by simp, .inl ⟨_, _, rfl, run_takeDeferred HKD.out, ?_⟩⟩
      refine ⟨_, results_two (r := 2) (t := 3) rfl _ _, ?_⟩
      exact HF.out
    · have g4 : ¬ (40 : Int) < (L.length : Int) := by omega
      have HF := Lib.hid (HYES.out L hG h4 _ _ hL hq)
      clear hI hst hG hc hown hq hgr hL hKD h4 hLk
      gi_wp2
      refine ⟨by simp, .inl ⟨_, _, rfl, run_takeDeferred HKD.out, ?_⟩⟩
      refine ⟨_, results_two (r := 2) (t := 3) rfl _ _, ?_⟩
      exact HF.out
  case stop =>
    rintro D c k W hD hk hX hKD
    obtain rfl := hX.code
    obtain ⟨a, n, cap, hc, hn⟩ := hX.got
    have c4 := hc.c
    have c5 := hX.rt.c
    have HKD := Lib.hid hKD
    have HF := Lib.hid (HBAD.out hX.bad _ (below_putObj hX.below D (by omega) (.deferred none)))
    clear hX hst hc hKD
    gi_wp2
    refine ⟨by simp, .inl ⟨_, _, rfl, run_takeDeferred HKD.out, ?_⟩⟩
    refine ⟨_, results_two (r := 2) (t := 3) rfl _ _, ?_⟩
    exact HF.out
end
end Go.Proofs.YtkipkcmcolomcaaGreat.Pth
/- The lowest number that a new file may have. -/
namespace Go.Proofs.YtkipkcmcolomcaaGreat.Pln
open Go.RowKit
open Pth (CellAt wide_scope wide_label below_putObj)
attribute [local go_sem] Oper.semAt_some
set_option linter.unusedVariables false
set_option linter.unusedSimpArgs false
theorem fresh_is {l : List Nd} {k : Nat} (hk : 3 + k < l.length) (hz : nd l (3 + k) = Nd.zero) (hn : ∀ j, j < k → ¬ nd l (3 + j) = Nd.zero) : fresh l = 3 + k := by
  unfold fresh
  have h2 : ∀ j (h : j < (l.drop 3).length), (l.drop 3)[j] = nd l (3 + j) := fun j h => by
    rw [List.getElem_drop]
    unfold nd
    rw [List.getD_eq_getElem?_getD, List.getElem?_eq_getElem (by rw [List.length_drop] at h; omega)]
    rfl
  have h1 : (l.drop 3).findIdx (fun n => decide (n = Nd.zero)) = k := by
    have hk2 : k < (l.drop 3).length := by rw [List.length_drop]; omega
    rw [List.findIdx_eq hk2]
    refine ⟨by rw [h2]; exact decide_eq_true hz, fun j hj => ?_⟩
    rw [h2]
    exact decide_eq_false (hn j hj)
  rw [h1]
theorem fresh_none {l : List Nd} (h3 : 3 ≤ l.length) (hn : ∀ j, j < l.length - 3 → ¬ nd l (3 + j) = Nd.zero) : fresh l = l.length := by
  unfold fresh
  have h2 : ∀ j (h : j < (l.drop 3).length), (l.drop 3)[j] = nd l (3 + j) := fun j h => by
    rw [List.getElem_drop]
    unfold nd
    rw [List.getD_eq_getElem?_getD, List.getElem?_eq_getElem (by rw [List.length_drop] at h; omega)]
    rfl
  have h1 : (l.drop 3).findIdx (fun n => decide (n = Nd.zero)) = (l.drop 3).length := by
    rw [List.findIdx_eq_length]
    intro x hx
    obtain ⟨j, hj, e⟩ := List.mem_iff_getElem.1 hx
    rw [← e, h2]
    exact decide_eq_false (hn j (by rw [List.length_drop] at hj; omega))
  rw [h1, List.length_drop]
  omega
structure FreI (l : List Nd) (q : Nat) (W0 : World) (k : Nat) (W : World) : Prop where
  no : ∀ j, j < k → ¬ nd l (3 + j) = Nd.zero
  only : Only (fun i => i = q) W0 W
  at_ : CellAt W q 50 (.int .u32 (l.length : Nat))
structure FreX (l : List Nd) (q : Nat) (W0 : World) (c : Code) (k : Nat) (W : World) : Prop where
  code : c = .exit 0
  yes : nd l (3 + k) = Nd.zero
  no : ∀ j, j < k → ¬ nd l (3 + j) = Nd.zero
  only : Only (fun i => i = q) W0 W
  at_ : CellAt W q 50 (.int .u32 ((3 + k : Nat) : Int))
theorem freI_own {l : List Nd} {q : Nat} {W0 : World} : OwnFrom W0.heap.size (FreI l q W0) := fun k W W' row h hg hr =>
  ⟨h.no, h.only.grown hg (fun r e => .inl (hr r e).1), kept_cells h.at_ hg hr⟩
theorem freX_own {l : List Nd} {q : Nat} {W0 : World} (c : Code) : OwnFrom W0.heap.size (FreX l q W0 c) := fun k W W' row h hg hr =>
  ⟨h.code, h.yes, h.no, h.only.grown hg (fun r e => .inl (hr r e).1), kept_cells h.at_ hg hr⟩
def NdA (L : List Nd) (W0 : World) (T : Nat → Nat → Array Value) (k : Nat) (a' : Act) (W : World) : Prop :=
  ∃ Bx, W0.heap.size ≤ Bx ∧ At W Bx (nd L (3 + k)) ∧ a' = { tmps := T k Bx, defers := [] }
theorem ndA_own {L : List Nd} {W0 : World} {B : Nat} {T : Nat → Nat → Array Value} (k : Nat) (a' : Act) : OwnFrom B (fun (_ : Unit) W => NdA L W0 T k a' W) := fun _ W W' row hI hg hr => by
  obtain ⟨Bx, h1, h2, h3⟩ := hI
  exact ⟨Bx, h1, kept_cells h2 hg hr, h3⟩
theorem results_1 {fn : Func} {r : Tmp} (h : fn.results = #[.tmp r]) (tmps : Array Value) (w : World) : (results fn tmps).run Tryz.prog w = .ok (tmps.getD r undef) w := by
  simp [results, h, go_sem]
section
set_option maxRecDepth 100000
set_option maxHeartbeats 8000000
theorem free_in (b off cap N : Nat) (l : List Nd) (w : World) (hN : l.length = N) (hN3 : 3 ≤ N) (hN240 : N ≤ 240) (hL : Nodes w (.slice (some ⟨b, off, none⟩) N cap) l) :
    CallsIn Fence.wide 9 Tryz.prog 87 #[.slice (some ⟨b, off, none⟩) N cap] w (Ans w (.int .u32 (fresh l : Nat))) := by
  have hfn : ∀ f, Fence.wide.fn f := fun _ => trivial
  have hwn : IntKind.u32.wrap (N : Int) = (N : Int) := by rw [IntKind.wrap_u32]; omega
  obtain ⟨R, hR⟩ : ∃ R, Ans w (.int .u32 (fresh l : Nat)) = R := ⟨_, rfl⟩
  have HYES : Hid (∀ k, 3 + k < N → nd l (3 + k) = Nd.zero → (∀ j, j < k → ¬ nd l (3 + j) = Nd.zero) → ∀ W, Below w.heap.size w W → R (.returned (.int .u32 ((3 + k : Nat) : Int))) W) := fun k h1 h2 h3 W h4 => by
    rw [← hR, fresh_is (by omega) h2 h3]; exact ⟨rfl, h4⟩
  have HNO : Hid ((∀ j, j < N - 3 → ¬ nd l (3 + j) = Nd.zero) → ∀ W, Below w.heap.size w W → R (.returned (.int .u32 (N : Int))) W) := fun h W h4 => by
    rw [← hR, fresh_none (by omega) (by rw [hN]; exact h), hN]; exact ⟨rfl, h4⟩
  rw [hR]
  clear hR
  refine callsIn_of_wp_marks Tryz.func87 rfl trivial ?_ rfl
  simp only [Tryz.ntmps87, List.size_toArray, List.length_cons, List.length_nil, Nat.reduceAdd, Nat.reduceSub, Array.replicate_succ, Array.replicate_zero, List.push_toArray, List.append_toArray, List.nil_append, List.cons_append]
  gi_wp2
  apply wide_scope
  gi_wp2
  apply wide_label
  have HLL := Lib.hid (hL.below (below_new w (.cells #[.int .u32 (N : Int)] 50)))
  gi_wp2_with (gi_at_call 40; refine (nodesOf_in _ _ _ _ HLL.out).mono ?_; rintro e w' ⟨rfl, rfl⟩)
  obtain ⟨W0, hW0⟩ : ∃ W0, (w.alloc (.cells #[.int .u32 (N : Int)] 50)).alloc (.cells #[.slice (some ⟨b, off, none⟩) N cap] 25) = W0 := ⟨_, rfl⟩
  obtain ⟨s, hs⟩ : ∃ s, w.heap.size = s := ⟨_, rfl⟩
  have hs0 : W0.heap.size = s + 2 := by rw [← hW0, ← hs]; simp
  have hBW : Below w.heap.size w W0 := by rw [← hW0]; exact below_al (below_new _ _) _
  have hL0 := hL.below hBW
  have hq0 : CellAt W0 s 50 (.int .u32 (N : Int)) := by
    rw [← hW0, ← hs]
    exact (CellAt.th (World.alloc_heap_new w _) (below_new _ _))
  have hbx : W0.cell? ⟨s + 1, 0, none⟩ = some (.slice (some ⟨b, off, none⟩) N cap) := by
    have h1 := World.alloc_heap_new (w.alloc (.cells #[.int .u32 (N : Int)] 50)) (.cells #[.slice (some ⟨b, off, none⟩) N cap] 25)
    rw [hW0, World.size_alloc, hs] at h1
    simp only [World.cell?, h1]
    rfl
  have hblt : b < s := by rw [← hs]; exact hL.lt (by omega)
  have hst := nodes_steps (s + 1) b off cap N l hN hN3 hN240 W0 hbx (by omega) hL0
  have hI0 : FreI l s W0 0 W0 := ⟨fun j hj => absurd hj (Nat.not_lt_zero _), Only.refl _ _, by rw [hN]; exact hq0⟩
  rw [hW0, hs]
  clear HLL hL hbx
  refine wpIn_rangeFunc_steps rfl (by decide) (gf := 75) (lb := #[.pointer (some ⟨s + 1, 0, none⟩)]) rfl trivial (enters_of Tryz.func75 (by kernel_rfl) rfl)
    hst sameK_t (sameK_b (by simp; omega)) (Below.refl _ _) (fun _ => rfl)
    (FreI l s W0) (FreX l s W0) freI_own freX_own hI0
    (NdA l W0 (fun k Bx => #[.slice (some ⟨b, off, none⟩) N cap, undef, .int .u32 0, .pointer (some ⟨s, 0, none⟩), .int .u32 ((3 + k : Nat) : Int), .pointer (some ⟨Bx, 0, none⟩), .slice (some ⟨b, off, none⟩) N cap, .int .i64 (N : Int), .int .u32 (N : Int), .slice (some ⟨b, off, none⟩) N cap, .func (.func 75) #[] #[.pointer (some ⟨s + 1, 0, none⟩)], .int .u32 ((3 + k : Nat) : Int), (nd l (3 + k)).val, undef, undef, undef, undef])) (fun k a' => ndA_own k a') ?assign ?body ?done ?stop
  case assign =>
    intro l9 k W K hI hk hK
    have hz : W0.heap.size ≤ W.heap.size := hI.only.size
    have HK := Lib.hid (hK _ _ ((KeepsOthers.alloc W _).from _) (Same.below (below_new W _) (by intro x hx; simp at hx; omega)) (freI_own _ _ _ none hI (World.grownBy_alloc W _ _) (fun r e => by cases e)) ⟨W.heap.size, hz, At.new W (nd l (3 + k)), rfl⟩)
    unfold encN
    clear hK hI hst
    unfold boxO Nd.val at HK
    unfold Nd.val
    dsimp only at HK
    generalize nd l (3 + k) = y at HK ⊢
    obtain ⟨y0, y1, y2, y3, y4⟩ := y
    dsimp only at HK ⊢
    gi_wp2
    exact HK.out
  case body =>
    rintro l9 k a' W hl hrec hI ⟨Bx, hBx, hX, rfl⟩ hk
    have hsz := hI.only.size
    obtain ⟨x0, x1, x2, x3, x4⟩ := hX.c
    have hIN := Lib.hid (fun W => isNone_any (nd l (3 + k)) W)
    have hf2 : ∀ W2, Below W.heap.size W W2 → CellAt W2 s 50 (.int .u32 (l.length : Nat)) := fun W2 h => hI.at_.th h
    by_cases hz : nd l (3 + k) = Nd.zero
    · have HX := Lib.hid (fun W2 (h : Below W.heap.size W W2) => show KeepsFrom W0.heap.size W (W2.setCell ⟨s, 0, none⟩ (.int .u32 ((3 + k : Nat) : Int))) ∧ FreX l s W0 (.exit 0) k (W2.setCell ⟨s, 0, none⟩ (.int .u32 ((3 + k : Nat) : Int))) from
        have hon2 : Only (fun i => i = s) W (W2.setCell ⟨s, 0, none⟩ (.int .u32 ((3 + k : Nat) : Int))) := (Only.of_below (S := fun i => i = s) h).setCell (p := ⟨s, 0, none⟩) (.inr rfl) _
        ⟨keeps_of_only _ hon2 (by rintro j rfl; exact ⟨_, _, _, hI.at_⟩), rfl, hz, hI.no, hI.only.step hon2 (fun i _ hi => hi), (hf2 W2 h).put _⟩)
      have HF := Lib.hid (fun W2 h => And.intro (hf2 W2 h).c (hf2 W2 h).f)
      rw [decide_eq_true hz] at hIN
      clear hX hI hst hrec hf2 hz
      obtain ⟨y, hy⟩ : ∃ y, nd l (3 + k) = y := ⟨_, rfl⟩
      simp only [hy] at x0 x1 x2 x3 x4 hIN
      dsimp only
      rw [hy]
      clear hy
      obtain ⟨y0, y1, y2, y3, y4⟩ := y
      unfold Nd.val at hIN ⊢
      dsimp only at x0 x1 x2 x3 x4 hIN ⊢
      gi_wp2_with (gi_at_call 37; refine (CallsIn.inRound l9 (callsIn_wide.2 (hIN.out _))).mono ?_; rintro e W2 ⟨rfl, hB2⟩; obtain ⟨q0, q1⟩ := HF.out _ hB2)
      exact HX.out _ hB2
    · have HX := Lib.hid (fun W2 (h : Below W.heap.size W W2) => show KeepsFrom W0.heap.size W W2 ∧ Same [b, s + 1] W W2 ∧ FreI l s W0 (k + 1) W2 from
        ⟨keeps_of_only (S := fun i => i = s) _ (Only.of_below h) (by rintro j rfl; exact ⟨_, _, _, hI.at_⟩), Same.below h (by intro x hx; simp at hx; omega), ⟨fun j hj => by
          rcases Nat.lt_succ_iff_lt_or_eq.1 hj with h1 | h1
          · exact hI.no j h1
          · rw [h1]; exact hz, hI.only.step (Only.of_below (S := fun i => i = s) h) (fun i _ hi => hi), hf2 W2 h⟩⟩)
      rw [decide_eq_false hz] at hIN
      clear hX hI hst hrec hf2 hz
      obtain ⟨y, hy⟩ : ∃ y, nd l (3 + k) = y := ⟨_, rfl⟩
      simp only [hy] at x0 x1 x2 x3 x4 hIN
      dsimp only
      rw [hy]
      clear hy
      obtain ⟨y0, y1, y2, y3, y4⟩ := y
      unfold Nd.val at hIN ⊢
      dsimp only at x0 x1 x2 x3 x4 hIN ⊢
      gi_wp2_with (gi_at_call 37; refine (CallsIn.inRound l9 (callsIn_wide.2 (hIN.out _))).mono ?_; rintro e W2 ⟨rfl, hB2⟩)
      exact HX.out _ hB2
  case done =>
    rintro D W hD hI hKD
    have cq := hI.at_.c
    rw [hN] at cq
    have HBW := Lib.hid (hBW.trans (hI.only.below (n := w.heap.size) (by omega) (by rintro j rfl; omega)))
    have HNN := Lib.hid (HNO.out (fun j hj => hI.no j hj))
    have hsz := hI.only.size
    have HKD := Lib.hid hKD
    clear hI hst hKD
    gi_wp2
    refine ⟨by simp, .inl ⟨_, _, rfl, run_takeDeferred HKD.out, ?_⟩⟩
    refine ⟨_, results_1 rfl _ _, ?_⟩
    exact HNN.out _ (below_putObj HBW.out _ (by omega) _)
  case stop =>
    rintro D c k W hD hk ⟨rfl, hz, hno, hon, hat⟩ hKD
    have cq := hat.c
    have HBW := Lib.hid (hBW.trans (hon.below (n := w.heap.size) (by omega) (by rintro j rfl; omega)))
    have HNN := Lib.hid (HYES.out k (by omega) hz hno)
    have hsz := hon.size
    have HKD := Lib.hid hKD
    clear hz hno hon hat hst hKD
    gi_wp2
    refine ⟨by simp, .inl ⟨_, _, rfl, run_takeDeferred HKD.out, ?_⟩⟩
    refine ⟨_, results_1 rfl _ _, ?_⟩
    exact HNN.out _ (below_putObj HBW.out _ (by omega) _)
end
end Go.Proofs.YtkipkcmcolomcaaGreat.Pln
/- Numbers in slices, and numbers put behind others in a slice of one's own (as bmap's). -/
namespace Go.Proofs.YtkipkcmcolomcaaGreat.Pln
open Go.RowKit
attribute [local go_sem] Oper.semAt_some
set_option linter.unusedVariables false
set_option linter.unusedSimpArgs false
def U32s (w : World) (v : Value) (X : List Nat) : Prop := Lies w v X.length 1 (X.map (fun (n : Nat) => Value.int .u32 (n : Int)))
theorem U32s.below {w w' : World} {v : Value} {X : List Nat} (h : U32s w v X) (hB : Below w.heap.size w w') : U32s w' v X := Lies.below h hB
theorem U32s.nil (w : World) : U32s w (.slice none 0 0) [] := Lies.nil w 1
theorem U32s.parts {w : World} {v : Value} {X : List Nat} (h : U32s w v X) : ∃ a cap, v = .slice a X.length cap ∧ X.length ≤ cap ∧ cap ≤ 9223372036854775807 := by
  obtain ⟨a, cap, e, _, h1, h2⟩ := Lies.parts h
  exact ⟨a, cap, e, h1, h2⟩
theorem U32s.get {w : World} {a : Option Addr} {n cap : Nat} {X : List Nat} (h : U32s w (.slice a n cap) X) {k : Nat} (hk : k < X.length) : ∃ b off, a = some ⟨b, off, none⟩ ∧ w.cell? ⟨b, off + k, none⟩ = some (.int .u32 ((X.getD k 0 : Nat) : Int)) := by
  have hn : X.length = n := by
    obtain ⟨_, _, e, _⟩ := Lies.parts h
    cases e
    rfl
  unfold U32s at h
  rw [hn] at h
  exact Lies.read h (j := k) (u := (.int .u32 ((X.getD k 0 : Nat) : Int))) (by rw [List.getElem?_map, List.getD_eq_getElem?_getD, List.getElem?_eq_getElem hk]; rfl)
theorem infoU32 : (Tryz.prog.info? 50).map (fun i => (i.zero, i.size, i.bytes)) = some (some (.int .u32 0), 1, 4) := by kernel_rfl
theorem run_append_u32s (w : World) (base : Nat) (v : Value) (n : Nat) (xs : List Value) (hown : w.ownsRow base 50 1 v n xs) (vL : Value) (L : List Nat) (hL : U32s w vL L) (h1 : n + L.length ≤ 100000) (hb : base ≤ w.heap.size) :
    ∃ v' w', (Builtin.append_ #[112, 112] 112 #[v, vL]).run Tryz.prog w = .ok v' w' ∧ w'.ownsRow base 50 1 v' (n + L.length) (xs ++ L.map (fun (n : Nat) => Value.int .u32 (n : Int))) ∧ w.grownBy w' v.ownBlock ∧ (v'.ownBlock = v.ownBlock ∨ v'.ownBlock = some w.heap.size) := by
  obtain ⟨i0, hi, hz0, hz1, hz2⟩ := info_parts infoU32
  obtain ⟨a, cap, rfl, hc1, hc2⟩ := hL.parts
  cases a with
  | none =>
    have hc0 : cap = 0 := Lies.none_cap hL
    have hl0 : L = [] := List.eq_nil_of_length_eq_zero (by omega)
    subst hl0
    subst hc0
    refine ⟨v, w, run_append_owned_none (P := Tryz.prog) w base 112 112 50 i0 1 Tryz.underlying112 hi v n xs hown, ?_, ⟨rfl, rfl, rfl, Nat.le_refl _, fun _ _ _ => rfl⟩, .inl rfl⟩
    simpa using hown
  | some ad =>
    have hnews : ∀ j u, (L.map (fun (n : Nat) => Value.int .u32 (n : Int)))[j]? = some u → w.cell? (ad.add j) = some u := fun j u hj => by
      obtain ⟨a', cap', e, _, _, h4, h5⟩ := hL
      cases e
      have hl := (List.getElem?_eq_some_iff.1 hj).1
      rw [List.length_map] at hl
      obtain ⟨b, off, e2, hc⟩ := h5 (by omega)
      cases e2
      rw [add_plain]
      exact hc j u hj
    obtain ⟨v', w', hr, h2, h3, _, h5⟩ := run_append_own_at (P := Tryz.prog) w base 112 112 50 i0 (.int .u32 0) 1 4 Tryz.underlying112 hi hz0 hz1 hz2 rfl (by decide) v n xs hown ad L.length cap (L.map (fun (n : Nat) => Value.int .u32 (n : Int))) (by rw [List.length_map, Nat.mul_one]) hnews (fun u hu => by obtain ⟨x, _, rfl⟩ := List.mem_map.1 hu; rfl) (by unfold maxLen; omega) (by omega) hb
    exact ⟨v', w', hr, h2, h3, h5⟩
theorem wp_append_u32s {w : World} {o : Oper} {a : Act} {K : Act → World → Prop} {Q : Exit → Act → World → Prop} (s x : Operand)
    (ho : o.op = .call { callee := .builtin .append, args := #[s, x], argTypes := #[112, 112] }) (hty : o.type = 112)
    (base : Nat) (v : Value) (n : Nat) (xs : List Value) (hs : a.eval s = v) (hown : w.ownsRow base 50 1 v n xs) (vL : Value) (L : List Nat) (hx : a.eval x = vL) (hL : U32s w vL L) (h1 : n + L.length ≤ 100000) (hb : base ≤ w.heap.size)
    (h : ∀ v' w', w'.ownsRow base 50 1 v' (n + L.length) (xs ++ L.map (fun (n : Nat) => Value.int .u32 (n : Int))) → w.grownBy w' v.ownBlock → (v'.ownBlock = v.ownBlock ∨ v'.ownBlock = some w.heap.size) → K (a.put o.dst v') w') : o.wp Tryz.prog a w K Q := by
  obtain ⟨v', w', hr, h2, h3, h4⟩ := run_append_u32s w base v n xs hown vL L hL h1 hb
  unfold Oper.wp execOp
  simp only [ho, hty, resolve, invoke, builtin, Sem.run_bind, Sem.run_pure, Result.andThen_ok, List.map_toArray, List.map_cons, List.map_nil, hs, hx, hr]
  exact h v' w' h2 h3 h4
theorem wpList_append_u32s {w : World} {ops : Array Oper} {rest : List Oper} {o : Oper} {a : Act} {Q : Exit → Act → World → Prop} (hgd : o.guard = none) (s x : Operand)
    (ho : o.op = .call { callee := .builtin .append, args := #[s, x], argTypes := #[112, 112] }) (hty : o.type = 112)
    (base : Nat) (v : Value) (n : Nat) (xs : List Value) (hs : a.eval s = v) (hown : w.ownsRow base 50 1 v n xs) (vL : Value) (L : List Nat) (hx : a.eval x = vL) (hL : U32s w vL L) (h1 : n + L.length ≤ 100000) (hb : base ≤ w.heap.size)
    (h : ∀ v' w', w'.ownsRow base 50 1 v' (n + L.length) (xs ++ L.map (fun (n : Nat) => Value.int .u32 (n : Int))) → w.grownBy w' v.ownBlock → (v'.ownBlock = v.ownBlock ∨ v'.ownBlock = some w.heap.size) → wpList Tryz.prog ops Q rest (a.put o.dst v') w') : wpList Tryz.prog ops Q (o :: rest) a w :=
  wpList_plain hgd fun _ hK => wp_append_u32s s x ho hty base v n xs hs hown vL L hx hL h1 hb fun v' w' h2 h3 h4 => hK _ _ (h v' w' h2 h3 h4)
theorem U32s.own {w : World} {base : Nat} {v : Value} {L : List Nat} (h : w.ownsRow base 50 1 v L.length (L.map (fun (n : Nat) => Value.int .u32 (n : Int)))) : U32s w v L := Lies.own h
theorem own_u32 {W : World} {b base : Nat} {x : Nat} (h : W.heap[b]? = some (.cells #[.int .u32 (x : Int)] 50 (0, 0))) (hb : base ≤ b) : W.ownsRow base 50 1 (.slice (some ⟨b, 0, none⟩) 1 1) 1 [.int .u32 (x : Int)] :=
  ⟨rfl, .inr ⟨b, 1, #[.int .u32 (x : Int)], rfl, hb, h, Nat.le_refl _, by unfold maxLen; omega, rfl, rfl⟩⟩
theorem own_open32 {w : World} {base n : Nat} {v : Value} {xs : List Value} (hn : 0 < n) (h : w.ownsRow base 50 1 v n xs) : ∃ g cap, v = .slice (some ⟨g, 0, none⟩) n cap ∧ base ≤ g ∧ n ≤ cap ∧ cap ≤ 9223372036854775807 := by
  rcases h.2 with ⟨rfl, rfl⟩ | ⟨g, cap, cur, rfl, hb, hg, hn, hm, hs, ht⟩
  · omega
  · exact ⟨g, cap, rfl, hb, hn, by unfold maxLen at hm; omega⟩
/-- the last one taken away -/
theorem own_drop32 {w : World} {base n cap : Nat} {a : Option Addr} {L : List Nat} (h : w.ownsRow base 50 1 (.slice a n cap) L.length (L.map fun (n : Nat) => Value.int .u32 (n : Int))) : w.ownsRow base 50 1 (.slice a (n - 1) cap) L.dropLast.length (L.dropLast.map fun (n : Nat) => Value.int .u32 (n : Int)) := by
  refine ⟨by simp, ?_⟩
  rcases h.2 with ⟨h1, h2⟩ | ⟨g, cap2, cur, e, h1, h2, h3, h4, h5, h6⟩
  · obtain ⟨rfl, rfl, rfl⟩ : a = none ∧ n = 0 ∧ cap = 0 := by simpa using h1
    exact .inl ⟨rfl, by rw [List.length_dropLast]; omega⟩
  · obtain ⟨rfl, rfl, rfl⟩ : a = some ⟨g, 0, none⟩ ∧ n = L.length ∧ cap = cap2 := by simpa using e
    refine .inr ⟨g, cap, cur, by rw [List.length_dropLast], h1, h2, by rw [List.length_dropLast]; omega, h4, h5, ?_⟩
    rw [List.map_dropLast, ← h6, List.length_dropLast, List.dropLast_eq_take, List.take_take]
    congr 1
    have : cur.toList.length = cap * 1 := by simpa using h5
    rw [List.length_take]
    omega
end Go.Proofs.YtkipkcmcolomcaaGreat.Pln
/- How many names each number has: a map that the call makes. -/
namespace Go.Proofs.YtkipkcmcolomcaaGreat.Pln
open Go.RowKit Go.Maps
attribute [local go_sem] Oper.semAt_some
set_option linter.unusedVariables false
set_option linter.unusedSimpArgs false
theorem mapLaw : Keyed Tryz.prog 50 := int_keyed Tryz.underlying50
theorem mapZero (w : World) : (zeroValue 3).run Tryz.prog w = .ok (.int .i64 0) w := by kernel_rfl
/-- block b is a map of at most n entries, which tells M of each number -/
def MapM (W : World) (b n : Nat) (M : Nat → Nat) : Prop := ∃ D : DataW Unit, W.ownsMap Tryz.prog 50 (plainElem Tryz.prog 3) b n D ∧ ∀ i : Nat, i < 4294967296 → D.atKey (.int .u32 i) (.lit (.int .i64 0)) = .lit (.int .i64 (M i : Nat))
theorem MapM.made (w : World) : MapM (w.alloc (.map #[] 0)) w.heap.size 0 (fun _ => 0) := ⟨_, World.ownsMap_made w _ _ _, fun i hi => rfl⟩
theorem MapM.lt {W : World} {b n : Nat} {M : Nat → Nat} (h : MapM W b n M) : b < W.heap.size := by
  obtain ⟨D, h1, _⟩ := h
  exact h1.lt
theorem MapM.of_heap {W W' : World} {b n : Nat} {M : Nat → Nat} (h : MapM W b n M) (e : W'.heap[b]? = W.heap[b]?) : MapM W' b n M := by
  obtain ⟨D, ⟨es, clock, hb, r⟩, h2⟩ := h
  exact ⟨D, ⟨es, clock, e.trans hb, r⟩, h2⟩
theorem MapM.th {W W' : World} {b n : Nat} {M : Nat → Nat} (h : MapM W b n M) (hB : Below W.heap.size W W') : MapM W' b n M := h.of_heap (hB.block b h.lt)
theorem MapM.isMap {W : World} {b n : Nat} {M : Nat → Nat} (h : MapM W b n M) : ∃ es clock, W.heap[b]? = some (.map es clock) := by
  obtain ⟨D, ⟨es, clock, hb, r⟩, h2⟩ := h
  exact ⟨es, clock, hb⟩
theorem u32_key (i : Nat) (hi : i < 4294967296) : keyOf Tryz.prog 50 (.int .u32 (i : Int)) = some (.int .u32 (i : Int)) := keyOf_int_mk Tryz.underlying50 (by
  have h1 : IntKind.u32.min = 0 := by decide
  have h2 : IntKind.u32.max = 4294967295 := by decide
  show (decide (IntKind.u32.min ≤ (i : Int)) && decide ((i : Int) ≤ IntKind.u32.max)) = true
  rw [h1, h2, Bool.and_eq_true]
  exact ⟨decide_eq_true (by omega), decide_eq_true (by omega)⟩)
theorem put_reads {D : DataW Unit} (hm : IsMap D) {M : Nat → Nat} (h : ∀ i : Nat, i < 4294967296 → D.atKey (.int .u32 i) (.lit (.int .i64 0)) = .lit (.int .i64 (M i : Nat))) (x v : Nat) (hx : x < 4294967296) :
    ∀ i : Nat, i < 4294967296 → (D.put (.int .u32 x) (.lit (.int .i64 (v : Int)))).atKey (.int .u32 i) (.lit (.int .i64 0)) = .lit (.int .i64 ((if i = x then v else M i : Nat))) := fun i hi => by
  by_cases e : i = x
  · subst e
    rw [if_pos rfl, atKey_put_same hm (by trivial)]
  · rw [if_neg e, atKey_put_other (by intro h2; injection h2 with _ h3; exact e (by omega)), h i hi]
set_option maxRecDepth 100000 in
theorem MapM.look {W : World} {b n : Nat} {M : Nat → Nat} (h : MapM W b n M) (i : Nat) (hi : i < 4294967296) : (Instr.lookup 70 (.map (some b)) (.int .u32 (i : Int)) false).run Tryz.prog W = .ok (.int .i64 (M i : Nat)) W := by
  obtain ⟨D, h1, h2⟩ := h
  obtain ⟨c, hr, hat, _⟩ := h1.lookup_int mapLaw Tryz.underlying70 Tryz.underlying3 (mapZero W) (u32_key i hi)
  rw [h2 i hi] at hat
  injection hat with hat
  injection hat with _ hat
  rw [hr, hat]
set_option maxRecDepth 100000 in
theorem MapM.upd {W : World} {b n : Nat} {M : Nat → Nat} (h : MapM W b n M) (hn : n < 100000000) (x v : Nat) (hx : x < 4294967296) (hv : v ≤ 100000000) :
    ∃ w', (Instr.mapUpdate 70 (.map (some b)) (.int .u32 (x : Int)) (.int .i64 (v : Int))).run Tryz.prog W = .ok () w' ∧ MapM w' b (n + 1) (fun i => if i = x then v else M i) ∧ W.grownBy w' (some b) := by
  obtain ⟨D, h1, h2⟩ := h
  have hwf : (Lit.int .i64 (v : Int)).wf = true := by
    have h1 : IntKind.i64.min = -9223372036854775808 := by decide
    have h2 : IntKind.i64.max = 9223372036854775807 := by decide
    show (decide (IntKind.i64.min ≤ (v : Int)) && decide ((v : Int) ≤ IntKind.i64.max)) = true
    rw [h1, h2, Bool.and_eq_true]
    exact ⟨decide_eq_true (by omega), decide_eq_true (by omega)⟩
  obtain ⟨w', r1, r2, r3⟩ := h1.update mapLaw Tryz.underlying70 (by unfold maxLen; omega) (u32_key x hx) (plainElem_int (H := Unit) Tryz.underlying3 hwf)
  exact ⟨w', r1, ⟨_, r2, put_reads h1.isMap h2 x v hx⟩, r3⟩
end Go.Proofs.YtkipkcmcolomcaaGreat.Pln
