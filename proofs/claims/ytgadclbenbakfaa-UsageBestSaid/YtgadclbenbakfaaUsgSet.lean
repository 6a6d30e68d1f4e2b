/- Set of the program and of the document, slices.Clone; Same of the document. -/
import Derived.Laws.AppendOwnNone
import Derived.Deep.AppendLies
import Derived.Lib.SliceRun
import Derived.Test.YtgadclbenbakfaaUsgLaw
namespace Go.Proofs.Ytgadclbenbakfaa.Usage
open Go.RowKit
attribute [local go_sem] Oper.semAt_some
set_option linter.unusedVariables false

def cellsL (L : List S) : List Value := L.flatMap S.cells
theorem cellsL_length (L : List S) : (cellsL L).length = L.length * 3 := flat_length S.cells 3 L (fun _ _ => rfl)
theorem cellsL_one (L : List S) : ∀ u ∈ cellsL L, u.oneCell' = true := fun u hu => by
  obtain ⟨s, _, hs⟩ := List.mem_flatMap.1 hu
  simp only [S.cells, List.mem_cons, List.not_mem_nil, or_false] at hs
  rcases hs with rfl | rfl | rfl <;> rfl
theorem cellsL_set (s : S) : ∀ (L : List S) (k : Nat), k < L.length → (((cellsL L).set (k * 3) (.int .i64 s.live)).set (k * 3 + 1) (.int .u64 s.begun)).set (k * 3 + 2) (.int .i64 s.state) = cellsL (L.set k s)
  | [], _, h => by simp at h
  | x :: L, 0, _ => rfl
  | x :: L, k + 1, h => by
    have ih := cellsL_set s L k (by simpa using h)
    have e : cellsL (x :: L) = .int .i64 x.live :: .int .u64 x.begun :: .int .i64 x.state :: cellsL L := rfl
    have e2 : cellsL ((x :: L).set (k + 1) s) = .int .i64 x.live :: .int .u64 x.begun :: .int .i64 x.state :: cellsL (L.set k s) := rfl
    rw [e, e2, show (k + 1) * 3 = k * 3 + 1 + 1 + 1 by omega]
    simp only [List.set_cons_succ]
    rw [← ih]
theorem infoSeg : (Try.prog.info? 35).map (fun i => (i.zero, i.size, i.bytes)) = some (some (.agg #[.int .i64 0, .int .u64 0, .int .i64 0]), 3, 24) := by kernel_rfl
/-- a row of one's own, as segments -/
theorem Segs.own {w : World} {base : Nat} {v : Value} {L : List S} (h : w.ownsRow base 35 3 v L.length (cellsL L)) : Segs w v L := Lies.own h
/-- the cells of a slice that is not nil, wherever it is laid -/
theorem Segs.news {w : World} {a : Addr} {n cap : Nat} {L : List S} (h : Segs w (.slice (some a) n cap) L) : ∀ j u, (cellsL L)[j]? = some u → w.cell? (a.add j) = some u := fun j u hj => by
  obtain ⟨a', cap', e, _, _, h4, h5⟩ := h
  cases e
  have hl := (List.getElem?_eq_some_iff.1 hj).1
  rw [cellsL_length] at hl
  obtain ⟨b, off, e2, hc⟩ := h5 (by omega)
  cases e2
  rw [add_plain]
  exact hc j u hj
/-- a segment is laid into a row of one's own -/
theorem own_set {w : World} {base n cap g k : Nat} {L : List S} (hn : L.length = n) (h : w.ownsRow base 35 3 (.slice (some ⟨g, 0, none⟩) n cap) n (cellsL L)) (hk : k < n) (s : S) :
    (∃ u, w.cell? ⟨g, k * 3, none⟩ = some u) ∧ w.frozen? ⟨g, k * 3, none⟩ = false ∧
    (∃ u, (w.setCell ⟨g, k * 3, none⟩ (.int .i64 s.live)).cell? ⟨g, k * 3 + 1, none⟩ = some u) ∧ (w.setCell ⟨g, k * 3, none⟩ (.int .i64 s.live)).frozen? ⟨g, k * 3 + 1, none⟩ = false ∧
    (∃ u, ((w.setCell ⟨g, k * 3, none⟩ (.int .i64 s.live)).setCell ⟨g, k * 3 + 1, none⟩ (.int .u64 s.begun)).cell? ⟨g, k * 3 + 2, none⟩ = some u) ∧ ((w.setCell ⟨g, k * 3, none⟩ (.int .i64 s.live)).setCell ⟨g, k * 3 + 1, none⟩ (.int .u64 s.begun)).frozen? ⟨g, k * 3 + 2, none⟩ = false ∧
    (((w.setCell ⟨g, k * 3, none⟩ (.int .i64 s.live)).setCell ⟨g, k * 3 + 1, none⟩ (.int .u64 s.begun)).setCell ⟨g, k * 3 + 2, none⟩ (.int .i64 s.state)).ownsRow base 35 3 (.slice (some ⟨g, 0, none⟩) n cap) n (cellsL (L.set k s)) ∧
    Below g w (((w.setCell ⟨g, k * 3, none⟩ (.int .i64 s.live)).setCell ⟨g, k * 3 + 1, none⟩ (.int .u64 s.begun)).setCell ⟨g, k * 3 + 2, none⟩ (.int .i64 s.state)) := by
  have hl := cellsL_length L
  have h1 := (h.stored (k * 3) (.int .i64 s.live)).1
  have h2 := (h1.stored (k * 3 + 1) (.int .u64 s.begun)).1
  have h3 := (h2.stored (k * 3 + 2) (.int .i64 s.state)).1
  rw [cellsL_set s L k (by omega)] at h3
  refine ⟨⟨_, (h.cellAt (k * 3) (by omega)).trans (List.getElem?_eq_getElem (by omega))⟩, h.frozenAt _, ⟨_, (h1.cellAt (k * 3 + 1) (by omega)).trans (List.getElem?_eq_getElem (by simp; omega))⟩, h1.frozenAt _, ⟨_, (h2.cellAt (k * 3 + 2) (by omega)).trans (List.getElem?_eq_getElem (by simp; omega))⟩, h2.frozenAt _, h3, ?_⟩
  exact (((Below.refl g w).setCell (p := ⟨g, k * 3, none⟩) (Nat.le_refl _) _).setCell (p := ⟨g, k * 3 + 1, none⟩) (Nat.le_refl _) _).setCell (p := ⟨g, k * 3 + 2, none⟩) (Nat.le_refl _) _
theorem own_open {w : World} {base n : Nat} {v : Value} {xs : List Value} (h : w.ownsRow base 35 3 v n xs) (hn : 0 < n) : ∃ g cap, v = .slice (some ⟨g, 0, none⟩) n cap ∧ base ≤ g ∧ n ≤ cap ∧ cap ≤ 9223372036854775807 := by
  rcases h.2 with ⟨rfl, rfl⟩ | ⟨g, cap, cur, rfl, hb, hg, hn, hm, hs, ht⟩
  · omega
  · exact ⟨g, cap, rfl, hb, hn, by unfold maxLen at hm; omega⟩

/-- what Set answers -/
def SetPost (L : List S) (i : Int) (s : S) (w : World) (e : Ending) (w' : World) : Prop := ∃ v, e = .returned (.tuple #[v, .int .i64 (setE L i s)]) ∧ Segs w' v (setV L i s) ∧ Below w.heap.size w w'
theorem segs_nil (w : World) : Segs w (.slice none 0 0) [] := Lies.nil w 3
theorem set_no {L : List S} {i : Int} {s : S} {w w' : World} {n : Int} (h : ¬ setOk L i s) (hn : n = setE L i s) (hB : Below w.heap.size w w') : SetPost L i s w (.returned (.tuple #[.slice none 0 0, .int .i64 n])) w' := by
  refine ⟨_, by rw [hn], ?_, hB⟩
  unfold setV
  rw [if_neg h]
  exact segs_nil w'
theorem eqlS (a : Option Addr) (n c : Nat) (w : World) : (binOp .eql 22 (.slice a n c) (.slice none 0 0)).run Try.prog w = .ok (.bool a.isNone) w :=
  Lib.run_eql_slice_nil w _ _ a n c 0 0 Try.underlying22
section
set_option maxRecDepth 100000
set_option maxHeartbeats 2000000
theorem clone_any (v : Value) (L : List S) (w : World) (hL : Segs w v L) (h1 : 1 ≤ L.length) (h2 : L.length ≤ 4096) :
    Calls Try.prog 30 #[v] w fun e w' => ∃ v', e = .returned v' ∧ w'.ownsRow w.heap.size 35 3 v' L.length (cellsL L) ∧ Below w.heap.size w w' := by
  obtain ⟨i0, hi, hz0, hz1, hz2⟩ := info_parts infoSeg
  obtain ⟨b, off, cap, rfl, _⟩ := hL.at (k := 0) (by omega)
  obtain ⟨N, hN⟩ : ∃ N, L.length = N := ⟨_, rfl⟩
  have HC := Lib.hid (fun W (hB : Below w.heap.size w W) => (hL.below hB).news)
  have HV := Lib.hid (cellsL_length L)
  have HO := Lib.hid (cellsL_one L)
  have hcap : N ≤ cap ∧ cap ≤ 9223372036854775807 := by
    obtain ⟨a1, cap1, e, g1, g2⟩ := hL.parts
    cases e
    omega
  obtain ⟨hcap1, hcap2⟩ := hcap
  rw [hN] at HV h1 h2 ⊢
  obtain ⟨xs, hxs⟩ : ∃ xs, cellsL L = xs := ⟨_, rfl⟩
  simp only [hxs] at HC HV HO ⊢
  clear hL hN hxs
  obtain ⟨W0, rfl⟩ : ∃ W0 : World, W0 = w := ⟨_, rfl⟩
  go_enter Try.func30, Try.ntmps30
  have hq := eqlS (some ⟨b, off, none⟩) N cap
  have hmade : (W0.alloc (.cells #[] 35)).ownsRow W0.heap.size 35 3 (.slice (some ⟨W0.heap.size, 0, none⟩) 0 0) 0 [] := World.ownsRow_made W0 #[] 0 (Nat.le_refl _) (Nat.zero_le _) (by simp)
  go_wp2_with (at_builtin; refine wpList_append_lies _ rfl _ _ 22 rfl W0.heap.size 35 i0 (.agg #[.int .i64 0, .int .u64 0, .int .i64 0]) 3 24 Try.underlying22 hi hz0 hz1 hz2 rfl (by decide) (.slice (some ⟨W0.heap.size, 0, none⟩) 0 0) 0 [] rfl hmade ⟨b, off, none⟩ N cap xs rfl HV.out (HC.out _ (below_new _ _)) HO.out (by omega) (by unfold maxLen; omega) (by omega) (by simp) _ rfl ?_; intro g cap3 w1 hown1 hgrow hat hlt; simp only [Nat.zero_add, List.nil_append] at hown1)
  go_ret
  refine ⟨.slice (some ⟨g, 0, none⟩) N cap3, by simp, hown1, ((Below.refl _ W0).alloc (Nat.le_refl _) _).grown hgrow (by simp) (fun k hk => by simp [Value.ownBlock] at hk; omega)⟩

theorem set_any (v : Value) (L : List S) (i : Int) (s : S) (w : World) (hL : Segs w v L) : Calls Try.prog 18 #[v, .int .i64 i, s.val] w (SetPost L i s w) := by
  have HNo := Lib.hid (fun (w' : World) (n : Int) => set_no (L := L) (i := i) (s := s) (w := w) (w' := w') (n := n))
  have hnew := below_new w (boxO s)
  have hAt := At.new w s
  have hL1 := hL.below hnew
  have hR := right_any v L _ hL1
  have hRight : ∀ W, Segs W v L → Calls Try.prog 12 #[v] W (Ans W (.bool (rightB L))) := fun W h => right_any v L W h
  by_cases hi : 0 ≤ i ∧ i < L.length
  · by_cases hr : RightP L
    · obtain ⟨k, rfl⟩ := Int.eq_ofNat_of_zero_le hi.1
      have hkl : k < L.length := by omega
      have h8 := hr.1
      have h256 := hr.2.1
      have hC := fun W (h : Segs W v L) => clone_any v L W h (by omega) (by omega)
      have hSet := fun (W : World) (base g cap N : Nat) (hN : L.length = N) (h : W.ownsRow base 35 3 (.slice (some ⟨g, 0, none⟩) N cap) N (cellsL L)) => own_set hN h (k := k) (by omega) s
      have hR2 := fun (W : World) (g cap N : Nat) (h : Segs W (.slice (some ⟨g, 0, none⟩) N cap) (L.set k s)) => right_any _ (L.set k s) W h
      have hsl : (L.set k s).length = L.length := by simp
      have hsok : setOk L (k : Int) s ↔ RightP (L.set k s) := ⟨fun h => by have := h.2.2; rwa [Int.toNat_natCast] at this, fun h => ⟨hi, hr, by rwa [Int.toNat_natCast]⟩⟩
      have hsE : setE L (k : Int) s = if setOk L (k : Int) s then 0 else 60 := if_pos hi
      obtain ⟨a, cap, rfl, hn, hm⟩ := hL.parts
      have hH := fun W => has_any a L.length cap (k : Int) W
      rw [hasB_yes hi] at hH
      rw [show rightB L = true from decide_eq_true hr] at hRight
      obtain ⟨N, hN⟩ : ∃ N, L.length = N := ⟨_, rfl⟩
      obtain ⟨M, hM⟩ : ∃ M, L.set k s = M := ⟨_, rfl⟩
      rw [hM] at hR2 hsl hsok
      simp only [hM] at hSet
      have hown : ∀ (W : World) (base g cap : Nat), W.ownsRow base 35 3 (.slice (some ⟨g, 0, none⟩) N cap) N (cellsL M) → Segs W (.slice (some ⟨g, 0, none⟩) N cap) M := fun W base g cap h => Segs.own (base := base) (by rw [hsl, hN]; exact h)
      have hfin : ∀ (W : World) (v2 : Value), RightP M → Segs W v2 M → Below w.heap.size w W → SetPost L (k : Int) s w (.returned (.tuple #[v2, .int .i64 0])) W := fun W v2 h1 h2 h3 => ⟨v2, by rw [hsE, if_pos (hsok.2 h1)], by unfold setV; rw [if_pos (hsok.2 h1), Int.toNat_natCast, hM]; exact h2, h3⟩
      have hno : ∀ (W : World), ¬ RightP M → Below w.heap.size w W → SetPost L (k : Int) s w (.returned (.tuple #[.slice none 0 0, .int .i64 60])) W := fun W h1 h3 => HNo.out W 60 (fun hh => h1 (hsok.1 hh)) (by rw [hsE, if_neg (fun hh => h1 (hsok.1 hh))]) h3
      unfold Ans at hR2 hRight
      rw [hN] at hL1 hC hH hRight hkl ⊢
      have HC := Lib.hid hC
      have HSet := Lib.hid (fun W base g cap h => hSet W base g cap N hN h)
      have HR2 := Lib.hid hR2
      have HOwn := Lib.hid hown
      have HFin := Lib.hid hfin
      have HNo2 := Lib.hid hno
      have HRi := Lib.hid hRight
      have HH := Lib.hid hH
      have HL1 := Lib.hid hL1
      have HB0 := Lib.hid hnew
      obtain ⟨y0, y1, y2⟩ := hAt.c
      have HBX := Lib.hid (fun W (hB : Below (w.alloc (boxO s)).heap.size (w.alloc (boxO s)) W) => (hAt.th hB).c)
      clear hL hL1 hC hSet hR2 hown hfin hno hRight hH HNo hR hsE hsok hsl hi hr hN hnew hAt hM
      have HRB : Hid ((RightP M ∧ rightB M = true) ∨ (¬ RightP M ∧ rightB M = false)) := by
        by_cases h : RightP M
        · exact .inl ⟨h, decide_eq_true h⟩
        · exact .inr ⟨h, decide_eq_false h⟩
      obtain ⟨lv, bg, st⟩ := s
      unfold S.val
      unfold boxO at HL1 HB0 HBX y0 y1 y2
      dsimp only at *
      rcases HRB.out with ⟨hM, e⟩ | ⟨hM, e⟩
      · rw [e] at HR2
        have HM := Lib.hid hM
        clear hM e HRB
        obtain ⟨W0, rfl⟩ : ∃ W0 : World, W0 = w := ⟨_, rfl⟩
        go_enter Try.func18, Try.ntmps18
        go_wp2_with (first
          | (go_at_call 22; refine (HH.out _).mono ?_; rintro e w1 ⟨rfl, rfl⟩)
          | (go_at_call 12; with_reducible refine Calls.mono (HRi.out _ HL1.out) ?_; rintro e w1 ⟨rfl, hB1⟩)
          | (go_at_call 30; with_reducible refine Calls.mono (HC.out _ (HL1.out.below hB1)) ?_; rintro e w2 ⟨v2, rfl, hown2, hB2⟩; obtain ⟨g, cap2, rfl, hg, hc1, hc2⟩ := own_open hown2 (by omega); have hBx := below_th hB1 hB2; obtain ⟨z0, z1, z2⟩ := HBX.out _ hBx; obtain ⟨⟨u0, k0⟩, f0, ⟨u1, k1⟩, f1, ⟨u2, k2⟩, f2, hown3, hB3⟩ := HSet.out _ _ _ _ hown2; have HS3 := Lib.hid (HOwn.out _ _ _ _ hown3); have HB3 := Lib.hid (below_th HB0.out hBx |>.trans (hB3.mono (by have := HB0.out.size; have := hB1.size; omega))); clear hown2 hown3 hB3)
          | (go_at_call 12; with_reducible refine Calls.mono (HR2.out _ _ _ _ HS3.out) ?_; rintro e w4 ⟨rfl, hB4⟩))
        go_returns
        exact HFin.out _ _ HM.out (HS3.out.below hB4) (below_th HB3.out hB4)
      · rw [e] at HR2
        have HM := Lib.hid hM
        clear hM e HRB
        obtain ⟨W0, rfl⟩ : ∃ W0 : World, W0 = w := ⟨_, rfl⟩
        go_enter Try.func18, Try.ntmps18
        go_wp2_with (first
          | (go_at_call 22; refine (HH.out _).mono ?_; rintro e w1 ⟨rfl, rfl⟩)
          | (go_at_call 12; with_reducible refine Calls.mono (HRi.out _ HL1.out) ?_; rintro e w1 ⟨rfl, hB1⟩)
          | (go_at_call 30; with_reducible refine Calls.mono (HC.out _ (HL1.out.below hB1)) ?_; rintro e w2 ⟨v2, rfl, hown2, hB2⟩; obtain ⟨g, cap2, rfl, hg, hc1, hc2⟩ := own_open hown2 (by omega); have hBx := below_th hB1 hB2; obtain ⟨z0, z1, z2⟩ := HBX.out _ hBx; obtain ⟨⟨u0, k0⟩, f0, ⟨u1, k1⟩, f1, ⟨u2, k2⟩, f2, hown3, hB3⟩ := HSet.out _ _ _ _ hown2; have HS3 := Lib.hid (HOwn.out _ _ _ _ hown3); have HB3 := Lib.hid (below_th HB0.out hBx |>.trans (hB3.mono (by have := HB0.out.size; have := hB1.size; omega))); clear hown2 hown3 hB3)
          | (go_at_call 12; with_reducible refine Calls.mono (HR2.out _ _ _ _ HS3.out) ?_; rintro e w4 ⟨rfl, hB4⟩))
        go_returns
        exact HNo2.out _ HM.out (below_th HB3.out hB4)
    · have hsE : setE L i s = 60 := by
        unfold setE
        rw [if_pos hi, if_neg (fun hh => hr hh.2.1)]
      obtain ⟨a, cap, rfl, hn, hm⟩ := hL.parts
      have hH := fun W => has_any a L.length cap i W
      rw [hasB_yes hi] at hH
      rw [show rightB L = false from decide_eq_false hr] at hRight
      have hno : ∀ (W : World), Below w.heap.size w W → SetPost L i s w (.returned (.tuple #[.slice none 0 0, .int .i64 60])) W := fun W h3 => HNo.out W 60 (fun hh => hr hh.2.1) hsE.symm h3
      have HNo2 := Lib.hid hno
      have HRi := Lib.hid (hRight _ hL1)
      have HB0 := Lib.hid hnew
      unfold Ans at HRi
      clear hL hL1 hR hRight hnew hAt hno HNo hsE hr hi
      obtain ⟨lv, bg, st⟩ := s
      unfold S.val
      unfold boxO at HRi HB0
      dsimp only at *
      go_enter Try.func18, Try.ntmps18
      go_wp2_with (first
        | (go_at_call 22; refine (hH _).mono ?_; rintro e w1 ⟨rfl, rfl⟩)
        | (go_at_call 12; with_reducible refine Calls.mono HRi.out ?_; rintro e w1 ⟨rfl, hB1⟩))
      go_returns
      exact HNo2.out _ (below_th HB0.out hB1)
  · have hsE : setE L i s = 2 := if_neg hi
    obtain ⟨a, cap, rfl, hn, hm⟩ := hL.parts
    have hH := fun W => has_any a L.length cap i W
    rw [hasB_no hi] at hH
    have hno : ∀ (W : World), Below w.heap.size w W → SetPost L i s w (.returned (.tuple #[.slice none 0 0, .int .i64 2])) W := fun W h3 => HNo.out W 2 (fun hh => hi hh.1) hsE.symm h3
    have HNo2 := Lib.hid hno
    have HB0 := Lib.hid hnew
    clear hL hL1 hR hRight hnew hAt hno HNo hsE hi
    obtain ⟨lv, bg, st⟩ := s
    unfold S.val
    unfold boxO at HB0
    dsimp only at *
    go_enter Try.func18, Try.ntmps18
    go_wp2_with (go_at_call 22; refine (hH _).mono ?_; rintro e w1 ⟨rfl, rfl⟩)
    go_returns
    exact HNo2.out _ HB0.out
end
end Go.Proofs.Ytgadclbenbakfaa.Usage
