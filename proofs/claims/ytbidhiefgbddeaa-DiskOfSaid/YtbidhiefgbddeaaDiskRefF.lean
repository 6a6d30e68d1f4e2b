/- The reference's Of and New. -/
import Derived.Deep.RegionLaw
import Derived.Deep.AppendLies
import Derived.Test.YtbidhiefgbddeaaDiskRefE
namespace Go.Proofs.Ytbidhiefgbddeaa.Disk.R
open Go.RowKit Go.Shelf
set_option linter.unusedVariables false

section
set_option maxRecDepth 100000
/-- may a disk be made of these? -/
def imageOk (l : List ByteArray) : Prop := sizeOk l.length ∧ ∀ s ∈ l, s.size ≤ 512
def OfI (w : World) (l : List ByteArray) (k : Nat) (wr : World) : Prop := ∃ vb, wr.heap[w.heap.size]? = some (topR vb (.slice none 0 0) 0 (-1) false) ∧ wr.ownsRow w.heap.size 9 1 vb k (strs ((l.take k).map fit)) ∧ Below w.heap.size w wr
theorem of_small (l : List ByteArray) (v : Value) (w : World) (hl : Lies w v l.length 1 (strs l)) (h : ¬ sizeOk l.length) :
    Calls Try.prog 20 #[v] w fun e w' => e = .returned (.tuple #[.pointer none, .int .i64 40]) ∧ w = w' := by
  obtain ⟨a, c, rfl, HA, h1, h2⟩ := hl.parts
  have hc := size_no (l.length : Int) w h
  clear hl h
  go_enter Try.func20, Try.ntmps20
  go_wp2_with (go_at_call 32; refine hc.mono ?_; rintro e w' ⟨rfl, rfl⟩)
  go_ret2
  exact ⟨rfl, rfl⟩
def OfPost (l : List ByteArray) (w : World) (e : Ending) (w' : World) : Prop :=
  ((∀ s ∈ l, s.size ≤ 512) → ∃ p, e = .returned (.tuple #[.pointer (some ⟨p, 0, none⟩), .int .i64 0]) ∧ IsRef w' p (fun k => w.heap.size ≤ k) (D.of (l.map fit)) ∧ w.heap.size ≤ p) ∧
  ((¬ ∀ s ∈ l, s.size ≤ 512) → e = .returned (.tuple #[.pointer none, .int .i64 40])) ∧ Below w.heap.size w w'
set_option maxHeartbeats 4000000 in
theorem of_r (l : List ByteArray) (v : Value) (w : World) (hl : Lies w v l.length 1 (strs l)) (h : sizeOk l.length) (hsz : ∀ s ∈ l, s.size ≤ 281474976710656) :
    Calls Try.prog 20 #[v] w (OfPost l w) := by
  obtain ⟨i0, hi, hz0, hz1, hz2⟩ := info_parts infoS
  obtain ⟨a, c, rfl, HA, h1, h2⟩ := hl.parts
  have hc := size_yes l.length w h
  have hlo : 128 ≤ l.length := by have := h.1; omega
  have hhi : l.length ≤ 4096 := by have := h.2.1; omega
  have h0 : OfI w l 0 (w.alloc (.cells #[.slice none 0 0, .slice none 0 0, .int .i64 0, .int .i64 (-1), .bool false] 42)) := ⟨_, heap_alloc_new w _, World.ownsRow_nil _ _ _ _, (Below.refl _ w).alloc (Nat.le_refl _) _⟩
  have H0 := Lib.hid h0
  have HSZ := Lib.hid hsz
  clear hl h h0 hsz
  go_enter Try.func20, Try.ntmps20
  go_wp2_with (go_at_call 32; refine hc.mono ?_; rintro e w' ⟨rfl, rfl⟩)
  go_loopw [5] (fun i wr => ∃ k : Nat, k ≤ l.length ∧ i = .int .i64 k ∧ OfI w l k wr ∧ Hid (∀ j s, j < k → l[j]? = some s → s.size ≤ 512)) (fun i _ => l.length - (intOf i).toNat)
  case atStart => exact ⟨0, Nat.zero_le _, rfl, H0.out, fun j s hj => by omega⟩
  case round =>
    obtain ⟨k, hk, rfl, ⟨vb, hT, hown, hB⟩, HP⟩ := hrel
    by_cases hlt : k < l.length
    · obtain ⟨s, hs⟩ : ∃ s, l[k]? = some s := ⟨_, List.getElem?_eq_getElem hlt⟩
      obtain ⟨b, off, rfl, cs⟩ := (HA.out.below hB).read (j := k) (u := .string s) (strs_at _ _ _ hs)
      have hsm := HSZ.out s (List.mem_of_getElem? hs)
      have hbl : b < wr.heap.size := World.block_lt_of_cell? _ _ cs
      by_cases hbig : s.size ≤ 512
      · have hbk := fun W => block_any s W hbig
        have HBK := Lib.hid hbk
        have hql : w.heap.size < wr.heap.size := (Array.getElem?_eq_some_iff.1 hT).1
        have c0 := (cell_topR hT).1
        have hne : ∀ g, vb.ownBlock = some g → g ≠ w.heap.size := fun g hg e => by
          obtain ⟨cur, h4⟩ := own_heap hown hg
          unfold topR at hT
          rw [e, hT] at h4; simp only [Option.some.injEq, Obj.cells.injEq] at h4; exact absurd h4.2.1 (by decide)
        have hn1 : ¬ (512 : Int) < (s.size : Int) := by omega
        have HNE := Lib.hid hne
        have HS := Lib.hid hs
        have HT := Lib.hid hT
        have HO := Lib.hid hown
        clear hbk hne hs hT hown
        go_wp2
        go_region_law (first
          | (refine step_append_lies _ rfl (.tmp 28) (.tmp 34) 39 rfl w.heap.size 9 i0 (.string ByteArray.empty) 1 16 Try.underlying39 hi hz0 hz1 hz2 rfl (by decide) vb k (strs ((l.take k).map fit)) rfl (HO2.out.alloc _) ⟨w2.heap.size, 0, none⟩ 1 1 [.string (fit s)] rfl rfl (cell_one_new _ _ _) (by simp [Value.oneCell']) (by decide) (by unfold maxLen; omega) (by omega) (by simp; omega) (w2.heap.size + 1) (by simp) ?_; intro g3 cap3 w3 hown3 hgrow3 hat3 hg3; have hT3 := (hgrow3.block w.heap.size (by simp; omega) (fun e => HNE.out _ e.symm rfl)).trans ((Below.heap_alloc w2 _ w.heap.size (by omega)).trans HT2.out); have d3 := (cell_topR hT3).1; have f3 := (cell_topR hT3).2.2.2 0; have HT3 := Lib.hid hT3; clear hT3)
          | (go_simp; go_at_call 43; refine (HBK.out _).mono ?_; rintro e w2 ⟨rfl, hB2⟩; have hs2 : wr.heap.size ≤ w2.heap.size := hB2.size; have hq2 : w.heap.size < w2.heap.size := (by omega); have hT2 := (hB2.block w.heap.size hql).trans HT.out; have c2 := (cell_topR hT2).1; have HT2 : Hid (w2.heap[w.heap.size]? = some (topR vb (.slice none 0 0) 0 (-1) false)) := hT2; have HO2 : Hid (w2.ownsRow w.heap.size 9 1 vb k (strs ((l.take k).map fit))) := own_same HO.out (fun g hg => hB2.block g (HO.out.lt g hg).2); clear hT2))
        all_goals
          go_wp2
          have hB2' : Below wr.heap.size wr w2 := ⟨hB2.os, hB2.tape, hB2.output, hB2.size, hB2.block⟩
          have hBw2 : Below w.heap.size w w2 := hB.trans (hB2'.mono hB.size)
          have hBw3 : Below w.heap.size w w3 := (hBw2.alloc hBw2.size _).grown hgrow3 (by simp; omega) (fun r e => (HO.out.lt r e).1)
          have hg3n : g3 ≠ w.heap.size := fun e => by
            obtain ⟨cur, h4⟩ := own_heap hown3 (g := g3) rfl
            have h5 := HT3.out
            unfold topR at h5
            rw [e, h5] at h4; simp only [Option.some.injEq, Obj.cells.injEq] at h4; exact absurd h4.2.1 (by decide)
          have hnx : OfI w l (k + 1) (w3.setCell ⟨w.heap.size, 0, none⟩ (.slice (some ⟨g3, 0, none⟩) (k + 1) cap3)) := by
            refine ⟨.slice (some ⟨g3, 0, none⟩) (k + 1) cap3, top_b HT3.out, own_same (xs := strs ((l.take (k + 1)).map fit)) ?_ (fun g hg => Below.heap_setCell _ _ _ _ (by
              obtain rfl : g3 = g := by simpa [Value.ownBlock] using hg
              exact hg3n)), hBw3.setCell (p := ⟨w.heap.size, 0, none⟩) (Nat.le_refl _) _⟩
            rw [List.take_add_one, HS.out, List.map_append]
            unfold strs at hown3 ⊢
            rw [List.map_append]
            exact hown3
          have HNX := Lib.hid hnx
          have HP2 : Hid (∀ j s, j < k + 1 → l[j]? = some s → s.size ≤ 512) := fun j s' hj hs' => by
            rcases Nat.lt_or_ge j k with h | h
            · exact HP.out j s' h hs'
            · obtain rfl : j = k := by omega
              rw [HS.out] at hs'
              cases hs'
              exact hbig
          clear hnx hown3 hgrow3
          go_roundw
          case rel => exact ⟨k + 1, by omega, by go_num, HNX.out, HP2⟩
          case measure => simp [intOf]; omega
      · have hno : ¬ ∀ s ∈ l, s.size ≤ 512 := fun hh => hbig (hh s (List.mem_of_getElem? hs))
        have hb1 : (512 : Int) < (s.size : Int) := by omega
        have HNo := Lib.hid hno
        clear hno hs hT hown
        go_wp2
        go_ret2
        exact ⟨fun hh => absurd hh HNo.out, fun _ => rfl, hB⟩
    · obtain rfl : l.length = k := by omega
      have hall : ∀ s ∈ l, s.size ≤ 512 := fun s hs => by
        obtain ⟨j, hj⟩ := List.getElem?_of_mem hs
        exact HP.out j s (List.getElem?_eq_some_iff.1 hj).1 hj
      rw [List.take_length] at hown
      have hql : w.heap.size < wr.heap.size := (Array.getElem?_eq_some_iff.1 hT).1
      have hml : (l.map fit).length = l.length := by simp
      have HALL := Lib.hid hall
      clear hall
      go_wp2
      go_ret2
      refine ⟨fun _ => ⟨w.heap.size, rfl, ⟨D.of_ok (by rw [hml]; omega) (by rw [hml]; exact hhi) (fun s hs => ?_), vb, .slice none 0 0, false, ⟨hT, ?_, World.ownsRow_nil _ _ _ _⟩, (by simp), ?_⟩, Nat.le_refl _⟩, fun hh => absurd HALL.out hh, hB⟩
      · obtain ⟨s', hs', rfl⟩ := List.mem_map.1 hs
        exact fit_size s' (HALL.out s' hs')
      · show wr.ownsRow 0 9 1 vb (l.map fit).length (strs (l.map fit))
        rw [hml]
        exact ⟨hown.1, hown.2.imp id (fun ⟨g, cap, cur, e1, _, e2⟩ => ⟨g, cap, cur, e1, Nat.zero_le _, e2⟩)⟩
      · rintro k (rfl | hk | hk)
        · exact Nat.le_refl _
        · exact (hown.lt k hk).1
        · simp [Value.ownBlock] at hk

theorem repl_fit (n : Nat) : (List.replicate n (⟨#[]⟩ : ByteArray)).map fit = List.replicate n zblock := by rw [List.map_replicate]; rfl
def NewPost (n : Nat) (w : World) (e : Ending) (w' : World) : Prop := ∃ p, e = .returned (.tuple #[.pointer (some ⟨p, 0, none⟩), .int .i64 0]) ∧ IsRef w' p (fun k => w.heap.size ≤ k) (D.of (List.replicate n zblock)) ∧ w.heap.size ≤ p ∧ Below w.heap.size w w'
theorem new_no_r (n : Int) (w : World) (h : ¬ sizeOk n) : Calls Try.prog 11 #[.int .i64 n] w fun e w' => e = .returned (.tuple #[.pointer none, .int .i64 40]) ∧ w = w' := by
  have hc := size_no n w h
  clear h
  go_enter Try.func11, Try.ntmps11
  go_wp2_with (go_at_call 32; refine hc.mono ?_; rintro e w' ⟨rfl, rfl⟩)
  go_ret2
  exact ⟨rfl, rfl⟩
theorem new_yes_r (n : Nat) (w : World) (h : sizeOk n) : Calls Try.prog 11 #[.int .i64 n] w (NewPost n w) := by
  have hc := size_yes n w h
  have h1 : 128 ≤ n := by have := h.1; omega
  have h2 : n ≤ 4096 := by have := h.2.1; omega
  have hmk : ∀ W : World, (Instr.makeSlice 39 (.int .i64 (n : Int)) (.int .i64 (n : Int))).run Try.prog W = .ok (.slice (some ⟨W.heap.size, 0, none⟩) n n) (W.alloc (.cells (madeCells #[.string ByteArray.empty] n) 9)) := fun W =>
    run_make_row' (P := Try.prog) 39 9 (.string ByteArray.empty) 16 Try.underlying39 infoS rfl .i64 .i64 n (by omega) (by omega) W
  obtain ⟨W0, hW0⟩ : ∃ W0, w.alloc (.cells (madeCells #[.string ByteArray.empty] n) 9) = W0 := ⟨_, rfl⟩
  have hB0 : Below w.heap.size w W0 := by rw [← hW0]; exact (Below.refl _ w).alloc (Nat.le_refl _) _
  have hrow : Row W0 w.heap.size 9 (strs (List.replicate n ⟨#[]⟩)) := by
    rw [← hW0]
    have := heap_alloc_new w (.cells (madeCells #[.string ByteArray.empty] n) 9)
    have e : madeCells #[Value.string ByteArray.empty] n = (strs (List.replicate n ⟨#[]⟩)).toArray := by
      apply Array.toList_inj.1
      rw [madeCells_rep, strs, List.map_replicate]
      rfl
    unfold Row
    rw [← e]
    exact this
  have hlies : Lies W0 (.slice (some ⟨w.heap.size, 0, none⟩) n n) n 1 (strs (List.replicate n ⟨#[]⟩)) :=
    ⟨_, n, rfl, Nat.le_refl _, ⟨by unfold maxLen; omega, fun e => by cases e⟩, by simp [strs], fun _ => ⟨w.heap.size, 0, rfl, fun j u hj => by rw [Nat.zero_add, hrow.at_]; exact hj⟩⟩
  have hlr : (List.replicate n (⟨#[]⟩ : ByteArray)).length = n := by simp
  have hof := of_r (List.replicate n ⟨#[]⟩) (.slice (some ⟨w.heap.size, 0, none⟩) n n) W0 (by rw [hlr]; exact hlies) (by rw [hlr]; exact h) (fun s hs => by rw [List.eq_of_mem_replicate hs]; decide)
  have hs0 : w.heap.size ≤ W0.heap.size := hB0.size
  clear hrow hlies hlr h
  go_enter Try.func11, Try.ntmps11
  go_wp2_with (first
    | (go_at_call 32; refine hc.mono ?_; rintro e w' ⟨rfl, rfl⟩)
    | (go_at_call 20; refine hof.mono ?_; rintro e w1 ⟨hy, _, hB1⟩; obtain ⟨p, rfl, hp, hpl⟩ := hy (fun s hs => by rw [List.eq_of_mem_replicate hs]; decide); clear hy))
  go_ret2
  rw [repl_fit] at hp
  obtain ⟨vb, vl, gone, hA, hg, hF⟩ := hp.mem
  exact ⟨p, rfl, ⟨hp.ok, vb, vl, gone, hA, hg, fun k hk => Nat.le_trans hs0 (hF k hk)⟩, by omega, hB0.trans (hB1.mono hs0)⟩
end
end Go.Proofs.Ytbidhiefgbddeaa.Disk.R
