/- Of, the program's and the reference's, with texts of any length. -/
import Derived.Test.YtbidhiefgbddeaaDiskLastW
namespace Go.Proofs.Ytbidhiefgbddeaa.Disk
open Go.RowKit Go.Shelf
set_option linter.unusedVariables false

section
set_option maxRecDepth 100000
set_option maxHeartbeats 1000000
theorem isLong_yes_l (s : ByteArray) (w : World) (h : 512 < s.size) (hm : s.size ≤ 9223372036854775807) : Calls Try.prog 42 #[.string s] w fun e w' => e = .returned (.bool true) ∧ w = w' := by
  have h1 : (512 : Int) < (s.size : Int) := by omega
  go_enter Try.func42, Try.ntmps42
  go_wp2
  go_ret
  exact ⟨rfl, rfl⟩
theorem indexFunc_any_l (l : List ByteArray) (v : Value) (w : World) (hl : Lies w v l.length 1 (strs l)) (hsz : ∀ s ∈ l, s.size ≤ 9223372036854775807) :
    Calls Try.prog 52 #[v, .func (.func 42) #[] #[]] w (IndexPost l w) := by
  obtain ⟨a, c, rfl, HA, h1, h2⟩ := hl.parts
  have HSZ := Lib.hid hsz
  clear hl hsz
  go_enter Try.func52, Try.ntmps52
  go_wp2
  go_loop [8] (fun i => ∃ k : Nat, k ≤ l.length ∧ i = .int .i64 k ∧ Hid (∀ j s, j < k → l[j]? = some s → s.size ≤ 512)) (fun i => l.length - (intOf i).toNat)
  case atStart => exact ⟨0, Nat.zero_le _, rfl, fun j s hj => by omega⟩
  case round =>
    obtain ⟨k, hk, rfl, HP⟩ := hrel
    by_cases hlt : k < l.length
    · obtain ⟨s, hs⟩ : ∃ s, l[k]? = some s := ⟨_, List.getElem?_eq_getElem hlt⟩
      obtain ⟨b, off, rfl, cs⟩ := HA.out.read (j := k) (u := .string s) (strs_at _ _ _ hs)
      have hsm := HSZ.out s (List.mem_of_getElem? hs)
      have HS := Lib.hid hs
      clear hs
      by_cases hbig : s.size ≤ 512
      · have hc := fun W => isLong_no s W hbig
        have HC := Lib.hid hc
        have HP2 : Hid (∀ j s, j < k + 1 → l[j]? = some s → s.size ≤ 512) := fun j s' hj hs' => by
          rcases Nat.lt_or_ge j k with h | h
          · exact HP.out j s' h hs'
          · obtain rfl : j = k := by omega
            rw [HS.out] at hs'
            cases hs'
            exact hbig
        clear hc
        go_wp2_with (go_at_call 42; refine (HC.out _).mono ?_; rintro e w' ⟨rfl, rfl⟩)
        go_round
        case rel => exact ⟨k + 1, by omega, by go_num, HP2⟩
        case measure => simp [intOf]; omega
      · have hc := fun W => isLong_yes_l s W (by omega) hsm
        have HC := Lib.hid hc
        have hno : ¬ ∀ s ∈ l, s.size ≤ 512 := fun hh => hbig (hh s (List.mem_of_getElem? HS.out))
        have HNo := Lib.hid hno
        clear hc hno
        go_wp2_with (go_at_call 42; refine (HC.out _).mono ?_; rintro e w' ⟨rfl, rfl⟩)
        go_ret
        exact ⟨fun hh => absurd hh HNo.out, fun _ => ⟨k, hk, rfl⟩, rfl⟩
    · obtain rfl : l.length = k := by omega
      have hall : ∀ s ∈ l, s.size ≤ 512 := fun s hs => by
        obtain ⟨j, hj⟩ := List.getElem?_of_mem hs
        exact HP.out j s (List.getElem?_eq_some_iff.1 hj).1 hj
      have HALL := Lib.hid hall
      clear hall
      go_wp2
      go_ret
      exact ⟨fun _ => rfl, fun hh => absurd HALL.out hh, rfl⟩
theorem contains_yes_l (l : List ByteArray) (v : Value) (w : World) (hl : Lies w v l.length 1 (strs l)) (hm : ∀ s ∈ l, s.size ≤ 9223372036854775807) (hsz : ¬ ∀ s ∈ l, s.size ≤ 512) :
    Calls Try.prog 41 #[v, .func (.func 42) #[] #[]] w fun e w' => e = .returned (.bool true) ∧ w = w' := by
  have hc := indexFunc_any_l l v w hl hm
  obtain ⟨a, c, rfl, HA, h1, h2⟩ := hl.parts
  have HS := Lib.hid hsz
  clear hl hsz hm
  go_enter Try.func41, Try.ntmps41
  go_wp2_with (go_at_call 52; refine hc.mono ?_; rintro e w' ⟨_, hy, rfl⟩; obtain ⟨k, hk, rfl⟩ := hy HS.out; clear hy)
  go_ret
  exact ⟨rfl, rfl⟩

theorem of_not_l (l : List ByteArray) (v : Value) (w : World) (hl : Lies w v l.length 1 (strs l)) (hm : ∀ s ∈ l, s.size ≤ 9223372036854775807) (h : ¬ (sizeOk l.length ∧ ∀ s ∈ l, s.size ≤ 512)) :
    Calls Try.prog 19 #[v] w fun e w' => e = .returned (.tuple #[.pointer none, .int .i64 40]) ∧ w = w' := by
  by_cases hs : sizeOk l.length
  · have hc := isSize_yes l.length w hs
    have hx := contains_yes_l l v w hl hm (fun hh => h ⟨hs, hh⟩)
    obtain ⟨a, c, rfl, HA, h1, h2⟩ := hl.parts
    clear hl hm h hs
    go_enter Try.func19, Try.ntmps19
    go_wp2_with (first
      | (go_at_call 28; refine hc.mono ?_; rintro e w' ⟨rfl, rfl⟩)
      | (go_at_call 41; refine hx.mono ?_; rintro e w' ⟨rfl, rfl⟩))
    go_ret2
    exact ⟨rfl, rfl⟩
  · have hc := isSize_no (l.length : Int) w hs
    obtain ⟨a, c, rfl, HA, h1, h2⟩ := hl.parts
    clear hl hm h hs
    go_enter Try.func19, Try.ntmps19
    go_wp2_with (go_at_call 28; refine hc.mono ?_; rintro e w' ⟨rfl, rfl⟩)
    go_ret2
    exact ⟨rfl, rfl⟩
end
namespace R
set_option maxRecDepth 100000
set_option maxHeartbeats 4000000 in
theorem of_r_l (l : List ByteArray) (v : Value) (w : World) (hl : Lies w v l.length 1 (strs l)) (h : sizeOk l.length) (hsz : ∀ s ∈ l, s.size ≤ 9223372036854775807) :
    Calls Try.prog 20 #[v] w (OfPost l w) := by
  obtain ⟨i0, hi, hz0, hz1, hz2⟩ := info_parts infoS
  obtain ⟨a, c, rfl, HA, h1, h2⟩ := hl.parts
  have hc := size_yes l.length w h
  have hlo : 128 ≤ l.length := by have := h.1; omega
  have hhi : l.length ≤ 4096 := by have := h.2.1; omega
  have h0 : OfI w l 0 (w.alloc (.cells #[.slice none 0 0, .slice none 0 0, .int .i64 0, .int .i64 (-1), .bool false] 42)) := ⟨_, heap_alloc_new w _, World.ownsRow_nil _ _ _ _, (Below.refl _ w).alloc (Nat.le_refl _) _⟩
  have H0 := Lib.hid h0
  have HSZ := Lib.hid hsz
  clear hl h h0 hsz
  go_enter Try.func20, Try.ntmps20
  go_wp2_with (go_at_call 32; refine hc.mono ?_; rintro e w' ⟨rfl, rfl⟩)
  go_loopw [5] (fun i wr => ∃ k : Nat, k ≤ l.length ∧ i = .int .i64 k ∧ OfI w l k wr ∧ Hid (∀ j s, j < k → l[j]? = some s → s.size ≤ 512)) (fun i _ => l.length - (intOf i).toNat)
  case atStart => exact ⟨0, Nat.zero_le _, rfl, H0.out, fun j s hj => by omega⟩
  case round =>
    obtain ⟨k, hk, rfl, ⟨vb, hT, hown, hB⟩, HP⟩ := hrel
    by_cases hlt : k < l.length
    · obtain ⟨s, hs⟩ : ∃ s, l[k]? = some s := ⟨_, List.getElem?_eq_getElem hlt⟩
      obtain ⟨b, off, rfl, cs⟩ := (HA.out.below hB).read (j := k) (u := .string s) (strs_at _ _ _ hs)
      have hsm := HSZ.out s (List.mem_of_getElem? hs)
      have hbl : b < wr.heap.size := World.block_lt_of_cell? _ _ cs
      by_cases hbig : s.size ≤ 512
      · have hbk := fun W => block_any s W hbig
        have HBK := Lib.hid hbk
        have hql : w.heap.size < wr.heap.size := (Array.getElem?_eq_some_iff.1 hT).1
        have c0 := (cell_topR hT).1
        have hne : ∀ g, vb.ownBlock = some g → g ≠ w.heap.size := fun g hg e => by
          obtain ⟨cur, h4⟩ := own_heap hown hg
          unfold topR at hT
          rw [e, hT] at h4; simp only [Option.some.injEq, Obj.cells.injEq] at h4; exact absurd h4.2.1 (by decide)
        have hn1 : ¬ (512 : Int) < (s.size : Int) := by omega
        have HNE := Lib.hid hne
        have HS := Lib.hid hs
        have HT := Lib.hid hT
        have HO := Lib.hid hown
        clear hbk hne hs hT hown
        go_wp2
        go_region_law (first
          | (refine step_append_lies _ rfl (.tmp 28) (.tmp 34) 39 rfl w.heap.size 9 i0 (.string ByteArray.empty) 1 16 Try.underlying39 hi hz0 hz1 hz2 rfl (by decide) vb k (strs ((l.take k).map fit)) rfl (HO2.out.alloc _) ⟨w2.heap.size, 0, none⟩ 1 1 [.string (fit s)] rfl rfl (cell_one_new _ _ _) (by simp [Value.oneCell']) (by decide) (by unfold maxLen; omega) (by omega) (by simp; omega) (w2.heap.size + 1) (by simp) ?_; intro g3 cap3 w3 hown3 hgrow3 hat3 hg3; have hT3 := (hgrow3.block w.heap.size (by simp; omega) (fun e => HNE.out _ e.symm rfl)).trans ((Below.heap_alloc w2 _ w.heap.size (by omega)).trans HT2.out); have d3 := (cell_topR hT3).1; have f3 := (cell_topR hT3).2.2.2 0; have HT3 := Lib.hid hT3; clear hT3)
          | (go_simp; go_at_call 43; refine (HBK.out _).mono ?_; rintro e w2 ⟨rfl, hB2⟩; have hs2 : wr.heap.size ≤ w2.heap.size := hB2.size; have hq2 : w.heap.size < w2.heap.size := (by omega); have hT2 := (hB2.block w.heap.size hql).trans HT.out; have c2 := (cell_topR hT2).1; have HT2 : Hid (w2.heap[w.heap.size]? = some (topR vb (.slice none 0 0) 0 (-1) false)) := hT2; have HO2 : Hid (w2.ownsRow w.heap.size 9 1 vb k (strs ((l.take k).map fit))) := own_same HO.out (fun g hg => hB2.block g (HO.out.lt g hg).2); clear hT2))
        all_goals
          go_wp2
          have hB2' : Below wr.heap.size wr w2 := ⟨hB2.os, hB2.tape, hB2.output, hB2.size, hB2.block⟩
          have hBw2 : Below w.heap.size w w2 := hB.trans (hB2'.mono hB.size)
          have hBw3 : Below w.heap.size w w3 := (hBw2.alloc hBw2.size _).grown hgrow3 (by simp; omega) (fun r e => (HO.out.lt r e).1)
          have hg3n : g3 ≠ w.heap.size := fun e => by
            obtain ⟨cur, h4⟩ := own_heap hown3 (g := g3) rfl
            have h5 := HT3.out
            unfold topR at h5
            rw [e, h5] at h4; simp only [Option.some.injEq, Obj.cells.injEq] at h4; exact absurd h4.2.1 (by decide)
          have hnx : OfI w l (k + 1) (w3.setCell ⟨w.heap.size, 0, none⟩ (.slice (some ⟨g3, 0, none⟩) (k + 1) cap3)) := by
            refine ⟨.slice (some ⟨g3, 0, none⟩) (k + 1) cap3, top_b HT3.out, own_same (xs := strs ((l.take (k + 1)).map fit)) ?_ (fun g hg => Below.heap_setCell _ _ _ _ (by
              obtain rfl : g3 = g := by simpa [Value.ownBlock] using hg
              exact hg3n)), hBw3.setCell (p := ⟨w.heap.size, 0, none⟩) (Nat.le_refl _) _⟩
            rw [List.take_add_one, HS.out, List.map_append]
            unfold strs at hown3 ⊢
            rw [List.map_append]
            exact hown3
          have HNX := Lib.hid hnx
          have HP2 : Hid (∀ j s, j < k + 1 → l[j]? = some s → s.size ≤ 512) := fun j s' hj hs' => by
            rcases Nat.lt_or_ge j k with h | h
            · exact HP.out j s' h hs'
            · obtain rfl : j = k := by omega
              rw [HS.out] at hs'
              cases hs'
              exact hbig
          clear hnx hown3 hgrow3
          go_roundw
          case rel => exact ⟨k + 1, by omega, by go_num, HNX.out, HP2⟩
          case measure => simp [intOf]; omega
      · have hno : ¬ ∀ s ∈ l, s.size ≤ 512 := fun hh => hbig (hh s (List.mem_of_getElem? hs))
        have hb1 : (512 : Int) < (s.size : Int) := by omega
        have HNo := Lib.hid hno
        clear hno hs hT hown
        go_wp2
        go_ret2
        exact ⟨fun hh => absurd hh HNo.out, fun _ => rfl, hB⟩
    · obtain rfl : l.length = k := by omega
      have hall : ∀ s ∈ l, s.size ≤ 512 := fun s hs => by
        obtain ⟨j, hj⟩ := List.getElem?_of_mem hs
        exact HP.out j s (List.getElem?_eq_some_iff.1 hj).1 hj
      rw [List.take_length] at hown
      have hql : w.heap.size < wr.heap.size := (Array.getElem?_eq_some_iff.1 hT).1
      have hml : (l.map fit).length = l.length := by simp
      have HALL := Lib.hid hall
      clear hall
      go_wp2
      go_ret2
      refine ⟨fun _ => ⟨w.heap.size, rfl, ⟨D.of_ok (by rw [hml]; omega) (by rw [hml]; exact hhi) (fun s hs => ?_), vb, .slice none 0 0, false, ⟨hT, ?_, World.ownsRow_nil _ _ _ _⟩, (by simp), ?_⟩, Nat.le_refl _⟩, fun hh => absurd HALL.out hh, hB⟩
      · obtain ⟨s', hs', rfl⟩ := List.mem_map.1 hs
        exact fit_size s' (HALL.out s' hs')
      · show wr.ownsRow 0 9 1 vb (l.map fit).length (strs (l.map fit))
        rw [hml]
        exact ⟨hown.1, hown.2.imp id (fun ⟨g, cap, cur, e1, _, e2⟩ => ⟨g, cap, cur, e1, Nat.zero_le _, e2⟩)⟩
      · rintro k (rfl | hk | hk)
        · exact Nat.le_refl _
        · exact (hown.lt k hk).1
        · simp [Value.ownBlock] at hk

end R
end Go.Proofs.Ytbidhiefgbddeaa.Disk
