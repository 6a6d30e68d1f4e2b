/- The walk of DiskDoes: it answers true. -/
import Derived.Test.YtbidhiefgbddeaaDiskDo
namespace Go.Proofs.Ytbidhiefgbddeaa.Disk
open Go.RowKit Go.Shelf
set_option linter.unusedVariables false

theorem lies_row {w : World} {g : Nat} {l : List ByteArray} (h : Row w g 9 (strs l)) (hl : l.length ≤ 4096) : Lies w (.slice (some ⟨g, 0, none⟩) l.length l.length) l.length 1 (strs l) :=
  ⟨_, l.length, rfl, Nat.le_refl _, ⟨by unfold maxLen; omega, fun e => by cases e⟩, by simp [strs], fun _ => ⟨g, 0, rfl, fun j u hj => by rw [Nat.zero_add, h.at_]; exact hj⟩⟩
theorem op_at {w : World} {a : Option Addr} {cap N : Nat} {L : List Op} (hN : L.length = N) (hS : Lies w (.slice a N cap) N 6 (L.flatMap opCells)) {k : Nat} {x : Op} (hx : L[k]? = some x) :
    ∃ b off, a = some ⟨b, off, none⟩ ∧ w.cell? ⟨b, off + k * 6, none⟩ = some (.int .i64 x.k) ∧ w.cell? ⟨b, off + k * 6 + 1, none⟩ = some (.int .i64 x.a) ∧ w.cell? ⟨b, off + k * 6 + 2, none⟩ = some (.int .i64 x.n) ∧ w.cell? ⟨b, off + k * 6 + 3, none⟩ = some (.int .u8 x.c) ∧ w.cell? ⟨b, off + k * 6 + 4, none⟩ = some (.int .u64 x.p) ∧ w.cell? ⟨b, off + k * 6 + 5, none⟩ = some (.int .i64 x.t) := by
  have hkl := (List.getElem?_eq_some_iff.1 hx).1
  obtain ⟨_, _, h1, _, _, _, h5⟩ := hS
  cases h1
  obtain ⟨b, off, rfl, hc⟩ := h5 (by omega)
  have hf := fun j (hj : j < 6) => flat_at opCells 6 L (fun o _ => rfl) k j x hx hj
  refine ⟨b, off, rfl, ?_, ?_, ?_, ?_, ?_, ?_⟩
  · exact hc (k * 6) _ (hf 0 (by omega))
  · have := hc _ _ (hf 1 (by omega)); rwa [← Nat.add_assoc] at this
  · have := hc _ _ (hf 2 (by omega)); rwa [← Nat.add_assoc] at this
  · have := hc _ _ (hf 3 (by omega)); rwa [← Nat.add_assoc] at this
  · have := hc _ _ (hf 4 (by omega)); rwa [← Nat.add_assoc] at this
  · have := hc _ _ (hf 5 (by omega)); rwa [← Nat.add_assoc] at this

theorem ops_q {p : Nat} {F : Nat → Prop} {d : D} {w : World} (h : IsDisk w p F d) (m : Nat) : Calls Try.prog 13 #[.pointer (some ⟨p, 0, none⟩)] (w.drewN m) fun e w' => e = .returned (.int .i64 (d.ops : Nat)) ∧ w' = w.drewN m :=
  (ops_d (h.below (below_drewN (Below.refl w.heap.size w) m))).mono fun e w' hh => ⟨hh.1, hh.2.symm⟩
theorem loose_q {p : Nat} {F : Nat → Prop} {d : D} {w : World} (h : IsDisk w p F d) (m : Nat) : Calls Try.prog 14 #[.pointer (some ⟨p, 0, none⟩)] (w.drewN m) fun e w' => e = .returned (.int .i64 (d.L.length : Nat)) ∧ w' = w.drewN m :=
  (loose_d (h.below (below_drewN (Below.refl w.heap.size w) m))).mono fun e w' hh => ⟨hh.1, hh.2.symm⟩
section
set_option maxRecDepth 100000
set_option maxHeartbeats 4000000
theorem DiskDoes_head (a0 : Int) (v : Value) (w : World) (hr : 256 < a0 ∧ a0 ≤ 4096) (hv : ∃ a n c, v = .slice a n c) :
    Calls Try.prog 3 #[.int .i64 a0, v] w fun e w' => e = .returned (.bool true) ∧ Below w.heap.size w w' := by
  obtain ⟨a, n, c, rfl⟩ := hv
  obtain ⟨h1, h2⟩ := hr
  go_enter Try.func3, Try.ntmps3
  go_wp2_with (go_at_call 9; refine (shown_any _).mono ?_; rintro e w1 ⟨rfl, hB1⟩)
  go_ret
  exact ⟨rfl, hB1⟩
theorem DiskDoes_no (a0 : Int) (v : Value) (w : World) (hr : ¬ (256 < a0 ∧ a0 ≤ 4096)) (hs : ¬ sizeOk a0) (hv : ∃ a n c, v = .slice a n c) :
    Calls Try.prog 3 #[.int .i64 a0, v] w fun e w' => e = .returned (.bool true) ∧ Below w.heap.size w w' := by
  obtain ⟨a, n, c, rfl⟩ := hv
  have hn1 := fun W => new_no a0 W hs
  have hn2 := fun W => R.new_no_r a0 W hs
  have HN1 := Lib.hid hn1
  have HN2 := Lib.hid hn2
  clear hn1 hn2 hs
  by_cases h1 : 256 < a0
  · have h2 : ¬ a0 ≤ 4096 := fun hh => hr ⟨h1, hh⟩
    clear hr
    go_enter Try.func3, Try.ntmps3
    go_wp2_with (first
      | (go_at_call 9; refine (shown_any _).mono ?_; rintro e w1 ⟨rfl, hB1⟩)
      | (go_at_call 10; refine (HN1.out _).mono ?_; rintro e w2 ⟨rfl, rfl⟩)
      | (go_at_call 11; refine (HN2.out _).mono ?_; rintro e w3 ⟨rfl, rfl⟩))
    go_ret
    exact ⟨rfl, hB1⟩
  · clear hr
    go_enter Try.func3, Try.ntmps3
    go_wp2_with (first
      | (go_at_call 9; refine (shown_any _).mono ?_; rintro e w1 ⟨rfl, hB1⟩)
      | (go_at_call 10; refine (HN1.out _).mono ?_; rintro e w2 ⟨rfl, rfl⟩)
      | (go_at_call 11; refine (HN2.out _).mono ?_; rintro e w3 ⟨rfl, rfl⟩))
    go_ret
    exact ⟨rfl, hB1⟩
def DoesI (w : World) (n N : Nat) (a : Option Addr) (cap : Nat) (L : List Op) (k p q : Nat) (wr : World) : Prop := ∃ d, Pair w.heap.size wr p q d ∧ d.ops ≤ k ∧ d.B.length = n ∧ Below w.heap.size w wr ∧ Lies wr (.slice a N cap) N 6 (L.flatMap opCells)
theorem DoesI.drewN {w wr : World} {n N cap k p q : Nat} {a : Option Addr} {L : List Op} (h : DoesI w n N a cap L k p q wr) (m : Nat) : DoesI w n N a cap L k p q (wr.drewN m) := by
  obtain ⟨d, h1, h2, h3, h4, h5⟩ := h
  have hb := below_drewN (Below.refl wr.heap.size wr) m
  exact ⟨d, h1.below hb, h2, h3, below_drewN h4 m, h5.below hb⟩
theorem DiskDoes_yes (n : Nat) (v : Value) (L : List Op) (w : World) (hs : sizeOk n) (hn : n ≤ 256) (hL : Lies w v L.length 6 (L.flatMap opCells)) (wL : ∀ o ∈ L, OpOk o) :
    Calls Try.prog 3 #[.int .i64 n, v] w fun e w' => e = .returned (.bool true) ∧ Below w.heap.size w w' := by
  obtain ⟨a, cap, rfl, HL, hnc, hm⟩ := hL.parts
  have hn1 := fun W => new_yes n W hs
  have hn2 := fun W => R.new_yes_r n W hs
  have hlo : 128 ≤ n := by have := hs.1; omega
  obtain ⟨N, hN⟩ : ∃ N, L.length = N := ⟨_, rfl⟩
  rw [hN] at HL hnc ⊢
  have HNn := Lib.hid hN
  have HN1 := Lib.hid hn1
  have HN2 := Lib.hid hn2
  have hb : ¬ (256 : Int) < (n : Int) := by omega
  have WL := Lib.hid wL
  clear hL hn1 hn2 hN hs wL
  go_enter Try.func3, Try.ntmps3
  go_wp2_with (first
    | (go_at_call 9; refine (shown_any _).mono ?_; rintro e w1 ⟨rfl, hB1⟩)
    | (go_at_call 10; refine (HN1.out _).mono ?_; rintro e w2 ⟨p0, rfl, hd0, hp0, hB2⟩)
    | (go_at_call 11; refine (HN2.out _).mono ?_; rintro e w3 ⟨q0, rfl, hr0, hq0, hB3⟩))
  have hBw : Below w.heap.size w w3 := below_th (below_th hB1 hB2) hB3
  have hP0 : DoesI w n N a cap L 0 p0 q0 w3 := ⟨_, Pair.start hd0 hr0 hB3 hB1.size hB2.size, by simp [D.of], by simp [D.of], hBw, HL.out.below hBw⟩
  have HP0 := Lib.hid hP0
  clear hBw hP0 hd0 hr0 hB1 hB2 hB3 hp0 hq0
  go_loopw [6, 8, 10] (fun x y i wr => ∃ k p q : Nat, k ≤ N ∧ k ≤ 200 ∧ i = .int .i64 k ∧ x = .pointer (some ⟨p, 0, none⟩) ∧ y = .pointer (some ⟨q, 0, none⟩) ∧ DoesI w n N a cap L k p q wr) (fun _ _ i _ => N - (intOf i).toNat)
  case atStart => exact ⟨0, p0, q0, Nat.zero_le _, Nat.zero_le _, rfl, rfl, rfl, HP0.out⟩
  case round =>
    obtain ⟨k, p, q, hk, hk2, rfl, rfl, rfl, d, hP, hops, hlen, hB, hLs⟩ := hrel
    by_cases hlt : k < N ∧ k < 200
    · obtain ⟨hl1, hl2⟩ := hlt
      obtain ⟨x, hx⟩ : ∃ x, L[k]? = some x := ⟨_, List.getElem?_eq_getElem (by rw [HNn.out]; exact hl1)⟩
      obtain ⟨b, off, rfl, c0, c1, c2, c3, c4, c5⟩ := op_at HNn.out hLs hx
      have hD := does_any w.heap.size p q d x wr hP hB.size (WL.out x (List.mem_of_getElem? hx)) (by omega)
      unfold opArg at hD
      have HLs := Lib.hid hLs
      have hBs := hB
      clear hx hLs hP
      go_wp2_with (first
        | (go_at_call 12; refine hD.mono ?_; rintro e w4 ⟨p4, q4, d4, rfl, hP4, hB4, hops4, hlen4, _⟩))
      obtain ⟨F4, G4, hd4, hr4, _⟩ := id hP4.mem
      have hO := ops_q hd4
      have hLo := loose_q hd4
      have HO := Lib.hid hO
      have HLo := Lib.hid hLo
      obtain ⟨vb4, vl4, gone4, hA4, _, _⟩ := hr4.mem
      obtain ⟨ya, yc, rfl⟩ := hA4.sll
      have e2 := hA4.c2
      have e1 := hA4.c1
      have hBw4 : Below w.heap.size w w4 := hBs.trans hB4
      have hnx : DoesI w n N (some ⟨b, off, none⟩) cap L (k + 1) p4 q4 w4 := ⟨d4, hP4, by omega, by omega, hBw4, HL.out.below hBw4⟩
      have HNX := Lib.hid hnx
      clear hnx hr4 hd4 hA4 hO hLo
      go_quiet ((first | (go_at_call 13; exact Calls.quiet_of_same (HO.out _)) | (go_at_call 14; exact Calls.quiet_of_same (HLo.out _))))
      go_wp2
      go_roundw
      case rel => exact ⟨k + 1, p4, q4, by omega, by omega, by go_num, rfl, rfl, HNX.out.drewN _⟩
      case measure => simp [intOf]; omega
    · obtain ⟨F4, G4, hd4, hr4, _⟩ := hP.mem
      have hI1 := image_d hd4
      have hI2 := fun W h => R.image_r (w := W) (q := q) (G := G4) (d := d) h (by omega)
      have hBl : ∀ W, IsDisk W p F4 d → Calls Try.prog 18 #[.pointer (some ⟨p, 0, none⟩)] W fun e w' => e = .returned (.int .i64 (n : Nat)) ∧ W = w' := fun W h => by rw [← hlen]; exact blocks_d h
      have hsz := hr4.ok.now_sizes
      have hnl : d.now.length = n := by rw [D.now_length, hlen]
      have hSm := fun va vb W h1 h2 => R.same_any d.now va vb W h1 h2 (fun s hs => by have := hsz s hs; omega)
      have HI2 := Lib.hid hI2
      have HBl := Lib.hid hBl
      have HSm := Lib.hid hSm
      have HNL := Lib.hid hnl
      have HLEN := Lib.hid hlen
      have HB := Lib.hid hB
      clear hI2 hBl hsz hnl hSm hlen hP hLs hB
      by_cases hk1 : k < N
      · have hk3 : ¬ k < 200 := fun hh => hlt ⟨hk1, hh⟩
        clear hlt
        go_wp2_with (first
          | (go_at_call 16; refine hI1.mono ?_; rintro e w5 ⟨g5, rfl, hrow5, _, hB5⟩)
          | (go_at_call 17; refine (HI2.out _ (hr4.below hB5)).mono ?_; rintro e w6 ⟨v6, rfl, hv6, hB6⟩)
          | (go_at_call 15; refine (HSm.out _ _ _ (lies_row (hrow5.of_heap (hB6.block _ hrow5.lt)) (by rw [HNL.out]; omega)) (Lies.own hv6)).mono ?_; rintro e w7 ⟨rfl, hB7⟩)
          | (go_at_call 18; refine (HBl.out _ (hd4.below (below_th (below_th hB5 hB6) hB7))).mono ?_; rintro e w8 ⟨rfl, rfl⟩))
        go_ret
        exact ⟨rfl, below_th (below_th (HB.out.trans (hB5.mono HB.out.size)) hB6) hB7⟩
      · clear hlt
        go_wp2_with (first
          | (go_at_call 16; refine hI1.mono ?_; rintro e w5 ⟨g5, rfl, hrow5, _, hB5⟩)
          | (go_at_call 17; refine (HI2.out _ (hr4.below hB5)).mono ?_; rintro e w6 ⟨v6, rfl, hv6, hB6⟩)
          | (go_at_call 15; refine (HSm.out _ _ _ (lies_row (hrow5.of_heap (hB6.block _ hrow5.lt)) (by rw [HNL.out]; omega)) (Lies.own hv6)).mono ?_; rintro e w7 ⟨rfl, hB7⟩)
          | (go_at_call 18; refine (HBl.out _ (hd4.below (below_th (below_th hB5 hB6) hB7))).mono ?_; rintro e w8 ⟨rfl, rfl⟩))
        go_ret
        exact ⟨rfl, below_th (below_th (HB.out.trans (hB5.mono HB.out.size)) hB6) hB7⟩
theorem DiskDoes_walk (a0 : Int) (v : Value) (L : List Op) (w : World) (w0 : (Lit.int .i64 a0).wf = true) (hL : Lies w v L.length 6 (L.flatMap opCells)) (wL : ∀ o ∈ L, OpOk o) :
    Calls Try.prog 3 #[.int .i64 a0, v] w fun e w' => e = .returned (.bool true) ∧ Below w.heap.size w w' := by
  have hv : ∃ a n c, v = .slice a n c := by obtain ⟨a, c, rfl, _⟩ := hL; exact ⟨_, _, _, rfl⟩
  by_cases hr : 256 < a0 ∧ a0 ≤ 4096
  · exact DiskDoes_head a0 v w hr hv
  · by_cases hs : sizeOk a0
    · obtain ⟨n, rfl⟩ := Int.eq_ofNat_of_zero_le (show 0 ≤ a0 by have := hs.1; omega)
      have h2 : n ≤ 256 := by have := hs.2.1; omega
      exact DiskDoes_yes n v L w hs h2 hL wL
    · exact DiskDoes_no a0 v w hr hs hv
end
end Go.Proofs.Ytbidhiefgbddeaa.Disk
