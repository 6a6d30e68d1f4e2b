/- The reference's Image, CutAt, Flush, Write. -/
import Derived.Deep.RegionWith
import Derived.Test.YtbidhiefgbddeaaDiskSet
namespace Go.Proofs.Ytbidhiefgbddeaa.Disk.R
open Go.RowKit Go.Shelf
set_option linter.unusedVariables false

section
set_option maxRecDepth 100000
set_option maxHeartbeats 1000000
variable {q : Nat} {G : Nat → Prop} {d : D} {w : World}
theorem image_r (h : IsRef w q G d) (hops : d.ops ≤ 1099511627776) : Calls Try.prog 17 #[.pointer (some ⟨q, 0, none⟩)] w (Set d.now w) := by
  obtain ⟨vb, vl, gone, hA, hg, hF⟩ := h.mem
  have c0 := hA.c0
  have c1 := hA.c1
  have hs := settled_any d.B d.L vb vl 0 0 w.drew hA.bs.drew hA.ls.drew h.ok.lo h.ok.hi (by have := h.ok.few; omega) h.ok.at_
  obtain ⟨xa, xc, rfl⟩ := hA.slb
  obtain ⟨ya, yc, rfl⟩ := hA.sll
  have HS := Lib.hid hs
  clear hs hg
  go_enter Try.func17, Try.ntmps17
  go_wp2
  go_still_tail 8, (by kernel_rfl)
  go_wp2_with (go_at_call 40; refine (HS.out).mono ?_; rintro e w1 ⟨v, rfl, hv, hB⟩)
  go_ret
  have e1 : (settle d.B d.L).length = d.B.length := settle_length _ _
  exact ⟨v, rfl, hv, ⟨hB.os, hB.tape, hB.output, hB.size, hB.block⟩⟩
theorem cutAt_r (n : Int) (h : IsRef w q G d) (h1 : -9223372036854775808 ≤ n) (h2 : n ≤ 9223372036854775807) : Calls Try.prog 35 #[.pointer (some ⟨q, 0, none⟩), .int .i64 n] w fun e w' => e = .returned (.tuple #[]) ∧ IsRef w' q G (d.cutAt n) ∧ Only G w w' := by
  have hok := h.ok.cutAt h1 h2
  obtain ⟨vb, vl, gone, hA, hg, hF⟩ := h.mem
  have c3 := hA.c3
  have f3 := hA.fr 3
  have hT := top_cut (c' := n) hA.top
  have c4 : (w.setCell ⟨q, 3, none⟩ (.int .i64 n)).cell? ⟨q, 4, none⟩ = some (.bool gone) := by simp only [World.cell?, hT]; rfl
  have f4 := (cell_topR hT).2.2.2 4
  have HT := Lib.hid hT
  clear h1 h2 hT hg
  go_enter Try.func35, Try.ntmps35
  go_wp2
  go_end0
  obtain ⟨k1, k2, k3⟩ := hA.kinds
  have hset : ∀ k, k ≠ q → ((w.setCell ⟨q, 3, none⟩ (.int .i64 n)).setCell ⟨q, 4, none⟩ (.bool false)).heap[k]? = w.heap[k]? := fun k hk => (Below.heap_setCell _ _ _ _ hk).trans (Below.heap_setCell _ _ _ _ hk)
  exact ⟨rfl, ⟨hok, vb, vl, false, ⟨top_gone HT.out, own_same hA.bs (fun g hg => hset g (fun e => k1 (e ▸ hg))), own_same hA.ls (fun g hg => hset g (fun e => k2 (e ▸ hg)))⟩, (by simp), hF⟩, ((Only.refl G w).setCell (p := ⟨q, 3, none⟩) (.inr (hF _ (.inl rfl))) _).setCell (p := ⟨q, 4, none⟩) (.inr (hF _ (.inl rfl))) _⟩

theorem left_off {w1 : World} {vb vl : Value} {b : Bool} (hok : d.Ok) (hF : ∀ k, Foot q vb vl k → G k) (hA1 : At w1 q vb vl b d) (hb : b = true → d.off) (ho : Only (fun k => k = q) w w1) : Left q G d w w1 :=
  ⟨G, ⟨hok, vb, vl, b, hA1, hb, hF⟩, ho.mono (fun k _ e => e ▸ hF q (.inl rfl)), fun k hk => .inl hk⟩
theorem flush_off_r (h : IsRef w q G d) (ho : d.off) : Calls Try.prog 34 #[.pointer (some ⟨q, 0, none⟩)] w fun e w' => e = .returned (.int .i64 43) ∧ Left q G d w w' := by
  obtain ⟨vb, vl, gone, hA, hg, hF⟩ := h.mem
  have hx := off_any q vb vl gone d w hA hg true (decide_eq_true ho)
  have HO := Lib.hid ho
  clear hg ho
  go_enter Try.func34, Try.ntmps34
  go_wp2_with (go_at_call 50; refine hx.mono ?_; rintro e w1 ⟨rfl, hA1, ho1⟩)
  go_ret
  exact ⟨rfl, left_off h.ok hF hA1 (fun _ => HO.out) ho1⟩
theorem flush_ok_r (h : IsRef w q G d) (ho : ¬ d.off) (hops : d.ops ≤ 1099511627776) : Calls Try.prog 34 #[.pointer (some ⟨q, 0, none⟩)] w fun e w' => e = .returned (.int .i64 0) ∧ Left q G d.flushed w w' := by
  obtain ⟨vb, vl, gone, hA, hg, hF⟩ := h.mem
  have hx := off_any q vb vl gone d w hA hg false (decide_eq_false ho)
  have hs := fun W b (hA1 : At W q vb vl b d) => settled_any d.B d.L vb vl 0 0 W.drew hA1.bs.drew hA1.ls.drew h.ok.lo h.ok.hi (by have := h.ok.few; omega) h.ok.at_
  have HS := Lib.hid hs
  obtain ⟨xa, xc, rfl⟩ := hA.slb
  obtain ⟨ya, yc, rfl⟩ := hA.sll
  obtain ⟨k1, k2, k3⟩ := hA.kinds
  clear hg ho hs
  go_enter Try.func34, Try.ntmps34
  go_wp2_with (go_at_call 50; refine hx.mono ?_; rintro e w1 ⟨rfl, hA1, ho1⟩; have c0 := hA1.c0; have c1 := hA1.c1)
  go_region_with ((go_at_call 40; refine (HS.out _ _ hA1).mono ?_; rintro e w2 ⟨v, rfl, hv, hB2⟩; have hA2 := hA1.below (w' := w2) ⟨hB2.os, hB2.tape, hB2.output, hB2.size, hB2.block⟩; have d0 := hA2.c0; have dd1 := hA2.c1; have f0 := hA2.fr 0; obtain ⟨g2, cap2, rfl, _, _, hg2, _⟩ := own_read hv (by have e1 := settle_length d.B d.L; have e2 := h.ok.lo; omega); have hT1 := top_b (vb' := .slice (some ⟨g2, 0, none⟩) (settle d.B d.L).length cap2) hA2.top; have d1 := (cell_topR hT1).2.1; have f1 := (cell_topR hT1).2.2.2 1; have hT2 := top_l (vl' := .slice none 0 0) hT1; have d2 := (cell_topR hT2).2.2.1; have f2 := (cell_topR hT2).2.2.2 2; have HT2 := Lib.hid hT2; clear hT1 hT2))
  all_goals
    go_wp2
    go_ret
    have hq1 := (Array.getElem?_eq_some_iff.1 hA1.top).1
    have hq2 := (Array.getElem?_eq_some_iff.1 hA2.top).1
    have hgn : w1.heap.size ≤ g2 := (hv.lt g2 rfl).1
    have hset : ∀ k, k ≠ q → (((w2.setCell ⟨q, 0, none⟩ (.slice (some ⟨g2, 0, none⟩) (settle d.B d.L).length cap2)).setCell ⟨q, 1, none⟩ (.slice none 0 0)).setCell ⟨q, 2, none⟩ (.int .i64 ((d.ops : Int) + 1))).heap[k]? = w2.heap[k]? := fun k hk => (Below.heap_setCell _ _ _ _ hk).trans ((Below.heap_setCell _ _ _ _ hk).trans (Below.heap_setCell _ _ _ _ hk))
    have hsz1 := ho1.size
    refine ⟨rfl, Foot q (.slice (some ⟨g2, 0, none⟩) (settle d.B d.L).length cap2) (.slice none 0 0), ⟨h.ok.flushed, _, _, false, ⟨top_ops (ops' := d.ops + 1) HT2.out, ?_, World.ownsRow_nil _ _ _ _⟩, (by simp), fun k hk => hk⟩, ?_, ?_⟩
    · have hv2 := own_same hv (fun g hg => hset g (by obtain rfl : g2 = g := by simpa [Value.ownBlock] using hg
                                                      omega))
      exact ⟨hv2.1, hv2.2.imp id (fun ⟨g, cap, cur, e1, _, e2⟩ => ⟨g, cap, cur, e1, Nat.zero_le _, e2⟩)⟩
    · have h0 : Only G w w1 := ho1.mono (fun k _ e => e ▸ hF q (.inl rfl))
      have h1 : Only G w w2 := h0.step (Only.of_below (A := w1) (B := w2) ⟨hB2.os, hB2.tape, hB2.output, hB2.size, hB2.block⟩ : Only (fun _ => False) w1 w2) (fun _ _ hh => hh.elim)
      exact ((h1.setCell (p := ⟨q, 0, none⟩) (.inr (hF q (.inl rfl))) _).setCell (p := ⟨q, 1, none⟩) (.inr (hF q (.inl rfl))) _).setCell (p := ⟨q, 2, none⟩) (.inr (hF q (.inl rfl))) _
    · rintro k (rfl | hk | hk)
      · exact .inl (hF _ (.inl rfl))
      · obtain rfl : g2 = k := by simpa [Value.ownBlock] using hk
        exact .inr (by omega)
      · simp [Value.ownBlock] at hk
end
end Go.Proofs.Ytbidhiefgbddeaa.Disk.R
