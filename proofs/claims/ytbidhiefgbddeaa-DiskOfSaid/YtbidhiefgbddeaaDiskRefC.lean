/- The reference's Write and Read. -/
import Derived.Test.YtbidhiefgbddeaaDiskRefB
namespace Go.Proofs.Ytbidhiefgbddeaa.Disk.R
open Go.RowKit Go.Shelf
set_option linter.unusedVariables false

section
set_option maxRecDepth 100000
set_option maxHeartbeats 1000000
variable {q : Nat} {G : Nat → Prop} {d : D} {w : World}
theorem write_off_r (n : Int) (s : ByteArray) (h : IsRef w q G d) (ho : d.off) : Calls Try.prog 37 #[.pointer (some ⟨q, 0, none⟩), .int .i64 n, .string s] w fun e w' => e = .returned (.int .i64 43) ∧ Left q G d w w' := by
  obtain ⟨vb, vl, gone, hA, hg, hF⟩ := h.mem
  have hx := off_any q vb vl gone d w hA hg true (decide_eq_true ho)
  have HO := Lib.hid ho
  clear hg ho
  go_enter Try.func37, Try.ntmps37
  go_wp2_with (go_at_call 50; refine hx.mono ?_; rintro e w1 ⟨rfl, hA1, ho1⟩)
  go_ret
  exact ⟨rfl, left_off h.ok hF hA1 (fun _ => HO.out) ho1⟩
theorem write_at_r (n : Int) (s : ByteArray) (h : IsRef w q G d) (ho : ¬ d.off) (hn : n < 0 ∨ (d.B.length : Int) ≤ n) : Calls Try.prog 37 #[.pointer (some ⟨q, 0, none⟩), .int .i64 n, .string s] w fun e w' => e = .returned (.int .i64 41) ∧ Left q G d w w' := by
  obtain ⟨vb, vl, gone, hA, hg, hF⟩ := h.mem
  have hx := off_any q vb vl gone d w hA hg false (decide_eq_false ho)
  have hlim := h.ok.hi
  obtain ⟨xa, xc, rfl⟩ := hA.slb
  obtain ⟨N, hN⟩ : ∃ N, d.B.length = N := ⟨_, rfl⟩
  rw [hN] at hn hlim
  have HN := Lib.hid hN
  clear hg ho hN
  by_cases h0 : n < 0
  · clear hn
    go_enter Try.func37, Try.ntmps37
    go_wp2_with (go_at_call 50; refine hx.mono ?_; rintro e w1 ⟨rfl, hA1, ho1⟩; have c0 := hA1.c0; rw [HN.out] at c0)
    go_ret
    exact ⟨rfl, left_off h.ok hF hA1 (by simp) ho1⟩
  · have h1 : (N : Int) ≤ n := by omega
    clear hn
    go_enter Try.func37, Try.ntmps37
    go_wp2_with (go_at_call 50; refine hx.mono ?_; rintro e w1 ⟨rfl, hA1, ho1⟩; have c0 := hA1.c0; rw [HN.out] at c0)
    go_ret
    exact ⟨rfl, left_off h.ok hF hA1 (by simp) ho1⟩
theorem write_len_r (n : Nat) (s : ByteArray) (h : IsRef w q G d) (ho : ¬ d.off) (hn : n < d.B.length) (hs : s.size ≠ 512) (hm : s.size ≤ 281474976710656) : Calls Try.prog 37 #[.pointer (some ⟨q, 0, none⟩), .int .i64 n, .string s] w fun e w' => e = .returned (.int .i64 42) ∧ Left q G d w w' := by
  obtain ⟨vb, vl, gone, hA, hg, hF⟩ := h.mem
  have hx := off_any q vb vl gone d w hA hg false (decide_eq_false ho)
  have hlim := h.ok.hi
  obtain ⟨xa, xc, rfl⟩ := hA.slb
  obtain ⟨N, hN⟩ : ∃ N, d.B.length = N := ⟨_, rfl⟩
  rw [hN] at hn hlim
  have HN := Lib.hid hN
  have hb : ((s.size : Int) != 512) = true := by simp; omega
  have hb2 : ((s.size : Int) == 512) = false := by simp; omega
  have h0 : ¬ (n : Int) < 0 := by omega
  have h1 : ¬ (N : Int) ≤ (n : Int) := by omega
  have h1' : decide (N ≤ n) = false := by simp; omega
  clear hg ho hN hs
  go_enter Try.func37, Try.ntmps37
  go_wp2_with (go_at_call 50; refine hx.mono ?_; rintro e w1 ⟨rfl, hA1, ho1⟩; have c0 := hA1.c0; rw [HN.out] at c0)
  go_ret
  exact ⟨rfl, left_off h.ok hF hA1 (by simp) ho1⟩

theorem infoW2 : (Try.prog.info? 84).map (fun i => (i.zero, i.size, i.bytes)) = some (some (.agg #[.int .i64 0, .string ByteArray.empty]), 2, 24) := by kernel_rfl
theorem write_ok_r (n : Nat) (s : ByteArray) (h : IsRef w q G d) (ho : ¬ d.off) (hn : n < d.B.length) (hs : s.size = 512) (hops : d.ops ≤ 1099511627776) : Calls Try.prog 37 #[.pointer (some ⟨q, 0, none⟩), .int .i64 n, .string s] w fun e w' => e = .returned (.int .i64 0) ∧ Left q G (d.written n s) w w' := by
  obtain ⟨vb, vl, gone, hA, hg, hF⟩ := h.mem
  obtain ⟨i0, hi, hz0, hz1, hz2⟩ := info_parts infoW2
  have hx := off_any q vb vl gone d w hA hg false (decide_eq_false ho)
  have hlim := h.ok.hi
  have hlen := h.ok.few
  have hok := h.ok.written hn hs
  have hnoff : ¬ (d.written n s).off ∨ True := .inr trivial
  obtain ⟨xa, xc, rfl⟩ := hA.slb
  obtain ⟨k1, k2, k3⟩ := hA.kinds
  obtain ⟨N, hN⟩ : ∃ N, d.B.length = N := ⟨_, rfl⟩
  rw [hN] at hn hlim
  have HN := Lib.hid hN
  have hb : ((s.size : Int) != 512) = false := by simp; omega
  have hb2 : ((s.size : Int) == 512) = true := by simp; omega
  have h0 : ¬ (n : Int) < 0 := by omega
  have h1 : ¬ (N : Int) ≤ (n : Int) := by omega
  have h1' : decide (N ≤ n) = false := by simp; omega
  clear hg ho hN hs hnoff
  go_enter Try.func37, Try.ntmps37
  go_wp2_with (first
    | (go_at_call 50; refine hx.mono ?_; rintro e w1 ⟨rfl, hA1, ho1⟩; have c0 := hA1.c0; rw [HN.out] at c0; have c1 := hA1.c1)
    | (at_builtin; go_must (refine wpList_append_own_at _ rfl _ _ 40 rfl 0 84 i0 (.agg #[.int .i64 0, .string ByteArray.empty]) 2 24 Try.underlying40 hi hz0 hz1 hz2 rfl (by decide) _ _ _ rfl (hA1.ls.alloc _) ⟨w1.heap.size, 0, none⟩ 1 1 [.int .i64 (n : Int), .string s] rfl rfl (World.news_of_block (heap_alloc_new w1 _)) (by simp [Value.oneCell']) (by unfold maxLen; omega) (by omega) (Nat.zero_le _) ?_; intro v' w4 hown' hgrow _ hat; obtain ⟨g', cap', rfl⟩ := ownsRow_succ hown'; have hT4 := (hgrow.block q (by simp; exact Nat.lt_succ_of_lt (Array.getElem?_eq_some_iff.1 hA1.top).1) (fun e => k2 e.symm)).trans ((Below.heap_alloc w1 _ q (Array.getElem?_eq_some_iff.1 hA1.top).1).trans hA1.top); have f4 := (cell_topR hT4).2.2.2 1; have c4 := (cell_topR hT4).2.1; have hT5 := top_l (vl' := .slice (some ⟨g', 0, none⟩) (d.L.length + 1) cap') hT4; have c5 := (cell_topR hT5).2.2.1; have f5 := (cell_topR hT5).2.2.2 2; have HT5 := Lib.hid hT5; clear hT4 hT5)))
  go_ret
  have hq1 : q < w1.heap.size := (Array.getElem?_eq_some_iff.1 hA1.top).1
  have hs1 := ho1.size
  have hat2 : some g' = vl.ownBlock ∨ g' = w1.heap.size + 1 := hat.imp id (fun e => by simpa [Value.ownBlock] using e)
  have hgq : g' ≠ q := fun e => hat2.elim (fun h1 => k2 (e ▸ h1.symm)) (fun h1 => by omega)
  have hkeep : ∀ k, k < w1.heap.size → vl.ownBlock ≠ some k → w4.heap[k]? = w1.heap[k]? := fun k hk hne => (hgrow.block k (by simp; omega) (fun e => hne e.symm)).trans (Below.heap_alloc w1 _ k hk)
  have hset : ∀ (W : World) (u1 u2 : Value) k, k ≠ q → ((W.setCell ⟨q, 1, none⟩ u1).setCell ⟨q, 2, none⟩ u2).heap[k]? = W.heap[k]? := fun W u1 u2 k hk => (Below.heap_setCell _ _ _ _ hk).trans (Below.heap_setCell _ _ _ _ hk)
  refine ⟨rfl, Foot q (.slice xa N xc) (.slice (some ⟨g', 0, none⟩) (d.L.length + 1) cap'), ⟨hok, _, _, false, ⟨top_ops (ops' := d.ops + 1) (by rw [← HN.out]; exact HT5.out), ?_, ?_⟩, (by simp), fun _ hh => hh⟩, ?_, ?_⟩
  · rw [← HN.out]
    exact own_same hA1.bs (fun g hg => (hset w4 _ _ g (fun e => k1 (e ▸ hg))).trans (hkeep g (hA1.bs.lt g hg).2 (k3 g hg)))
  · have h5 := own_same hown' (fun g hg => hset w4 (.slice (some ⟨g', 0, none⟩) (d.L.length + 1) cap') (.int .i64 ((d.ops : Int) + 1)) g (fun e => hgq (by rw [← e]; simpa [Value.ownBlock] using hg)))
    have e1 : (d.written n s).L.length = d.L.length + 1 := by simp [D.written]
    have e2 : cellsW (d.written n s).L = cellsW d.L ++ [.int .i64 (n : Int), .string s] := cellsW_append _ _
    rw [e1, e2]
    exact h5
  · have h00 : Only G w w1 := ho1.mono (fun k _ e => e ▸ hF q (.inl rfl))
    exact (((h00.alloc _).grown hgrow (fun r e => .inr (hF r (.inr (.inr e))))).setCell (p := ⟨q, 1, none⟩) (.inr (hF q (.inl rfl))) _).setCell (p := ⟨q, 2, none⟩) (.inr (hF q (.inl rfl))) _
  · rintro k (rfl | hk | hk)
    · exact .inl (hF _ (.inl rfl))
    · exact .inl (hF _ (.inr (.inl (by rw [HN.out]; exact hk))))
    · obtain rfl : g' = k := by simpa [Value.ownBlock] using hk
      rcases hat2 with h1 | h1
      · exact .inl (hF _ (.inr (.inr h1.symm)))
      · exact .inr (by omega)

theorem read_no_r (n : Int) (h : IsRef w q G d) (hn : n < 0 ∨ (d.B.length : Int) ≤ n) : Calls Try.prog 33 #[.pointer (some ⟨q, 0, none⟩), .int .i64 n] w fun e w' => e = .returned (.tuple #[.string ByteArray.empty, .int .i64 41]) ∧ w = w' := by
  obtain ⟨vb, vl, gone, hA, hg, hF⟩ := h.mem
  have hlim := h.ok.hi
  have c0 := hA.c0
  obtain ⟨xa, xc, rfl⟩ := hA.slb
  obtain ⟨N, hN⟩ : ∃ N, d.B.length = N := ⟨_, rfl⟩
  rw [hN] at hn hlim c0
  clear hg hN
  by_cases h0 : n < 0
  · clear hn
    go_enter Try.func33, Try.ntmps33
    go_wp2
    go_ret2
    exact ⟨rfl, rfl⟩
  · have h1 : (N : Int) ≤ n := by omega
    clear hn
    go_enter Try.func33, Try.ntmps33
    go_wp2
    go_ret2
    exact ⟨rfl, rfl⟩
end
end Go.Proofs.Ytbidhiefgbddeaa.Disk.R
