/- Several texts in one, each under its own heading. -/
import Derived.Test.YtghonccffmmjhaaPk04
import Derived.RangeFuncBound
import Derived.RangeFuncCalls
import Derived.RangeFuncLeaves
import Derived.OwnWalkIn
import Derived.TacticsInMore
import Derived.LoopNIn
import Derived.LoopIn
import Derived.Test.YtghonccffmmjhaaPk01
/- The disk's Write: what it answers, and what the disk is behind it. -/
namespace Go.Proofs.Ytghonccffmmjhaa.Disk
open Go.RowKit Go.Shelf
set_option linter.unusedVariables false

section
variable {p : Nat} {F : Nat → Prop} {d : D} {w : World}
set_option maxRecDepth 100000
theorem below_drewN {B : Nat} {w w' : World} (h : Below B w w') (n : Nat) : Below B w (w'.drewN n) := ⟨h.os, h.tape, h.output, h.size, h.block⟩
theorem write_off (n : Int) (s : ByteArray) (h : IsDisk w p F d) (ho : d.off) : Calls Try.prog 63 #[.pointer (some ⟨p, 0, none⟩), .int .i64 n, .string s] w fun e w' => e = .returned (.int .i64 43) ∧ Below w.heap.size w w' := by
  obtain ⟨a, b, v, hA, hF⟩ := h.mem
  have hc := isNone_not p a b v d w hA h.ok.lo h.ok.hi
  have hx := isOff_yes p a b v d w hA ho
  clear ho
  go_enter Try.func63, Try.ntmps63
  go_wp2_with (first | (go_at_call 38; refine hc.mono ?_; rintro e w' ⟨rfl, rfl⟩) | (go_at_call 64; refine hx.mono ?_; rintro e w' ⟨rfl, nd, rfl⟩))
  go_ret
  exact ⟨rfl, below_drewN (Below.refl _ _) _⟩
theorem write_at (n : Int) (s : ByteArray) (h : IsDisk w p F d) (ho : ¬ d.off) (hn : n < 0 ∨ (d.B.length : Int) ≤ n) : Calls Try.prog 63 #[.pointer (some ⟨p, 0, none⟩), .int .i64 n, .string s] w fun e w' => e = .returned (.int .i64 41) ∧ Below w.heap.size w w' := by
  obtain ⟨a, b, v, hA, hF⟩ := h.mem
  have hc := isNone_not p a b v d w hA h.ok.lo h.ok.hi
  have hx := isOff_no p a b v d w hA ho
  have hh := fun m => has_no p a b v d n (w.drewN m) (hA.below (below_drewN (Below.refl _ _) m)) h.ok.hi hn
  clear ho hn
  go_enter Try.func63, Try.ntmps63
  go_wp2_with (first | (go_at_call 38; refine hc.mono ?_; rintro e w' ⟨rfl, rfl⟩) | (go_at_call 64; refine hx.mono ?_; rintro e w' ⟨rfl, nd, rfl⟩) | (go_at_call 56; refine (hh _).mono ?_; rintro e w' ⟨rfl, rfl⟩))
  go_ret
  exact ⟨rfl, below_drewN (Below.refl _ _) _⟩
theorem write_len (n : Nat) (s : ByteArray) (h : IsDisk w p F d) (ho : ¬ d.off) (hn : n < d.B.length) (hs : s.size ≠ 512) (hm : s.size ≤ 281474976710656) : Calls Try.prog 63 #[.pointer (some ⟨p, 0, none⟩), .int .i64 n, .string s] w fun e w' => e = .returned (.int .i64 42) ∧ Below w.heap.size w w' := by
  obtain ⟨a, b, v, hA, hF⟩ := h.mem
  have hc := isNone_not p a b v d w hA h.ok.lo h.ok.hi
  have hx := isOff_no p a b v d w hA ho
  have hh := fun m => has_yes p a b v d n (w.drewN m) (hA.below (below_drewN (Below.refl _ _) m)) h.ok.hi hn
  have hb : ((s.size : Int) != 512) = true := by simp; omega
  have hb2 : ((s.size : Int) == 512) = false := by simp; omega
  clear ho hn hs
  go_enter Try.func63, Try.ntmps63
  go_wp2_with (first | (go_at_call 38; refine hc.mono ?_; rintro e w' ⟨rfl, rfl⟩) | (go_at_call 64; refine hx.mono ?_; rintro e w' ⟨rfl, nd, rfl⟩) | (go_at_call 56; refine (hh _).mono ?_; rintro e w' ⟨rfl, rfl⟩))
  go_ret
  exact ⟨rfl, below_drewN (Below.refl _ _) _⟩

theorem infoW : (Try.prog.info? 98).map (fun i => (i.zero, i.size, i.bytes)) = some (some (.agg #[.int .i64 0, .string ByteArray.empty]), 2, 24) := by kernel_rfl
/-- a row's cell, set -/
theorem Row.setCell {w : World} {g i : Nat} {t : TypeId} {cur : List Value} (h : Row w g t cur) (u : Value) : Row (w.setCell ⟨g, i, none⟩ u) g t (cur.set i u) := by
  unfold Row at h ⊢
  rw [heap_setCell_same _ _ _ _ _ _ h]; simp
theorem top_loose {w : World} {p a b n ops : Nat} {v v' : Value} {c : Int} (h : w.heap[p]? = some (topO a b n v ops c)) : (w.setCell ⟨p, 2, none⟩ v').heap[p]? = some (topO a b n v' ops c) := by
  unfold topO at h ⊢
  rw [heap_setCell_same _ _ _ _ _ _ h]; simp
theorem top_ops {w : World} {p a b n ops ops' : Nat} {v : Value} {c : Int} (h : w.heap[p]? = some (topO a b n v ops c)) : (w.setCell ⟨p, 3, none⟩ (.int .i64 (ops' : Int))).heap[p]? = some (topO a b n v ops' c) := by
  unfold topO at h ⊢
  rw [heap_setCell_same _ _ _ _ _ _ h]; simp
theorem cell_top {w : World} {p a b n ops : Nat} {v : Value} {c : Int} (h : w.heap[p]? = some (topO a b n v ops c)) : w.cell? ⟨p, 2, none⟩ = some v ∧ w.cell? ⟨p, 3, none⟩ = some (.int .i64 (ops : Int)) ∧ ∀ i, w.frozen? ⟨p, i, none⟩ = false := by
  refine ⟨?_, ?_, fun i => ?_⟩
  · simp only [World.cell?, h]; rfl
  · simp only [World.cell?, h]; rfl
  · simp [World.frozen?, h, topO]

theorem news_set (W : World) (a : Addr) (u x y : Value) (t : TypeId) : ∀ j z, [x, y][j]? = some z → ((W.setCell a u).alloc (.cells #[x, y] t)).cell? ((⟨W.heap.size, 0, none⟩ : Addr).add j) = some z := by
  have := World.news_of_block (heap_alloc_new (W.setCell a u) (.cells #[x, y] t))
  rwa [World.size_setCell] at this
set_option maxHeartbeats 1000000 in
theorem write_ok (n : Nat) (s : ByteArray) (h : IsDisk w p F d) (ho : ¬ d.off) (hn : n < d.B.length) (hs : s.size = 512) (hops : d.ops ≤ 1099511627776) : Calls Try.prog 63 #[.pointer (some ⟨p, 0, none⟩), .int .i64 n, .string s] w fun e w' => e = .returned (.int .i64 0) ∧ Left p F (d.written n s) w w' := by
  obtain ⟨a, b, v, hA, hF⟩ := h.mem
  obtain ⟨i0, hi, hz0, hz1, hz2⟩ := info_parts infoW
  have hlen := h.ok.few
  have hok := h.ok.written hn hs
  have hlim := h.ok.hi
  have hc := isNone_not p a b v d w hA h.ok.lo h.ok.hi
  have hx := isOff_no p a b v d w hA ho
  have hh := fun m => has_yes p a b v d n (w.drewN m) (hA.below (below_drewN (Below.refl _ _) m)) h.ok.hi hn
  have hcl := fun m => clone_any s (w.drewN m) (by omega)
  have hb : ((s.size : Int) != 512) = false := by simp; omega
  have hb2 : ((s.size : Int) == 512) = true := by simp; omega
  have HN := Lib.hid hn
  obtain ⟨k1, k2, k3⟩ := hA.kinds
  obtain ⟨N, hNN⟩ : ∃ N, d.B.length = N := ⟨_, rfl⟩
  have hnN : n < N := by omega
  have hNl : N ≤ 4096 := by omega
  have HNN := Lib.hid hNN
  have HS := Lib.hid hs
  have HH := Lib.hid hh
  have HCl := Lib.hid hcl
  clear ho hs hh hcl hNN hn hlim
  go_enter Try.func63, Try.ntmps63
  go_wp2_with (first
    | (go_at_call 38; refine hc.mono ?_; rintro e w' ⟨rfl, rfl⟩)
    | (go_at_call 64; refine hx.mono ?_; rintro e w' ⟨rfl, nd, rfl⟩)
    | (go_at_call 56; refine (HH.out _).mono ?_; rintro e w' ⟨rfl, rfl⟩)
    | (go_at_call 54; refine (HCl.out _).mono ?_; rintro e w2 ⟨rfl, hB⟩; have hB2 : Below w.heap.size w w2 := (below_drewN (Below.refl _ _) nd).trans hB; have hA2 := hA.below hB2; have c1 := hA2.c1; rw [HNN.out] at c1; obtain ⟨x, cx⟩ : ∃ x, w2.cell? ⟨b, n, none⟩ = some x := ⟨_, by rw [hA2.nw.at_]; exact List.getElem?_eq_getElem (by rw [strs_length, D.now_length, HNN.out]; exact hnN)⟩; have fx := hA2.nw.frozen n; have hT3 : (w2.setCell ⟨b, n, none⟩ (.string s)).heap[p]? = some (topO a b d.B.length v d.ops d.cut) := (Below.heap_setCell _ _ _ _ k2).trans hA2.top; have c2 := (cell_top hT3).1; have hown3 : (w2.setCell ⟨b, n, none⟩ (.string s)).ownsRow 0 98 2 v d.L.length (cellsW d.L) := own_same hA2.ls fun g hg => Below.heap_setCell _ _ _ _ (k3 g hg).2.2; have HT3 := Lib.hid hT3; clear hT3 hB)
    | (at_builtin; go_must (refine wpList_append_own_at _ rfl _ _ 79 rfl 0 98 i0 (.agg #[.int .i64 0, .string ByteArray.empty]) 2 24 Try.underlying79 hi hz0 hz1 hz2 rfl (by decide) _ _ _ rfl (hown3.alloc _) ⟨w2.heap.size, 0, none⟩ 1 1 [.int .i64 (n : Int), .string s] rfl rfl (news_set _ _ _ _ _ _) (by simp [Value.oneCell']) (by unfold maxLen; omega) (by omega) (Nat.zero_le _) ?_; intro v' w4 hown' hgrow _ hat; obtain ⟨g', cap', rfl⟩ := ownsRow_succ hown'; have hT4 := (hgrow.block p (by simp; exact Nat.lt_succ_of_lt (Array.getElem?_eq_some_iff.1 hA2.top).1) (fun e => (k3 p e.symm).1 rfl)).trans ((Below.heap_alloc _ _ p (by simp; exact (Array.getElem?_eq_some_iff.1 hA2.top).1)).trans HT3.out); have f4 := (cell_top hT4).2.2 2; have c4 := (cell_top hT4).1; have hT5 := top_loose (v' := .slice (some ⟨g', 0, none⟩) (d.L.length + 1) cap') hT4; have c5 := (cell_top hT5).2.1; have f5 := (cell_top hT5).2.2 3; have HT5 := Lib.hid hT5; clear hT4 hT5)))
  go_ret
  have hs2 : w.heap.size ≤ w2.heap.size := hB2.size
  have hp2 : p < w2.heap.size := (Array.getElem?_eq_some_iff.1 hA2.top).1
  have hat2 : some g' = v.ownBlock ∨ g' = w2.heap.size + 1 := hat.imp id (fun e => by simpa [Value.ownBlock] using e)
  have hgp : g' ≠ p := fun e => hat2.elim (fun h1 => (k3 g' h1.symm).1 e) (fun h1 => by omega)
  have hkeep : ∀ k, k < w2.heap.size → v.ownBlock ≠ some k → w4.heap[k]? = (w2.setCell ⟨b, n, none⟩ (.string s)).heap[k]? := fun k hk hne => (hgrow.block k (by simp; omega) (fun e => hne e.symm)).trans (Below.heap_alloc _ _ k (by simpa using hk))
  have hset : ∀ (W : World) (u1 u2 : Value) k, k ≠ p → ((W.setCell ⟨p, 2, none⟩ u1).setCell ⟨p, 3, none⟩ u2).heap[k]? = W.heap[k]? := fun W u1 u2 k hk => (Below.heap_setCell _ _ _ _ hk).trans (Below.heap_setCell _ _ _ _ hk)
  have hnv : ∀ k, v.ownBlock = some k → k ≠ a ∧ k ≠ b := fun k hk => (k3 k hk).2
  refine ⟨rfl, Foot p a b (.slice (some ⟨g', 0, none⟩) (d.L.length + 1) cap'), ⟨hok, a, b, _, ⟨top_ops (ops' := d.ops + 1) HT5.out, ?_, ?_, ?_, hA2.ne⟩, fun _ hh => hh⟩, ?_, ?_⟩
  · exact hA2.fl.of_heap ((hset _ _ _ _ k1.symm).trans ((hkeep a hA2.fl.lt (fun e => (hnv a e).1 rfl)).trans (Below.heap_setCell _ _ _ _ hA2.ne)))
  · rw [D.written_now, strs_set]
    exact (Row.setCell hA2.nw _).of_heap ((hset _ _ _ _ k2.symm).trans (hkeep b hA2.nw.lt (fun e => (hnv b e).2 rfl)))
  · have h5 := own_same hown' (fun g hg => hset w4 (.slice (some ⟨g', 0, none⟩) (d.L.length + 1) cap') (.int .i64 ((d.ops : Int) + 1)) g (fun e => hgp (by rw [← e]; simpa [Value.ownBlock] using hg)))
    have e1 : (d.written n s).L.length = d.L.length + 1 := by simp [D.written]
    have e2 : cellsW (d.written n s).L = cellsW d.L ++ [.int .i64 (n : Int), .string s] := cellsW_append _ _
    rw [e1, e2]
    exact h5
  · exact (((((Only.of_below hB2).setCell (p := ⟨b, n, none⟩) (.inr (hF b (.inr (.inr (.inl rfl))))) _).alloc _).grown hgrow (fun r e => .inr (hF r (.inr (.inr (.inr e)))))).setCell (p := ⟨p, 2, none⟩) (.inr (hF p (.inl rfl))) _).setCell (p := ⟨p, 3, none⟩) (.inr (hF p (.inl rfl))) _
  · rintro k (rfl | rfl | rfl | hk)
    · exact .inl (hF _ (.inl rfl))
    · exact .inl (hF _ (.inr (.inl rfl)))
    · exact .inl (hF _ (.inr (.inr (.inl rfl))))
    · obtain rfl : g' = k := by simpa [Value.ownBlock] using hk
      rcases hat2 with h1 | h1
      · exact .inl (hF _ (.inr (.inr (.inr h1.symm))))
      · exact .inr (by omega)
end
end Go.Proofs.Ytghonccffmmjhaa.Disk
/- The iterator over a disk's loose writes hands out each, with its number, to any loop body that leaves their block alone. -/
namespace Go.Proofs.Ytghonccffmmjhaa.Disk
open Go.RowKit Go.Shelf
attribute [local go_sem] Oper.semAt_some
set_option linter.unusedVariables false

/-- a slice's block lies as it lay -/
def SameO (v : Value) (W W' : World) : Prop := ∀ b, v.ownBlock = some b → W'.heap[b]? = W.heap[b]?
theorem SameO.refl (v : Value) (W : World) : SameO v W W := fun _ _ => rfl
theorem SameO.trans {v : Value} {A B C : World} (h : SameO v A B) (k : SameO v B C) : SameO v A C := fun b hb => (k b hb).trans (h b hb)
/-- what the k-th round is handed -/
def looseEnc (L : List Wr) (k : Nat) : Array Value := #[.int .i64 (k : Int), .agg #[.int .i64 ((L.getD k (0, ByteArray.empty)).1 : Int), .string (L.getD k (0, ByteArray.empty)).2]]

set_option maxRecDepth 100000 in
set_option maxHeartbeats 2000000 in
theorem loose1_in (n : Nat) (hn : 1 ≤ n) (l Bs p : Nat) (L : List Wr) (v : Value) (hL : L.length ≤ 4611686018427387904) (J Jx : Nat → World → Prop) (B0 : Nat) (hJ : AbidesFrom B0 J)
    (hY : ∀ k W, J k W → k < L.length → YieldAt Fence.wide (n - 1) Try.prog l (looseEnc L k) W fun e W' => (e = .returned (.bool true) ∧ J (k + 1) W' ∧ SameO v W W') ∨ (e = .returned (.bool false) ∧ Jx k W'))
    (W : World) (hBs : W.cell? ⟨Bs, 0, none⟩ = some (.pointer (some ⟨p, 0, none⟩))) (c2 : W.cell? ⟨p, 2, none⟩ = some v) (hrow : W.ownsRow 0 98 2 v L.length (cellsW L)) (h0 : J 0 W) :
    CallsIn Fence.wide n Try.prog 67 #[.func (.yield l) #[] #[], .pointer (some ⟨Bs, 0, none⟩)] W fun e W' => (∃ v, e = .returned v) ∧ (J L.length W' ∨ ∃ k, k < L.length ∧ Jx k W') := by
  obtain ⟨A, c, rfl⟩ : ∃ A c, v = .slice A L.length c := by
    rcases hrow.2 with ⟨rfl, h⟩ | ⟨g, cap, _, rfl, _⟩
    · exact ⟨_, _, by rw [h]⟩
    · exact ⟨_, _, rfl⟩
  refine callsIn_of_wp Try.func67 rfl trivial ?_ rfl
  simp only [Try.ntmps67, List.size_toArray, List.length_cons, List.length_nil, Nat.reduceAdd, Nat.reduceSub, Array.replicate_succ, Array.replicate_zero, List.push_toArray, List.append_toArray, List.nil_append, List.cons_append]
  gi_wp2
  gi_loopw [10] (fun i wr => ∃ k : Nat, k ≤ L.length ∧ i = .int .i64 k ∧ J k wr ∧ SameO (.slice A L.length c) W wr) (fun i _ => L.length - (intOf i).toNat)
  case atStart => exact ⟨0, Nat.zero_le _, rfl, h0, SameO.refl _ _⟩
  case round =>
    obtain ⟨k, hk, rfl, hJk, hS⟩ := hrel
    have hrx := own_same hrow (fun g hg => hS g hg)
    by_cases hlt : k < L.length
    · obtain ⟨x, hx⟩ : ∃ x, L[k]? = some x := ⟨_, List.getElem?_eq_getElem hlt⟩
      have hget : L.getD k (0, ByteArray.empty) = x := by rw [List.getD_eq_getElem?_getD, hx]; rfl
      have hc := cellsW_at L k x hx
      obtain ⟨g, cap, hv, _, _⟩ := hrx.form (by omega)
      obtain ⟨rfl, rfl⟩ : A = some ⟨g, 0, none⟩ ∧ c = cap := by simpa using hv
      have d0 := (hrx.cellAt (k * 2) (by omega)).trans hc.1
      have d1 := (hrx.cellAt (k * 2 + 1) (by omega)).trans hc.2
      have hY' := hY k
      unfold looseEnc at hY'
      rw [hget] at hY'
      have hJa : J k (wr.alloc (.cells #[.int .i64 (x.1 : Int), .string x.2] 98)) := hJ _ _ _ none hJk (World.grownBy_alloc wr _ _) (fun r e => by cases e)
      have hSa : SameO (.slice (some ⟨g, 0, none⟩) L.length c) W (wr.alloc (.cells #[.int .i64 (x.1 : Int), .string x.2] 98)) := hS.trans (fun b hb => Below.heap_alloc wr _ b (hrx.lt b hb).2)
      obtain ⟨fn, tmps, assign, body, hy, hR⟩ := hY' _ hJa hlt
      clear hY hY' hc hx hget hv hrx hJa hJk hS
      gi_wp2
      refine hR.mono ?_
      rintro e W3 (⟨rfl, hJ3, hk3⟩ | ⟨rfl, hJx3⟩)
      · gi_wp2
        go_roundw
        case rel => exact ⟨k + 1, by omega, by go_num, hJ3, hSa.trans hk3⟩
        case measure => simp [intOf]; omega
      · gi_wp2
        refine bodyPost_ret (results_none rfl _ _ _) rfl ?_
        exact ⟨⟨_, rfl⟩, .inr ⟨k, hlt, hJx3⟩⟩
    · obtain rfl : L.length = k := by omega
      gi_wp2
      go_end0
      exact ⟨⟨_, rfl⟩, .inl hJk⟩

theorem loose_steps (n : Nat) (hn : 1 ≤ n) (Bs p : Nat) (L : List Wr) (v : Value) (hL : L.length ≤ 4611686018427387904) (w : World)
    (hBs : w.cell? ⟨Bs, 0, none⟩ = some (.pointer (some ⟨p, 0, none⟩))) (c2 : w.cell? ⟨p, 2, none⟩ = some v) (hrow : w.ownsRow 0 98 2 v L.length (cellsW L)) :
    SeqSteps Fence.wide n Try.prog 67 #[.pointer (some ⟨Bs, 0, none⟩)] (looseEnc L) (SameO v) L.length w := fun l J Jx W hW hJ _ hY h0 => by
  have h1 := (hW.cell (p := ⟨Bs, 0, none⟩) (World.block_lt_of_cell? _ _ hBs)).trans hBs
  have h2 := (hW.cell (p := ⟨p, 2, none⟩) (World.block_lt_of_cell? _ _ c2)).trans c2
  exact loose1_in n hn l Bs p L v hL J Jx _ hJ hY W h1 h2 (own_same hrow fun g hg => hW.block g (hrow.lt g hg).2) h0

theorem loose_in (n p : Nat) (w : World) :
    CallsIn Fence.wide n Try.prog 51 #[.pointer (some ⟨p, 0, none⟩)] w fun e w' => e = .returned (.func (.func 67) #[] #[.pointer (some ⟨w.heap.size, 0, none⟩)]) ∧ w.alloc (.cells #[.pointer (some ⟨p, 0, none⟩)] 27) = w' := by
  refine callsIn_of_wp Try.func51 rfl trivial ?_ rfl
  simp only [Try.ntmps51, List.size_toArray, List.length_cons, List.length_nil, Nat.reduceAdd, Nat.reduceSub, Array.replicate_succ, Array.replicate_zero, List.push_toArray, List.append_toArray, List.nil_append, List.cons_append]
  gi_wp2
  go_ret
  exact ⟨rfl, rfl⟩
end Go.Proofs.Ytghonccffmmjhaa.Disk
