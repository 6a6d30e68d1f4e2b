/- Several texts in one, each under its own heading. -/
import Derived.Test.YtghonccffmmjhaaPk28
/- What stands ahead of every law on logs: two items are written, and found. -/
namespace Go.Proofs.Ytghonccffmmjhaa.Log
open Go.RowKit Go.Shelf
open Disk (D IsDisk)
open Record (E R RightP Ents AllOk EOk below_al below_new)
attribute [local go_sem] Oper.semAt_some
set_option linter.unusedVariables false

theorem Fnds.parts {W : World} {v : Value} {fs : List Fd} (h : Fnds W v fs) : ∃ a cap, v = .slice a fs.length cap ∧ fs.length ≤ cap ∧ cap ≤ 9223372036854775807 := by
  obtain ⟨ms, _, hl, _⟩ := h
  obtain ⟨a, cap, e, _, h1, h2⟩ := hl.parts
  exact ⟨a, cap, e, h1, h2⟩
theorem Fnds.below {W W' : World} {v : Value} {fs : List Fd} (h : Fnds W v fs) (hB : Below W.heap.size W W') : Fnds W' v fs := by
  obtain ⟨ms, h1, h2, h3⟩ := h
  exact ⟨ms, h1, h2.below hB, fun j f m e1 e2 => (h3 j f m e1 e2).grown (B0 := 0) (row := none) ⟨hB.os, hB.tape, hB.output, hB.size, fun k hk _ => hB.block k hk⟩ (fun r e => by cases e)⟩
theorem Fnds.at {W : World} {v : Value} {fs : List Fd} (h : Fnds W v fs) {k : Nat} {f : Fd} (hf : fs[k]? = some f) :
    ∃ b off cap m, v = .slice (some ⟨b, off, none⟩) fs.length cap ∧ FmIs W f m ∧ W.cell? ⟨b, off + k * 8, none⟩ = some (.int .i64 (m.a : Int)) ∧ W.cell? ⟨b, off + k * 8 + 1, none⟩ = some (.int .u64 (m.r.seq : Int)) ∧ W.cell? ⟨b, off + k * 8 + 2, none⟩ = some (.int .u64 (m.r.cp : Int)) ∧ W.cell? ⟨b, off + k * 8 + 3, none⟩ = some (.bool m.r.ends) ∧ W.cell? ⟨b, off + k * 8 + 4, none⟩ = some (.bool m.r.sync) ∧ W.cell? ⟨b, off + k * 8 + 5, none⟩ = some (.int .i64 m.r.next) ∧ W.cell? ⟨b, off + k * 8 + 6, none⟩ = some m.v ∧ W.cell? ⟨b, off + k * 8 + 7, none⟩ = some (.slice (some ⟨m.b, 0, none⟩) m.n m.n) := by
  obtain ⟨ms, hms, ⟨a, cap, rfl, _, _, _, h5⟩, h3⟩ := h
  have hk := (List.getElem?_eq_some_iff.1 hf).1
  obtain ⟨b, off, rfl, hc⟩ := h5 (by omega)
  obtain ⟨m, hm⟩ : ∃ m, ms[k]? = some m := ⟨_, List.getElem?_eq_getElem (by omega)⟩
  have hfl := fun j (hj : j < 8) => flat_at Fm.cells 8 ms (fun o _ => rfl) k j m hm hj
  have get : ∀ j u, j < 8 → m.cells[j]? = some u → W.cell? ⟨b, off + k * 8 + j, none⟩ = some u := fun j u hj hu => by
    have := hc (k * 8 + j) u ((hfl j hj).trans hu)
    rwa [← Nat.add_assoc] at this
  exact ⟨b, off, cap, m, rfl, h3 k f m hf hm, get 0 _ (by decide) rfl, get 1 _ (by decide) rfl, get 2 _ (by decide) rfl, get 3 _ (by decide) rfl, get 4 _ (by decide) rfl, get 5 _ (by decide) rfl, get 6 _ (by decide) rfl, get 7 _ (by decide) rfl⟩

def itemI (s : ByteArray) : It := ⟨⟨1, 3, 0, 5⟩, s⟩
section
set_option maxRecDepth 100000
set_option maxHeartbeats 2000000
theorem results_item {fn : Func} {r : Tmp} (h : fn.results = #[.cell r 66]) (tmps : Array Value) (w : World) {b : Nat} {x : It} (hp : tmps.getD r undef = .pointer (some ⟨b, 0, none⟩)) (hA : IAt w b x) :
    (results fn tmps).run Try.prog w = .ok (.agg #[.int .i64 x.e.kind, .int .u32 (x.e.file : Int), .int .u32 (x.e.index : Int), .int .u32 (x.e.vbn : Int), .string x.c]) w := by
  obtain ⟨c0, c1, c2, c3, c4⟩ := hA.c
  rw [Array.getD_eq_getD_getElem?] at hp
  simp [results, h, hp, go_sem, c0, c1, c2, c3, c4]
theorem item_any (s : ByteArray) (w : World) : Calls Try.prog 30 #[.string s] w fun e w' => e = .returned (.agg #[.int .i64 1, .int .u32 3, .int .u32 0, .int .u32 5, .string s]) ∧ Below w.heap.size w w' := by
  have HI : Hid (IAt (w.alloc (.cells #[.int .i64 1, .int .u32 3, .int .u32 0, .int .u32 5, .string s] 66)) w.heap.size (itemI s)) := World.alloc_heap_new w _
  go_enter Try.func30, Try.ntmps30
  go_wp2
  refine bodyPost_ret (results_item rfl _ _ rfl HI.out) rfl ?_
  exact ⟨rfl, below_new w _⟩
end
def twoL : List It := [itemI ⟨#[97]⟩, itemI ⟨#[98]⟩]
theorem ok_two : okW ⟨16, 1, 2⟩ 1 twoL false false := by
  refine ⟨by decide, fun x hx => ?_, by decide⟩
  simp [twoL] at hx
  rcases hx with rfl | rfl <;> decide
theorem fd_two : (fdW ⟨16, 1, 2⟩ 1 twoL false false).c = [⟨#[97]⟩ ++ zeros 507, ⟨#[98]⟩ ++ zeros 507] := rfl
theorem two_head : ((⟨#[98]⟩ ++ zeros 507 : ByteArray).extract 0 2) = ⟨#[98, 0]⟩ := by
  have z : ∀ n, zeros (n + 1) = ⟨#[0]⟩ ++ zeros n := fun n => by
    apply ByteArray.ext
    apply Array.toList_inj.1
    simp [zeros, List.replicate_succ]
  have e : (⟨#[98]⟩ ++ zeros 507 : ByteArray) = ⟨#[98, 0]⟩ ++ zeros 506 := by
    rw [z 506, app_assoc]
    rfl
  rw [e]
  exact extract_left ⟨#[98, 0]⟩ (zeros 506)
end Go.Proofs.Ytghonccffmmjhaa.Log
/- What stands ahead of every law on logs, walked through. -/
namespace Go.Proofs.Ytghonccffmmjhaa.Log
open Go.RowKit Go.Shelf
open Disk (D IsDisk)
open Record (E R RightP Ents AllOk EOk below_al below_new)
attribute [local go_sem] Oper.semAt_some
set_option linter.unusedVariables false

theorem lg_ok (nb : Nat) (h1 : 48 ≤ nb) (hm : nb % 16 = 0) : LgOk nb ⟨16, 1, 2⟩ := ⟨by decide, by show 16 < nb; omega, by decide, .inr ⟨by decide, by show 2 < nb / 16; omega⟩, by decide, by decide⟩
theorem begin_ok (nb : Nat) (h1 : 48 ≤ nb) : beginP nb ((16 : Nat) : Int) ((1 : Nat) : Int) ((2 : Nat) : Int) := ⟨⟨by decide, by omega, by decide⟩, ⟨by decide, by decide⟩, .inr ⟨by decide, by omega⟩⟩
/-- items just laid -/
theorem its_new (w : World) (L : List It) (n : Nat) (arr : Array Value) (h : arr.toList = L.flatMap It.cells) (hl : L.length = n) (hn : n ≤ 1000) : Its (w.alloc (.cells arr 66)) (.slice (some ⟨w.heap.size, 0, none⟩) n n) L := by
  subst hl
  refine ⟨_, L.length, rfl, Nat.le_refl _, ⟨by unfold maxLen; omega, fun e => by cases e⟩, flat_length It.cells 5 L (fun _ _ => rfl), fun _ => ⟨w.heap.size, 0, rfl, fun j u hj => ?_⟩⟩
  rw [← h] at hj
  have hn : (w.alloc (.cells arr 66)).heap[w.heap.size]? = some (.cells arr 66) := World.alloc_heap_new w _
  simp only [World.cell?, hn, Nat.zero_add]
  rw [← hj, Array.getElem?_toList]
  rfl
theorem its_two (w : World) : Its (w.alloc (.cells #[.int .i64 1, .int .u32 3, .int .u32 0, .int .u32 5, .string ⟨#[97]⟩, .int .i64 1, .int .u32 3, .int .u32 0, .int .u32 5, .string ⟨#[98]⟩] 66)) (.slice (some ⟨w.heap.size, 0, none⟩) 2 2) twoL := its_new w twoL 2 _ rfl rfl (by decide)
section
set_option maxRecDepth 100000
set_option maxHeartbeats 4000000
theorem shown_any (w : World) : Calls Try.prog 8 #[] w fun e w' => e = .returned (.bool true) ∧ Below w.heap.size w w' := by
  have HN : Hid (∀ W, Calls Try.prog 9 #[.int .i64 128] W (NewPost 0 128 W)) := fun W => new_disk 128 (by decide) W
  have HI := Lib.hid (fun s W => item_any s W)
  obtain ⟨d0, hd0⟩ : ∃ d, D.of (List.replicate 128 (zeros 512)) = d := ⟨_, rfl⟩
  have hg0 : Good d0 ⟨16, 1, 2⟩ ⟨16, 1, 2⟩ 0 := by rw [← hd0]; exact good_new 128 _ (by decide) (lg_ok 128 (by decide) (by decide))
  have hlen : d0.B.length = 128 := by rw [← hd0]; exact List.length_replicate
  have hop : d0.ops = 0 := by rw [← hd0]; rfl
  have hcut : d0.cut < 0 := by rw [← hd0]; decide
  unfold NewPost at HN
  simp only [hd0] at HN
  clear hd0
  -- Begin
  have HB : Hid (∀ W p G, IsDisk W p G d0 → (∀ k, G k → k < W.heap.size) → (∀ k, G k → w.heap.size ≤ k) → w.heap.size ≤ W.heap.size → Calls Try.prog 10 #[.pointer (some ⟨p, 0, none⟩), .int .i64 16, .int .u64 1, .int .i64 2] W fun e w' => ∃ q, e = .returned (.tuple #[.pointer (some ⟨q, 0, none⟩), .int .i64 0]) ∧ Sys w' w.heap.size p q G d0 ⟨16, 1, 2⟩ ⟨16, 1, 2⟩ 0 ∧ Below W.heap.size W w' ∧ W.heap.size ≤ q) := fun W p G h1 h2 h3 h4 =>
    sys_begin (nb := 128) ⟨16, 1, 2⟩ h1 hg0 (begin_ok _ (by omega)) h2 h3 h4
  -- Write
  have HW : Hid (∀ W p q G v, Sys W w.heap.size p q G d0 ⟨16, 1, 2⟩ ⟨16, 1, 2⟩ 0 → w.heap.size ≤ W.heap.size → Its W v twoL → Calls Try.prog 18 #[.pointer (some ⟨q, 0, none⟩), .int .u64 1, v, .bool false, .bool false] W fun e w' => ∃ b G' d', e = .returned (.tuple #[.slice (some ⟨b, 0, none⟩) 2 2, .int .i64 0]) ∧ Row w' b 3 [.int .i64 17, .int .i64 18] ∧ w.heap.size ≤ b ∧ Sys w' w.heap.size p q G' d' ⟨16, 1, 2⟩ ⟨19, 2, 2⟩ 1 ∧ fdsK d'.B ⟨16, 1, 2⟩ 1 = [fdW ⟨16, 1, 2⟩ 1 twoL false false] ∧ d'.B.length = 128 ∧ Below w.heap.size W w') := fun W p q G v h1 h2 h3 =>
    (sys_write h1 h2 1 v twoL false false h3 (fun x hx => by simp [twoL] at hx; rcases hx with rfl | rfl <;> decide) (fun x hx => by simp [twoL] at hx; rcases hx with rfl | rfl <;> exact ⟨by decide, by decide, by decide, by decide⟩) (by decide) (by omega)).mono fun e w' hP => by
      cases hP with
      | arg he hn hB => exact absurd ok_two hn
      | off he hk hc => omega
      | done b he hk hb hbn G' d' hS hG hf hd hc hops hcut hO =>
        refine ⟨b, G', d', he, hb, by omega, hS, hf, by rw [hc.len]; exact hlen, hO.below h2 fun k hk => ?_⟩
        rcases hk with hk | rfl
        · exact h1.lo k hk
        · exact h1.qlo
  -- Scan
  have HS : Hid (∀ W p q G d', Sys W w.heap.size p q G d' ⟨16, 1, 2⟩ ⟨19, 2, 2⟩ 1 → fdsK d'.B ⟨16, 1, 2⟩ 1 = [fdW ⟨16, 1, 2⟩ 1 twoL false false] → d'.B.length = 128 → Calls Try.prog 19 #[.pointer (some ⟨p, 0, none⟩), .int .i64 16, .int .u64 1, .int .i64 2] W fun e w' => ∃ v q, e = .returned (.tuple #[v, .pointer (some ⟨q, 0, none⟩), .int .i64 0]) ∧ Fnds w' v [fdW ⟨16, 1, 2⟩ 1 twoL false false] ∧ (∃ m, LAt w' q p ⟨19, 2, m⟩) ∧ Below W.heap.size W w') := fun W p q G d' h1 h2 h3 =>
    (sys_scan (⟨16, 1, 2⟩ : Lg) h1.disk (begin_ok _ (by omega)) h1.good.m16 h1.good.scans (by decide)).mono fun e w' hP => by
      obtain ⟨v, q', he, hF, hl, hq, hB⟩ := hP
      rw [h1.good.now] at hF hl
      rw [h2] at hF
      obtain ⟨m, hm, hla⟩ := h1.good.laid
      rw [hla.go] at hl
      exact ⟨v, q', he, hF, ⟨m, hl⟩, hB⟩
  clear hg0 hlen hop hcut
  have HTW := Lib.hid its_two
  have hbl : (⟨#[98, 0]⟩ : ByteArray).toList = [98, 0] := by rw [Lib.toList_data]
  have HSZ : Hid ((⟨#[98]⟩ ++ zeros 507 : ByteArray).size = 508) := by unfold Hid; rw [ByteArray.size_append, zeros_size]; rfl
  go_enter Try.func8, Try.ntmps8
  go_wp2_with (first
    | (go_at_call 9; (with_reducible refine Calls.mono (HN.out _) ?_); rintro e w1 ⟨p, G, rfl, hD1, hG1, hG2, hB1⟩)
    | (go_at_call 10; (with_reducible refine Calls.mono (HB.out _ _ _ hD1 hG2 hG1 hB1.size) ?_); rintro e w2 ⟨q, rfl, hS2, hB2, hq2⟩; have hA2 := below_th hB1 hB2)
    | (go_at_call 30; (with_reducible refine Calls.mono (HI.out ⟨#[97]⟩ _) ?_); rintro e w3 ⟨rfl, hB3⟩; have hA3 := below_th hA2 hB3)
    | (go_at_call 30; (with_reducible refine Calls.mono (HI.out ⟨#[98]⟩ _) ?_); rintro e w4 ⟨rfl, hB4⟩; have hA4 := below_al (below_th hA3 hB4) (.cells #[.int .i64 1, .int .u32 3, .int .u32 0, .int .u32 5, .string ⟨#[97]⟩, .int .i64 1, .int .u32 3, .int .u32 0, .int .u32 5, .string ⟨#[98]⟩] 66); have hS4 := ((hS2.below hB3).below hB4).below (below_new w4 (.cells #[.int .i64 1, .int .u32 3, .int .u32 0, .int .u32 5, .string ⟨#[97]⟩, .int .i64 1, .int .u32 3, .int .u32 0, .int .u32 5, .string ⟨#[98]⟩] 66)))
    | (go_at_call 18; (with_reducible refine Calls.mono (HW.out _ _ _ _ _ hS4 hA4.size (HTW.out w4)) ?_); rintro e w5 ⟨bp, G', d', rfl, hR5, hbp, hS5, hf5, hl5, hB5⟩; have hA5 := hA4.trans hB5)
    | (go_at_call 19; (with_reducible refine Calls.mono (HS.out _ _ _ _ _ hS5 hf5 hl5) ?_); rintro e w6 ⟨v6, q6, rfl, hF6, ⟨m6, hL6⟩, hB6⟩; have hA6 := below_th hA5 hB6; have hR6 := hR5.of_heap (hB6.block _ hR5.lt); have r0 : w6.cell? ⟨bp, 0, none⟩ = some (.int .i64 17) := hR6.at_ 0; have r1 : w6.cell? ⟨bp, 1, none⟩ = some (.int .i64 18) := hR6.at_ 1; obtain ⟨fb, fo, fc, m, rfl, hm, k0, k1, k2, k3, k4, k5, k6, k7⟩ := hF6.at (k := 0) rfl; have hmn := hm.n; have hmr := hm.row; rw [fd_two] at hmn hmr; have s1 := hmr.at_ 1; simp only [Nat.zero_mul, Nat.add_zero] at k0 k1 k2 k3 k4 k5 k6 k7; simp only [List.length_cons, List.length_nil, Nat.zero_add, Nat.reduceAdd] at hmn; rw [hmn] at k7; obtain ⟨s, hs⟩ : ∃ s, (⟨#[98]⟩ ++ zeros 507 : ByteArray) = s := ⟨_, rfl⟩; simp only [List.map_cons, List.getElem?_cons_succ, List.getElem?_cons_zero, hs] at s1; have z1 : s.size = 508 := (by rw [← hs]; exact HSZ.out); have z2 : s.extract 0 2 = ⟨#[98, 0]⟩ := (by rw [← hs]; exact two_head); have z3 : (2 : Int) ≤ (s.size : Int) := (by omega); have z4 : 2 ≤ s.size := (by omega); have hat := at_l hL6; have hsq := seq_l hL6; dsimp only at hat hsq; clear hs)
    | (go_at_call 17; (with_reducible refine Calls.mono hat ?_); rintro e w7 ⟨rfl, rfl⟩)
    | (go_at_call 21; (with_reducible refine Calls.mono hsq ?_); rintro e w7 ⟨rfl, rfl⟩))
  go_ret
  exact ⟨rfl, hA6⟩
end
end Go.Proofs.Ytghonccffmmjhaa.Log
