/- Several texts in one, each under its own heading. -/
import Derived.Test.YteopcjfakhmifaaPk31
import Derived.Test.YteopcjfakhmifaaPk27
import Derived.Test.YteopcjfakhmifaaPk22
import Derived.Test.YteopcjfakhmifaaPk18
/- Changed of the program. -/
namespace Go.Proofs.Yteopcjfakhmifaa.Vol
open Go.RowKit
attribute [local go_sem] Oper.semAt_some
set_option linter.unusedVariables false
set_option linter.unusedSimpArgs false
theorem chg_text {x : ByteArray} (h : ¬ x = ⟨#[]⟩) : x.toList.isEmpty = false ∧ (x.toList == []) = false := by
  have h2 : ¬ x.toList = [] := fun e => h (ba_ext (by rw [← Lib.toList_data]; exact e))
  exact ⟨by cases hx : x.toList.isEmpty with
    | false => rfl
    | true => exact absurd (by simpa using hx) h2, beq_eq_false_iff_ne.2 h2⟩
section
set_option maxRecDepth 100000
set_option maxHeartbeats 4000000
theorem changed_in (was is : ByteArray) (w : World) (h1 : was.size ≤ 100000) (h2 : is.size ≤ 100000) : CallsIn Fence.wide 9 Try.prog 18 #[.string was, .string is] w (ChgPost was is w) := by
  have hfn : ∀ f, Fence.wide.fn f := fun _ => trivial
  obtain ⟨i0, hin, hz0, hz1, hz2⟩ := info_parts infoInts
  refine callsIn_of_wp_marks Try.func18 rfl trivial ?_ rfl
  simp only [Try.ntmps18, List.size_toArray, List.length_cons, List.length_nil, Nat.reduceAdd, Nat.reduceSub, Array.replicate_succ, Array.replicate_zero, List.push_toArray, List.append_toArray, List.nil_append, List.cons_append]
  gi_wp2
  apply wide_scope
  gi_wp2
  apply wide_label
  gi_wp2_with (gi_at_call 39; refine (conts_in _ _ _).mono ?_; rintro e w4 ⟨rfl, rfl⟩)
  obtain ⟨q, hq⟩ : ∃ q, w.heap.size = q := ⟨_, rfl⟩
  obtain ⟨W0, hW0⟩ : ∃ W0, ((w.alloc (.cells #[.string was] 9)).alloc (.cells #[.slice none 0 0] 32)).alloc (.cells #[.string is] 9) = W0 := ⟨_, rfl⟩
  have hs0 : W0.heap.size = q + 3 := by rw [← hW0, ← hq]; simp
  have hBW : Below w.heap.size w W0 := by rw [← hW0]; exact below_al (below_al (below_al (Below.refl _ _) _) _) _
  have hz : ∀ (W : World) (o : Obj) (k : Nat) (x : Obj), W.heap[k]? = some x → (W.alloc o).heap[k]? = some x := fun W o k x h => (Below.heap_alloc _ _ _ (Array.getElem?_eq_some_iff.1 h).1).trans h
  have hn : ∀ (W : World) (o : Obj) (n : Nat), W.heap.size = n → (W.alloc o).heap[n]? = some o := fun W o n h => h ▸ World.alloc_heap_new W o
  have b0 : CellAt W0 q 9 (.string was) := by rw [← hW0, ← hq]; exact hz _ _ _ _ (hz _ _ _ _ (hn _ _ _ rfl))
  have b1 : CellAt W0 (q + 1) 32 (.slice none 0 0) := by rw [← hW0, ← hq]; exact hz _ _ _ _ (hn _ _ _ (by simp))
  have b2 : CellAt W0 (q + 1 + 1) 9 (.string is) := by rw [← hW0, ← hq]; exact hn _ _ _ (by simp)
  have hsq := conts_steps (q + 1 + 1) is h2 W0 b2.c
  rw [hW0]
  rw [hq]
  obtain ⟨N, hN⟩ : ∃ N, nb is.size = N := ⟨_, rfl⟩
  have hN9 : N ≤ 200 := by rw [← hN]; unfold nb; omega
  have HNN := Lib.hid hN
  rw [hN] at hsq
  clear hW0 hN hz hn
  have hI0 : RowI W0 (q + 1) 32 3 1 (chgK was is 0).length ((chgK was is 0).map fun (x : Nat) => .int .i64 (x : Int)) W0 := RowI.nil b1
  refine wpIn_rangeFunc_steps rfl (by decide) (gf := 57) (lb := #[.pointer (some ⟨q + 1 + 1, 0, none⟩)]) rfl trivial (enters_of Try.func57 (by kernel_rfl) rfl)
    hsq sameK_t (sameK_b (by simp; omega)) (Below.refl _ _) (fun k => by unfold encC; rfl)
    (fun k W => RowI W0 (q + 1) 32 3 1 (chgK was is k).length ((chgK was is k).map fun (x : Nat) => .int .i64 (x : Int)) W) (fun c k W => False) (rowI_own (n := fun k => (chgK was is k).length) (xs := fun k => (chgK was is k).map fun (x : Nat) => .int .i64 (x : Int))) (fun c k W W' row hI hg hr => hI) hI0
    (ActA (fun k => #[.string was, .string is, .pointer (some ⟨q, 0, none⟩), undef, .slice none 0 0, .pointer (some ⟨q + 1, 0, none⟩), .int .i64 (k : Int), .string (ch is k), undef, .string is, .func (.func 57) #[] #[.pointer (some ⟨q + 1 + 1, 0, none⟩)], .int .i64 (k : Int), .string (ch is k), undef, undef, undef, undef, undef, undef, undef, undef, undef, undef, undef, undef, undef, undef, undef])) (fun k a' => actA_own k a') ?assign ?body ?done ?stop
  case assign =>
    intro l k W K hI hk hK
    have HK := Lib.hid (hK _ _ (KeepsFrom.refl _ _) (Same.refl _ _) hI rfl)
    unfold encC
    clear hK hI hsq
    dsimp only at HK
    gi_wp2
    exact HK.out
  case body =>
    rintro l k a' W hl hrec ⟨hon, v0, hc, hown⟩ rfl hk
    obtain ⟨ap, cp, rfl, _, hcp⟩ := lies_own hown
    have hsz := hon.size
    have c0 : W.cell? ⟨q, 0, none⟩ = some (.string was) := (b0.of_heap (hon.block q (by omega) (by omega))).c
    have HAT := Lib.hid (fun W2 => at_any was k W2 (by omega) (by omega))
    have hKL := chgK_le was is k
    have hask := stays_ask was is k
    have HSA := Lib.hid (fun W2 => same_any (ch was k) (ch is k) W2 (ch_le _ _) (ch_le _ _))
    dsimp only
    obtain ⟨x, hx⟩ : ∃ x, ch was k = x := ⟨_, rfl⟩
    obtain ⟨y, hy⟩ : ∃ y, ch is k = y := ⟨_, rfl⟩
    rw [hx] at HAT hask HSA
    rw [hy] at hask HSA ⊢
    have HSTAY : Hid (stays was is k → ∀ W2, Below W.heap.size W W2 → KeepsFrom W0.heap.size W W2 ∧ Same [q + 1 + 1] W W2 ∧ RowI W0 (q + 1) 32 3 1 (chgK was is (k + 1)).length ((chgK was is (k + 1)).map fun (x : Nat) => .int .i64 (x : Int)) W2) := fun hs W2 hB => by
      rw [chgK_yes hs]
      exact ⟨keeps_below hB, Same.below hB (by intro x hx; simp at hx; omega), RowI.th ⟨hon, _, hc, hown⟩ hB⟩
    have HGO : Hid (¬ stays was is k → ∀ W2 v' W4, Below W.heap.size W W2 → W4.ownsRow W0.heap.size 3 1 v' ((chgK was is k).length + 1) ((chgK was is k).map (fun (x : Nat) => Value.int .i64 (x : Int)) ++ [.int .i64 (k : Int)]) → W2.grownBy W4 (Value.slice ap (chgK was is k).length cp).ownBlock → CellAt W4 (q + 1) 32 (.slice ap (chgK was is k).length cp) ∧ (KeepsFrom W0.heap.size W (W4.setCell ⟨q + 1, 0, none⟩ v') ∧ Same [q + 1 + 1] W (W4.setCell ⟨q + 1, 0, none⟩ v') ∧ RowI W0 (q + 1) 32 3 1 (chgK was is (k + 1)).length ((chgK was is (k + 1)).map fun (x : Nat) => .int .i64 (x : Int)) (W4.setCell ⟨q + 1, 0, none⟩ v'))) := fun hs W2 v' W4 hB ho hg => by
      obtain ⟨r1, r2, r3, r4⟩ := RowI.next (by omega) hon hc hown hB ho hg
      refine ⟨r1, r2, r3 _ (by intro y hy; simp at hy; omega), ?_⟩
      rw [chgK_no hs, List.length_append, List.map_append]
      exact r4
    have HOW : Hid (∀ W2, Below W.heap.size W W2 → (W2.alloc (.cells #[.int .i64 (k : Int)] 3)).ownsRow W0.heap.size 3 1 (.slice ap (chgK was is k).length cp) (chgK was is k).length ((chgK was is k).map fun (x : Nat) => .int .i64 (x : Int))) := fun W2 h => (own_row hown (grown_of_below h) (fun r e => by cases e)).alloc _
    have HCC : Hid (∀ W2, Below W.heap.size W W2 → W2.cell? ⟨q + 1, 0, none⟩ = some (.slice ap (chgK was is k).length cp) ∧ W0.heap.size ≤ (W2.alloc (.cells #[.int .i64 (k : Int)] 3)).heap.size) := fun W2 h => ⟨(hc.th h).c, by have := h.size; simp; omega⟩
    obtain ⟨n, hn⟩ : ∃ n, (chgK was is k).length = n := ⟨_, rfl⟩
    obtain ⟨xs, hxs⟩ : ∃ xs, ((chgK was is k).map fun (x : Nat) => Value.int .i64 (x : Int)) = xs := ⟨_, rfl⟩
    rw [hn] at hKL HGO HOW
    simp only [hxs] at HGO HOW
    have hn9 : n ≤ 200 := by omega
    have hcv := hc.c
    rw [hn] at hcv HCC hcp
    clear hon hc hown hsq hx hy hrec b0 b1 b2 hn hxs hI0 hKL
    by_cases hs : stays was is k
    · obtain ⟨a1, a2⟩ := hask.1 hs
      obtain ⟨q0, q1⟩ := chg_text a1
      have HST := Lib.hid (HSTAY.out hs)
      rw [decide_eq_true a2] at HSA
      clear hask hs a1 a2 HGO HOW HSTAY
      gi_wp2_with (first
        | (gi_at_call 41; refine (callsIn_wide.2 (HAT.out _)).mono ?_; rintro e w1 ⟨rfl, hw⟩; rw [← hw]; clear hw w1)
        | (gi_at_call 42; refine (callsIn_wide.2 (HSA.out _)).mono ?_; rintro e w2 ⟨rfl, hB2⟩))
      exact HST.out _ hB2
    · by_cases he : x = ⟨#[]⟩
      · subst he
        have HG := Lib.hid (HGO.out hs)
        clear hask hs HGO HSTAY HSA
        gi_wp2_with (first
          | (gi_at_call 41; refine (callsIn_wide.2 (HAT.out _)).mono ?_; rintro e w1 ⟨rfl, hw⟩; rw [← hw]; clear hw w1)
          | (gi_at_builtin; refine wpListIn_append_own _ rfl _ _ 32 rfl W0.heap.size 3 i0 (.int .i64 0) 1 8 Try.underlying32 hin hz0 hz1 hz2 rfl (by decide) (.slice ap n cp) n xs rfl (HOW.out _ (Below.refl _ _)) ⟨W.heap.size, 0, none⟩ 1 1 [.int .i64 (k : Int)] rfl rfl (World.news_of_block (World.alloc_heap_new W _)) (by simp [Value.oneCell']) (by unfold maxLen; omega) (by omega) (HCC.out _ (Below.refl _ _)).2 ?_; intro v' w3 hown' hgrow _; obtain ⟨g', cap', rfl⟩ := ownsRow_succ hown'; obtain ⟨r1, r2⟩ := HG.out _ _ w3 (below_new _ _) hown' hgrow; have hc3 := r1.c; have hf3 := r1.f; have HR := Lib.hid r2; clear r1 r2 hown' hgrow))
        exact HR.out
      · obtain ⟨q0, q1⟩ := chg_text he
        have HG := Lib.hid (HGO.out hs)
        rw [decide_eq_false (fun h => hs (hask.2 ⟨he, h⟩))] at HSA
        clear hask hs HGO HSTAY he
        gi_wp2_with (first
          | (gi_at_call 41; refine (callsIn_wide.2 (HAT.out _)).mono ?_; rintro e w1 ⟨rfl, hw⟩; rw [← hw]; clear hw w1)
          | (gi_at_call 42; refine (callsIn_wide.2 (HSA.out _)).mono ?_; rintro e w2 ⟨rfl, hB2⟩; have HB2 := Lib.hid hB2; have hc2 := (HCC.out _ hB2).1; clear hB2)
          | (gi_at_builtin; refine wpListIn_append_own _ rfl _ _ 32 rfl W0.heap.size 3 i0 (.int .i64 0) 1 8 Try.underlying32 hin hz0 hz1 hz2 rfl (by decide) (.slice ap n cp) n xs rfl (HOW.out _ HB2.out) ⟨w2.heap.size, 0, none⟩ 1 1 [.int .i64 (k : Int)] rfl rfl (World.news_of_block (World.alloc_heap_new w2 _)) (by simp [Value.oneCell']) (by unfold maxLen; omega) (by omega) (HCC.out _ HB2.out).2 ?_; intro v' w3 hown' hgrow _; obtain ⟨g', cap', rfl⟩ := ownsRow_succ hown'; obtain ⟨r1, r2⟩ := HG.out _ _ w3 (below_al HB2.out _) hown' hgrow; have hc3 := r1.c; have hf3 := r1.f; have HR := Lib.hid r2; clear r1 r2 hown' hgrow))
        exact HR.out
  case done =>
    rintro D W hD ⟨hon, v, hc, hown⟩ hKD
    have hsz := hon.size
    have c4 := hc.c
    have hlies : Ints W v (chgK was is N) := Ints.own hown
    have HP : Hid (ChgPost was is w (.returned v) (W.putObj D (.deferred none))) := by
      refine ⟨v, rfl, ?_, below_putObj (hBW.trans (hon.below (by omega) (by rintro j rfl; omega))) D (by omega) _⟩
      have h3 : Ints (W.putObj D (.deferred none)) v (chgK was is N) := Lies.grown hlies (putObj_grown W D _) (fun j hj c t f h => by cases hj; rw [hKD] at h; cases h)
      rw [← HNN.out] at h3
      exact h3
    have HKD := Lib.hid hKD
    clear hon hc hown hsq hlies hKD b0 b1 b2 hI0
    gi_wp2
    refine ⟨by simp, .inl ⟨_, _, rfl, run_takeDeferred HKD.out, ?_⟩⟩
    refine ⟨_, results_tmp rfl _ _, ?_⟩
    exact HP.out
  case stop =>
    rintro D c k W hD hk hf
    exact hf.elim
theorem changed_any (was is : ByteArray) (w : World) (h1 : was.size ≤ 100000) (h2 : is.size ≤ 100000) : Calls Try.prog 18 #[.string was, .string is] w (ChgPost was is w) := callsIn_wide.1 (changed_in was is w h1 h2)
end
end Go.Proofs.Yteopcjfakhmifaa.Vol
/- Inode of the program. -/
namespace Go.Proofs.Yteopcjfakhmifaa.Vol
open Go.RowKit
open Ino (I M IOk MOk RightP dpN UsedP)
open Pln (Nd nd)
attribute [local go_sem] Oper.semAt_some
set_option linter.unusedVariables false
set_option linter.unusedSimpArgs false
theorem in_made (n : Nd) (m : M) : (RightP (inoOf n m) → inV n m = inoOf n m ∧ inE n m = 0) ∧ (¬ RightP (inoOf n m) → inV n m = I.zero ∧ inE n m = 154) := by
  by_cases hz : n = Nd.zero
  · subst hz
    have h0 := in_zero m
    have hi : ∀ m, m = M.zero → inoOf Nd.zero m = I.zero := fun m h => by rw [h]; rfl
    constructor
    · rintro (h | h)
      · have hm : m = M.zero := by have := congrArg I.m h; exact this
        exact ⟨by rw [h0.1, hi m hm], h0.2.1 hm⟩
      · have := h.1.1
        exact absurd this (by show ¬ (1 : Int) ≤ 0; omega)
    · intro h
      exact ⟨h0.1, h0.2.2 (fun hm => h (.inl (hi m hm)))⟩
  · exact ⟨fun h => in_yes hz h, fun h => in_no hz h⟩
section
set_option maxRecDepth 100000
set_option maxHeartbeats 2000000
theorem inode_any (n : Nd) (m : M) (hn : NdOk n) (hm : MOk m) (hd : n.data.size ≤ 100000) (w : World) : Calls Try.prog 20 #[n.val, m.val] w (Ans w (.tuple #[(inV n m).val, .int .i64 (inE n m)])) := by
  have hok := inoOf_ok hn hm hd
  have hr := fun W => Ino.right_any (inoOf n m) hok W
  have hdp := fun W => Ino.depth_any n.data.size W (by omega)
  obtain ⟨O, hO⟩ : ∃ O : Obj, O = .cells #[.int .i64 0, .int .u16 0, .int .u16 0, .int .u32 0, .int .u64 0, .int .i64 0, .int .u32 0, .int .u32 0, .int .u32 0, .int .u32 0, .int .u32 0, .int .u32 0] 41 := ⟨_, rfl⟩
  obtain ⟨Wa, hWa⟩ : ∃ W, w.alloc (Pln.boxO n) = W := ⟨_, rfl⟩
  obtain ⟨Wb, hWb⟩ : ∃ W, Wa.alloc (Ino.boxM m) = W := ⟨_, rfl⟩
  obtain ⟨W1, hW1⟩ : ∃ W, Wb.alloc O = W := ⟨_, rfl⟩
  have sa : Wa.heap.size = w.heap.size + 1 := by rw [← hWa]; exact World.size_alloc ..
  have sb : Wb.heap.size = w.heap.size + 1 + 1 := by rw [← hWb, World.size_alloc, sa]
  have s1 : W1.heap.size = w.heap.size + 1 + 1 + 1 := by rw [← hW1, World.size_alloc, sb]
  have ba : Below w.heap.size w Wa := by rw [← hWa]; exact below_new _ _
  have bb : Below Wa.heap.size Wa Wb := by rw [← hWb]; exact below_new _ _
  have b1 : Below Wb.heap.size Wb W1 := by rw [← hW1]; exact below_new _ _
  have HB := Lib.hid (below_th (below_th ba bb) b1)
  have HA : Hid (Pln.At W1 w.heap.size n) := ((show Pln.At Wa w.heap.size n by rw [← hWa]; exact Pln.At.new w n).th bb).th b1
  have HM : Hid (Ino.AtM W1 (w.heap.size + 1) m) := (show Ino.AtM Wb (w.heap.size + 1) m by rw [← hWb, ← sa]; exact Ino.AtM.new Wa m).th b1
  have HZ : Hid (Ino.At W1 (w.heap.size + 1 + 1) I.zero) := by rw [← sb, ← hW1, hO]; exact Ino.At.new Wb I.zero
  have HS := Lib.hid s1
  subst hWa hWb
  unfold Pln.boxO Ino.boxM at hW1
  rw [hO] at hW1
  clear sa sb s1 ba bb b1 hO
  obtain ⟨c0, c1, c2, c3, c4⟩ := HA.out.c
  obtain ⟨m0, m1, m2, m3, m4, m5⟩ := HM.out.c
  unfold Pln.Nd.val Ino.M.val
  have g1 : decide ((n.data.size : Int) > 8193532) = false := decide_eq_false (by omega)
  have g2 : ¬ (8193532 : Int) < (n.data.size : Int) := by omega
  have hw : IntKind.u32.wrap (n.data.size : Int) = (n.data.size : Int) := by rw [IntKind.wrap_u32]; omega
  have HC : Hid (∀ W, Below W1.heap.size W1 W → W.cell? ⟨w.heap.size, 0, none⟩ = some (.int .i64 n.kind) ∧ W.cell? ⟨w.heap.size, 1, none⟩ = some (.int .u16 n.mode) ∧ W.cell? ⟨w.heap.size, 2, none⟩ = some (.int .u16 n.links) ∧ W.cell? ⟨w.heap.size, 3, none⟩ = some (.int .u64 n.time) ∧ W.cell? ⟨w.heap.size + 1, 0, none⟩ = some (.int .u32 m.a) ∧ W.cell? ⟨w.heap.size + 1, 1, none⟩ = some (.int .u32 m.b) ∧ W.cell? ⟨w.heap.size + 1, 2, none⟩ = some (.int .u32 m.c) ∧ W.cell? ⟨w.heap.size + 1, 3, none⟩ = some (.int .u32 m.d) ∧ W.cell? ⟨w.heap.size + 1, 4, none⟩ = some (.int .u32 m.e) ∧ W.cell? ⟨w.heap.size + 1, 5, none⟩ = some (.int .u32 m.f)) := fun W hW => by
    obtain ⟨c0, c1, c2, c3, c4⟩ := (HA.out.th hW).c
    obtain ⟨m0, m1, m2, m3, m4, m5⟩ := (HM.out.th hW).c
    exact ⟨c0, c1, c2, c3, m0, m1, m2, m3, m4, m5⟩
  have HDP := Lib.hid hdp
  have hd1 : Below W1.heap.size W1 W1.drew := below_drew (Below.refl _ _)
  clear hdp
  have HX : Hid (Ino.At ((W1.alloc (.cells #[.int .i64 n.kind, .int .u16 n.mode, .int .u16 n.links, .int .u32 n.data.size, .int .u64 n.time, .int .i64 (dpN n.data.size), .int .u32 m.a, .int .u32 m.b, .int .u32 m.c, .int .u32 m.d, .int .u32 m.e, .int .u32 m.f] 41)).drew) W1.heap.size (inoOf n m)) := Ino.At.new W1 (inoOf n m)
  have HB2 : Hid (Below W1.heap.size W1 ((W1.alloc (.cells #[.int .i64 n.kind, .int .u16 n.mode, .int .u16 n.links, .int .u32 n.data.size, .int .u64 n.time, .int .i64 (dpN n.data.size), .int .u32 m.a, .int .u32 m.b, .int .u32 m.c, .int .u32 m.d, .int .u32 m.e, .int .u32 m.f] 41)).drew)) := below_drew (below_new W1 _)
  have HR : Hid (∀ W, Calls Try.prog 45 #[.agg #[.int .i64 n.kind, .int .u16 n.mode, .int .u16 n.links, .int .u32 n.data.size, .int .u64 n.time, .int .i64 (dpN n.data.size), .int .u32 m.a, .int .u32 m.b, .int .u32 m.c, .int .u32 m.d, .int .u32 m.e, .int .u32 m.f]] W (Ino.Ans W (.bool (Ino.rightB (inoOf n m))))) := hr
  have HY : Hid (RightP (inoOf n m) → Value.tuple #[(inoOf n m).val, .int .i64 0] = .tuple #[(inV n m).val, .int .i64 (inE n m)]) := fun h => by rw [((in_made n m).1 h).1, ((in_made n m).1 h).2]
  have HN : Hid (¬ RightP (inoOf n m) → Value.tuple #[I.zero.val, .int .i64 154] = .tuple #[(inV n m).val, .int .i64 (inE n m)]) := fun h => by rw [((in_made n m).2 h).1, ((in_made n m).2 h).2]
  clear hr hok hn hm hd c0 c1 c2 c3 m0 m1 m2 m3 m4 m5
  obtain ⟨c0, c1, c2, c3, m0, m1, m2, m3, m4, m5⟩ := HC.out W1 (Below.refl _ _)
  go_enter Try.func20, Try.ntmps20
  go_upto_region 4 with fail
  go_region_held3 (fun w' => w'.cell? ⟨w.heap.size, 0, none⟩ = some (.int .i64 n.kind) ∧ w'.cell? ⟨w.heap.size, 1, none⟩ = some (.int .u16 n.mode) ∧ w'.cell? ⟨w.heap.size, 2, none⟩ = some (.int .u16 n.links) ∧ w'.cell? ⟨w.heap.size, 3, none⟩ = some (.int .u64 n.time) ∧ w'.cell? ⟨w.heap.size + 1, 0, none⟩ = some (.int .u32 m.a) ∧ w'.cell? ⟨w.heap.size + 1, 1, none⟩ = some (.int .u32 m.b) ∧ w'.cell? ⟨w.heap.size + 1, 2, none⟩ = some (.int .u32 m.c) ∧ w'.cell? ⟨w.heap.size + 1, 3, none⟩ = some (.int .u32 m.d) ∧ w'.cell? ⟨w.heap.size + 1, 4, none⟩ = some (.int .u32 m.e) ∧ w'.cell? ⟨w.heap.size + 1, 5, none⟩ = some (.int .u32 m.f)) (first | exact HC.out _ hd1 | exact HC.out _ (below_drew (below_new _ _))) (first
    | (go_at_call 44; (with_reducible refine Calls.mono (HDP.out _) ?_); rintro e w2 ⟨rfl, rfl⟩; have := hd1))
  all_goals
    obtain ⟨W2, hW2⟩ : ∃ W2, (W1.alloc (.cells #[.int .i64 n.kind, .int .u16 n.mode, .int .u16 n.links, .int .u32 n.data.size, .int .u64 n.time, .int .i64 (dpN n.data.size), .int .u32 m.a, .int .u32 m.b, .int .u32 m.c, .int .u32 m.d, .int .u32 m.e, .int .u32 m.f] 41)).drew = W2 := ⟨_, rfl⟩
    rw [hW2] at HX HB2 ⊢
    have HBW := Lib.hid (below_th HB.out HB2.out)
    have HZ2 := Lib.hid (HZ.out.th HB2.out)
    obtain ⟨x0, x1, x2, x3, x4, x5, x6, x7, x8, x9, x10, x11⟩ := HX.out.c
    dsimp only [inoOf] at x0 x1 x2 x3 x4 x5 x6 x7 x8 x9 x10 x11
    clear hW2 hd1 c0 c1 c2 c3 m0 m1 m2 m3 m4 m5 hW1 HDP
    by_cases h1 : RightP (inoOf n m)
    · have HE := Lib.hid (HY.out h1)
      have hrb := Ino.rightB_yes h1
      rw [hrb] at HR
      clear h1 hrb HY HN
      go_wp2_with (go_at_call 45; (with_reducible refine Calls.mono (HR.out _) ?_); rintro e w3 ⟨rfl, hb⟩; have HX3 := Lib.hid (HX.out.th hb); obtain ⟨y0, y1, y2, y3, y4, y5, y6, y7, y8, y9, y10, y11⟩ := HX3.out.c; dsimp only [inoOf] at y0 y1 y2 y3 y4 y5 y6 y7 y8 y9 y10 y11; have HZ3 := Lib.hid (HZ2.out.th hb); obtain ⟨z0, z1, z2, z3, z4, z5, z6, z7, z8, z9, z10, z11⟩ := HZ3.out.zc; have g0 := HZ3.out.f 0; have g1 := HZ3.out.f 1; have g2 := HZ3.out.f 2; have g3 := HZ3.out.f 3; have g4 := HZ3.out.f 4; have g5 := HZ3.out.f 5; have g6 := HZ3.out.f 6; have g7 := HZ3.out.f 7; have g8 := HZ3.out.f 8; have g9 := HZ3.out.f 9; have g10 := HZ3.out.f 10; have g11 := HZ3.out.f 11; obtain ⟨hAp, hBp⟩ := HZ3.out.put12 (inoOf n m); have HAp := Lib.hid hAp; have HBp := Lib.hid hBp; have HB3 := Lib.hid (below_th HBW.out hb); clear hAp hBp hb)
      refine bodyPost_ret (Ino.results_inode rfl _ _ rfl HAp.out) rfl ?_
      exact Ans.eq HE.out ⟨rfl, HB3.out.trans (HBp.out.mono (by omega))⟩
    · have HE := Lib.hid (HN.out h1)
      have hrb := Ino.rightB_no h1
      rw [hrb] at HR
      clear h1 hrb HY HN
      go_wp2_with (go_at_call 45; (with_reducible refine Calls.mono (HR.out _) ?_); rintro e w3 ⟨rfl, hb⟩; have HZ3 := Lib.hid (HZ2.out.th hb); obtain ⟨z0, z1, z2, z3, z4, z5, z6, z7, z8, z9, z10, z11⟩ := HZ3.out.zc; have g0 := HZ3.out.f 0; have g1 := HZ3.out.f 1; have g2 := HZ3.out.f 2; have g3 := HZ3.out.f 3; have g4 := HZ3.out.f 4; have g5 := HZ3.out.f 5; have g6 := HZ3.out.f 6; have g7 := HZ3.out.f 7; have g8 := HZ3.out.f 8; have g9 := HZ3.out.f 9; have g10 := HZ3.out.f 10; have g11 := HZ3.out.f 11; obtain ⟨hAp, hBp⟩ := HZ3.out.putZ; have HAp := Lib.hid hAp; have HBp := Lib.hid hBp; have HB3 := Lib.hid (below_th HBW.out hb); clear hAp hBp hb)
      refine bodyPost_ret (Ino.results_inode rfl _ _ rfl HAp.out) rfl ?_
      exact Ans.eq HE.out ⟨rfl, HB3.out.trans (HBp.out.mono (by omega))⟩
end
end Go.Proofs.Yteopcjfakhmifaa.Vol
