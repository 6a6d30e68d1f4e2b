/- The nodes below a level. levels: the iterator over the levels of a tree. Shape, at a bag that has something: a row of counts for each level. Shape, at whatever bag: the rows of counts of a balanced tree. -/
import Derived.Deep.QuietTactic
import Derived.BigQuiet
import Derived.Deep.RegionLaw
import Derived.Deep.AppendLies
import Derived.Test.YtkhbfjncamobdaaRow
import Derived.Test.YtkhbfjncamobdaaBagOnS
import Derived.Test.YtkhbfjncamobdaaBagTrioS
import Derived.RangeFuncBound
import Derived.RangeFuncCalls
import Derived.RangeFuncLeaves
import Derived.Shelf.Abstract
import Derived.Shelf.RegionOpen
import Derived.OwnWalkIn
import Derived.TacticsInMore
import Derived.LoopNIn
import Derived.LoopIn
import Derived.Sort.LoopGhostIn
import Derived.Test.YtkhbfjncamobdaaBagPkL
import Derived.Test.YtkhbfjncamobdaaBagShape0S
import Derived.Maps.AppendAt
namespace Go.Proofs.Ytkhbfjncamobdaa.S
open Go.RowKit Go.Shelf
set_option linter.unusedVariables false

set_option maxRecDepth 100000 in
set_option maxHeartbeats 4000000 in
theorem allBelow_leaf (ts : List (T ByteArray)) (v : Value) (w : World) (hv : Lies w v ts.length 1 (cellsP (ts.map fun t => t.r.b))) (hk : ∀ t, t ∈ ts → Ok w t.r ∧ t.r.kv = none) (hl : ts.length ≤ 1000) :
    Calls Try.prog 30 #[v] w fun e w' => e = .returned (.slice none 0 0) ∧ Below w.heap.size w w' := by
  obtain ⟨a, c, rfl, H, hn, hm⟩ := hv.parts
  obtain ⟨n, hnn⟩ : ∃ n, ts.length = n := ⟨_, rfl⟩
  rw [hnn] at H hn hl ⊢
  have HK := Lib.hid hk
  clear hv hk
  go_enter Try.func30, Try.ntmps30
  go_wp2
  go_loopw [3, 8] (fun s i wr => ∃ k : Nat, k ≤ n ∧ s = .slice none 0 0 ∧ i = .int .i64 k ∧ Below w.heap.size w wr) (fun _ i _ => n - (intOf i).toNat)
  case atStart => exact ⟨0, Nat.zero_le _, rfl, rfl, Below.refl _ _⟩
  case round =>
    obtain ⟨k, hk, rfl, rfl, hB⟩ := hrel
    by_cases hlt : k < n
    · obtain ⟨t, ht⟩ : ∃ t, ts[k]? = some t := ⟨ts[k]'(by omega), by simp⟩
      obtain ⟨b, off, rfl, hc⟩ := (H.out.below hB).read (j := k) (u := .pointer (some ⟨t.r.b, 0, none⟩)) (by unfold cellsP; rw [List.getElem?_map, List.getElem?_map, ht]; rfl)
      obtain ⟨hok, hkv⟩ := HK.out t (List.mem_of_getElem? ht)
      have n1 := (hok.below hB).c1
      simp only [Rec.kvv, hkv] at n1
      clear hok hkv ht
      go_wp2
      exact ⟨⟨k + 1, by omega, rfl, by go_num, hB⟩, by simp [intOf]; omega⟩
    · obtain rfl : k = n := by omega
      go_wp2
      go_ret
      exact ⟨rfl, hB⟩

def kidsOf (ts : List (T ByteArray)) : List Nat := ts.flatMap fun t => t.r.kids
theorem kidsOf_snoc (ts : List (T ByteArray)) (t : T ByteArray) : kidsOf (ts ++ [t]) = kidsOf ts ++ t.r.kids := by simp [kidsOf]
theorem kidsOf_le (ts : List (T ByteArray)) (h : ∀ t, t ∈ ts → t.r.kids.length ≤ 8) : (kidsOf ts).length ≤ 8 * ts.length := by
  induction ts with
  | nil => simp [kidsOf]
  | cons t ts ih =>
    have h1 := h t (by simp)
    have h2 := ih fun t ht => h t (by simp [ht])
    simp only [kidsOf, List.flatMap_cons, List.length_append, List.length_cons] at h2 ⊢
    omega
theorem row_news {w : World} {r : Rec ByteArray} {q : Nat × Nat} (h : Ok w r) (hkv : r.kv = some q) : ∀ j u, (cellsP r.kids)[j]? = some u → w.cell? ((⟨q.1, 0, none⟩ : Addr).add j) = some u := fun j u hu => by
  unfold cellsP at hu
  rw [List.getElem?_map] at hu
  cases hk : r.kids[j]? with
  | none => rw [hk] at hu; cases hu
  | some x =>
    rw [hk] at hu
    cases hu
    have := h.kid hkv hk
    rw [add_plain, Nat.zero_add]
    exact this

set_option maxRecDepth 100000 in
set_option maxHeartbeats 4000000 in
theorem allBelow_inner (ts : List (T ByteArray)) (v : Value) (w : World) (hv : Lies w v ts.length 1 (cellsP (ts.map fun t => t.r.b))) (hk : ∀ t, t ∈ ts → Ok w t.r ∧ (∃ q, t.r.kv = some q) ∧ 0 < t.r.kids.length ∧ t.r.kids.length ≤ 8) (hl : ts.length ≤ 1000) :
    Calls Try.prog 30 #[v] w fun e w' => ∃ u, e = .returned u ∧ w'.ownsRow w.heap.size 40 1 u (kidsOf ts).length (cellsP (kidsOf ts)) ∧ Below w.heap.size w w' := by
  obtain ⟨a, c, rfl, H, hn, hm⟩ := hv.parts
  obtain ⟨n, hnn⟩ : ∃ n, ts.length = n := ⟨_, rfl⟩
  rw [hnn] at H hn hl
  have hle := fun k => kidsOf_le (ts.take k) (fun t ht => (hk t (List.mem_of_mem_take ht)).2.2.2)
  have HLE := Lib.hid hle
  have HK := Lib.hid hk
  obtain ⟨j0, hj, hj0, hj1, hj2⟩ := info_parts info_node
  clear hv hk hle
  rw [hnn]
  go_enter Try.func30, Try.ntmps30
  go_wp2
  go_loopw [3, 8] (fun s i wr => ∃ k : Nat, k ≤ n ∧ i = .int .i64 k ∧ Hid (wr.ownsRow w.heap.size 40 1 s (kidsOf (ts.take k)).length (cellsP (kidsOf (ts.take k)))) ∧ Below w.heap.size w wr) (fun _ i _ => n - (intOf i).toNat)
  case atStart => exact ⟨0, Nat.zero_le _, rfl, ⟨rfl, .inl ⟨rfl, rfl⟩⟩, Below.refl _ _⟩
  case round =>
    obtain ⟨k, hk, rfl, hown, hB⟩ := hrel
    by_cases hlt : k < n
    · obtain ⟨t, ht⟩ : ∃ t, ts[k]? = some t := ⟨ts[k]'(by omega), by simp⟩
      obtain ⟨b, off, rfl, hc⟩ := (H.out.below hB).read (j := k) (u := .pointer (some ⟨t.r.b, 0, none⟩)) (by unfold cellsP; rw [List.getElem?_map, List.getElem?_map, ht]; rfl)
      obtain ⟨hok, ⟨q, hkv⟩, hk0, hk8⟩ := HK.out t (List.mem_of_getElem? ht)
      have n1 := (hok.below hB).c1
      simp only [Rec.kvv, hkv] at n1
      have HNEW := Lib.hid (row_news (hok.below hB) hkv)
      have hsn : kidsOf (ts.take (k + 1)) = kidsOf (ts.take k) ++ t.r.kids := by rw [List.take_add_one, ht]; exact kidsOf_snoc _ _
      have HSN := Lib.hid hsn
      obtain ⟨m, hmm⟩ : ∃ m, (kidsOf (ts.take k)).length = m := ⟨_, rfl⟩
      have hm8 : m ≤ 8000 := by have := HLE.out k; rw [hmm, List.length_take] at this; omega
      rw [hmm] at hown
      have HMM := Lib.hid hmm
      have hsz := hB.size
      clear hok hkv ht hsn hmm
      go_wp2_with (at_builtin; refine wpList_append_lies _ rfl _ _ 52 rfl w.heap.size 40 j0 (.pointer none) 1 8 Try.underlying52 hj hj0 hj1 hj2 rfl (by decide) _ _ _ rfl hown.out ⟨q.1, 0, none⟩ t.r.kids.length q.2 (cellsP t.r.kids) rfl (by simp [cellsP]) HNEW.out (cellsP_one _) hk0 (by unfold maxLen; omega) (by omega) hsz _ rfl ?_; intro g2 cap2 w2 hown2 hgrow2 hat2 hlt2; have hB2 := hB.grown hgrow2 hsz (fun k hk => (hown.out.lt k hk).1))
      have hown3 : Hid (w2.ownsRow w.heap.size 40 1 (.slice (some ⟨g2, 0, none⟩) (m + t.r.kids.length) cap2) (kidsOf (ts.take (k + 1))).length (cellsP (kidsOf (ts.take (k + 1))))) := by
        unfold Hid
        rw [HSN.out, List.length_append, HMM.out]
        unfold cellsP at hown2 ⊢
        rw [List.map_append]
        exact hown2
      exact ⟨⟨k + 1, by omega, by go_num, hown3, hB2⟩, by simp [intOf]; omega⟩
    · obtain rfl : k = n := by omega
      have hown2 := hown.out
      rw [List.take_of_length_le (by omega)] at hown2
      have HO := Lib.hid hown2
      clear hown hown2
      go_wp2
      go_ret
      exact ⟨_, rfl, HO.out, hB⟩
end Go.Proofs.Ytkhbfjncamobdaa.S

namespace Go.Proofs.Ytkhbfjncamobdaa.S
open Go.RowKit Go.Shelf
attribute [local go_sem] Oper.semAt_some
set_option linter.unusedVariables false

/-- what is of a bag's three types lies as it lay -/
def KeepT (W W' : World) : Prop := ∀ (b : Nat) (c : Array Value) (t : TypeId) (f : Nat × Nat), W.heap[b]? = some (.cells c t f) → (t = 55 ∨ t = 62 ∨ t = 40) → W'.heap[b]? = W.heap[b]?
theorem KeepT.refl (W : World) : KeepT W W := fun _ _ _ _ _ _ => rfl
theorem KeepT.trans {A B C : World} (h : KeepT A B) (k : KeepT B C) : KeepT A C := fun b c t f hb ht => by
  have e := h b c t f hb ht
  exact (k b c t f (e.trans hb) ht).trans e
theorem KeepT.of_below {A B : World} (h : Below A.heap.size A B) : KeepT A B := fun b c t f hb _ => h.block b (Array.getElem?_eq_some_iff.1 hb).1
theorem KeepT.ok {A B : World} (h : KeepT A B) {r : Rec ByteArray} (ho : Ok A r) : Ok B r := ho.kept fun k hk => by
  obtain ⟨c, t, hc, ht⟩ := ho.cells k hk
  exact h k c t _ hc ht
theorem KeepT.row {A B : World} (h : KeepT A B) {base n : Nat} {v : Value} {xs : List Value} (hr : A.ownsRow base 40 1 v n xs) : B.ownsRow base 40 1 v n xs := by
  refine ⟨hr.1, hr.2.imp id fun ⟨g, cap, cur, a, b, hg, rest⟩ => ⟨g, cap, cur, a, b, ?_, rest⟩⟩
  exact (h g cur _ _ hg (.inr (.inr rfl))).trans hg

/-- what the k-th round is handed: the row of a level -/
def LevE (t : T ByteArray) (k : Nat) (args : Array Value) (W : World) : Prop := ∃ v, args = #[v] ∧ W.ownsRow 0 40 1 v (T.LV t k).length (cellsP ((T.LV t k).map fun s => s.r.b))

theorem abides_below {J : Nat → World → Prop} {B k : Nat} {W W' : World} (h : AbidesFrom B J) (hJ : J k W) (hB : Below W.heap.size W W') : J k W' :=
  h k W W' none hJ ⟨hB.os, hB.tape, hB.output, hB.size, fun k hk _ => hB.block k hk⟩ (fun r e => by cases e)

theorem one_row {W : World} {b : Nat} : (W.alloc (.cells #[.pointer (some ⟨b, 0, none⟩)] 40)).ownsRow 0 40 1 (.slice (some ⟨W.heap.size, 0, none⟩) 1 1) 1 (cellsP [b]) :=
  ⟨rfl, .inr ⟨W.heap.size, 1, _, rfl, Nat.zero_le _, heap_alloc_new W _, Nat.le_refl _, by decide, rfl, rfl⟩⟩

/-- the level behind a level: a row of its nodes, or nothing behind the lowest -/
def LevNext (t : T ByteArray) (d k : Nat) (u : Value) (W : World) : Prop :=
  (k < d ∧ ∃ (ap : Option Addr) (c : Nat), u = .slice ap (T.LV t (k + 1)).length c ∧ Hid (W.ownsRow 0 40 1 (.slice ap (T.LV t (k + 1)).length c) (T.LV t (k + 1)).length (cellsP ((T.LV t (k + 1)).map fun s => s.r.b)))) ∨ (k = d ∧ u = .slice none 0 0)

theorem level_below (t : T ByteArray) (d k : Nat) (v : Value) (W : World) (hw : T.wf d t) (h1 : 1 ≤ t.r.items.length) (h7 : t.r.items.length ≤ 7) (hl : t.inord.length ≤ 1000) (hk : k ≤ d) (hok : ∀ r, r ∈ t.recs → Ok W r) (hrow : W.ownsRow 0 40 1 v (T.LV t k).length (cellsP ((T.LV t k).map fun s => s.r.b))) :
    Calls Try.prog 30 #[v] W fun e W' => ∃ u, e = .returned u ∧ LevNext t d k u W' ∧ Below W.heap.size W W' := by
  have hlen := T.lv_len d t hw h1 h7 k hk
  have hlv := T.lv_ok d t hw h1 h7 k hk
  by_cases hkd : k < d
  · refine (allBelow_inner (T.LV t k) v W (Lies.own hrow) (fun s hs => ?_) (by omega)).mono ?_
    · obtain ⟨sw, s1, s7, _, sr⟩ := hlv s hs
      rw [show d - k = (d - (k + 1)) + 1 by omega] at sw
      obtain ⟨q, hq⟩ := Option.isSome_iff_exists.1 sw.1
      have hkl : s.r.kids.length = s.r.items.length + 1 := by rw [sw.2.1, List.length_map, sw.2.2.1]
      exact ⟨hok _ (sr _ s.r_mem), ⟨q, hq⟩, by omega, by omega⟩
    · rintro e W' ⟨u, he, hown, hB⟩
      have hkk : kidsOf (T.LV t k) = (T.LV t (k + 1)).map fun s => s.r.b := T.lv_kids d t hw h1 h7 k hkd
      rw [hkk, List.length_map] at hown
      have h0 := base_less (Nat.zero_le _) hown
      obtain ⟨ap, c, hu, _⟩ := lies_own h0
      subst hu
      exact ⟨_, he, .inl ⟨hkd, ap, c, rfl, h0⟩, hB⟩
  · obtain rfl : k = d := by omega
    refine (allBelow_leaf (T.LV t k) v W (Lies.own hrow) (fun s hs => ?_) (by omega)).mono ?_
    · obtain ⟨sw, s1, s7, _, sr⟩ := hlv s hs
      rw [Nat.sub_self] at sw
      exact ⟨hok _ (sr _ s.r_mem), sw.2.1⟩
    · rintro e W' ⟨he, hB⟩
      exact ⟨_, he, .inr ⟨rfl, rfl⟩, hB⟩

set_option maxRecDepth 100000 in
set_option maxHeartbeats 4000000 in
theorem levels_rows (n Bs : Nat) (t : T ByteArray) (d : Nat) (w : World) (hBs : Boxed w Bs 40 (.pointer (some ⟨t.r.b, 0, none⟩))) (hok : ∀ r, r ∈ t.recs → Ok w r) (hw : T.wf d t) (h1 : 1 ≤ t.r.items.length) (h7 : t.r.items.length ≤ 7) (hl : t.inord.length ≤ 1000) :
    SeqRows Fence.wide n Try.prog 29 #[.pointer (some ⟨Bs, 0, none⟩)] (LevE t) KeepT (d + 1) w := fun l J Jx W hW hKW aJ aJx hY h0 => by
  have hfn : ∀ f, Fence.wide.fn f := fun _ => trivial
  have hdd : ∀ k : Nat, (Fence.wide.depth.isSome = true → 1 ≤ k) := fun k h => by cases h
  have c0 : W.cell? ⟨Bs, 0, none⟩ = some (.pointer (some ⟨t.r.b, 0, none⟩)) := Boxed.cell ((hKW Bs _ _ _ hBs (.inr (.inr rfl))).trans hBs)
  have hok2 : ∀ r, r ∈ t.recs → Ok W r := fun r hr => hKW.ok (hok r hr)
  have HA := Lib.hid (fun k W1 W2 (hJ : J k W1) (hB : Below W1.heap.size W1 W2) => abides_below aJ hJ hB)
  have HY := Lib.hid hY
  have HOK := Lib.hid hok2
  have HJ := Lib.hid h0
  have HB := Lib.hid (fun k v W hk hok hrow => level_below t d k v W hw h1 h7 hl hk hok hrow)
  have LP := Lib.hid (T.lv_pos d t hw h1 h7)
  clear hY h0 hok hok2 hw hKW hW hBs aJ aJx h1 h7 hl
  refine callsIn_of_wp Try.func29 rfl trivial ?_ rfl
  simp only [Try.ntmps29, List.size_toArray, List.length_cons, List.length_nil, Nat.reduceAdd, Nat.reduceSub, Array.replicate_succ, Array.replicate_zero, List.push_toArray, List.append_toArray, List.nil_append, List.cons_append]
  gi_wp2
  have hs0 : Hid ((W.alloc (.cells #[.pointer (some ⟨t.r.b, 0, none⟩)] 40)).ownsRow 0 40 1 (.slice (some ⟨W.heap.size, 0, none⟩) 1 1) 1 (cellsP [t.r.b])) := one_row
  have hB0 : Below W.heap.size W (W.alloc (.cells #[.pointer (some ⟨t.r.b, 0, none⟩)] 40)) := (Below.refl _ W).alloc (Nat.le_refl _) _
  have hJ0 : Hid (J 0 (W.alloc (.cells #[.pointer (some ⟨t.r.b, 0, none⟩)] 40))) := HA.out 0 _ _ HJ.out hB0
  have hok0 : Hid (∀ r, r ∈ t.recs → Ok (W.alloc (.cells #[.pointer (some ⟨t.r.b, 0, none⟩)] 40)) r) := fun r hr => (HOK.out r hr).below hB0
  clear hB0 HJ HOK c0
  gi_loopg [3] (d + 1) (fun gk s wr => ∃ k : Nat, k + gk = d + 1 ∧ Hid (J k wr) ∧ Hid (∀ r, r ∈ t.recs → Ok wr r) ∧
    ((0 < gk ∧ ∃ (ap : Option Addr) (c : Nat), s = .slice ap (T.LV t k).length c ∧ Hid (wr.ownsRow 0 40 1 (.slice ap (T.LV t k).length c) (T.LV t k).length (cellsP ((T.LV t k).map fun s => s.r.b)))) ∨ (gk = 0 ∧ s = .slice none 0 0)))
  case atStart => exact ⟨0, by omega, hJ0, hok0, .inl ⟨by omega, _, _, rfl, hs0⟩⟩
  case round =>
    obtain ⟨k, hkg, hJ, hok, hcase⟩ := hrel
    clear hJ0 hok0 hs0
    rcases hcase with ⟨hg, ap, c, rfl, hrow⟩ | ⟨rfl, rfl⟩
    · have hpos := LP.out k (by omega)
      obtain ⟨fn, tmps, assign, body, hy, hR⟩ := HY.out k #[.slice ap (T.LV t k).length c] wr hJ.out (by omega) ⟨_, rfl, hrow.out⟩
      have hcA := fun W3 (h3 : KeepT wr W3) => HB.out k (.slice ap (T.LV t k).length c) W3 (by omega) (fun r hr => h3.ok (hok.out r hr)) (h3.row hrow.out)
      have HCA := Lib.hid hcA
      obtain ⟨nk, hn⟩ : ∃ nk, (T.LV t k).length = nk := ⟨_, rfl⟩
      rw [hn] at hpos hy
      simp only [hn] at HCA ⊢
      have HN := Lib.hid hn
      have HG := Lib.hid hg
      have HKG := Lib.hid hkg
      have hpi : (0 : Int) < (nk : Int) := by omega
      clear hcA hn hrow hJ hg hkg
      gi_wp2
      refine ⟨hdd _, ?_⟩
      refine hR.mono ?_
      rintro e W3 (⟨rfl, hJ3, hk3⟩ | ⟨rfl, hJx3⟩)
      · have HJ3 := Lib.hid hJ3
        have HK3 := Lib.hid hk3
        clear hJ3 hk3
        gi_wp2_with ((try refine ⟨hdd _, ?_⟩); gi_at_call 30; refine (callsIn_wide.2 (HCA.out _ HK3.out)).mono ?_; rintro e W4 ⟨u, rfl, hnx, hB4⟩)
        have hJ4 : Hid (J (k + 1) W4) := HA.out (k + 1) W3 W4 HJ3.out hB4
        have hok4 : Hid (∀ r, r ∈ t.recs → Ok W4 r) := fun r hr => (HK3.out.ok (hok.out r hr)).below hB4
        have HKG2 := HKG.out
        have HG2 := HG.out
        rcases hnx with ⟨hkd, ap', c', rfl, hrow'⟩ | ⟨rfl, rfl⟩
        · gi_roundg (gk - 1)
          case rel => exact ⟨k + 1, by omega, hJ4, hok4, .inl ⟨by omega, ap', c', rfl, hrow'⟩⟩
          case measure => omega
        · gi_roundg (gk - 1)
          case rel => exact ⟨k + 1, by omega, hJ4, hok4, .inr ⟨by omega, rfl⟩⟩
          case measure => omega
      · gi_wp2
        refine bodyPost_ret (results_none rfl _ _ _) rfl ?_
        exact ⟨⟨_, rfl⟩, .inr ⟨k, by have := HKG.out; have := HG.out; omega, hJx3⟩⟩
    · obtain rfl : k = d + 1 := by omega
      gi_wp2
      go_end0
      exact ⟨⟨_, rfl⟩, .inl hJ.out⟩
end Go.Proofs.Ytkhbfjncamobdaa.S

namespace Go.Proofs.Ytkhbfjncamobdaa.S
open Go.RowKit Go.Shelf
attribute [local go_sem] Oper.semAt_some
set_option linter.unusedVariables false

theorem wpListIn_make_full {F : Fence} {m : Nat} {P : Program} (w : World) {ops : Array Oper} {rest : List Oper} {o : Oper} {a : Act} {Q : Exit → Act → World → Prop}
    (hg : o.guard = none) (l c : Operand) (t : TypeId) (hop : o.op = Op.makeSlice t l c)
    (base : Nat) (e : TypeId) (i : TypeInfo) (z : Value) (size : Nat) (h1 : P.underlying t = some (.slice e)) (h2 : P.info? e = some i) (h3 : i.zero = some z) (h4 : i.size = size)
    (kl kc : IntKind) (L C : Int) (n : Nat) (hl : a.eval l = .int kl L) (hc : a.eval c = .int kc C) (hL : L = (n : Int)) (hC : C = (n : Int)) (b2 : i.bytes * n ≤ 281474976710656) (b3 : n ≤ maxLen) (b4 : base ≤ w.heap.size)
    (hK : ∀ w', w'.ownsRow base e size (.slice (some ⟨w.heap.size, 0, none⟩) n n) n (madeCells z.cells (n * size)).toList → w.grownBy w' none → wpListIn F m P ops Q rest (a.put o.dst (.slice (some ⟨w.heap.size, 0, none⟩) n n)) w') :
    wpListIn F m P ops Q (o :: rest) a w := by
  refine wpListIn_plain hg fun K hK' => ?_
  obtain ⟨w', hrun, r1, r2⟩ := run_make_full (P := P) w base t e i z size h1 h2 h3 h4 kl kc n b2 b3 b4
  subst hL
  subst hC
  refine ⟨by simp [Oper.about, hop], ?_⟩
  rw [Oper.semAt_plain F _ _ (by rw [hop]; intro c hc'; cases hc')]
  simp [execOp, hop, hl, hc, hrun, Result.andThen]
  exact hK' _ _ (hK w' r1 r2)

def countsOf (ts : List (T ByteArray)) : List Value := ts.map fun s => .int .i64 (s.r.items.length : Int)

theorem infoIntI : (Try.prog.info? 3).map (fun i => (i.zero, i.size, i.bytes)) = some (some (.int .i64 0), 1, 8) := by kernel_rfl
theorem infoRow : (Try.prog.info? 47).map (fun i => (i.zero, i.size, i.bytes)) = some (some (.slice none 0 0), 1, 24) := by kernel_rfl
/-- between two rounds of Shape -/
structure ShapeF (t : T ByteArray) (w W0 : World) (k : Nat) (W : World) : Prop where
  box : ∃ v rs, Boxed W w.heap.size 33 v ∧ W.ownsRow W0.heap.size 47 1 v k rs ∧ ∀ j, j < k → ∃ u, rs[j]? = some u ∧ W.ownsRow W0.heap.size 3 1 u (T.LV t j).length (countsOf (T.LV t j))
  below : Below w.heap.size w W
  size : W0.heap.size ≤ W.heap.size

theorem row_kept {A B : World} {row : Option Nat} {base base2 size n : Nat} {e : TypeId} {v : Value} {xs : List Value} (h : A.ownsRow base e size v n xs) (hg : A.grownBy B row) (hr : ∀ r, row = some r → base2 ≤ r ∧ ∃ o : Obj, A.heap[r]? = some o ∧ o.isCells = false) : B.ownsRow base e size v n xs := by
  refine h.kept hg ?_
  rcases h.2 with ⟨rfl, _⟩ | ⟨g, cap, cur, rfl, _, hgb, _⟩
  · exact .inl rfl
  · refine .inr fun e' => ?_
    obtain ⟨_, o, ho, hc⟩ := hr g (by simpa [Value.ownBlock] using e'.symm)
    rw [hgb] at ho; cases ho; cases hc
theorem shapeF_own {t : T ByteArray} {w W0 : World} (hz : w.heap.size ≤ W0.heap.size) : OwnFrom W0.heap.size (ShapeF t w W0) := fun k W W' row h hg hr => by
  obtain ⟨v, rs, hv, hrow, hrs⟩ := h.box
  exact ⟨⟨v, rs, kept_cells hv hg hr, row_kept hrow hg hr, fun j hj => by
    obtain ⟨u, hu, ho⟩ := hrs j hj
    exact ⟨u, hu, row_kept ho hg hr⟩⟩, h.below.grown hg h.below.size (fun r e => Nat.le_trans hz (hr r e).1), Nat.le_trans h.size hg.size⟩

theorem take_set_snoc (xs : List Value) (m : Nat) (u : Value) (h : m < xs.length) : (xs.set m u).take (m + 1) = xs.take m ++ [u] := by
  rw [List.take_add_one, List.getElem?_set_self h, List.take_set_of_le (Nat.le_refl _)]
  rfl
theorem row_only {S : Nat → Prop} {W W' : World} {base n size : Nat} {e : TypeId} {u : Value} {xs : List Value} (h : W.ownsRow base e size u n xs) (ho : Only S W W') (hS : ∀ b, S b → ∃ c t f, W.heap[b]? = some (.cells c t f) ∧ t ≠ e) : W'.ownsRow base e size u n xs := by
  refine ⟨h.1, h.2.imp id fun ⟨g, cap, cur, a, b, hg, rest⟩ => ⟨g, cap, cur, a, b, ?_, rest⟩⟩
  refine (ho.block g (Array.getElem?_eq_some_iff.1 hg).1 fun hs => ?_).trans hg
  obtain ⟨c, t, f, h1, h2⟩ := hS g hs
  rw [hg] at h1
  cases h1
  exact h2 rfl

/-- the rows of a shape -/
def ShapePost (t : T ByteArray) (d : Nat) (w : World) (e : Ending) (W : World) : Prop := ∃ v rs, e = .returned v ∧ W.ownsRow w.heap.size 47 1 v (d + 1) rs ∧ (∀ j, j < d + 1 → ∃ u, rs[j]? = some u ∧ W.ownsRow w.heap.size 3 1 u (T.LV t j).length (countsOf (T.LV t j))) ∧ Below w.heap.size w W

set_option maxRecDepth 100000 in
set_option maxHeartbeats 4000000 in
theorem shape_tree_in (pv : Option Addr) (t : T ByteArray) (d : Nat) (w : World) (hok : ∀ r, r ∈ t.recs → Ok w r) (hw : T.wf d t) (h1 : 1 ≤ t.r.items.length) (h7 : t.r.items.length ≤ 7) (hl : t.inord.length ≤ 1000)
    (cH : Calls Try.prog 17 #[.pointer pv] (w.alloc (.cells #[.slice none 0 0] 33)) fun e w' => e = .returned (.pointer (some ⟨t.r.b, 0, none⟩)) ∧ (w.alloc (.cells #[.slice none 0 0] 33)) = w') :
    CallsIn Fence.wide 9 Try.prog 9 #[.pointer pv] w (ShapePost t d w) := by
  have hfn : ∀ f, Fence.wide.fn f := fun _ => trivial
  refine callsIn_of_wp_marks Try.func9 rfl trivial ?_ rfl
  simp only [Try.ntmps9, List.size_toArray, List.length_cons, List.length_nil, Nat.reduceAdd, Nat.reduceSub, Array.replicate_succ, Array.replicate_zero, List.push_toArray, List.append_toArray, List.nil_append, List.cons_append]
  gi_wp2_with (first | (gi_at_call 17; refine (callsIn_wide.2 cH).mono ?_; rintro e w' ⟨rfl, rfl⟩) | (gi_at_call 18; refine (levels_in _ _).mono ?_; rintro e w' ⟨rfl, rfl⟩))
  obtain ⟨W0, hW0⟩ : ∃ W0, ((w.alloc (.cells #[.slice none 0 0] 33)).alloc (.cells #[.pointer (some ⟨t.r.b, 0, none⟩)] 40)) = W0 := ⟨_, rfl⟩
  have hs0 : W0.heap.size = w.heap.size + 2 := by rw [← hW0]; simp
  have hBW : Below w.heap.size w W0 := by
    rw [← hW0]
    exact ((Below.refl _ w).alloc (Nat.le_refl _) _).alloc (by simp) _
  have ht0 : Boxed W0 w.heap.size 33 (.slice none 0 0) := by rw [← hW0]; exact (Boxed.new _ _ _).alloc _
  have hn0 : Boxed W0 (w.heap.size + 1) 40 (.pointer (some ⟨t.r.b, 0, none⟩)) := by
    rw [← hW0]
    have := Boxed.new (w.alloc (.cells #[.slice none 0 0] 33)) 40 (.pointer (some ⟨t.r.b, 0, none⟩))
    rw [World.size_alloc] at this
    exact this
  have HS0 := Lib.hid hs0
  have hs0a : w.heap.size + 2 ≤ W0.heap.size := by omega
  have hst := levels_rows 8 (w.heap.size + 1) t d W0 hn0 (fun r hr => (hok r hr).below hBW) hw h1 h7 hl
  clear hs0
  have hI0 : ShapeF t w W0 0 W0 := ⟨⟨_, [], ht0, World.ownsRow_nil _ _ _ _, fun j hj => by omega⟩, hBW, Nat.le_refl _⟩
  have LL := Lib.hid (T.lv_len d t hw h1 h7)
  have LOK := Lib.hid (T.lv_ok d t hw h1 h7)
  have HOK := Lib.hid hok
  have hd0 := T.height_le d t hw h1
  clear hok hw h1 h7
  rw [hW0]
  refine wpIn_rangeFunc_rows rfl (by decide) (gf := 29) (lb := #[.pointer (some ⟨w.heap.size + 1, 0, none⟩)]) rfl trivial (enters_of Try.func29 (by kernel_rfl) rfl)
    hst KeepT.trans (fun W l o o' hl ho hc _ b c t f hb ht => World.putObj_heap_other (fun e => by subst e; rw [ho] at hb; cases hb; cases hc)) (Below.refl _ _) (fun Wl h => KeepT.of_below h) (fun k args W h => by obtain ⟨v, rfl, _⟩ := h; rfl)
    (ShapeF t w W0) (fun _ _ _ => False) (shapeF_own (by omega)) (fun c k W W' row h hg hr => h) hI0
    (fun k a' W => ∃ v, W.ownsRow 0 40 1 v (T.LV t k).length (cellsP ((T.LV t k).map fun s => s.r.b)) ∧ a' = { tmps := #[.pointer pv, undef, .slice none 0 0, .pointer (some ⟨w.heap.size, 0, none⟩), v, undef, undef, undef, .pointer pv, .pointer (some ⟨t.r.b, 0, none⟩), .func (.func 29) #[] #[.pointer (some ⟨w.heap.size + 1, 0, none⟩)], v, undef, undef, undef, undef, undef, undef, undef, undef, undef, undef, undef, undef, undef, undef, undef, undef, undef, undef, undef, undef, undef, undef, undef, undef], defers := [] })
    (fun k a' _ W W' row h hg hr => by obtain ⟨v, h1, h2⟩ := h; exact ⟨v, row_kept h1 hg hr, h2⟩) ?assign ?body ?done ?stop
  case assign =>
    intro l k args W Q hI hk hE hQ
    obtain ⟨v, rfl, hv⟩ := hE
    clear hst
    gi_wp2
    exact hQ _ W (KeepsFrom.refl _ _) (KeepT.refl _) hI ⟨v, hv, rfl⟩
  case body =>
    rintro l k a' W hl' hrec hI ⟨v, hv, rfl⟩ hk
    obtain ⟨nk, hnk⟩ : ∃ nk, (T.LV t k).length = nk := ⟨_, rfl⟩
    have hn1 : nk ≤ 1000 := by have := LL.out k (by omega); omega
    rw [hnk] at hv
    obtain ⟨ap, c, rfl, hlies, hnc, hcm⟩ := lies_own hv
    have HI := Lib.hid hI
    have HV := Lib.hid hv
    have hsz := hI.size
    have HNK := Lib.hid hnk
    obtain ⟨i0, hi, hz0, hz1, hz2⟩ := info_parts infoIntI
    clear hI hst hv hnk
    gi_wp2_with (gi_at_make; refine wpListIn_make_full _ rfl _ _ 47 rfl W0.heap.size 3 i0 (.int .i64 0) 1 Try.underlying47 hi hz0 hz1 .i64 .i64 nk nk nk rfl rfl rfl rfl (by rw [hz2]; omega) (by unfold maxLen; omega) hsz ?_; intro w1 hown1 hg1)
    have hB1 : Below W.heap.size W w1 := ⟨hg1.os, hg1.tape, hg1.output, hg1.size, fun b hb => hg1.block b hb (by intro h; cases h)⟩
    have HO1 := Lib.hid hown1
    clear hown1 hg1
    gi_loopw [17] (fun i wr => ∃ (m : Nat) (xs : List Value), m ≤ nk ∧ i = .int .i64 m ∧ Hid (wr.ownsRow W0.heap.size 3 1 (.slice (some ⟨W.heap.size, 0, none⟩) nk nk) nk xs) ∧ Hid (xs.take m = countsOf ((T.LV t k).take m)) ∧ Below W.heap.size W wr) (fun i _ => nk - (intOf i).toNat)
    case atStart => exact ⟨0, _, Nat.zero_le _, rfl, HO1, rfl, hB1⟩
    case round =>
      obtain ⟨m, xs, hm, rfl, hown, htk, hB⟩ := hrel
      clear HO1 hB1
      by_cases hlt : m < nk
      · obtain ⟨s, hs⟩ : ∃ s, (T.LV t k)[m]? = some s := ⟨(T.LV t k)[m]'(by rw [HNK.out]; exact hlt), by simp⟩
        obtain ⟨b, off, rfl, hc⟩ := (hlies.out.below hB).read (j := m) (u := .pointer (some ⟨s.r.b, 0, none⟩)) (by unfold cellsP; rw [List.getElem?_map, List.getElem?_map, hs]; rfl)
        have hoks : Ok wr s.r := ((HOK.out _ ((LOK.out k (by omega) s (List.mem_of_getElem? hs)).2.2.2.2 _ s.r_mem)).below HI.out.below).below hB
        have n0 := hoks.c0
        unfold Rec.iv at n0
        obtain ⟨u0, hu0⟩ : ∃ u0, xs[m]? = some u0 := ⟨_, List.getElem?_eq_getElem (by rw [hown.out.1]; omega)⟩
        have d0 := (hown.out.cellAt m (by omega)).trans hu0
        have f0 := hown.out.frozenAt m
        have hi7 : s.r.items.length ≤ 7 := (LOK.out k (by omega) s (List.mem_of_getElem? hs)).2.2.1
        have HS := Lib.hid hs
        clear hoks hu0 hs
        gi_wp2
        refine ⟨⟨m + 1, xs.set m (.int .i64 (s.r.items.length : Int)), by omega, by go_num, (hown.out.stored m _).1, ?_, hB.setCell (Nat.le_refl _) _⟩, by simp [intOf]; omega⟩
        unfold Hid
        rw [take_set_snoc xs m _ (by rw [hown.out.1]; omega), htk.out, List.take_add_one, HS.out]
        simp [countsOf]
      · obtain rfl : m = nk := by omega
        have hxs : xs = countsOf (T.LV t k) := by
          have h := htk.out
          rw [List.take_of_length_le (by rw [hown.out.1]; omega), List.take_of_length_le (by rw [HNK.out]; exact Nat.le_refl _)] at h
          exact h
        have HXS := Lib.hid hxs
        obtain ⟨v0, rs, hv0, hrow0, hrs0⟩ := HI.out.box
        have hgB : W.grownBy wr none := ⟨hB.os, hB.tape, hB.output, hB.size, fun b hb _ => hB.block b hb⟩
        have hvW : Boxed wr w.heap.size 33 v0 := (hB.block _ (Array.getElem?_eq_some_iff.1 hv0).1).trans hv0
        have hrow : wr.ownsRow W0.heap.size 47 1 v0 k rs := row_kept (base2 := 0) hrow0 hgB (fun r e => by cases e)
        have hsW : W0.heap.size ≤ wr.heap.size := Nat.le_trans hsz hB.size
        have cv := hvW.cell
        have fv := hvW.frozen
        obtain ⟨i1, hi', hy0, hy1, hy2⟩ := info_parts infoRow
        have HRS0 := Lib.hid hrs0
        have HROW0 := Lib.hid hrow0
        have HV0 := Lib.hid hv0
        have HDD := Lib.hid hd0
        have hk1000 : k ≤ 1000 := by omega
        clear hrs0 hrow0 hv0 hxs htk hgB hd0
        gi_wp2_with (gi_at_builtin; refine wpListIn_append_own _ rfl _ _ 33 rfl W0.heap.size 47 i1 (.slice none 0 0) 1 24 Try.underlying33 hi' hy0 hy1 hy2 rfl (by decide) v0 k rs rfl (hrow.alloc _) ⟨wr.heap.size, 0, none⟩ 1 1 [.slice (some ⟨W.heap.size, 0, none⟩) m m] rfl rfl (cell_one_new _ _ _) (by simp [Value.oneCell']) (by unfold maxLen; omega) (by omega) (by simp; omega) ?_; intro v' w3 hown' hgrow _; obtain ⟨g', cap', rfl⟩ := ownsRow_succ hown'; have hv1 := (hvW.alloc _).kept hgrow (hvW.not_row (by decide) hrow); have hc1 := hv1.cell; have hf1 := hv1.frozen)
        have honr : Only (fun b => v0.ownBlock = some b ∨ b = w.heap.size) wr (w3.setCell ⟨w.heap.size, 0, none⟩ (.slice (some ⟨g', 0, none⟩) (k + 1) cap')) :=
          Only.setCell (p := ⟨w.heap.size, 0, none⟩) (((Only.refl _ wr).alloc (.cells #[.slice (some ⟨W.heap.size, 0, none⟩) m m] 47)).grown hgrow (fun r e => .inr (.inl e))) (.inr (.inr rfl)) _
        have hon : Only (fun b => v0.ownBlock = some b ∨ b = w.heap.size) W (w3.setCell ⟨w.heap.size, 0, none⟩ (.slice (some ⟨g', 0, none⟩) (k + 1) cap')) := (Only.of_below hB).trans honr
        have hSt : ∀ b, (v0.ownBlock = some b ∨ b = w.heap.size) → ∃ c t f, W.heap[b]? = some (.cells c t f) ∧ (t = 47 ∨ t = 33) := fun b hb => by
          rcases hb with hb | rfl
          · rcases HROW0.out.2 with ⟨rfl, _⟩ | ⟨g, cap, cur, rfl, _, hgb2, _⟩
            · simp [Value.ownBlock] at hb
            · obtain rfl : g = b := by simpa [Value.ownBlock] using hb
              exact ⟨_, _, _, hgb2, .inl rfl⟩
          · exact ⟨_, _, _, HV0.out, .inr rfl⟩
        have hSt2 : ∀ b, (v0.ownBlock = some b ∨ b = w.heap.size) → ∃ c t f, wr.heap[b]? = some (.cells c t f) ∧ t ≠ 3 := fun b hb => by
          obtain ⟨c, t, f, h1, h2⟩ := hSt b hb
          exact ⟨c, t, f, (hB.block b (Array.getElem?_eq_some_iff.1 h1).1).trans h1, by rcases h2 with rfl | rfl <;> decide⟩
        have hSt3 : ∀ b, (v0.ownBlock = some b ∨ b = w.heap.size) → ∃ c t f, W.heap[b]? = some (.cells c t f) ∧ t ≠ 3 := fun b hb => by
          obtain ⟨c, t, f, h1, h2⟩ := hSt b hb
          exact ⟨c, t, f, h1, by rcases h2 with rfl | rfl <;> decide⟩
        have hlt3 : ∀ b, v0.ownBlock = some b → W0.heap.size ≤ b := fun b hb => (HROW0.out.lt b hb).1
        have hrl : rs.length = k := by have := HROW0.out.1; omega
        have hgb := hown'.lt g' rfl
        refine ⟨keeps_of_only _ hon fun b hb => ?_, fun b c t f hb ht => ?_, ⟨⟨_, _, hv1.set _, own_kept hown' (set_far w3 w.heap.size 0 g' _ (by omega)), fun j hj => ?_⟩, ?_, Nat.le_trans hsz hon.size⟩⟩
        · obtain ⟨c, t, f, h1, _⟩ := hSt b hb
          exact ⟨c, t, f, h1⟩
        · refine hon.block b (Array.getElem?_eq_some_iff.1 hb).1 fun hh => ?_
          obtain ⟨c2, t2, f2, h1, h2⟩ := hSt b hh
          rw [hb] at h1
          cases h1
          rcases ht with rfl | rfl | rfl <;> rcases h2 with h2 | h2 <;> cases h2
        · rcases Nat.lt_or_ge j k with hjk | hjk
          · obtain ⟨u, hu, ho⟩ := HRS0.out j hjk
            exact ⟨u, by rw [List.getElem?_append_left (by omega)]; exact hu, row_only ho hon hSt3⟩
          · obtain rfl : j = k := by omega
            refine ⟨_, by rw [List.getElem?_append_right (by omega), hrl, Nat.sub_self]; rfl, ?_⟩
            rw [HNK.out, ← HXS.out]
            exact row_only hown.out honr hSt2
        · exact HI.out.below.trans (hon.below (n := w.heap.size) (by omega) (fun b hb => by
            rcases hb with hb | rfl
            · have := hlt3 b hb; omega
            · omega))
  case stop => intro D c k W hD hk hX hKD; exact hX.elim
  case done =>
    rintro D W hD hI hKD
    obtain ⟨v, rs, hv, hrow, hrs⟩ := hI.box
    have c0 := hv.cell
    have f0 := hv.frozen
    have HI := Lib.hid hI
    have HR := Lib.hid hrow
    have HRS := Lib.hid hrs
    clear hI hst hrow hrs
    gi_wp2
    refine ⟨by simp, .inl ⟨_, _, rfl, run_takeDeferred hKD, ?_⟩⟩
    refine ⟨_, results_tmp rfl _ _ _, v, rs, rfl, ?_, ?_, HI.out.below.trans (belowK_b (w := w) (Nat.le_refl _) W D _ _ (by have := HS0.out; omega) hKD rfl rfl)⟩
    · exact base_less (by omega) (ownsRow_putObj HR.out (.deferred none) hKD rfl)
    · intro j hj
      obtain ⟨u, hu, ho⟩ := HRS.out j hj
      exact ⟨u, hu, base_less (by omega) (ownsRow_putObj ho (.deferred none) hKD rfl)⟩
end Go.Proofs.Ytkhbfjncamobdaa.S

namespace Go.Proofs.Ytkhbfjncamobdaa.S
open Go.RowKit Go.Shelf
set_option linter.unusedVariables false

def lvCounts (t : T ByteArray) (j : Nat) : List Nat := (T.LV t j).map fun s => s.r.items.length
def shapeOf (t : T ByteArray) (d : Nat) : List (List Nat) := (List.range (d + 1)).map (lvCounts t)
theorem shapeOf_at {t : T ByteArray} {d j : Nat} {c : List Nat} (h : (shapeOf t d)[j]? = some c) : j ≤ d ∧ c = lvCounts t j := by
  unfold shapeOf at h
  rw [List.getElem?_map] at h
  have hj : j < d + 1 := by
    rcases Nat.lt_or_ge j (d + 1) with h1 | h1
    · exact h1
    · rw [List.getElem?_eq_none (by simpa using h1)] at h
      cases h
  rw [List.getElem?_range hj] at h
  exact ⟨by omega, (Option.some.inj h).symm⟩
theorem lv_step (t : T ByteArray) (k : Nat) : ((T.LV t k).map fun s => s.inord.length).sum = (lvCounts t k).sum + ((T.LV t (k + 1)).map fun s => s.inord.length).sum := by
  unfold lvCounts
  show _ = _ + (((T.LV t k).flatMap T.ks).map fun s => s.inord.length).sum
  generalize T.LV t k = l
  induction l with
  | nil => rfl
  | cons s l ih =>
    rw [List.flatMap_cons, List.map_append, List.sum_append, List.map_cons, List.map_cons, List.sum_cons, List.sum_cons, ih, T.inord_length s]
    omega
theorem lv_total (t : T ByteArray) (k : Nat) : ((List.range k).map fun j => (lvCounts t j).sum).sum + ((T.LV t k).map fun s => s.inord.length).sum = t.inord.length := by
  induction k with
  | zero => simp [T.LV]
  | succ k ih =>
    rw [List.range_succ, List.map_append, List.sum_append]
    have := lv_step t k
    simp only [List.map_cons, List.map_nil, List.sum_cons, List.sum_nil]
    omega
theorem lv_end (d : Nat) (t : T ByteArray) (hw : T.wf d t) (h1 : 1 ≤ t.r.items.length) (h7 : t.r.items.length ≤ 7) : T.LV t (d + 1) = [] := by
  show (T.LV t d).flatMap T.ks = []
  refine List.flatMap_eq_nil_iff.2 fun s hs => ?_
  have := (T.lv_ok d t hw h1 h7 d (Nat.le_refl _) s hs).1
  rw [Nat.sub_self] at this
  exact this.1
theorem lv_next (d : Nat) (t : T ByteArray) (hw : T.wf d t) (h1 : 1 ≤ t.r.items.length) (h7 : t.r.items.length ≤ 7) (k : Nat) (hk : k < d) : (lvCounts t (k + 1)).length = ((lvCounts t k).map fun x => x + 1).sum := by
  unfold lvCounts
  rw [List.length_map]
  have h : ∀ l : List (T ByteArray), (∀ s, s ∈ l → s.ks.length = s.r.items.length + 1) → (l.flatMap T.ks).length = ((l.map fun s => s.r.items.length).map fun x => x + 1).sum := by
    intro l
    induction l with
    | nil => intro _; rfl
    | cons s l ih =>
      intro h
      rw [List.flatMap_cons, List.length_append, ih fun s hs => h s (by simp [hs]), h s (by simp)]
      simp
  refine h _ fun s hs => ?_
  have := (T.lv_ok d t hw h1 h7 k (by omega) s hs).1
  rw [show d - k = (d - (k + 1)) + 1 by omega] at this
  exact this.2.2.1
theorem shape_ok (d : Nat) (t : T ByteArray) (hw : T.wf d t) (h1 : 1 ≤ t.r.items.length) (h7 : t.r.items.length ≤ 7) : ShapeOk (shapeOf t d) t.inord.length := by
  refine ⟨fun c hc => ?_, fun j c c' hc hc' => ?_, fun j c x hc hx => ?_, ?_, fun _ => ?_⟩
  · rw [(shapeOf_at hc).2]; rfl
  · rw [(shapeOf_at hc).2, (shapeOf_at hc').2]
    exact lv_next d t hw h1 h7 j (by have := (shapeOf_at hc').1; omega)
  · rw [(shapeOf_at hc).2] at hx
    obtain ⟨s, hs, rfl⟩ := List.mem_map.1 hx
    obtain ⟨_, a, b, e, _⟩ := T.lv_ok d t hw h1 h7 j (shapeOf_at hc).1 s hs
    exact ⟨a, b, e⟩
  · have := lv_total t (d + 1)
    rw [lv_end d t hw h1 h7] at this
    unfold shapeOf
    rw [List.map_map]
    simpa [Function.comp_def] using this
  · rw [T.inord_length]; omega

theorem shape_on (xs : List It) (N a : Nat) (W : World) (h : BagOn W N a xs) (hl : xs.length ≤ 1000) :
    Calls Try.prog 9 #[.pointer (some ⟨a, 0, none⟩)] W fun e w' => ∃ (v : Value) (cs : List (List Nat)), e = .returned v ∧ RowsOf w' v cs ∧ ShapeOk cs xs.length ∧ BagOn w' N a xs ∧ Below W.heap.size W w' := by
  rcases h.bag.tree with ⟨hb, rfl⟩ | ⟨t, d, hb, hm, hw, h1, h7, hx, hF⟩
  · refine (shape_empty N a W h).mono ?_
    rintro e w' ⟨rfl, hB⟩
    refine ⟨_, [], rfl, ⟨[], ⟨none, 0, rfl, Nat.le_refl _, ⟨Nat.zero_le _, fun _ => rfl⟩, rfl, fun hp => absurd hp (by simp)⟩, fun j c hc => by simp at hc⟩, ⟨fun c hc => by simp at hc, fun j c c' hc => by simp at hc, fun j c x hc => by simp at hc, rfl, fun he => absurd rfl he⟩, h.below hB, hB⟩
  · subst hx
    have hB : Below W.heap.size W (W.alloc (.cells #[.slice none 0 0] 33)) := (Below.refl _ W).alloc (Nat.le_refl _) _
    refine (callsIn_wide.1 (shape_tree_in (some ⟨a, 0, none⟩) t d W hm.ok hw h1 h7 hl (highest_some a (some t.r.b) t.inord.length _ ((hB.block a h.bag.lt).trans hb)))).mono ?_
    rintro e w' ⟨v, rs, he, hrow, hrs, hB2⟩
    have hlen : (shapeOf t d).length = d + 1 := by simp [shapeOf]
    refine ⟨v, shapeOf t d, he, ⟨rs, by rw [hlen]; exact Lies.own hrow, fun j c hc => ?_⟩, shape_ok d t hw h1 h7, h.below hB2, hB2⟩
    obtain ⟨hj, rfl⟩ := shapeOf_at hc
    obtain ⟨u, hu, ho⟩ := hrs j (by omega)
    obtain ⟨ap, cap, rfl, hL, _⟩ := lies_own ho
    have hll : (lvCounts t j).length = (T.LV t j).length := by simp [lvCounts]
    refine ⟨ap, cap, by rw [hll]; exact hu, ?_⟩
    rw [hll]
    have : cntL (lvCounts t j) = countsOf (T.LV t j) := by simp [cntL, lvCounts, countsOf]
    rw [this]
    exact hL
end Go.Proofs.Ytkhbfjncamobdaa.S
