/- A text is parted at its first '/'; the iterator of the program's package path hands out the pieces, one behind the other. -/
import Derived.RangeFuncBound
import Derived.RangeFuncCalls
import Derived.RangeFuncLeaves
import Derived.OwnWalkIn
import Derived.TacticsInMore
import Derived.LoopNIn
import Derived.LoopIn
import Derived.Deep.RegionHeld3
import Derived.Lib.IndexLaws
import Derived.Test.YtgmpfkhcohlijaaBagSeq
import Derived.Test.YtgmpfkhcohlijaaPathPcs
import Derived.Test.YtgmpfkhcohlijaaShelf
namespace Go.Proofs.Ytgmpfkhcohlijaa.Pth
open Go.RowKit Nam
attribute [local go_sem] Oper.semAt_some
set_option linter.unusedVariables false
set_option linter.unusedSimpArgs false
def cutI (s : ByteArray) : Int := Lib.indexByte s.data.toList 47
def cutA (s : ByteArray) : ByteArray := if cutI s = -1 then s else s.extract 0 (cutI s).toNat
def cutT (s : ByteArray) : ByteArray := if cutI s = -1 then ⟨#[]⟩ else s.extract ((cutI s).toNat + 1) s.size
def cutM (s : ByteArray) : Bool := decide (¬ cutI s = -1)
theorem cut_no {s : ByteArray} (h : cutI s = -1) : pcs s = [s] := by
  unfold pcs
  rw [cut_last fun c hc e => ?_, List.map_cons, List.map_nil, toB_data]
  obtain ⟨i, hi, he⟩ := List.getElem_of_mem hc
  exact Lib.indexByte_none h i (by rw [List.getElem?_eq_getElem hi, he, e])
theorem cut_yes {s : ByteArray} {k : Nat} (h : cutI s = (k : Int)) : k < s.size ∧ pcs s = s.extract 0 k :: pcs (s.extract (k + 1) s.size) := by
  obtain ⟨h1, h2⟩ := Lib.indexByte_some h
  have hl := (List.getElem?_eq_some_iff.1 h1).1
  rw [size_list] at hl
  have h7 : sb s k = 47 := by unfold sb; rw [h1]; rfl
  have hf : free s 0 k := fun j _ hj e => by
    have hjl : j < s.data.toList.length := by rw [size_list]; omega
    refine h2 j hj ?_
    unfold sb at e
    rw [List.getElem?_eq_getElem hjl] at e ⊢
    exact congrArg some (UInt8.toNat_inj.1 e)
  refine ⟨hl, ?_⟩
  rw [← pcsF_zero, pcs_here (Nat.zero_le _) hl hf h7]
  congr 1
  unfold pcsF pcs
  rw [extract_list, List.take_of_length_le (by rw [List.length_drop, size_list]; exact Nat.le_refl _)]
theorem cutI_nat {s : ByteArray} (h : ¬ cutI s = -1) : ∃ k : Nat, cutI s = (k : Int) := by
  have := Lib.indexByte_ge s.data.toList 47
  have h2 : (0 : Int) ≤ cutI s := by unfold cutI at h ⊢; omega
  exact ⟨(cutI s).toNat, by omega⟩
/-- the first piece, and what is behind it -/
theorem cut_pcs (s : ByteArray) : (cutM s = true ∧ pcs s = cutA s :: pcs (cutT s) ∧ (cutT s).size < s.size ∧ (cutA s).size ≤ s.size) ∨ (cutM s = false ∧ pcs s = [cutA s] ∧ cutA s = s ∧ cutT s = ⟨#[]⟩) := by
  by_cases h : cutI s = -1
  · right
    have hA : cutA s = s := if_pos h
    exact ⟨decide_eq_false (fun e => e h), by rw [cut_no h, hA], hA, if_pos h⟩
  · left
    obtain ⟨k, hk⟩ := cutI_nat h
    obtain ⟨h1, h2⟩ := cut_yes hk
    have hA : cutA s = s.extract 0 k := by unfold cutA; rw [if_neg h, hk]; rfl
    have hT : cutT s = s.extract (k + 1) s.size := by unfold cutT; rw [if_neg h, hk]; rfl
    refine ⟨decide_eq_true h, by rw [hA, hT]; exact h2, ?_, ?_⟩
    · rw [hT, ByteArray.size_extract]; omega
    · rw [hA, ByteArray.size_extract]; omega
section
set_option maxRecDepth 100000
set_option maxHeartbeats 4000000
theorem cut2_any (s : ByteArray) (w : World) (hs : s.size ≤ 281474976710656) : Calls Try.prog 35 #[.string s, .string ⟨#[47]⟩] w (Ans w (.tuple #[.string (cutA s), .string (cutT s), .bool (cutM s)])) := by
  have hI := fun W => Shf.Try.stringslite_Index_one s 47 W
  by_cases h : cutI s = -1
  · have h9 : Lib.indexByte s.data.toList 47 = -1 := h
    have HF : Hid (∀ W, Below w.heap.size w W → Ans w (.tuple #[.string (cutA s), .string (cutT s), .bool (cutM s)]) (.returned (.tuple #[.string s, .string ⟨#[]⟩, .bool false])) W) := fun W hB => by
      refine ⟨?_, hB⟩
      rw [show cutA s = s from if_pos h, show cutT s = ⟨#[]⟩ from if_pos h, show cutM s = false from decide_eq_false (fun e => e h)]
    rw [h9] at hI
    clear h h9 hs
    go_enter Try.func35, Try.ntmps35
    go_wp2_with (go_at_call 39; (with_reducible refine Calls.mono (hI _) ?_); rintro e w1 ⟨rfl, hw⟩; subst hw)
    go_returns
    exact HF.out _ (Below.refl _ _)
  · obtain ⟨k, hk⟩ := cutI_nat h
    have h9 : Lib.indexByte s.data.toList 47 = (k : Int) := hk
    have hlt := (cut_yes hk).1
    have HF : Hid (∀ W, Below w.heap.size w W → Ans w (.tuple #[.string (cutA s), .string (cutT s), .bool (cutM s)]) (.returned (.tuple #[.string (s.extract 0 k), .string (s.extract (k + 1) s.size), .bool true])) W) := fun W hB => by
      refine ⟨?_, hB⟩
      rw [show cutA s = s.extract 0 k from by unfold cutA; rw [if_neg h, hk]; rfl, show cutT s = s.extract (k + 1) s.size from by unfold cutT; rw [if_neg h, hk]; rfl, show cutM s = true from decide_eq_true h]
    rw [h9] at hI
    have g0 : (0 : Int) ≤ (k : Int) := by omega
    clear h h9 hk
    go_enter Try.func35, Try.ntmps35
    go_wp2_with (go_at_call 39; (with_reducible refine Calls.mono (hI _) ?_); rintro e w1 ⟨rfl, hw⟩; subst hw)
    go_region
    all_goals
      go_wp2
      go_returns
      exact HF.out _ (Below.refl _ _).drew
theorem cut_any (s : ByteArray) (w : World) (hs : s.size ≤ 281474976710656) : Calls Try.prog 29 #[.string s, .string ⟨#[47]⟩] w (Ans w (.tuple #[.string (cutA s), .string (cutT s), .bool (cutM s)])) := by
  have h := Lib.hid (fun W => cut2_any s W hs)
  generalize cutA s = a at h ⊢
  generalize cutT s = b at h ⊢
  generalize cutM s = m at h ⊢
  clear hs
  go_enter Try.func29, Try.ntmps29
  go_wp2_with (go_at_call 35; (with_reducible refine Calls.mono (h.out _) ?_); rintro e w1 ⟨rfl, hB⟩)
  go_returns
  exact ⟨rfl, hB⟩
theorem grown_of_below {W W' : World} (h : Below W.heap.size W W') : W.grownBy W' none := ⟨h.1, h.2, h.3, h.4, fun k hk _ => h.5 k hk⟩
def encP (P : List ByteArray) (k : Nat) : Array Value := #[.string (P.getD k ⟨#[]⟩)]
theorem drop_head {P R : List ByteArray} {x : ByteArray} {k : Nat} (h : P.drop k = x :: R) : k < P.length ∧ P.getD k ⟨#[]⟩ = x ∧ P.drop (k + 1) = R := by
  have hk : k < P.length := by
    rcases Nat.lt_or_ge k P.length with h1 | h1
    · exact h1
    · rw [List.drop_eq_nil_of_le h1] at h; cases h
  have h2 := List.drop_eq_getElem_cons hk
  rw [h] at h2
  injection h2 with h3 h4
  exact ⟨hk, by rw [List.getD_eq_getElem?_getD, List.getElem?_eq_getElem hk]; exact h3.symm, h4.symm⟩
/-- how much is left to do -/
def leftP (r m : Value) : Nat := match m, r with
  | .bool true, .string t => t.size + 1
  | _, _ => 0
theorem pieces1_in (n : Nat) (hn : 1 ≤ n) (l Bs : Nat) (s : ByteArray) (P : List ByteArray) (hP : pcs s = P) (hs : s.size ≤ 281474976710656) (J Jx : Nat → World → Prop) (B0 : Nat) (hJ : AbidesFrom B0 J)
    (hY : ∀ k W, J k W → k < P.length → YieldAt Fence.wide (n - 1) Try.prog l (encP P k) W fun e W' => (e = .returned (.bool true) ∧ J (k + 1) W' ∧ True) ∨ (e = .returned (.bool false) ∧ Jx k W'))
    (W : World) (hS : W.cell? ⟨Bs, 0, none⟩ = some (.string s)) (h0 : J 0 W) :
    CallsIn Fence.wide n Try.prog 28 #[.func (.yield l) #[] #[], .pointer (some ⟨Bs, 0, none⟩)] W fun e W' => (∃ v, e = .returned v) ∧ (J P.length W' ∨ ∃ k, k < P.length ∧ Jx k W') := by
  have hfn : ∀ f, Fence.wide.fn f := fun _ => trivial
  have hJa : ∀ k W1 W2, J k W1 → Below W1.heap.size W1 W2 → J k W2 := fun k W1 W2 h hB => hJ _ _ _ none h (grown_of_below hB) (fun r e => by cases e)
  have HA := Lib.hid hJa
  have HY := Lib.hid hY
  have HP : Hid (pcs s = P.drop 0) := by rw [List.drop_zero]; exact hP
  clear hJa hY hJ hP
  refine callsIn_of_wp Try.func28 rfl trivial ?_ rfl
  simp only [Try.ntmps28, List.size_toArray, List.length_cons, List.length_nil, Nat.reduceAdd, Nat.reduceSub, Array.replicate_succ, Array.replicate_zero, List.push_toArray, List.append_toArray, List.nil_append, List.cons_append]
  gi_wp2
  gi_loopw [3, 4, 5] (fun r m _ wr => ∃ (k : Nat) (t : ByteArray), r = .string t ∧ t.size ≤ s.size ∧ ((m = .bool true ∧ Hid (pcs t = P.drop k)) ∨ (m = .bool false ∧ k = P.length)) ∧ J k wr) (fun r m _ _ => leftP r m)
  case atStart => exact ⟨0, s, rfl, Nat.le_refl _, .inl ⟨rfl, HP⟩, h0⟩
  case round =>
    obtain ⟨k, t, rfl, htz, hm, hJk⟩ := hrel
    rcases hm with ⟨rfl, HD⟩ | ⟨rfl, rfl⟩
    · have hC := Lib.hid (fun W => cut_any t W (by omega))
      have hD := HD.out
      rcases cut_pcs t with ⟨c1, c2, c3, c4⟩ | ⟨c1, c2, c3, c4⟩
      · rw [c2] at hD
        obtain ⟨d1, d2, d3⟩ := drop_head hD.symm
        have hYk := fun W h => HY.out k W h d1
        unfold encP at hYk
        rw [d2] at hYk
        rw [c1] at hC
        have HD2 := Lib.hid d3.symm
        obtain ⟨a, ha⟩ : ∃ a, cutA t = a := ⟨_, rfl⟩
        obtain ⟨b, hb⟩ : ∃ b, cutT t = b := ⟨_, rfl⟩
        rw [hb] at c3
        simp only [ha, hb] at hC hYk HD2
        have HYK := Lib.hid hYk
        have HJK := Lib.hid (fun W2 hB => HA.out k wr W2 hJk hB)
        clear hD c1 c2 c4 d2 d3 hYk ha hb
        gi_wp2_with (gi_at_call 29; refine (callsIn_wide.2 (hC.out _)).mono ?_; rintro e w1 ⟨rfl, hB1⟩; obtain ⟨fn, tmps, assign, body, hy, hR⟩ := HYK.out _ (HJK.out _ hB1))
        refine hR.mono ?_
        rintro e W3 (⟨rfl, hJ3, _⟩ | ⟨rfl, hJx3⟩)
        · gi_wp2
          go_roundw
          case rel => exact ⟨k + 1, b, rfl, by omega, .inl ⟨rfl, HD2⟩, hJ3⟩
          case measure => simp [leftP]; omega
        · gi_wp2
          refine bodyPost_ret (results_none rfl _ _ _) rfl ?_
          exact ⟨⟨_, rfl⟩, .inr ⟨k, d1, hJx3⟩⟩
      · rw [c2] at hD
        obtain ⟨d1, d2, d3⟩ := drop_head hD.symm
        have hlast : k + 1 = P.length := by
          have := congrArg List.length d3
          rw [List.length_drop] at this
          simp at this
          omega
        have hYk := fun W h => HY.out k W h d1
        unfold encP at hYk
        rw [d2] at hYk
        rw [c1] at hC
        obtain ⟨a, ha⟩ : ∃ a, cutA t = a := ⟨_, rfl⟩
        obtain ⟨b, hb⟩ : ∃ b, cutT t = b := ⟨_, rfl⟩
        have hbz : b.size ≤ s.size := by rw [← hb, c4]; exact Nat.zero_le _
        simp only [ha, hb] at hC hYk
        have HYK := Lib.hid hYk
        have HJK := Lib.hid (fun W2 hB => HA.out k wr W2 hJk hB)
        clear hD c1 c2 c3 c4 d2 d3 hYk ha hb
        gi_wp2_with (gi_at_call 29; refine (callsIn_wide.2 (hC.out _)).mono ?_; rintro e w1 ⟨rfl, hB1⟩; obtain ⟨fn, tmps, assign, body, hy, hR⟩ := HYK.out _ (HJK.out _ hB1))
        refine hR.mono ?_
        rintro e W3 (⟨rfl, hJ3, _⟩ | ⟨rfl, hJx3⟩)
        · gi_wp2
          go_roundw
          case rel => exact ⟨k + 1, b, rfl, hbz, .inr ⟨rfl, hlast⟩, hJ3⟩
          case measure => simp [leftP]
        · gi_wp2
          refine bodyPost_ret (results_none rfl _ _ _) rfl ?_
          exact ⟨⟨_, rfl⟩, .inr ⟨k, d1, hJx3⟩⟩
    · gi_wp2
      go_end0
      exact ⟨⟨_, rfl⟩, .inl hJk⟩
theorem pieces_in (n : Nat) (s : ByteArray) (w : World) :
    CallsIn Fence.wide n Try.prog 19 #[.string s] w fun e w' => e = .returned (.func (.func 28) #[] #[.pointer (some ⟨w.heap.size, 0, none⟩)]) ∧ w.alloc (.cells #[.string s] 9) = w' := by
  refine callsIn_of_wp Try.func19 rfl trivial ?_ rfl
  simp only [Try.ntmps19, List.size_toArray, List.length_cons, List.length_nil, Nat.reduceAdd, Nat.reduceSub, Array.replicate_succ, Array.replicate_zero, List.push_toArray, List.append_toArray, List.nil_append, List.cons_append]
  gi_wp2
  go_ret
  exact ⟨rfl, rfl⟩
theorem pieces_steps (Bs : Nat) (s : ByteArray) (P : List ByteArray) (hP : pcs s = P) (hs : s.size ≤ 281474976710656) (w : World) (hS : w.cell? ⟨Bs, 0, none⟩ = some (.string s)) : SeqSteps Fence.wide 8 Try.prog 28 #[.pointer (some ⟨Bs, 0, none⟩)] (encP P) (fun _ _ => True) P.length w := by
  intro l J Jx W' hB' hJ _ hY h0
  exact pieces1_in 8 (by decide) l Bs s P hP hs J Jx _ hJ hY W' ((hB'.cell (p := ⟨Bs, 0, none⟩) (World.block_lt_of_cell? _ _ hS)).trans hS) h0
end
end Go.Proofs.Ytgmpfkhcohlijaa.Pth
