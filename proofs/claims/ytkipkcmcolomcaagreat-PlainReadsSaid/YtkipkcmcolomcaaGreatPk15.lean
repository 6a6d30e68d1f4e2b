/- Several texts in one, each under its own heading. -/
import Derived.RangeFuncBound
import Derived.RangeFuncCalls
import Derived.RangeFuncLeaves
import Derived.OwnWalkIn
import Derived.TacticsInMore
import Derived.LoopNIn
import Derived.LoopIn
import Derived.Deep.RegionHeld3
import Derived.Lib.IndexLaws
import Derived.Test.YtkipkcmcolomcaaGreatPk09
import Derived.Test.YtkipkcmcolomcaaGreatPkPathPcs
import Derived.Test.YtkipkcmcolomcaaGreatShelf
import Derived.Deep.RegionLaw
/- A text is parted at its first '/'; the iterator of the program's package path hands out the pieces, one behind the other. -/
namespace Go.Proofs.YtkipkcmcolomcaaGreat.Pth
open Go.RowKit Nam
attribute [local go_sem] Oper.semAt_some
set_option linter.unusedVariables false
set_option linter.unusedSimpArgs false
def cutI (s : ByteArray) : Int := Lib.indexByte s.data.toList 47
def cutA (s : ByteArray) : ByteArray := if cutI s = -1 then s else s.extract 0 (cutI s).toNat
def cutT (s : ByteArray) : ByteArray := if cutI s = -1 then ⟨#[]⟩ else s.extract ((cutI s).toNat + 1) s.size
def cutM (s : ByteArray) : Bool := decide (¬ cutI s = -1)
theorem cut_no {s : ByteArray} (h : cutI s = -1) : pcs s = [s] := by
  unfold pcs
  rw [cut_last fun c hc e => ?_, List.map_cons, List.map_nil, toB_data]
  obtain ⟨i, hi, he⟩ := List.getElem_of_mem hc
  exact Lib.indexByte_none h i (by rw [List.getElem?_eq_getElem hi, he, e])
theorem cut_yes {s : ByteArray} {k : Nat} (h : cutI s = (k : Int)) : k < s.size ∧ pcs s = s.extract 0 k :: pcs (s.extract (k + 1) s.size) := by
  obtain ⟨h1, h2⟩ := Lib.indexByte_some h
  have hl := (List.getElem?_eq_some_iff.1 h1).1
  rw [size_list] at hl
  have h7 : sb s k = 47 := by unfold sb; rw [h1]; rfl
  have hf : free s 0 k := fun j _ hj e => by
    have hjl : j < s.data.toList.length := by rw [size_list]; omega
    refine h2 j hj ?_
    unfold sb at e
    rw [List.getElem?_eq_getElem hjl] at e ⊢
    exact congrArg some (UInt8.toNat_inj.1 e)
  refine ⟨hl, ?_⟩
  rw [← pcsF_zero, pcs_here (Nat.zero_le _) hl hf h7]
  congr 1
  unfold pcsF pcs
  rw [extract_list, List.take_of_length_le (by rw [List.length_drop, size_list]; exact Nat.le_refl _)]
theorem cutI_nat {s : ByteArray} (h : ¬ cutI s = -1) : ∃ k : Nat, cutI s = (k : Int) := by
  have := Lib.indexByte_ge s.data.toList 47
  have h2 : (0 : Int) ≤ cutI s := by unfold cutI at h ⊢; omega
  exact ⟨(cutI s).toNat, by omega⟩
/-- the first piece, and what is behind it -/
theorem cut_pcs (s : ByteArray) : (cutM s = true ∧ pcs s = cutA s :: pcs (cutT s) ∧ (cutT s).size < s.size ∧ (cutA s).size ≤ s.size) ∨ (cutM s = false ∧ pcs s = [cutA s] ∧ cutA s = s ∧ cutT s = ⟨#[]⟩) := by
  by_cases h : cutI s = -1
  · right
    have hA : cutA s = s := if_pos h
    exact ⟨decide_eq_false (fun e => e h), by rw [cut_no h, hA], hA, if_pos h⟩
  · left
    obtain ⟨k, hk⟩ := cutI_nat h
    obtain ⟨h1, h2⟩ := cut_yes hk
    have hA : cutA s = s.extract 0 k := by unfold cutA; rw [if_neg h, hk]; rfl
    have hT : cutT s = s.extract (k + 1) s.size := by unfold cutT; rw [if_neg h, hk]; rfl
    refine ⟨decide_eq_true h, by rw [hA, hT]; exact h2, ?_, ?_⟩
    · rw [hT, ByteArray.size_extract]; omega
    · rw [hA, ByteArray.size_extract]; omega
section
set_option maxRecDepth 100000
set_option maxHeartbeats 4000000
theorem cut2_any (s : ByteArray) (w : World) (hs : s.size ≤ 281474976710656) : Calls Tryz.prog 168 #[.string s, .string ⟨#[47]⟩] w (Ans w (.tuple #[.string (cutA s), .string (cutT s), .bool (cutM s)])) := by
  have hI := fun W => Shf.Tryz.stringslite_Index_one s 47 W
  by_cases h : cutI s = -1
  · have h9 : Lib.indexByte s.data.toList 47 = -1 := h
    have HF : Hid (∀ W, Below w.heap.size w W → Ans w (.tuple #[.string (cutA s), .string (cutT s), .bool (cutM s)]) (.returned (.tuple #[.string s, .string ⟨#[]⟩, .bool false])) W) := fun W hB => by
      refine ⟨?_, hB⟩
      rw [show cutA s = s from if_pos h, show cutT s = ⟨#[]⟩ from if_pos h, show cutM s = false from decide_eq_false (fun e => e h)]
    rw [h9] at hI
    clear h h9 hs
    go_enter Tryz.func168, Tryz.ntmps168
    go_wp2_with (go_at_call 186; (with_reducible refine Calls.mono (hI _) ?_); rintro e w1 ⟨rfl, hw⟩; subst hw)
    go_returns
    exact HF.out _ (Below.refl _ _)
  · obtain ⟨k, hk⟩ := cutI_nat h
    have h9 : Lib.indexByte s.data.toList 47 = (k : Int) := hk
    have hlt := (cut_yes hk).1
    have HF : Hid (∀ W, Below w.heap.size w W → Ans w (.tuple #[.string (cutA s), .string (cutT s), .bool (cutM s)]) (.returned (.tuple #[.string (s.extract 0 k), .string (s.extract (k + 1) s.size), .bool true])) W) := fun W hB => by
      refine ⟨?_, hB⟩
      rw [show cutA s = s.extract 0 k from by unfold cutA; rw [if_neg h, hk]; rfl, show cutT s = s.extract (k + 1) s.size from by unfold cutT; rw [if_neg h, hk]; rfl, show cutM s = true from decide_eq_true h]
    rw [h9] at hI
    have g0 : (0 : Int) ≤ (k : Int) := by omega
    clear h h9 hk
    go_enter Tryz.func168, Tryz.ntmps168
    go_wp2_with (go_at_call 186; (with_reducible refine Calls.mono (hI _) ?_); rintro e w1 ⟨rfl, hw⟩; subst hw)
    go_region
    all_goals
      go_wp2
      go_returns
      exact HF.out _ (Below.refl _ _).drew
theorem cut_any (s : ByteArray) (w : World) (hs : s.size ≤ 281474976710656) : Calls Tryz.prog 140 #[.string s, .string ⟨#[47]⟩] w (Ans w (.tuple #[.string (cutA s), .string (cutT s), .bool (cutM s)])) := by
  have h := Lib.hid (fun W => cut2_any s W hs)
  generalize cutA s = a at h ⊢
  generalize cutT s = b at h ⊢
  generalize cutM s = m at h ⊢
  clear hs
  go_enter Tryz.func140, Tryz.ntmps140
  go_wp2_with (go_at_call 168; (with_reducible refine Calls.mono (h.out _) ?_); rintro e w1 ⟨rfl, hB⟩)
  go_returns
  exact ⟨rfl, hB⟩
theorem grown_of_below {W W' : World} (h : Below W.heap.size W W') : W.grownBy W' none := ⟨h.1, h.2, h.3, h.4, fun k hk _ => h.5 k hk⟩
def encP (P : List ByteArray) (k : Nat) : Array Value := #[.string (P.getD k ⟨#[]⟩)]
theorem drop_head {P R : List ByteArray} {x : ByteArray} {k : Nat} (h : P.drop k = x :: R) : k < P.length ∧ P.getD k ⟨#[]⟩ = x ∧ P.drop (k + 1) = R := by
  have hk : k < P.length := by
    rcases Nat.lt_or_ge k P.length with h1 | h1
    · exact h1
    · rw [List.drop_eq_nil_of_le h1] at h; cases h
  have h2 := List.drop_eq_getElem_cons hk
  rw [h] at h2
  injection h2 with h3 h4
  exact ⟨hk, by rw [List.getD_eq_getElem?_getD, List.getElem?_eq_getElem hk]; exact h3.symm, h4.symm⟩
/-- how much is left to do -/
def leftP (r m : Value) : Nat := match m, r with
  | .bool true, .string t => t.size + 1
  | _, _ => 0
theorem pieces1_in (n : Nat) (hn : 1 ≤ n) (l Bs : Nat) (s : ByteArray) (P : List ByteArray) (hP : pcs s = P) (hs : s.size ≤ 281474976710656) (J Jx : Nat → World → Prop) (B0 : Nat) (hJ : AbidesFrom B0 J)
    (hY : ∀ k W, J k W → k < P.length → YieldAt Fence.wide (n - 1) Tryz.prog l (encP P k) W fun e W' => (e = .returned (.bool true) ∧ J (k + 1) W' ∧ True) ∨ (e = .returned (.bool false) ∧ Jx k W'))
    (W : World) (hS : W.cell? ⟨Bs, 0, none⟩ = some (.string s)) (h0 : J 0 W) :
    CallsIn Fence.wide n Tryz.prog 139 #[.func (.yield l) #[] #[], .pointer (some ⟨Bs, 0, none⟩)] W fun e W' => (∃ v, e = .returned v) ∧ (J P.length W' ∨ ∃ k, k < P.length ∧ Jx k W') := by
  have hfn : ∀ f, Fence.wide.fn f := fun _ => trivial
  have hJa : ∀ k W1 W2, J k W1 → Below W1.heap.size W1 W2 → J k W2 := fun k W1 W2 h hB => hJ _ _ _ none h (grown_of_below hB) (fun r e => by cases e)
  have HA := Lib.hid hJa
  have HY := Lib.hid hY
  have HP : Hid (pcs s = P.drop 0) := by rw [List.drop_zero]; exact hP
  clear hJa hY hJ hP
  refine callsIn_of_wp Tryz.func139 rfl trivial ?_ rfl
  simp only [Tryz.ntmps139, List.size_toArray, List.length_cons, List.length_nil, Nat.reduceAdd, Nat.reduceSub, Array.replicate_succ, Array.replicate_zero, List.push_toArray, List.append_toArray, List.nil_append, List.cons_append]
  gi_wp2
  gi_loopw [3, 4, 5] (fun r m _ wr => ∃ (k : Nat) (t : ByteArray), r = .string t ∧ t.size ≤ s.size ∧ ((m = .bool true ∧ Hid (pcs t = P.drop k)) ∨ (m = .bool false ∧ k = P.length)) ∧ J k wr) (fun r m _ _ => leftP r m)
  case atStart => exact ⟨0, s, rfl, Nat.le_refl _, .inl ⟨rfl, HP⟩, h0⟩
  case round =>
    obtain ⟨k, t, rfl, htz, hm, hJk⟩ := hrel
    rcases hm with ⟨rfl, HD⟩ | ⟨rfl, rfl⟩
    · have hC := Lib.hid (fun W => cut_any t W (by omega))
      have hD := HD.out
      rcases cut_pcs t with ⟨c1, c2, c3, c4⟩ | ⟨c1, c2, c3, c4⟩
      · rw [c2] at hD
        obtain ⟨d1, d2, d3⟩ := drop_head hD.symm
        have hYk := fun W h => HY.out k W h d1
        unfold encP at hYk
        rw [d2] at hYk
        rw [c1] at hC
        have HD2 := Lib.hid d3.symm
        obtain ⟨a, ha⟩ : ∃ a, cutA t = a := ⟨_, rfl⟩
        obtain ⟨b, hb⟩ : ∃ b, cutT t = b := ⟨_, rfl⟩
        rw [hb] at c3
        simp only [ha, hb] at hC hYk HD2
        have HYK := Lib.hid hYk
        have HJK := Lib.hid (fun W2 hB => HA.out k wr W2 hJk hB)
        clear hD c1 c2 c4 d2 d3 hYk ha hb
        gi_wp2_with (gi_at_call 140; refine (callsIn_wide.2 (hC.out _)).mono ?_; rintro e w1 ⟨rfl, hB1⟩; obtain ⟨fn, tmps, assign, body, hy, hR⟩ := HYK.out _ (HJK.out _ hB1))
        refine hR.mono ?_
        rintro e W3 (⟨rfl, hJ3, _⟩ | ⟨rfl, hJx3⟩)
        · gi_wp2
          go_roundw
          case rel => exact ⟨k + 1, b, rfl, by omega, .inl ⟨rfl, HD2⟩, hJ3⟩
          case measure => simp [leftP]; omega
        · gi_wp2
          refine bodyPost_ret (results_none rfl _ _ _) rfl ?_
          exact ⟨⟨_, rfl⟩, .inr ⟨k, d1, hJx3⟩⟩
      · rw [c2] at hD
        obtain ⟨d1, d2, d3⟩ := drop_head hD.symm
        have hlast : k + 1 = P.length := by
          have := congrArg List.length d3
          rw [List.length_drop] at this
          simp at this
          omega
        have hYk := fun W h => HY.out k W h d1
        unfold encP at hYk
        rw [d2] at hYk
        rw [c1] at hC
        obtain ⟨a, ha⟩ : ∃ a, cutA t = a := ⟨_, rfl⟩
        obtain ⟨b, hb⟩ : ∃ b, cutT t = b := ⟨_, rfl⟩
        have hbz : b.size ≤ s.size := by rw [← hb, c4]; exact Nat.zero_le _
        simp only [ha, hb] at hC hYk
        have HYK := Lib.hid hYk
        have HJK := Lib.hid (fun W2 hB => HA.out k wr W2 hJk hB)
        clear hD c1 c2 c3 c4 d2 d3 hYk ha hb
        gi_wp2_with (gi_at_call 140; refine (callsIn_wide.2 (hC.out _)).mono ?_; rintro e w1 ⟨rfl, hB1⟩; obtain ⟨fn, tmps, assign, body, hy, hR⟩ := HYK.out _ (HJK.out _ hB1))
        refine hR.mono ?_
        rintro e W3 (⟨rfl, hJ3, _⟩ | ⟨rfl, hJx3⟩)
        · gi_wp2
          go_roundw
          case rel => exact ⟨k + 1, b, rfl, hbz, .inr ⟨rfl, hlast⟩, hJ3⟩
          case measure => simp [leftP]
        · gi_wp2
          refine bodyPost_ret (results_none rfl _ _ _) rfl ?_
          exact ⟨⟨_, rfl⟩, .inr ⟨k, d1, hJx3⟩⟩
    · gi_wp2
      go_end0
      exact ⟨⟨_, rfl⟩, .inl hJk⟩
theorem pieces_in (n : Nat) (s : ByteArray) (w : World) :
    CallsIn Fence.wide n Tryz.prog 111 #[.string s] w fun e w' => e = .returned (.func (.func 139) #[] #[.pointer (some ⟨w.heap.size, 0, none⟩)]) ∧ w.alloc (.cells #[.string s] 9) = w' := by
  refine callsIn_of_wp Tryz.func111 rfl trivial ?_ rfl
  simp only [Tryz.ntmps111, List.size_toArray, List.length_cons, List.length_nil, Nat.reduceAdd, Nat.reduceSub, Array.replicate_succ, Array.replicate_zero, List.push_toArray, List.append_toArray, List.nil_append, List.cons_append]
  gi_wp2
  go_ret
  exact ⟨rfl, rfl⟩
theorem pieces_steps (Bs : Nat) (s : ByteArray) (P : List ByteArray) (hP : pcs s = P) (hs : s.size ≤ 281474976710656) (w : World) (hS : w.cell? ⟨Bs, 0, none⟩ = some (.string s)) : SeqSteps Fence.wide 8 Tryz.prog 139 #[.pointer (some ⟨Bs, 0, none⟩)] (encP P) (fun _ _ => True) P.length w := by
  intro l J Jx W' hB' hJ _ hY h0
  exact pieces1_in 8 (by decide) l Bs s P hP hs J Jx _ hJ hY W' ((hB'.cell (p := ⟨Bs, 0, none⟩) (World.block_lt_of_cell? _ _ hS)).trans hS) h0
end
end Go.Proofs.YtkipkcmcolomcaaGreat.Pth
/- The document's pieces. -/
namespace Go.Proofs.YtkipkcmcolomcaaGreat.Pth
open Go.RowKit Nam
attribute [local go_sem] Oper.semAt_some
set_option linter.unusedVariables false
set_option linter.unusedSimpArgs false
theorem own_below2 {w w' : World} {base n : Nat} {t : TypeId} {sz : Nat} {v : Value} {xs : List Value} (h : w.ownsRow base t sz v n xs) (hB : Below w.heap.size w w') : w'.ownsRow base t sz v n xs :=
  h.kept (grown_of_below hB) (by cases hv : v.ownBlock <;> simp)
namespace R
section
set_option maxRecDepth 100000
set_option maxHeartbeats 8000000
theorem pieces_any (s : ByteArray) (w : World) (hs : s.size ≤ 2000) : Calls Tryz.prog 132 #[.string s] w fun e w' => ∃ v, e = .returned v ∧ w'.ownsRow w.heap.size 9 1 v (pcs s).length ((pcs s).map .string) ∧ Below w.heap.size w w' := by
  obtain ⟨i0, hi, hz0, hz1, hz2⟩ := info_parts infoStr
  have HR : Hid (∀ P v w', pcs s = P → w'.ownsRow w.heap.size 9 1 v P.length (P.map .string) → Below w.heap.size w w' → ∃ v', Ending.returned v = .returned v' ∧ w'.ownsRow w.heap.size 9 1 v' (pcs s).length ((pcs s).map .string) ∧ Below w.heap.size w w') := fun P v w' h1 h2 h3 => ⟨v, rfl, by rw [h1]; exact h2, h3⟩
  go_enter Tryz.func132, Tryz.ntmps132
  go_wp2
  go_loopw [3, 4, 5] (fun v fr i wr => ∃ (P : List ByteArray) (f k : Nat), i = .int .i64 (k : Int) ∧ fr = .int .i64 (f : Int) ∧ k ≤ s.size + 1 ∧ f ≤ k ∧ P.length ≤ k ∧ Hid (free s f k) ∧ Hid (k ≤ s.size → pcs s = P ++ pcsF s f) ∧ Hid (k = s.size + 1 → pcs s = P) ∧ Hid (wr.ownsRow w.heap.size 9 1 v P.length (P.map .string)) ∧ Hid (Below w.heap.size w wr)) (fun _ _ i _ => s.size + 1 - (intOf i).toNat)
  case atStart => exact ⟨[], 0, 0, rfl, rfl, by omega, by omega, by simp, fun j h1 h2 => by omega, fun _ => rfl, fun h => by omega, World.ownsRow_nil _ _ _ _, Below.refl _ _⟩
  case round =>
    obtain ⟨P, f, k, rfl, rfl, hk, hf, hP, HF, HC, HD, HO, HB⟩ := hrel
    by_cases hle : k ≤ s.size
    · have hli : (k : Int) ≤ (s.size : Int) := by omega
      have hfk : (f : Int) ≤ (k : Int) := by omega
      have hcc := HC.out hle
      by_cases hke : k = s.size
      · have hq : ((k : Int) == (s.size : Int)) = true := by rw [hke]; simp
        have hx := pcs_end (s := s) (f := f) (by omega) (by rw [← hke]; exact HF.out)
        rw [← hke] at hx
        obtain ⟨x, hxe⟩ : ∃ x, s.extract f k = x := ⟨_, rfl⟩
        rw [hxe] at hx
        rw [hx] at hcc
        have HX1 : Hid (free s (k + 1) (k + 1)) := fun j h1 h2 => by omega
        have HX2 : Hid (k + 1 ≤ s.size → pcs s = (P ++ [x]) ++ pcsF s (k + 1)) := fun h => by omega
        have HX3 : Hid (k + 1 = s.size + 1 → pcs s = P ++ [x]) := fun _ => hcc
        have hke2 : k ≤ s.size := hle
        clear hx hcc hke
        have hnew : Strs (wr.alloc (.cells #[.string x] 9)) (.slice (some ⟨wr.heap.size, 0, none⟩) 1 1) [x] := Strs.one (World.alloc_heap_new wr _)
        have HNEW := Lib.hid hnew
        have HOWN := Lib.hid (own_below2 HO.out (below_new wr (.cells #[.string x] 9)))
        have HB2 := Lib.hid (below_al HB.out (.cells #[.string x] 9))
        clear hnew
        go_wp2_with (at_builtin; (refine wpList_append_strs rfl _ _ rfl rfl w.heap.size _ P.length (P.map .string) rfl HOWN.out _ [x] rfl HNEW.out (by show P.length + 1 ≤ _; omega) HB2.out.size ?_; intro v3 w3 hown3 hgrow3; have HO3 := Lib.hid hown3; have HB3 := Lib.hid (HB2.out.grown hgrow3 HB2.out.size (fun r e => ((HOWN.out).lt r e).1)); clear hown3 hgrow3))
        go_roundw
        case rel => exact ⟨P ++ [x], k + 1, k + 1, by go_num, by go_num, by omega, by omega, by rw [List.length_append]; show P.length + 1 ≤ _; omega, HX1.out, HX2.out, HX3.out, by rw [List.length_append, List.map_append]; exact HO3.out, HB3.out⟩
        case measure => simp [intOf]; omega
      · have hkl : k < s.size := by omega
        have hq : ((k : Int) == (s.size : Int)) = false := beq_eq_false_iff_ne.2 (by omega)
        have e3 : ∀ h : k < s.size, (((s[k]'h).toNat : Nat) : Int) = sbyte s k := fun h => by
          have : s.data.toList[k]? = some (s[k]'h) := Go.Proofs.byte_at s k h
          simp [sbyte, this]
        have hkl2 : (k : Int) < (s.size : Int) := by omega
        by_cases h7 : sb s k = 47
        · have hb : (sbyte s k == 47) = true := by rw [sbyte_eq, h7]; rfl
          have hx := pcs_here hf hkl HF.out h7
          obtain ⟨x, hxe⟩ : ∃ x, s.extract f k = x := ⟨_, rfl⟩
          rw [hxe] at hx
          rw [hx] at hcc
          have HX1 : Hid (free s (k + 1) (k + 1)) := fun j h1 h2 => by omega
          have HX2 : Hid (k + 1 ≤ s.size → pcs s = (P ++ [x]) ++ pcsF s (k + 1)) := fun h => by rw [List.append_assoc]; exact hcc
          have HX3 : Hid (k + 1 = s.size + 1 → pcs s = P ++ [x]) := fun h => by omega
          clear hx hcc hke h7
          have hnew : Strs (wr.alloc (.cells #[.string x] 9)) (.slice (some ⟨wr.heap.size, 0, none⟩) 1 1) [x] := Strs.one (World.alloc_heap_new wr _)
          have HNEW := Lib.hid hnew
          have HOWN := Lib.hid (own_below2 HO.out (below_new wr (.cells #[.string x] 9)))
          have HB2 := Lib.hid (below_al HB.out (.cells #[.string x] 9))
          clear hnew
          go_wp2_with (at_builtin; (refine wpList_append_strs rfl _ _ rfl rfl w.heap.size _ P.length (P.map .string) rfl HOWN.out _ [x] rfl HNEW.out (by show P.length + 1 ≤ _; omega) HB2.out.size ?_; intro v3 w3 hown3 hgrow3; have HO3 := Lib.hid hown3; have HB3 := Lib.hid (HB2.out.grown hgrow3 HB2.out.size (fun r e => ((HOWN.out).lt r e).1)); clear hown3 hgrow3))
          go_roundw
          case rel => exact ⟨P ++ [x], k + 1, k + 1, by go_num, by go_num, by omega, by omega, by rw [List.length_append]; show P.length + 1 ≤ _; omega, HX1.out, HX2.out, HX3.out, by rw [List.length_append, List.map_append]; exact HO3.out, HB3.out⟩
          case measure => simp [intOf]; omega
        · have hb : (sbyte s k == 47) = false := by rw [sbyte_eq]; exact beq_eq_false_iff_ne.2 (by omega)
          have HX1 : Hid (free s f (k + 1)) := fun j h1 h2 => by
            rcases Nat.lt_succ_iff_lt_or_eq.1 h2 with h | h
            · exact HF.out j h1 h
            · rw [h]; exact h7
          have HX2 : Hid (k + 1 ≤ s.size → pcs s = P ++ pcsF s f) := fun _ => hcc
          have HX3 : Hid (k + 1 = s.size + 1 → pcs s = P) := fun h => by omega
          clear hcc hke h7
          go_wp2
          go_roundw
          case rel => exact ⟨P, f, k + 1, by go_num, rfl, by omega, by omega, by omega, HX1.out, HX2.out, HX3.out, HO.out, HB.out⟩
          case measure => simp [intOf]; omega
    · have hli : ¬ (k : Int) ≤ (s.size : Int) := by omega
      have hke : k = s.size + 1 := by omega
      have HFIN := Lib.hid (HR.out P _ wr (HD.out hke) HO.out HB.out)
      clear hke hle
      go_wp2
      go_ret
      exact HFIN.out
end
end R
end Go.Proofs.YtkipkcmcolomcaaGreat.Pth
/- The document's Split. -/
namespace Go.Proofs.YtkipkcmcolomcaaGreat.Pth
open Go.RowKit Nam
attribute [local go_sem] Oper.semAt_some
set_option linter.unusedVariables false
set_option linter.unusedSimpArgs false
def splitV (s : ByteArray) : List ByteArray := (splitD s).getD []
def splitE (s : ByteArray) : Int := match splitD s with | some _ => 0 | none => 120
def SplitPost (s : ByteArray) (w : World) (e : Ending) (w' : World) : Prop := ∃ v, e = .returned (.tuple #[v, .int .i64 (splitE s)]) ∧ Strs w' v (splitV s) ∧ Below w.heap.size w w'
theorem split_bad {s : ByteArray} {w w' : World} (h : splitD s = none) (hB : Below w.heap.size w w') : SplitPost s w (.returned (.tuple #[.slice none 0 0, .int .i64 120])) w' := by
  refine ⟨.slice none 0 0, ?_, ?_, hB⟩
  · unfold splitE; rw [h]
  · unfold splitV; rw [h]; exact Strs.nil _
theorem split_good {s : ByteArray} {w w' : World} {l : List ByteArray} {v : Value} (h : splitD s = some l) (hv : Strs w' v l) (hB : Below w.heap.size w w') : SplitPost s w (.returned (.tuple #[v, .int .i64 0])) w' := by
  refine ⟨v, ?_, ?_, hB⟩
  · unfold splitE; rw [h]
  · unfold splitV; rw [h]; exact hv
theorem pcs_size {s x : ByteArray} (h : x ∈ pcs s) : x.size ≤ s.size := by
  have h1 : szP (pcs s) = s.size + 1 := by unfold pcs; rw [szP_cut, size_list]
  have h2 : ∀ {P : List ByteArray}, x ∈ P → x.size + 1 ≤ szP P := by
    intro P
    induction P with
    | nil => intro h; cases h
    | cons p r ih =>
      intro h
      simp only [szP]
      rcases List.mem_cons.1 h with h | h
      · rw [h]; omega
      · have := ih h; omega
  have := h2 h
  omega
theorem pcs_many (s : ByteArray) : (pcs s).length ≤ s.size + 1 := by
  have h1 : szP (pcs s) = s.size + 1 := by unfold pcs; rw [szP_cut, size_list]
  have h2 : ∀ P : List ByteArray, P.length ≤ szP P := by
    intro P
    induction P with
    | nil => exact Nat.le_refl _
    | cons p r ih => simp only [szP, List.length_cons]; omega
  have := h2 (pcs s)
  omega
theorem Strs.cut {w : World} {a : Option Addr} {n cap : Nat} {X : List ByteArray} (h : Strs w (.slice a n cap) X) (m : Nat) (hm : m ≤ X.length) : Strs w (.slice a m cap) (X.take m) := by
  obtain ⟨a', cap', e, h2, h3, h4, h5⟩ := h
  cases e
  have hl : (X.take m).length = m := by rw [List.length_take]; omega
  refine ⟨a, cap, by rw [hl], by omega, h3, by rw [List.length_map, hl, Nat.mul_one], fun hn => ?_⟩
  obtain ⟨b, off, rfl, hc⟩ := h5 (by rw [hl] at hn; omega)
  refine ⟨b, off, rfl, fun j u hj => hc j u ?_⟩
  have hj2 := (List.getElem?_eq_some_iff.1 hj).1
  rw [List.length_map, hl] at hj2
  rw [List.getElem?_map, List.getElem?_take_of_lt hj2] at hj
  rw [List.getElem?_map]
  exact hj
theorem make_strs (n : Nat) (hn : n ≤ 4096) : ∃ X : Array Value, X.size = n * 1 ∧ ∀ W : World, (Instr.makeSlice 54 (.int .i64 0) (.int .i64 (n : Int))).run Tryz.prog W = .ok (.slice (some ⟨W.heap.size, 0, none⟩) 0 n) (W.alloc (.cells X 9)) := by
  obtain ⟨i0, hi, hz0, hz1, hz2⟩ := info_parts infoStr
  refine ⟨madeCells (Value.string ⟨#[]⟩).cells (n * 1), by rw [size_madeCells], fun W => ?_⟩
  have hr := run_make (P := Tryz.prog) W 54 9 i0 (.string ⟨#[]⟩) Tryz.underlying54 hi hz0 .i64 .i64 0 n (Int.le_refl _) (by omega) (by rw [hz2]; omega) (by omega)
  simp only [Int.toNat_zero, Int.toNat_natCast, hz1] at hr
  exact hr
theorem step_append_strs {w : World} {ops : Array Oper} {o : Oper} {a : Act} {K : Act → World → Prop} {Q : Exit → Act → World → Prop} {E : Prop} (hgd : o.guard = none) (s x : Operand)
    (ho : o.op = .call { callee := .builtin .append, args := #[s, x], argTypes := #[54, 54] }) (hty : o.type = 54)
    (base : Nat) (v : Value) (n : Nat) (xs : List Value) (hs : a.eval s = v) (hown : w.ownsRow base 9 1 v n xs) (vL : Value) (L : List ByteArray) (hx : a.eval x = vL) (hL : Strs w vL L) (h1 : n + L.length ≤ 100000) (hb : base ≤ w.heap.size)
    (h : ∀ v' w', w'.ownsRow base 9 1 v' (n + L.length) (xs ++ L.map .string) → w.grownBy w' v.ownBlock → K (a.put o.dst v') w') :
    if Region.wanted o (yielded ops a.tmps) = true then Oper.wp Tryz.prog o a w K Q else E := by
  have hw : Region.wanted o (yielded ops a.tmps) = true := by simp [Region.wanted, hgd]
  rw [if_pos hw]
  exact wp_append_strs s x ho hty base v n xs hs hown vL L hx hL h1 hb h
theorem goP_next {P l : List ByteArray} {k : Nat} (hk : k < P.length) (h : goP (P.take k) (some []) = some l) : goP (P.take (k + 1)) (some []) = stp (some l) (P.getD k ⟨#[]⟩) := by
  rw [take_snocS hk, goP_app, h]
  rfl
theorem goP_stop {P : List ByteArray} {k : Nat} (h : goP (P.take k) (some []) = none) : goP P (some []) = none := by
  have h2 := goP_app (P.take k) (P.drop k) (some [])
  rw [List.take_append_drop, h, goP_none] at h2
  exact h2
theorem lit_no2 {s : ByteArray} {l : List UInt8} (h : ¬ s = ⟨l.toArray⟩) : (s.toList == l) = false := by
  rw [beq_eq_false_iff_ne]
  intro he
  apply h
  apply ba_ext
  rw [← Lib.toList_data, he]
namespace R
section
set_option maxRecDepth 100000
set_option maxHeartbeats 8000000
theorem split_any (s : ByteArray) (w : World) (hs : s.size ≤ 281474976710656) : Calls Tryz.prog 101 #[.string s] w (SplitPost s w) := by
  by_cases hp : pathP s
  case neg =>
    have HBAD : Hid (∀ w', Below w.heap.size w w' → SplitPost s w (.returned (.tuple #[.slice none 0 0, .int .i64 120])) w') := fun w' hB => split_bad (if_neg hp) hB
    by_cases h1 : 1000 < s.size
    · have g1 : (1000 : Int) < (s.size : Int) := by omega
      clear hp h1
      go_enter Tryz.func101, Tryz.ntmps101
      go_wp2
      go_returns
      exact HBAD.out _ (Below.refl _ _)
    · have g1 : ¬ (1000 : Int) < (s.size : Int) := by omega
      by_cases h2 : s.size = 0
      · have g2 : ((s.size : Int) == 0) = true := by rw [h2]; rfl
        clear hp h1 h2
        go_enter Tryz.func101, Tryz.ntmps101
        go_wp2
        go_returns
        exact HBAD.out _ (Below.refl _ _)
      · have g2 : ((s.size : Int) == 0) = false := beq_eq_false_iff_ne.2 (by omega)
        have h7 : ¬ sb s 0 = 47 := fun h => hp ⟨by omega, by omega, h⟩
        have hlt : 0 < s.size := by omega
        have hlt2 : (0 : Int) < (s.size : Int) := by omega
        have e3 : ∀ h : 0 < s.size, (((s[0]'h).toNat : Nat) : Int) = sbyte s 0 := fun h => by
          have : s.data.toList[0]? = some (s[0]'h) := Go.Proofs.byte_at s 0 h
          simp [sbyte, this]
        have hb : (sbyte s 0 == 47) = false := by rw [sbyte_eq]; exact beq_eq_false_iff_ne.2 (by omega)
        clear hp h1 h2 h7
        go_enter Tryz.func101, Tryz.ntmps101
        go_wp2
        go_returns
        exact HBAD.out _ (Below.refl _ _)
  case pos =>
    obtain ⟨h1, h2, h7⟩ := hp
    obtain ⟨i0, hin, hz0, hz1, hz2⟩ := info_parts infoStr
    have hp : pathP s := ⟨h1, h2, h7⟩
    have HBAD : Hid (goP (pcs s) (some []) = none → ∀ w', Below w.heap.size w w' → SplitPost s w (.returned (.tuple #[.slice none 0 0, .int .i64 120])) w') := fun h w' hB => split_bad (by unfold splitD; rw [if_pos hp, h]; rfl) hB
    have HBIG : Hid (∀ l, goP (pcs s) (some []) = some l → 40 < l.length → ∀ w', Below w.heap.size w w' → SplitPost s w (.returned (.tuple #[.slice none 0 0, .int .i64 120])) w') := fun l h h4 w' hB => split_bad (by unfold splitD; rw [if_pos hp, h]; exact if_neg (by omega)) hB
    have HYES : Hid (∀ l, goP (pcs s) (some []) = some l → ¬ 40 < l.length → ∀ v w', Strs w' v l → Below w.heap.size w w' → SplitPost s w (.returned (.tuple #[v, .int .i64 0])) w') := fun l h h4 v w' hv hB => split_good (by unfold splitD; rw [if_pos hp, h]; exact if_pos (by omega)) hv hB
    have g1 : ¬ (1000 : Int) < (s.size : Int) := by omega
    have g2 : ((s.size : Int) == 0) = false := beq_eq_false_iff_ne.2 (by omega)
    have hlt2 : (0 : Int) < (s.size : Int) := by omega
    have e3 : ∀ h : 0 < s.size, (((s[0]'h).toNat : Nat) : Int) = sbyte s 0 := fun h => by
      have : s.data.toList[0]? = some (s[0]'h) := Go.Proofs.byte_at s 0 h
      simp [sbyte, this]
    have hb : (sbyte s 0 == 47) = true := by rw [sbyte_eq, h7]; rfl
    have hP := Lib.hid (fun W => pieces_any s W (by omega))
    have hmany := pcs_many s
    have HSZ : Hid (∀ k, k < (pcs s).length → ((pcs s).getD k ⟨#[]⟩).size ≤ 1000) := fun k hk => Nat.le_trans (pcs_size (getD_mem hk)) h1
    generalize pcs s = P at *
    obtain ⟨n, hn⟩ : ∃ n, P.length = n := ⟨_, rfl⟩
    rw [hn] at hmany HSZ
    have HPN := Lib.hid hn
    have hn1 : n ≤ 1001 := by omega
    clear hp h7 hmany hs
    go_enter Tryz.func101, Tryz.ntmps101
    go_wp2_with (go_at_call 132; (with_reducible refine Calls.mono (hP.out _) ?_); rintro e w1 ⟨pv, rfl, hO, hB1⟩; obtain ⟨pa, pcap, epv, hp1, hp2⟩ := (Strs.own hO).parts; have HPS := Lib.hid (Strs.own hO); have HB1 := Lib.hid hB1; rw [hn] at epv hp1; subst epv; clear hO hB1)
    clear e3 hb g1 g2 hlt2 h1 h2 hn
    go_loopw [4, 6, 7] (fun v i _ wr => ∃ (k : Nat) (L : List ByteArray), k ≤ n ∧ i = .int .i64 (k : Int) ∧ L.length ≤ k ∧ Hid (goP (P.take k) (some []) = some L) ∧ Hid (Strs wr v L) ∧ Hid (Below w1.heap.size w1 wr)) (fun _ i _ _ => n - (intOf i).toNat)
    case atStart => exact ⟨0, [], by omega, rfl, Nat.le_refl _, rfl, Strs.nil _, Below.refl _ _⟩
    case round =>
      obtain ⟨k, L, hk, rfl, hLk, HG, HL, HB⟩ := hrel
      obtain ⟨va, vcap, rfl, hv1, hv2⟩ := HL.out.parts
      obtain ⟨N, hN⟩ : ∃ N, L.length = N := ⟨_, rfl⟩
      have HN := Lib.hid hN
      rw [hN] at HL hv1 hLk ⊢
      by_cases hlt : k < n
      · have hkn : (k : Int) < (n : Int) := by omega
        obtain ⟨b, off, e1, _⟩ := HPS.out.get (k := k) (by rw [HPN.out]; exact hlt)
        cases e1
        have hC := fun (W : World) (h : Below wr.heap.size wr W) => ((HPS.out.below HB.out).below h).get (k := k) (by rw [HPN.out]; exact hlt)
        have hS := goP_next (by rw [HPN.out]; exact hlt) HG.out
        have hz := HSZ.out k hlt
        obtain ⟨x, hx⟩ : ∃ x, P.getD k ⟨#[]⟩ = x := ⟨_, rfl⟩
        rw [hx] at hS hz
        have HC : Hid (∀ W, Below wr.heap.size wr W → W.cell? ⟨b, off + k, none⟩ = some (.string x)) := fun W h => by
          obtain ⟨b', o', e, c⟩ := hC W h
          cases e
          rw [hx] at c
          exact c
        have c1 := HC.out _ (Below.refl _ _)
        clear hC hx hN
        rw [stp_some] at hS
        by_cases k1 : x = ⟨#[]⟩
        · rw [if_pos (Or.inl k1)] at hS
          have HS := Lib.hid hS
          have q0 : (x.toList == []) = true := by rw [k1, Lib.toList_data]; rfl
          clear hS k1
          go_wp2
          go_roundw
          case rel => exact ⟨k + 1, L, by omega, by go_num, by rw [HN.out]; omega, HS.out, HL.out, HB.out⟩
          case measure => simp [intOf]; omega
        have q0 : (x.toList == []) = false := lit_no2 k1
        by_cases k2 : x = dot
        · rw [if_pos (Or.inr k2)] at hS
          have HS := Lib.hid hS
          have q1 : (x.toList == [46]) = true := by rw [k2, Lib.toList_data]; rfl
          clear hS k1 k2
          go_wp2
          go_roundw
          case rel => exact ⟨k + 1, L, by omega, by go_num, by rw [HN.out]; omega, HS.out, HL.out, HB.out⟩
          case measure => simp [intOf]; omega
        have q1 : (x.toList == [46]) = false := lit_no2 k2
        rw [if_neg (fun h => h.elim k1 k2)] at hS
        by_cases k3 : x = dots
        · rw [if_pos k3] at hS
          have HS := Lib.hid hS
          have q2 : (x.toList == [46, 46]) = true := by rw [k3, Lib.toList_data]; rfl
          have hcut : Strs wr (.slice va (N - 1) vcap) L.dropLast := by
            have h := HL.out.cut (N - 1) (by rw [HN.out]; omega)
            have e : L.dropLast = L.take (N - 1) := by rw [List.dropLast_eq_take, HN.out]
            rw [e]
            exact h
          have HCUT := Lib.hid hcut
          have hw1 : IntKind.i64.wrap ((N : Int) - 1) = (N : Int) - 1 := by rw [IntKind.wrap_i64] <;> omega
          have hw2 : max (0 : Int) ((N : Int) - 1) = ((N - 1 : Nat) : Int) := by omega
          have hm1 : N - 1 ≤ vcap := by omega
          have hm2 : ((N - 1 : Nat) : Int) ≤ (vcap : Int) := by omega
          obtain ⟨m, hm⟩ : ∃ m, N - 1 = m := ⟨_, rfl⟩
          rw [hm] at HCUT hw2 hm1 hm2
          have HM := Lib.hid hm
          clear hS k1 k2 k3 hcut hm
          go_wp2
          go_roundw
          case rel => exact ⟨k + 1, L.dropLast, by omega, by go_num, by rw [List.length_dropLast, HN.out]; omega, HS.out, HCUT.out, HB.out⟩
          case measure => simp [intOf]; omega
        have q2 : (x.toList == [46, 46]) = false := lit_no2 k3
        rw [if_neg k3] at hS
        have hI := fun W => Nam.R.isName_any x W
        by_cases k4 : nameP x
        · rw [if_pos k4] at hS
          rw [nameB_yes k4] at hI
          have HI := Lib.hid hI
          have HS := Lib.hid hS
          obtain ⟨N1, hN1⟩ : ∃ N1, N + 1 = N1 := ⟨_, rfl⟩
          obtain ⟨X, hX, hmk⟩ := make_strs N1 (by omega)
          have hw1 : IntKind.i64.wrap ((N : Int) + 1) = (N1 : Int) := by rw [IntKind.wrap_i64]; omega
          have hN9 : 0 + L.length ≤ 100000 := by rw [HN.out]; omega
          have hN1b : N1 ≤ 1002 := by omega
          have hNb : N ≤ 1001 := by omega
          have HOWN : Hid (∀ W base v, W.ownsRow base 9 1 v (N + 1) (L.map .string ++ [.string x]) → Strs W v (L ++ [x])) := fun W base v h => Strs.own (base := base) (by rw [List.length_append, HN.out, List.map_append]; exact h)
          have hself : Below wr.heap.size wr wr.drew := (Below.refl _ wr).drew
          have hself1 : Below wr.heap.size wr (wr.drew.alloc (.cells X 9)) := below_al hself _
          have x0 := HC.out _ hself
          have y0 := HC.out _ hself1
          have xb := HC.out _ (below_new wr (.cells X 9))
          have xc := HC.out _ (below_new wr (.cells X 9)).drew
          have HLB : Hid (∀ W, Below wr.heap.size wr W → Strs W (.slice va N vcap) L) := fun W h => HL.out.below h
          have HO1 : Hid ((wr.drew.alloc (.cells X 9)).ownsRow wr.heap.size 9 1 (.slice (some ⟨wr.heap.size, 0, none⟩) 0 N1) 0 []) := World.ownsRow_made wr.drew X N1 (Nat.le_refl _) (by unfold maxLen; omega) hX
          have HO3 : Hid (((wr.drew.alloc (.cells #[.string x] 9)).alloc (.cells X 9)).ownsRow wr.heap.size 9 1 (.slice (some ⟨wr.heap.size + 1, 0, none⟩) 0 N1) 0 []) := by
            have := World.ownsRow_made (base := wr.heap.size) (e := 9) (size := 1) (wr.drew.alloc (.cells #[.string x] 9)) X N1 (by simp) (by unfold maxLen; omega) hX
            rw [World.size_alloc] at this
            exact this
          have HN1 := Lib.hid hN1
          clear hI hS k1 k2 k3 k4 hN1
          go_wp2_with (go_at_call 130; (with_reducible refine Calls.mono (HI.out _) ?_); rintro e w2 ⟨rfl, rfl⟩)
          go_region_law (first
            | (refine step_append_lies _ rfl (.tmp 64) (.tmp 69) 54 rfl wr.heap.size 9 i0 (.string ⟨#[]⟩) 1 16 Tryz.underlying54 hin hz0 hz1 hz2 rfl (by decide) v4 N (L.map .string) rfl (HO4.out.alloc _) ⟨w4.heap.size, 0, none⟩ 1 1 [.string x] rfl rfl (World.news_of_block (World.alloc_heap_new w4 _)) (by simp [Value.oneCell']) (by decide) (by unfold maxLen; omega) (by omega) (by have := HB4.out.size; simp; omega) _ rfl ?_; intro g2 cap2 w6 hown6 hgrow6 hat6 hlt6; have hT6 := HOWN.out _ _ _ hown6; have hB6 : Below wr.heap.size wr w6 := (below_al HB4.out (.cells #[.string x] 9)).grown hgrow6 (by have := HB4.out.size; simp; omega) (fun r e => (HO4.out.lt r e).1))
            | (refine step_append_lies _ rfl (.tmp 64) (.tmp 69) 54 rfl wr.heap.size 9 i0 (.string ⟨#[]⟩) 1 16 Tryz.underlying54 hin hz0 hz1 hz2 rfl (by decide) v4 N (L.map .string) rfl HO4.out ⟨nb, 0, none⟩ 1 1 [.string x] rfl rfl (World.news_of_block hnb.out) (by simp [Value.oneCell']) (by decide) (by unfold maxLen; omega) (by omega) HB4.out.size _ rfl ?_; intro g2 cap2 w6 hown6 hgrow6 hat6 hlt6; have hT6 := HOWN.out _ _ _ hown6; have hB6 : Below wr.heap.size wr w6 := HB4.out.grown hgrow6 HB4.out.size (fun r e => (HO4.out.lt r e).1))
            | (refine step_append_strs rfl (.tmp 62) (.tmp 63) rfl rfl wr.heap.size (.slice (some ⟨wr.heap.size, 0, none⟩) 0 N1) 0 [] rfl HO1.out _ L rfl (HLB.out _ (below_al hself _)) hN9 (by simp) ?_; intro v4 w4 hown4 hgrow4; rw [Nat.zero_add, List.nil_append, HN.out] at hown4; have hb4 : Below wr.heap.size wr w4 := (below_al hself (.cells X 9)).grown hgrow4 (by simp) (fun r e => Nat.le_of_eq (by simpa [Value.ownBlock] using e)); have z0 := HC.out _ hb4; have HO4 := Lib.hid hown4; have HB4 := Lib.hid hb4; clear hown4 hgrow4 hb4)
            | (refine step_append_strs rfl (.tmp 62) (.tmp 63) rfl rfl wr.heap.size (.slice (some ⟨wr.heap.size, 0, none⟩) 0 N1) 0 [] rfl (HO1.out.alloc _) _ L rfl (HLB.out _ (below_al (below_al hself _) _)) hN9 (by simp; omega) ?_; intro v4 w4 hown4 hgrow4; rw [Nat.zero_add, List.nil_append, HN.out] at hown4; have hb4 : Below wr.heap.size wr w4 := (below_al (below_al hself (.cells X 9)) (.cells #[.string x] 9)).grown hgrow4 (by simp; omega) (fun r e => Nat.le_of_eq (by simpa [Value.ownBlock] using e)); obtain ⟨nb, hnbe⟩ : ∃ nb, wr.heap.size + 1 = nb := ⟨_, rfl⟩; have hnb : Hid (w4.heap[nb]? = some (.cells #[.string x] 9 (0, 0))) := (hgrow4.block nb (by simp; omega) (by simp [Value.ownBlock]; omega)).trans (by have := World.alloc_heap_new (wr.drew.alloc (.cells X 9)) (.cells #[.string x] 9); rw [World.size_alloc] at this; rw [← hnbe]; exact this); have HO4 := Lib.hid hown4; have HB4 := Lib.hid hb4; clear hown4 hgrow4 hb4)
            | (refine step_append_strs rfl (.tmp 62) (.tmp 63) rfl rfl wr.heap.size (.slice (some ⟨wr.heap.size + 1, 0, none⟩) 0 N1) 0 [] rfl HO3.out _ L rfl (HLB.out _ (below_al (below_al hself _) _)) hN9 (by simp; omega) ?_; intro v4 w4 hown4 hgrow4; rw [Nat.zero_add, List.nil_append, HN.out] at hown4; have hb4 : Below wr.heap.size wr w4 := (below_al (below_al hself (.cells #[.string x] 9)) (.cells X 9)).grown hgrow4 (by simp; omega) (fun r e => by simp [Value.ownBlock] at e; exact Nat.le_trans (Nat.le_succ _) (Nat.le_of_eq e)); obtain ⟨nb, hnbe⟩ : ∃ nb, wr.heap.size = nb := ⟨_, rfl⟩; have hnb : Hid (w4.heap[nb]? = some (.cells #[.string x] 9 (0, 0))) := (hgrow4.block nb (by simp; omega) (by simp [Value.ownBlock]; omega)).trans ((Below.heap_alloc _ _ _ (by simp; omega)).trans (by rw [← hnbe]; exact World.alloc_heap_new wr.drew _)); have HO4 := Lib.hid hown4; have HB4 := Lib.hid hb4; clear hown4 hgrow4 hb4))
          all_goals
            have HT6 := Lib.hid hT6
            have HB6 := Lib.hid hB6
            clear hT6 hB6 hown6 hgrow6
            go_wp2
            go_roundw
            case rel => exact ⟨k + 1, L ++ [x], by omega, by go_num, by rw [List.length_append, HN.out]; show N + 1 ≤ _; omega, HS.out, HT6.out, below_th HB.out HB6.out⟩
            case measure => simp [intOf]; omega
        · rw [if_neg k4] at hS
          rw [nameB_no k4] at hI
          have HI := Lib.hid hI
          have HFIN := Lib.hid (HBAD.out (goP_stop hS) _ (below_th HB1.out HB.out))
          clear hI hS k1 k2 k3 k4
          go_wp2_with (go_at_call 130; (with_reducible refine Calls.mono (HI.out _) ?_); rintro e w2 ⟨rfl, rfl⟩)
          go_returns
          exact HFIN.out
      · obtain rfl : k = n := by omega
        have hG := HG.out
        rw [List.take_of_length_le (by rw [HPN.out]; exact Nat.le_refl _)] at hG
        by_cases h4 : 40 < N
        · have g4 : (40 : Int) < (N : Int) := by omega
          have HFIN := Lib.hid (HBIG.out L hG (by rw [HN.out]; exact h4) _ (below_th HB1.out HB.out))
          clear hG h4 hN
          go_wp2
          go_returns
          exact HFIN.out
        · have g4 : ¬ (40 : Int) < (N : Int) := by omega
          have HFIN := Lib.hid (HYES.out L hG (by rw [HN.out]; exact h4) _ _ HL.out (below_th HB1.out HB.out))
          clear hG h4 hN
          go_wp2
          go_returns
          exact HFIN.out
end
end R
end Go.Proofs.YtkipkcmcolomcaaGreat.Pth
/- The document's Under. -/
namespace Go.Proofs.YtkipkcmcolomcaaGreat.Pth
open Go.RowKit Nam
attribute [local go_sem] Oper.semAt_some
set_option linter.unusedVariables false
set_option linter.unusedSimpArgs false
/-- what is split, of a target in a directory -/
def underS (D : List ByteArray) (t : ByteArray) : ByteArray := if t = ⟨#[]⟩ then ⟨#[]⟩ else if sb t 0 = 47 then t else if fitJ D then (outJ D ++ ⟨#[47]⟩) ++ t else ⟨#[]⟩
theorem split_empty : splitD ⟨#[]⟩ = none := if_neg (by decide)
theorem size_pos {t : ByteArray} (h : ¬ t = ⟨#[]⟩) : 0 < t.size := by
  refine Nat.pos_of_ne_zero fun e => h (ba_ext ?_)
  have := size_list t
  rw [e] at this
  exact List.eq_nil_of_length_eq_zero this
namespace R
section
set_option maxRecDepth 100000
set_option maxHeartbeats 8000000
theorem under_any (v : Value) (D : List ByteArray) (t : ByteArray) (w : World) (hD : Strs w v D) (ht : t.size ≤ 140737488351232) : Calls Tryz.prog 134 #[v, .string t] w (SplitPost (underS D t) w) := by
  have HB0 : Hid (underS D t = ⟨#[]⟩ → ∀ w', Below w.heap.size w w' → SplitPost (underS D t) w (.returned (.tuple #[.slice none 0 0, .int .i64 120])) w') := fun h w' hB => split_bad (by rw [h]; exact split_empty) hB
  have HY : Hid (∀ v' w', Strs w' v' (splitV (underS D t)) → Below w.heap.size w w' → SplitPost (underS D t) w (.returned (.tuple #[v', .int .i64 (splitE (underS D t))])) w') := fun v' w' h1 h2 => ⟨v', rfl, h1, h2⟩
  obtain ⟨a, cap, rfl, hc1, hc2⟩ := hD.parts
  by_cases h0 : t = ⟨#[]⟩
  · have q0 : (t.toList == []) = true := by rw [h0, Lib.toList_data]; rfl
    have HF := Lib.hid (HB0.out (if_pos h0))
    clear hD ht h0 HB0 HY
    go_enter Tryz.func134, Tryz.ntmps134
    go_wp2
    go_returns
    exact HF.out _ (Below.refl _ _)
  have q0 : (t.toList == []) = false := lit_no2 h0
  have hpos := size_pos h0
  have hlt2 : (0 : Int) < (t.size : Int) := by omega
  have e3 : ∀ h : 0 < t.size, (((t[0]'h).toNat : Nat) : Int) = sbyte t 0 := fun h => by
    have : t.data.toList[0]? = some (t[0]'h) := Go.Proofs.byte_at t 0 h
    simp [sbyte, this]
  by_cases h7 : sb t 0 = 47
  · have hb : (sbyte t 0 == 47) = true := by rw [sbyte_eq, h7]; rfl
    have hU : underS D t = t := by unfold underS; rw [if_neg h0, if_pos h7]
    rw [hU] at HY ⊢
    have hS := Lib.hid (fun W => split_any t W (by omega))
    unfold SplitPost at hS
    clear hD ht h0 HB0 h7 hU
    go_enter Tryz.func134, Tryz.ntmps134
    go_wp2_with (go_at_call 101; (with_reducible refine Calls.mono (hS.out _) ?_); rintro e w1 ⟨v1, rfl, hv, hB⟩; have HV := Lib.hid hv; clear hv)
    go_returns
    exact HY.out _ _ HV.out hB
  · have hb : (sbyte t 0 == 47) = false := by rw [sbyte_eq]; exact beq_eq_false_iff_ne.2 (by omega)
    have hJ0 := join_any _ D w hD
    by_cases hf : fitJ D
    · have hU : underS D t = (outJ D ++ ⟨#[47]⟩) ++ t := by unfold underS; rw [if_neg h0, if_neg h7, if_pos hf]
      rw [hU] at HY ⊢
      rw [(join_yes hf).1, (join_yes hf).2] at hJ0
      have hoz : (outJ D).size ≤ 1000 := by rw [outJ_size]; have := hf.2.2; omega
      generalize outJ D = o at *
      have hadd1 := fun W => run_string_add_sum (P := Tryz.prog) (w := W) o ⟨#[47]⟩ (by show o.size + 1 ≤ _; omega)
      have hadd2 := fun W => run_string_add_sum (P := Tryz.prog) (w := W) (o ++ ⟨#[47]⟩) t (by rw [ByteArray.size_append]; show o.size + 1 + t.size ≤ _; omega)
      have hS := Lib.hid (fun W => split_any (o ++ ⟨#[47]⟩ ++ t) W (by rw [ByteArray.size_append, ByteArray.size_append]; show o.size + 1 + t.size ≤ _; omega))
      unfold SplitPost at hS
      have hJ := Lib.hid hJ0
      clear hD ht h0 HB0 h7 hU hJ0 hf hoz
      go_enter Tryz.func134, Tryz.ntmps134
      go_wp2_with (first
        | (go_at_call 166; (with_reducible refine Calls.mono hJ.out ?_); rintro e w1 ⟨rfl, hB1⟩)
        | (go_at_call 101; (with_reducible refine Calls.mono (hS.out _) ?_); rintro e w2 ⟨v1, rfl, hv, hB⟩; have HV := Lib.hid hv; clear hv))
      go_returns
      exact HY.out _ _ HV.out (below_th hB1 hB)
    · have hU : underS D t = ⟨#[]⟩ := by unfold underS; rw [if_neg h0, if_neg h7, if_neg hf]
      rw [(join_no hf).1, (join_no hf).2] at hJ0
      have HF := Lib.hid (HB0.out hU)
      have hJ := Lib.hid hJ0
      clear hD ht h0 HB0 h7 hU hJ0 hf HY
      go_enter Tryz.func134, Tryz.ntmps134
      go_wp2_with (go_at_call 166; (with_reducible refine Calls.mono hJ.out ?_); rintro e w1 ⟨rfl, hB1⟩)
      go_returns
      exact HF.out _ hB1
end
end R
end Go.Proofs.YtkipkcmcolomcaaGreat.Pth
