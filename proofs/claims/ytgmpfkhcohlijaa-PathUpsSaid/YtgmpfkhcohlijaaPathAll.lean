/- The program's contracts: Split of any text, Under. -/
import Derived.Test.YtgmpfkhcohlijaaPathSplit
namespace Go.Proofs.Ytgmpfkhcohlijaa.Pth
open Go.RowKit Nam
attribute [local go_sem] Oper.semAt_some
set_option linter.unusedVariables false
set_option linter.unusedSimpArgs false
section
set_option maxRecDepth 100000
set_option maxHeartbeats 8000000
theorem split_any (s : ByteArray) (w : World) (hs : s.size ≤ 281474976710656) : Calls Try.prog 9 #[.string s] w (SplitPost s w) := by
  by_cases hp : pathP s
  · exact callsIn_wide.1 (split_in s w hp)
  have HBAD : Hid (∀ w', Below w.heap.size w w' → SplitPost s w (.returned (.tuple #[.slice none 0 0, .int .i64 120])) w') := fun w' hB => split_bad (if_neg hp) hB
  have hPre := Shf.Try.strings_HasPrefix s ⟨#[47]⟩ w
  by_cases h1 : Lib.hasPrefix s.data.toList (⟨#[47]⟩ : ByteArray).data.toList = true
  · rw [h1] at hPre
    obtain ⟨p1, p2⟩ := (pre_iff s).1 h1
    have hbig : 1000 < s.size := Nat.lt_of_not_le fun h => hp ⟨h, p1, p2⟩
    have g1 : (1000 : Int) < (s.size : Int) := by omega
    have HP := Lib.hid hPre
    clear hPre h1 hp hbig
    go_enter Try.func9, Try.ntmps9
    go_wp2
    apply wp_scope_straight
    go_wp2_with (go_at_call 18; (with_reducible refine Calls.mono HP.out ?_); rintro e w1 ⟨rfl, rfl⟩)
    refine noGoto_ret ?_
    go_returns
    exact HBAD.out _ (Below.refl _ _)
  · rw [Bool.eq_false_iff.2 h1] at hPre
    have HP := Lib.hid hPre
    clear hPre h1 hp
    go_enter Try.func9, Try.ntmps9
    go_wp2
    apply wp_scope_straight
    go_wp2_with (go_at_call 18; (with_reducible refine Calls.mono HP.out ?_); rintro e w1 ⟨rfl, rfl⟩)
    refine noGoto_ret ?_
    go_returns
    exact HBAD.out _ (Below.refl _ _)
theorem under_any (v : Value) (D : List ByteArray) (t : ByteArray) (w : World) (hD : Strs w v D) (ht : t.size ≤ 140737488351232) : Calls Try.prog 14 #[v, .string t] w (SplitPost (underS D t) w) := by
  have HB0 : Hid (underS D t = ⟨#[]⟩ → ∀ w', Below w.heap.size w w' → SplitPost (underS D t) w (.returned (.tuple #[.slice none 0 0, .int .i64 120])) w') := fun h w' hB => split_bad (by rw [h]; exact split_empty) hB
  have HY : Hid (∀ v' w', Strs w' v' (splitV (underS D t)) → Below w.heap.size w w' → SplitPost (underS D t) w (.returned (.tuple #[v', .int .i64 (splitE (underS D t))])) w') := fun v' w' h1 h2 => ⟨v', rfl, h1, h2⟩
  obtain ⟨a, cap, rfl, hc1, hc2⟩ := hD.parts
  have hPre := Shf.Try.strings_HasPrefix t ⟨#[47]⟩ w
  by_cases hx : Lib.hasPrefix t.data.toList (⟨#[47]⟩ : ByteArray).data.toList = true
  · rw [hx] at hPre
    obtain ⟨hpos, h7⟩ := (pre_iff t).1 hx
    have h0 : ¬ t = ⟨#[]⟩ := fun e => by rw [e] at hpos; exact absurd hpos (by decide)
    have hU : underS D t = t := by unfold underS; rw [if_neg h0, if_pos h7]
    rw [hU] at HY ⊢
    have hS := Lib.hid (fun W => split_any t W (by omega))
    unfold SplitPost at hS
    have HP := Lib.hid hPre
    clear hD ht h0 HB0 h7 hU hPre hx hpos
    go_enter Try.func14, Try.ntmps14
    go_wp2_with (first
      | (go_at_call 18; (with_reducible refine Calls.mono HP.out ?_); rintro e w9 ⟨rfl, rfl⟩)
      | (go_at_call 9; (with_reducible refine Calls.mono (hS.out _) ?_); rintro e w1 ⟨v1, rfl, hv, hB⟩; have HV := Lib.hid hv; clear hv))
    go_returns
    exact HY.out _ _ HV.out hB
  · rw [Bool.eq_false_iff.2 hx] at hPre
    have h7 : ¬ (0 < t.size ∧ sb t 0 = 47) := fun h => hx ((pre_iff t).2 h)
    have HP := Lib.hid hPre
    have hJ0 := join_any _ D w hD
    by_cases hf : fitJ D
    · rw [(join_yes hf).1, (join_yes hf).2] at hJ0
      have hoz : (outJ D).size ≤ 1000 := by rw [outJ_size]; have := hf.2.2; omega
      by_cases h0 : t = ⟨#[]⟩
      · have hU : underS D t = ⟨#[]⟩ := by unfold underS; rw [if_pos h0]
        have HF := Lib.hid (HB0.out hU)
        have q0 : (t.toList == []) = true := by rw [h0, Lib.toList_data]; rfl
        have hJ := Lib.hid hJ0
        clear hD ht h0 HB0 h7 hU hJ0 hf hoz HY hPre hx
        go_enter Try.func14, Try.ntmps14
        go_wp2_with (first
          | (go_at_call 18; (with_reducible refine Calls.mono HP.out ?_); rintro e w9 ⟨rfl, rfl⟩)
          | (go_at_call 11; (with_reducible refine Calls.mono hJ.out ?_); rintro e w1 ⟨rfl, hB1⟩))
        go_returns
        exact HF.out _ hB1
      · have hpos := size_pos h0
        have q0 : (t.toList == []) = false := lit_no2 h0
        have hU : underS D t = (outJ D ++ ⟨#[47]⟩) ++ t := by unfold underS; rw [if_neg h0, if_neg (fun h => h7 ⟨hpos, h⟩), if_pos hf]
        rw [hU] at HY ⊢
        generalize outJ D = o at *
        have hadd1 := fun W => run_string_add_sum (P := Try.prog) (w := W) o ⟨#[47]⟩ (by show o.size + 1 ≤ _; omega)
        have hadd2 := fun W => run_string_add_sum (P := Try.prog) (w := W) (o ++ ⟨#[47]⟩) t (by rw [ByteArray.size_append]; show o.size + 1 + t.size ≤ _; omega)
        have hS := Lib.hid (fun W => split_any (o ++ ⟨#[47]⟩ ++ t) W (by rw [ByteArray.size_append, ByteArray.size_append]; show o.size + 1 + t.size ≤ _; omega))
        unfold SplitPost at hS
        have hJ := Lib.hid hJ0
        clear hD ht h0 HB0 h7 hU hJ0 hf hoz hPre hx hpos
        go_enter Try.func14, Try.ntmps14
        go_wp2_with (first
          | (go_at_call 18; (with_reducible refine Calls.mono HP.out ?_); rintro e w9 ⟨rfl, rfl⟩)
          | (go_at_call 11; (with_reducible refine Calls.mono hJ.out ?_); rintro e w1 ⟨rfl, hB1⟩)
          | (go_at_call 9; (with_reducible refine Calls.mono (hS.out _) ?_); rintro e w2 ⟨v1, rfl, hv, hB⟩; have HV := Lib.hid hv; clear hv))
        go_returns
        exact HY.out _ _ HV.out (below_th hB1 hB)
    · have hU : underS D t = ⟨#[]⟩ := by
        unfold underS
        by_cases h0 : t = ⟨#[]⟩
        · rw [if_pos h0]
        · rw [if_neg h0, if_neg (fun h => h7 ⟨size_pos h0, h⟩), if_neg hf]
      rw [(join_no hf).1, (join_no hf).2] at hJ0
      have HF := Lib.hid (HB0.out hU)
      have hJ := Lib.hid hJ0
      clear hD ht HB0 h7 hU hJ0 hf HY hPre hx
      go_enter Try.func14, Try.ntmps14
      go_wp2_with (first
        | (go_at_call 18; (with_reducible refine Calls.mono HP.out ?_); rintro e w9 ⟨rfl, rfl⟩)
        | (go_at_call 11; (with_reducible refine Calls.mono hJ.out ?_); rintro e w1 ⟨rfl, hB1⟩))
      go_returns
      exact HF.out _ hB1
end
end Go.Proofs.Ytgmpfkhcohlijaa.Pth
