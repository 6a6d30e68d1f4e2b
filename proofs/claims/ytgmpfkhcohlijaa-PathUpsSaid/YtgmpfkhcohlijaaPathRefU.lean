/- The document's Under. -/
import Derived.Test.YtgmpfkhcohlijaaPathRefSp
namespace Go.Proofs.Ytgmpfkhcohlijaa.Pth
open Go.RowKit Nam
attribute [local go_sem] Oper.semAt_some
set_option linter.unusedVariables false
set_option linter.unusedSimpArgs false
/-- what is split, of a target in a directory -/
def underS (D : List ByteArray) (t : ByteArray) : ByteArray := if t = ⟨#[]⟩ then ⟨#[]⟩ else if sb t 0 = 47 then t else if fitJ D then (outJ D ++ ⟨#[47]⟩) ++ t else ⟨#[]⟩
theorem split_empty : splitD ⟨#[]⟩ = none := if_neg (by decide)
theorem size_pos {t : ByteArray} (h : ¬ t = ⟨#[]⟩) : 0 < t.size := by
  refine Nat.pos_of_ne_zero fun e => h (ba_ext ?_)
  have := size_list t
  rw [e] at this
  exact List.eq_nil_of_length_eq_zero this
namespace R
section
set_option maxRecDepth 100000
set_option maxHeartbeats 8000000
theorem under_any (v : Value) (D : List ByteArray) (t : ByteArray) (w : World) (hD : Strs w v D) (ht : t.size ≤ 140737488351232) : Calls Try.prog 15 #[v, .string t] w (SplitPost (underS D t) w) := by
  have HB0 : Hid (underS D t = ⟨#[]⟩ → ∀ w', Below w.heap.size w w' → SplitPost (underS D t) w (.returned (.tuple #[.slice none 0 0, .int .i64 120])) w') := fun h w' hB => split_bad (by rw [h]; exact split_empty) hB
  have HY : Hid (∀ v' w', Strs w' v' (splitV (underS D t)) → Below w.heap.size w w' → SplitPost (underS D t) w (.returned (.tuple #[v', .int .i64 (splitE (underS D t))])) w') := fun v' w' h1 h2 => ⟨v', rfl, h1, h2⟩
  obtain ⟨a, cap, rfl, hc1, hc2⟩ := hD.parts
  by_cases h0 : t = ⟨#[]⟩
  · have q0 : (t.toList == []) = true := by rw [h0, Lib.toList_data]; rfl
    have HF := Lib.hid (HB0.out (if_pos h0))
    clear hD ht h0 HB0 HY
    go_enter Try.func15, Try.ntmps15
    go_wp2
    go_returns
    exact HF.out _ (Below.refl _ _)
  have q0 : (t.toList == []) = false := lit_no2 h0
  have hpos := size_pos h0
  have hlt2 : (0 : Int) < (t.size : Int) := by omega
  have e3 : ∀ h : 0 < t.size, (((t[0]'h).toNat : Nat) : Int) = sbyte t 0 := fun h => by
    have : t.data.toList[0]? = some (t[0]'h) := Go.Proofs.byte_at t 0 h
    simp [sbyte, this]
  by_cases h7 : sb t 0 = 47
  · have hb : (sbyte t 0 == 47) = true := by rw [sbyte_eq, h7]; rfl
    have hU : underS D t = t := by unfold underS; rw [if_neg h0, if_pos h7]
    rw [hU] at HY ⊢
    have hS := Lib.hid (fun W => split_any t W (by omega))
    unfold SplitPost at hS
    clear hD ht h0 HB0 h7 hU
    go_enter Try.func15, Try.ntmps15
    go_wp2_with (go_at_call 10; (with_reducible refine Calls.mono (hS.out _) ?_); rintro e w1 ⟨v1, rfl, hv, hB⟩; have HV := Lib.hid hv; clear hv)
    go_returns
    exact HY.out _ _ HV.out hB
  · have hb : (sbyte t 0 == 47) = false := by rw [sbyte_eq]; exact beq_eq_false_iff_ne.2 (by omega)
    have hJ0 := join_any _ D w hD
    by_cases hf : fitJ D
    · have hU : underS D t = (outJ D ++ ⟨#[47]⟩) ++ t := by unfold underS; rw [if_neg h0, if_neg h7, if_pos hf]
      rw [hU] at HY ⊢
      rw [(join_yes hf).1, (join_yes hf).2] at hJ0
      have hoz : (outJ D).size ≤ 1000 := by rw [outJ_size]; have := hf.2.2; omega
      generalize outJ D = o at *
      have hadd1 := fun W => run_string_add_sum (P := Try.prog) (w := W) o ⟨#[47]⟩ (by show o.size + 1 ≤ _; omega)
      have hadd2 := fun W => run_string_add_sum (P := Try.prog) (w := W) (o ++ ⟨#[47]⟩) t (by rw [ByteArray.size_append]; show o.size + 1 + t.size ≤ _; omega)
      have hS := Lib.hid (fun W => split_any (o ++ ⟨#[47]⟩ ++ t) W (by rw [ByteArray.size_append, ByteArray.size_append]; show o.size + 1 + t.size ≤ _; omega))
      unfold SplitPost at hS
      have hJ := Lib.hid hJ0
      clear hD ht h0 HB0 h7 hU hJ0 hf hoz
      go_enter Try.func15, Try.ntmps15
      go_wp2_with (first
        | (go_at_call 12; (with_reducible refine Calls.mono hJ.out ?_); rintro e w1 ⟨rfl, hB1⟩)
        | (go_at_call 10; (with_reducible refine Calls.mono (hS.out _) ?_); rintro e w2 ⟨v1, rfl, hv, hB⟩; have HV := Lib.hid hv; clear hv))
      go_returns
      exact HY.out _ _ HV.out (below_th hB1 hB)
    · have hU : underS D t = ⟨#[]⟩ := by unfold underS; rw [if_neg h0, if_neg h7, if_neg hf]
      rw [(join_no hf).1, (join_no hf).2] at hJ0
      have HF := Lib.hid (HB0.out hU)
      have hJ := Lib.hid hJ0
      clear hD ht h0 HB0 h7 hU hJ0 hf HY
      go_enter Try.func15, Try.ntmps15
      go_wp2_with (go_at_call 12; (with_reducible refine Calls.mono hJ.out ?_); rintro e w1 ⟨rfl, hB1⟩)
      go_returns
      exact HF.out _ hB1
end
end R
end Go.Proofs.Ytgmpfkhcohlijaa.Pth
