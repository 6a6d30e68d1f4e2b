/- The document's pieces. -/
import Derived.Test.YtgmpfkhcohlijaaPathPcs
namespace Go.Proofs.Ytgmpfkhcohlijaa.Pth
open Go.RowKit Nam
attribute [local go_sem] Oper.semAt_some
set_option linter.unusedVariables false
set_option linter.unusedSimpArgs false
theorem grown_of_below {W W' : World} (h : Below W.heap.size W W') : W.grownBy W' none := ⟨h.1, h.2, h.3, h.4, fun k hk _ => h.5 k hk⟩
theorem own_below2 {w w' : World} {base n : Nat} {t : TypeId} {sz : Nat} {v : Value} {xs : List Value} (h : w.ownsRow base t sz v n xs) (hB : Below w.heap.size w w') : w'.ownsRow base t sz v n xs :=
  h.kept (grown_of_below hB) (by cases hv : v.ownBlock <;> simp)
namespace R
section
set_option maxRecDepth 100000
set_option maxHeartbeats 8000000
theorem pieces_any (s : ByteArray) (w : World) (hs : s.size ≤ 2000) : Calls Try.prog 22 #[.string s] w fun e w' => ∃ v, e = .returned v ∧ w'.ownsRow w.heap.size 9 1 v (pcs s).length ((pcs s).map .string) ∧ Below w.heap.size w w' := by
  obtain ⟨i0, hi, hz0, hz1, hz2⟩ := info_parts infoStr
  have HR : Hid (∀ P v w', pcs s = P → w'.ownsRow w.heap.size 9 1 v P.length (P.map .string) → Below w.heap.size w w' → ∃ v', Ending.returned v = .returned v' ∧ w'.ownsRow w.heap.size 9 1 v' (pcs s).length ((pcs s).map .string) ∧ Below w.heap.size w w') := fun P v w' h1 h2 h3 => ⟨v, rfl, by rw [h1]; exact h2, h3⟩
  go_enter Try.func22, Try.ntmps22
  go_wp2
  go_loopw [3, 4, 5] (fun v fr i wr => ∃ (P : List ByteArray) (f k : Nat), i = .int .i64 (k : Int) ∧ fr = .int .i64 (f : Int) ∧ k ≤ s.size + 1 ∧ f ≤ k ∧ P.length ≤ k ∧ Hid (free s f k) ∧ Hid (k ≤ s.size → pcs s = P ++ pcsF s f) ∧ Hid (k = s.size + 1 → pcs s = P) ∧ Hid (wr.ownsRow w.heap.size 9 1 v P.length (P.map .string)) ∧ Hid (Below w.heap.size w wr)) (fun _ _ i _ => s.size + 1 - (intOf i).toNat)
  case atStart => exact ⟨[], 0, 0, rfl, rfl, by omega, by omega, by simp, fun j h1 h2 => by omega, fun _ => rfl, fun h => by omega, World.ownsRow_nil _ _ _ _, Below.refl _ _⟩
  case round =>
    obtain ⟨P, f, k, rfl, rfl, hk, hf, hP, HF, HC, HD, HO, HB⟩ := hrel
    by_cases hle : k ≤ s.size
    · have hli : (k : Int) ≤ (s.size : Int) := by omega
      have hfk : (f : Int) ≤ (k : Int) := by omega
      have hcc := HC.out hle
      by_cases hke : k = s.size
      · have hq : ((k : Int) == (s.size : Int)) = true := by rw [hke]; simp
        have hx := pcs_end (s := s) (f := f) (by omega) (by rw [← hke]; exact HF.out)
        rw [← hke] at hx
        obtain ⟨x, hxe⟩ : ∃ x, s.extract f k = x := ⟨_, rfl⟩
        rw [hxe] at hx
        rw [hx] at hcc
        have HX1 : Hid (free s (k + 1) (k + 1)) := fun j h1 h2 => by omega
        have HX2 : Hid (k + 1 ≤ s.size → pcs s = (P ++ [x]) ++ pcsF s (k + 1)) := fun h => by omega
        have HX3 : Hid (k + 1 = s.size + 1 → pcs s = P ++ [x]) := fun _ => hcc
        have hke2 : k ≤ s.size := hle
        clear hx hcc hke
        have hnew : Strs (wr.alloc (.cells #[.string x] 9)) (.slice (some ⟨wr.heap.size, 0, none⟩) 1 1) [x] := Strs.one (World.alloc_heap_new wr _)
        have HNEW := Lib.hid hnew
        have HOWN := Lib.hid (own_below2 HO.out (below_new wr (.cells #[.string x] 9)))
        have HB2 := Lib.hid (below_al HB.out (.cells #[.string x] 9))
        clear hnew
        go_wp2_with (at_builtin; (refine wpList_append_strs rfl _ _ rfl rfl w.heap.size _ P.length (P.map .string) rfl HOWN.out _ [x] rfl HNEW.out (by show P.length + 1 ≤ _; omega) HB2.out.size ?_; intro v3 w3 hown3 hgrow3; have HO3 := Lib.hid hown3; have HB3 := Lib.hid (HB2.out.grown hgrow3 HB2.out.size (fun r e => ((HOWN.out).lt r e).1)); clear hown3 hgrow3))
        go_roundw
        case rel => exact ⟨P ++ [x], k + 1, k + 1, by go_num, by go_num, by omega, by omega, by rw [List.length_append]; show P.length + 1 ≤ _; omega, HX1.out, HX2.out, HX3.out, by rw [List.length_append, List.map_append]; exact HO3.out, HB3.out⟩
        case measure => simp [intOf]; omega
      · have hkl : k < s.size := by omega
        have hq : ((k : Int) == (s.size : Int)) = false := beq_eq_false_iff_ne.2 (by omega)
        have e3 : ∀ h : k < s.size, (((s[k]'h).toNat : Nat) : Int) = sbyte s k := fun h => by
          have : s.data.toList[k]? = some (s[k]'h) := Go.Proofs.byte_at s k h
          simp [sbyte, this]
        have hkl2 : (k : Int) < (s.size : Int) := by omega
        by_cases h7 : sb s k = 47
        · have hb : (sbyte s k == 47) = true := by rw [sbyte_eq, h7]; rfl
          have hx := pcs_here hf hkl HF.out h7
          obtain ⟨x, hxe⟩ : ∃ x, s.extract f k = x := ⟨_, rfl⟩
          rw [hxe] at hx
          rw [hx] at hcc
          have HX1 : Hid (free s (k + 1) (k + 1)) := fun j h1 h2 => by omega
          have HX2 : Hid (k + 1 ≤ s.size → pcs s = (P ++ [x]) ++ pcsF s (k + 1)) := fun h => by rw [List.append_assoc]; exact hcc
          have HX3 : Hid (k + 1 = s.size + 1 → pcs s = P ++ [x]) := fun h => by omega
          clear hx hcc hke h7
          have hnew : Strs (wr.alloc (.cells #[.string x] 9)) (.slice (some ⟨wr.heap.size, 0, none⟩) 1 1) [x] := Strs.one (World.alloc_heap_new wr _)
          have HNEW := Lib.hid hnew
          have HOWN := Lib.hid (own_below2 HO.out (below_new wr (.cells #[.string x] 9)))
          have HB2 := Lib.hid (below_al HB.out (.cells #[.string x] 9))
          clear hnew
          go_wp2_with (at_builtin; (refine wpList_append_strs rfl _ _ rfl rfl w.heap.size _ P.length (P.map .string) rfl HOWN.out _ [x] rfl HNEW.out (by show P.length + 1 ≤ _; omega) HB2.out.size ?_; intro v3 w3 hown3 hgrow3; have HO3 := Lib.hid hown3; have HB3 := Lib.hid (HB2.out.grown hgrow3 HB2.out.size (fun r e => ((HOWN.out).lt r e).1)); clear hown3 hgrow3))
          go_roundw
          case rel => exact ⟨P ++ [x], k + 1, k + 1, by go_num, by go_num, by omega, by omega, by rw [List.length_append]; show P.length + 1 ≤ _; omega, HX1.out, HX2.out, HX3.out, by rw [List.length_append, List.map_append]; exact HO3.out, HB3.out⟩
          case measure => simp [intOf]; omega
        · have hb : (sbyte s k == 47) = false := by rw [sbyte_eq]; exact beq_eq_false_iff_ne.2 (by omega)
          have HX1 : Hid (free s f (k + 1)) := fun j h1 h2 => by
            rcases Nat.lt_succ_iff_lt_or_eq.1 h2 with h | h
            · exact HF.out j h1 h
            · rw [h]; exact h7
          have HX2 : Hid (k + 1 ≤ s.size → pcs s = P ++ pcsF s f) := fun _ => hcc
          have HX3 : Hid (k + 1 = s.size + 1 → pcs s = P) := fun h => by omega
          clear hcc hke h7
          go_wp2
          go_roundw
          case rel => exact ⟨P, f, k + 1, by go_num, rfl, by omega, by omega, by omega, HX1.out, HX2.out, HX3.out, HO.out, HB.out⟩
          case measure => simp [intOf]; omega
    · have hli : ¬ (k : Int) ≤ (s.size : Int) := by omega
      have hke : k = s.size + 1 := by omega
      have HFIN := Lib.hid (HR.out P _ wr (HD.out hke) HO.out HB.out)
      clear hke hle
      go_wp2
      go_ret
      exact HFIN.out
end
end R
end Go.Proofs.Ytgmpfkhcohlijaa.Pth
