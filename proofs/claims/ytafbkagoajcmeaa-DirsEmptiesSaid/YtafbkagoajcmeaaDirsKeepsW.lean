/- DirsKeeps, walked. -/
import Derived.Test.YtafbkagoajcmeaaDirShown
namespace Go.Proofs.Ytafbkagoajcmeaa.Dir
open Go.RowKit
set_option linter.unusedVariables false
set_option linter.unusedSimpArgs false
theorem idx_added {L : List N} {e : N} (hF : Fine (L ++ [e])) : idx (L ++ [e]) e.name = L.length :=
  idx_eq hF (by simp) (by rw [nm_last])
theorem idx_other {L : List N} {e : N} (hF : Fine (L ++ [e])) {s : ByteArray} (hs : ¬ s = e.name) :
    (idx (L ++ [e]) s < (L ++ [e]).length ↔ idx L s < L.length) ∧ (idx L s < L.length → nm (L ++ [e]) (idx (L ++ [e]) s) = nm L (idx L s)) := by
  have h1 : idx L s < L.length → idx (L ++ [e]) s = idx L s := fun h => idx_eq hF (by simp; omega) (by rw [nm_app h]; exact idx_is h)
  refine ⟨⟨fun h => ?_, fun h => ?_⟩, fun h => ?_⟩
  · have hl : (L ++ [e]).length = L.length + 1 := by simp
    have hn := idx_is h
    by_cases hk : idx (L ++ [e]) s < L.length
    · rw [nm_app hk] at hn
      have := idx_eq hF.pre hk hn
      omega
    · have hk2 : idx (L ++ [e]) s = L.length := by omega
      rw [hk2, nm_last] at hn
      exact absurd hn.symm hs
  · rw [h1 h]; simp; omega
  · rw [h1 h, nm_app h]
theorem find_other {L : List N} {e : N} (hF : Fine (L ++ [e])) {s : ByteArray} (hs : ¬ s = e.name) : findE (L ++ [e]) s = findE L s ∧ findV (L ++ [e]) s = findV L s := by
  obtain ⟨h1, h2⟩ := idx_other hF hs
  have hE : findE (L ++ [e]) s = findE L s := by
    unfold findE
    by_cases hp : nameP s
    · by_cases hi : idx L s < L.length
      · rw [if_neg (show ¬ ¬ nameP s from fun h => h hp), if_neg (show ¬ ¬ nameP s from fun h => h hp), if_pos hi, if_pos (h1.2 hi)]
      · rw [if_neg (show ¬ ¬ nameP s from fun h => h hp), if_neg (show ¬ ¬ nameP s from fun h => h hp), if_neg hi, if_neg (fun h => hi (h1.1 h))]
    · rw [if_pos hp, if_pos hp]
  refine ⟨hE, ?_⟩
  unfold findV
  rw [hE]
  by_cases h0 : findE L s = 0
  · rw [if_pos h0, if_pos h0, h2 (find_zero.1 h0).2]
  · rw [if_neg h0, if_neg h0]
/-- what the law asks of an added name -/
theorem keeps_facts {c name : ByteArray} {ino : Nat} {L : List N} (hD : DirP c L) (hi : ino < 4294967296) (h : addE L name ino = 0) :
    ∃ A, A = L ++ [⟨name, ino⟩] ∧ DirP (addV L name ino) A ∧ findE A name = 0 ∧ findV A name = ino ∧ dropV A name = c ∧ findE L name = 112 ∧ findV L name = 0 ∧ setE A name ino = 0 ∧ setV A name ino = addV L name ino := by
  obtain ⟨hn, hx, h0, hs⟩ := add_zero.1 h
  obtain ⟨hF, hb, hz⟩ := hD
  have he : fineE ⟨name, ino⟩ := ⟨hn, h0, hi⟩
  have hFA : Fine (L ++ [⟨name, ino⟩]) := hF.add he hx
  have hA : DirP (addV L name ino) (L ++ [⟨name, ino⟩]) := by
    rw [R.addV_zero h]
    refine ⟨hFA, rfl, ?_⟩
    rw [bytesL_snoc, ByteArray.size_append, ent_size]
    show (bytesL L).size + (6 + name.size) ≤ 20000
    omega
  have hxA : idx (L ++ [⟨name, ino⟩]) name = L.length := idx_added hFA
  have hl : (L ++ [(⟨name, ino⟩ : N)]).length = L.length + 1 := by simp
  have hfA : findE (L ++ [⟨name, ino⟩]) name = 0 := find_zero.2 ⟨hn, by omega⟩
  have hfL : findE L name = 112 := by
    unfold findE
    rw [if_neg (fun h => h hn), if_neg (by omega)]
  have hsE : setE (L ++ [⟨name, ino⟩]) name ino = 0 := by
    unfold setE
    rw [if_neg (fun h => h hfA), if_neg h0]
  refine ⟨_, rfl, hA, hfA, ?_, ?_, hfL, ?_, hsE, ?_⟩
  · unfold findV
    rw [if_pos hfA, hxA, nm_last]
  · unfold dropV
    rw [if_pos hfA, hxA, List.eraseIdx_append_of_length_le (Nat.le_refl _)]
    simp only [Nat.sub_self, List.eraseIdx_cons_zero, List.append_nil]
    exact hb
  · unfold findV
    rw [hfL, if_neg (by decide)]
  · unfold setV
    rw [if_pos hsE, hxA, R.addV_zero h]
    congr 1
    rw [List.set_append_right _ _ (Nat.le_refl _)]
    simp only [Nat.sub_self, List.set_cons_zero]
section
attribute [local go_sem] Oper.semAt_some
set_option maxRecDepth 100000
set_option maxHeartbeats 8000000
theorem DirsKeeps_walk (s name other : ByteArray) (i0 : Int) (w : World) (z0 : s.size ≤ 140737488351232) (z1 : name.size ≤ 140737488351232) (z2 : other.size ≤ 140737488351232) (w3 : (Lit.int .u32 i0).wf = true) : Calls Try.prog 5 #[.string s, .string name, .string other, .int .u32 i0] w fun e w' => e = .returned (.bool true) ∧ Below w.heap.size w w' := by
  obtain ⟨ino, rfl, hi⟩ := u32_nat w3
  clear w3
  have hcut := Lib.hid (fun W => cut_any s W (by omega))
  have hcz := cutB_size s
  obtain ⟨c, hc⟩ : ∃ c, cutB s = c := ⟨_, rfl⟩
  rw [hc] at hcz
  rw [hc] at hcut
  clear hc
  obtain ⟨D, hD⟩ := DirO.ex c
  have hA0 := fun W => add_any c name ino D W (by omega) (by omega) hi hD
  by_cases hbad : addEo D name ino = 0
  case neg =>
    generalize addVo D name ino = av at *
    generalize addEo D name ino = ae at *
    have hA := Lib.hid hA0
    clear hcz hD z0 z1 z2 hA0
    go_enter Try.func5, Try.ntmps5
    go_wp2_with (first
      | (go_at_call 9; refine (shown_any _).mono ?_; rintro e w1 ⟨rfl, hB1⟩)
      | (go_at_call 10; (with_reducible refine Calls.mono (hcut.out _) ?_); rintro e w2 ⟨rfl, rfl⟩)
      | (go_at_call 20; (with_reducible refine Calls.mono (hA.out _) ?_); rintro e w3 ⟨rfl, hB3⟩))
    go_ret
    exact ⟨rfl, below_th hB1 hB3⟩
  case pos =>
    cases D with
    | none => exact absurd hbad (by show ¬ (110 : Int) = 0; omega)
    | some L =>
      change addE L name ino = 0 at hbad
      obtain ⟨A, hAe, hDA, f1, f2, f3, f4, f5, f6, f7⟩ := keeps_facts hD hi hbad
      change DirP c L at hD
      simp only [addVo, addEo, hbad] at hA0
      generalize addV L name ino = a at *
      have hA := Lib.hid hA0
      clear hA0
      have haz : a.size ≤ 21000 := Nat.le_trans hDA.2.2 (by omega)
      have hF10 := fun W => find_any a name (some A) W (by omega) (by omega) hDA
      have hF20 := fun W => find_any c other (some L) W (by omega) (by omega) hD
      have hF30 := fun W => find_any a other (some A) W (by omega) (by omega) hDA
      have hX0 := fun W => drop_any a name (some A) W (by omega) (by omega) hDA
      have hF40 := fun W => find_any c name (some L) W (by omega) (by omega) hD
      have hS0 := fun W => set_any a name ino (some A) W (by omega) (by omega) hi hDA
      have hR0 := fun W => right_any a (some A) W (by omega) hDA
      simp only [findVo, findEo, dropVo, setVo, setEo, rightO, f1, f2, f3, f4, f5, f6, f7] at hF10 hF20 hF30 hX0 hF40 hS0 hR0
      have hF1 := Lib.hid hF10
      have hF2 := Lib.hid hF20
      have hF3 := Lib.hid hF30
      have hX := Lib.hid hX0
      have hF4 := Lib.hid hF40
      have hS := Lib.hid hS0
      have hR := Lib.hid hR0
      clear hF10 hF20 hF30 hX0 hF40 hS0 hR0
      have q1 : (a.toList == a.toList) = true := beq_yes rfl
      have q2 : (c.toList == c.toList) = true := beq_yes rfl
      by_cases ho : other = name
      · have q3 : (other.toList == name.toList) = true := beq_yes ho
        generalize findE L other = e1 at *
        generalize findE A other = e2 at *
        generalize findV L other = n1 at *
        generalize findV A other = n2 at *
        clear hcz hD hDA hAe haz f1 f2 f3 f4 f5 f6 f7 hbad ho z0 z1 z2
        go_enter Try.func5, Try.ntmps5
        go_wp2_with (first
          | (go_at_call 9; refine (shown_any _).mono ?_; rintro e w1 ⟨rfl, hB1⟩)
          | (go_at_call 10; (with_reducible refine Calls.mono (hcut.out _) ?_); rintro e w2 ⟨rfl, rfl⟩)
          | (go_at_call 20; (with_reducible refine Calls.mono (hA.out _) ?_); rintro e w3 ⟨rfl, hB3⟩)
          | (go_at_call 18; (with_reducible refine Calls.mono (hF1.out _) ?_); rintro e w4 ⟨rfl, hB4⟩)
          | (go_at_call 18; (with_reducible refine Calls.mono (hF2.out _) ?_); rintro e w5 ⟨rfl, hB5⟩)
          | (go_at_call 18; (with_reducible refine Calls.mono (hF3.out _) ?_); rintro e w6 ⟨rfl, hB6⟩)
          | (go_at_call 22; (with_reducible refine Calls.mono (hX.out _) ?_); rintro e w7 ⟨rfl, hB7⟩)
          | (go_at_call 18; (with_reducible refine Calls.mono (hF4.out _) ?_); rintro e w8 ⟨rfl, hB8⟩)
          | (go_at_call 24; (with_reducible refine Calls.mono (hS.out _) ?_); rintro e w9 ⟨rfl, hB9⟩)
          | (go_at_call 15; (with_reducible refine Calls.mono (hR.out _) ?_); rintro e w10 ⟨rfl, hB10⟩))
        go_ret
        exact ⟨rfl, below_th (below_th (below_th (below_th (below_th (below_th (below_th (below_th hB1 hB3) hB4) hB5) hB6) hB7) hB8) hB9) hB10⟩
      · obtain ⟨g1, g2⟩ : findE A other = findE L other ∧ findV A other = findV L other := by
          subst hAe
          exact find_other hDA.1 ho
        have q3 : (other.toList == name.toList) = false := beq_no ho
        rw [g1, g2] at hF3
        clear g1 g2
        generalize findE L other = e1 at *
        generalize findV L other = n1 at *
        clear hcz hD hDA hAe haz f1 f2 f3 f4 f5 f6 f7 hbad ho z0 z1 z2
        go_enter Try.func5, Try.ntmps5
        go_wp2_with (first
          | (go_at_call 9; refine (shown_any _).mono ?_; rintro e w1 ⟨rfl, hB1⟩)
          | (go_at_call 10; (with_reducible refine Calls.mono (hcut.out _) ?_); rintro e w2 ⟨rfl, rfl⟩)
          | (go_at_call 20; (with_reducible refine Calls.mono (hA.out _) ?_); rintro e w3 ⟨rfl, hB3⟩)
          | (go_at_call 18; (with_reducible refine Calls.mono (hF1.out _) ?_); rintro e w4 ⟨rfl, hB4⟩)
          | (go_at_call 18; (with_reducible refine Calls.mono (hF2.out _) ?_); rintro e w5 ⟨rfl, hB5⟩)
          | (go_at_call 18; (with_reducible refine Calls.mono (hF3.out _) ?_); rintro e w6 ⟨rfl, hB6⟩)
          | (go_at_call 22; (with_reducible refine Calls.mono (hX.out _) ?_); rintro e w7 ⟨rfl, hB7⟩)
          | (go_at_call 18; (with_reducible refine Calls.mono (hF4.out _) ?_); rintro e w8 ⟨rfl, hB8⟩)
          | (go_at_call 24; (with_reducible refine Calls.mono (hS.out _) ?_); rintro e w9 ⟨rfl, hB9⟩)
          | (go_at_call 15; (with_reducible refine Calls.mono (hR.out _) ?_); rintro e w10 ⟨rfl, hB10⟩))
        go_ret
        exact ⟨rfl, below_th (below_th (below_th (below_th (below_th (below_th (below_th (below_th hB1 hB3) hB4) hB5) hB6) hB7) hB8) hB9) hB10⟩
end
end Go.Proofs.Ytafbkagoajcmeaa.Dir
