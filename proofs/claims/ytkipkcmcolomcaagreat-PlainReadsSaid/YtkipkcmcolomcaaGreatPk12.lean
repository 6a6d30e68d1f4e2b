/- Several texts in one, each under its own heading. -/
import Derived.Test.YtkipkcmcolomcaaGreatPk04
import Derived.Test.YtkipkcmcolomcaaGreatPk05
/- The document's IsName, for seats that have no directories. -/
namespace Go.Proofs.YtkipkcmcolomcaaGreat.Nam.R
open Go.RowKit
attribute [local go_sem] Oper.semAt_some
set_option linter.unusedVariables false
set_option linter.unusedSimpArgs false
theorem lit_no {s : ByteArray} {l : List UInt8} (h : ¬ s = ⟨l.toArray⟩) : (s.toList == l) = false := by
  rw [beq_eq_false_iff_ne]
  intro he
  apply h
  apply ba_ext
  rw [← Lib.toList_data, he]
section
set_option maxRecDepth 100000
set_option maxHeartbeats 4000000
theorem isName_any (s : ByteArray) (w : World) : Calls Tryz.prog 130 #[.string s] w fun e w' => e = .returned (.bool (nameB s)) ∧ w = w' := by
  by_cases h1 : s.size < 1
  · have HN := Lib.hid (nameB_no (s := s) (fun h => by have := h.1; omega))
    have g1 : (s.size : Int) < 1 := by omega
    clear h1
    go_enter Tryz.func130, Tryz.ntmps130
    go_wp2
    go_ret
    exact ⟨by rw [HN.out]; rfl, rfl⟩
  have g1 : ¬ (s.size : Int) < 1 := by omega
  by_cases h2 : 59 < s.size
  · have HN := Lib.hid (nameB_no (s := s) (fun h => by have := h.2.1; omega))
    have g2 : (59 : Int) < (s.size : Int) := by omega
    clear h1 h2
    go_enter Tryz.func130, Tryz.ntmps130
    go_wp2
    go_ret
    exact ⟨by rw [HN.out]; rfl, rfl⟩
  have g2 : ¬ (59 : Int) < (s.size : Int) := by omega
  by_cases h3 : s = ⟨#[46]⟩
  · subst h3
    have HN := Lib.hid (nameB_no (s := ⟨#[46]⟩) (fun h => h.2.2.1 rfl))
    clear h1 h2 g1 g2
    go_enter Tryz.func130, Tryz.ntmps130
    go_wp2
    go_ret
    exact ⟨by rw [HN.out]; rfl, rfl⟩
  have g3 : (s.toList == [46]) = false := lit_no h3
  by_cases h4 : s = ⟨#[46, 46]⟩
  · subst h4
    have HN := Lib.hid (nameB_no (s := ⟨#[46, 46]⟩) (fun h => h.2.2.2.1 rfl))
    clear h1 h2 g1 g2 g3 h3
    go_enter Tryz.func130, Tryz.ntmps130
    go_wp2
    go_ret
    exact ⟨by rw [HN.out]; rfl, rfl⟩
  have g4 : (s.toList == [46, 46]) = false := lit_no h4
  have HT : Hid ((∀ i, i < s.size → ¬ sb s i = 0 ∧ ¬ sb s i = 47) → nameB s = true) := fun h => nameB_yes ⟨by omega, by omega, h3, h4, h⟩
  have HF : Hid ((∃ i, i < s.size ∧ (sb s i = 0 ∨ sb s i = 47)) → nameB s = false) := fun ⟨i, hi, hx⟩ => nameB_no fun h => by
    have := h.2.2.2.2 i hi
    rcases hx with hx | hx
    · exact this.1 hx
    · exact this.2 hx
  clear h3 h4
  go_enter Tryz.func130, Tryz.ntmps130
  go_wp2
  go_loop [3] (fun i => ∃ j : Nat, i = .int .i64 (j : Int) ∧ j ≤ s.size ∧ Hid (∀ q, q < j → ¬ sb s q = 0 ∧ ¬ sb s q = 47)) (fun i => (s.size : Nat) - (intOf i).toNat)
  case atStart => exact ⟨0, rfl, by omega, fun q h => by omega⟩
  case round =>
    obtain ⟨j, rfl, hj, HQ⟩ := hrel
    by_cases hlt : j < s.size
    · have e3 : ∀ h : j < s.size, (((s[j]'h).toNat : Nat) : Int) = sbyte s j := fun h => by
        have : s.data.toList[j]? = some (s[j]'h) := Go.Proofs.byte_at s j h
        simp [sbyte, this]
      by_cases hz : sb s j = 0
      · have hb : (sbyte s j == 0) = true := by rw [sbyte_eq, hz]; rfl
        have HN := Lib.hid (HF.out ⟨j, hlt, .inl hz⟩)
        clear hz
        go_wp2
        go_ret
        exact ⟨by rw [HN.out]; rfl, rfl⟩
      · have hb : (sbyte s j == 0) = false := by rw [sbyte_eq]; exact beq_eq_false_iff_ne.2 (by omega)
        by_cases hy : sb s j = 47
        · have hb2 : (sbyte s j == 47) = true := by rw [sbyte_eq, hy]; rfl
          have HN := Lib.hid (HF.out ⟨j, hlt, .inr hy⟩)
          clear hz hy
          go_wp2
          go_ret
          exact ⟨by rw [HN.out]; rfl, rfl⟩
        · have hb2 : (sbyte s j == 47) = false := by rw [sbyte_eq]; exact beq_eq_false_iff_ne.2 (by omega)
          have HN : Hid (∀ q, q < j + 1 → ¬ sb s q = 0 ∧ ¬ sb s q = 47) := fun q h => by
            rcases Nat.lt_succ_iff_lt_or_eq.1 h with h | h
            · exact HQ.out q h
            · rw [h]; exact ⟨hz, hy⟩
          clear hz hy
          go_wp2
          go_round
          case rel => exact ⟨j + 1, by go_num, by omega, HN⟩
          case measure => simp [intOf]; omega
    · obtain rfl : j = s.size := by omega
      have HN := Lib.hid (HT.out HQ.out)
      go_wp2
      go_ret
      exact ⟨by rw [HN.out]; rfl, rfl⟩
end
end Go.Proofs.YtkipkcmcolomcaaGreat.Nam.R
/- Texts in a slice, as paths' parts lie there. -/
namespace Go.Proofs.YtkipkcmcolomcaaGreat.Pth
open Go.RowKit Nam
attribute [local go_sem] Oper.semAt_some
set_option linter.unusedVariables false
set_option linter.unusedSimpArgs false
def Strs (w : World) (v : Value) (C : List ByteArray) : Prop := Lies w v C.length 1 (C.map .string)
theorem Strs.below {w w' : World} {v : Value} {C : List ByteArray} (h : Strs w v C) (hB : Below w.heap.size w w') : Strs w' v C := Lies.below h hB
theorem Strs.nil (w : World) : Strs w (.slice none 0 0) [] := Lies.nil w 1
theorem Strs.get {w : World} {a : Option Addr} {n cap : Nat} {X : List ByteArray} (h : Strs w (.slice a n cap) X) {k : Nat} (hk : k < X.length) : ∃ b off, a = some ⟨b, off, none⟩ ∧ w.cell? ⟨b, off + k, none⟩ = some (.string (X.getD k ⟨#[]⟩)) := by
  have hn : X.length = n := by
    obtain ⟨_, _, e, _⟩ := Lies.parts h
    cases e
    rfl
  unfold Strs at h
  rw [hn] at h
  exact Lies.read h (j := k) (u := .string (X.getD k ⟨#[]⟩)) (by rw [List.getElem?_map, List.getD_eq_getElem?_getD, List.getElem?_eq_getElem hk]; rfl)
theorem Strs.parts {w : World} {v : Value} {X : List ByteArray} (h : Strs w v X) : ∃ a cap, v = .slice a X.length cap ∧ X.length ≤ cap ∧ cap ≤ 9223372036854775807 := by
  obtain ⟨a, cap, e, _, h1, h2⟩ := Lies.parts h
  exact ⟨a, cap, e, h1, h2⟩
theorem getD_take {X : List ByteArray} {n j : Nat} (h : j < n) : (X.take n).getD j ⟨#[]⟩ = X.getD j ⟨#[]⟩ := by
  rw [List.getD_eq_getElem?_getD, List.getD_eq_getElem?_getD, List.getElem?_take_of_lt h]
theorem getD_ext {X Y : List ByteArray} (hl : X.length = Y.length) (h : ∀ i, i < X.length → X.getD i ⟨#[]⟩ = Y.getD i ⟨#[]⟩) : X = Y := by
  refine List.ext_getElem hl fun i h1 h2 => ?_
  have := h i h1
  rw [List.getD_eq_getElem?_getD, List.getD_eq_getElem?_getD, List.getElem?_eq_getElem h1, List.getElem?_eq_getElem h2] at this
  exact this
/-- is the first list what the second begins with? -/
def withinB (A B : List ByteArray) : Bool := decide (B.take A.length = A)
theorem within_long {A B : List ByteArray} (h : B.length < A.length) : withinB A B = false := decide_eq_false fun e => by
  have := congrArg List.length e
  rw [List.length_take] at this
  omega
theorem within_all {A B : List ByteArray} (hl : A.length ≤ B.length) (h : ∀ i, i < A.length → A.getD i ⟨#[]⟩ = B.getD i ⟨#[]⟩) : withinB A B = true := decide_eq_true
  (getD_ext (by rw [List.length_take]; omega) fun i hi => by
    have hi2 : i < A.length := by rw [List.length_take] at hi; omega
    rw [getD_take hi2]
    exact (h i hi2).symm)
theorem within_not {A B : List ByteArray} {k : Nat} (hk : k < A.length) (h : ¬ A.getD k ⟨#[]⟩ = B.getD k ⟨#[]⟩) : withinB A B = false := decide_eq_false fun e => h (by
  have h2 := getD_take (X := B) hk
  rw [e] at h2
  exact h2)
theorem within_same {A B : List ByteArray} : (withinB A B && decide (A.length = B.length)) = decide (A = B) := by
  unfold withinB
  by_cases h : A = B
  · subst h
    simp
  · by_cases hl : A.length = B.length
    · have : ¬ B.take A.length = A := by
        rw [hl, List.take_length]
        exact fun e => h e.symm
      simp [h, this]
    · simp [h, hl]
end Go.Proofs.YtkipkcmcolomcaaGreat.Pth
/- The document's Within, Same. -/
namespace Go.Proofs.YtkipkcmcolomcaaGreat.Pth
open Go.RowKit Nam
attribute [local go_sem] Oper.semAt_some
set_option linter.unusedVariables false
set_option linter.unusedSimpArgs false
theorem nat_beq (n m : Nat) : ((n : Int) == (m : Int)) = decide (n = m) := by
  by_cases h : n = m
  · rw [h]; simp
  · rw [decide_eq_false h]; exact beq_eq_false_iff_ne.2 (by omega)
namespace R
section
set_option maxRecDepth 100000
set_option maxHeartbeats 8000000
end
end R
end Go.Proofs.YtkipkcmcolomcaaGreat.Pth
/- The document's Join. -/
namespace Go.Proofs.YtkipkcmcolomcaaGreat.Pth
open Go.RowKit Nam
attribute [local go_sem] Oper.semAt_some
set_option linter.unusedVariables false
set_option linter.unusedSimpArgs false
def joinE (L : List ByteArray) : Int := if fitJ L then 0 else 120
def joinV (L : List ByteArray) : ByteArray := if fitJ L then outJ L else ⟨#[]⟩
theorem join_yes {L : List ByteArray} (h : fitJ L) : joinE L = 0 ∧ joinV L = outJ L := ⟨if_pos h, if_pos h⟩
theorem join_no {L : List ByteArray} (h : ¬ fitJ L) : joinE L = 120 ∧ joinV L = ⟨#[]⟩ := ⟨if_neg h, if_neg h⟩
theorem szP_names : ∀ L : List ByteArray, (∀ q ∈ L, nameP q) → szP L ≤ 60 * L.length
  | [], _ => Nat.le_refl _
  | p :: r, h => by
    have h1 := szP_names r fun q hq => h q (List.mem_cons_of_mem _ hq)
    have h2 := (h p (List.mem_cons_self ..)).2.1
    simp only [szP, List.length_cons]
    omega
theorem take_snocS {L : List ByteArray} {k : Nat} (h : k < L.length) : L.take (k + 1) = L.take k ++ [L.getD k ⟨#[]⟩] := by
  rw [List.take_add_one, List.getElem?_eq_getElem h, List.getD_eq_getElem?_getD, List.getElem?_eq_getElem h]
  rfl
theorem getD_mem {L : List ByteArray} {k : Nat} (h : k < L.length) : L.getD k ⟨#[]⟩ ∈ L := by
  rw [List.getD_eq_getElem?_getD, List.getElem?_eq_getElem h]
  exact List.getElem_mem h
theorem mem_getD {L : List ByteArray} {p : ByteArray} (h : p ∈ L) : ∃ k, k < L.length ∧ L.getD k ⟨#[]⟩ = p := by
  obtain ⟨k, hk, e⟩ := List.getElem_of_mem h
  exact ⟨k, hk, by rw [List.getD_eq_getElem?_getD, List.getElem?_eq_getElem hk]; exact e⟩
/-- the path of the first k parts -/
def stJ (L : List ByteArray) (k : Nat) : ByteArray := joinS (L.take k)
theorem stJ_next {L : List ByteArray} {k : Nat} (h : k < L.length) : stJ L (k + 1) = (stJ L k ++ ⟨#[47]⟩) ++ L.getD k ⟨#[]⟩ := by
  unfold stJ
  rw [take_snocS h, joinS_app, joinS, joinS, app_none, ← ByteArray.append_assoc]
  rfl
theorem stJ_size {L : List ByteArray} {k : Nat} (hk : k ≤ L.length) (h : ∀ j, j < k → nameP (L.getD j ⟨#[]⟩)) : (stJ L k).size ≤ 60 * k := by
  unfold stJ
  rw [joinS_size]
  have h1 := szP_names (L.take k) fun q hq => by
    obtain ⟨j, hj, e⟩ := mem_getD hq
    rw [List.length_take] at hj
    rw [getD_take (by omega)] at e
    rw [← e]
    exact h j (by omega)
  rw [List.length_take] at h1
  have : min k L.length = k := by omega
  rw [this] at h1
  exact h1
namespace R
section
set_option maxRecDepth 100000
set_option maxHeartbeats 8000000
theorem join_any (v : Value) (L : List ByteArray) (w : World) (hL : Strs w v L) : Calls Tryz.prog 166 #[v] w (Ans w (.tuple #[.string (joinV L), .int .i64 (joinE L)])) := by
  obtain ⟨a, cap, rfl, hc1, hc2⟩ := hL.parts
  by_cases hl : 40 < L.length
  · obtain ⟨h1, h2⟩ := join_no (L := L) (fun h => by have := h.1; omega)
    have H1 := Lib.hid h1
    have H2 := Lib.hid h2
    have g1 : (40 : Int) < (L.length : Int) := by omega
    clear hL hl h1 h2
    go_enter Tryz.func166, Tryz.ntmps166
    go_wp2
    go_returns
    exact ⟨by rw [H1.out, H2.out]; rfl, Below.refl _ _⟩
  · have HN : Hid (∀ k, k < L.length → ¬ nameP (L.getD k ⟨#[]⟩) → joinE L = 120 ∧ joinV L = ⟨#[]⟩) := fun k hk h => join_no fun hf => h (hf.2.1 _ (getD_mem hk))
    have HZ : Hid (∀ k, k ≤ L.length → (∀ j, j < k → nameP (L.getD j ⟨#[]⟩)) → (stJ L k).size ≤ 60 * k) := fun k hk h => stJ_size hk h
    have HS : Hid (∀ k, k < L.length → stJ L (k + 1) = (stJ L k ++ ⟨#[47]⟩) ++ L.getD k ⟨#[]⟩) := fun k hk => stJ_next hk
    have hall : ∀ h : ∀ j, j < L.length → nameP (L.getD j ⟨#[]⟩), ∀ q ∈ L, nameP q := fun h q hq => by
      obtain ⟨j, hj, e⟩ := mem_getD hq
      rw [← e]; exact h j hj
    have hend : stJ L L.length = joinS L := by unfold stJ; rw [List.take_length]
    have HE1 : Hid ((∀ j, j < L.length → nameP (L.getD j ⟨#[]⟩)) → 1000 < (stJ L L.length).size → joinE L = 120 ∧ joinV L = ⟨#[]⟩) := fun h1 h2 => join_no fun hf => by
      have := hf.2.2
      rw [hend, joinS_size] at h2
      omega
    have HE2 : Hid ((∀ j, j < L.length → nameP (L.getD j ⟨#[]⟩)) → ¬ 1000 < (stJ L L.length).size → joinE L = 0 ∧ joinV L = if stJ L L.length = ⟨#[]⟩ then slash else stJ L L.length) := fun h1 h2 => by
      rw [hend, joinS_size] at h2
      obtain ⟨e1, e2⟩ := join_yes (L := L) ⟨by omega, hall h1, by omega⟩
      refine ⟨e1, ?_⟩
      rw [e2, hend]
      unfold outJ
      by_cases h : L = []
      · rw [if_pos h, if_pos (joinS_none.2 h)]
      · rw [if_neg h, if_neg (fun e => h (joinS_none.1 e))]
    have h0 : stJ L 0 = ⟨#[]⟩ := rfl
    have HIN : Hid (∀ k, k < L.length → ∀ W, Calls Tryz.prog 130 #[.string (L.getD k ⟨#[]⟩)] W fun e w' => e = .returned (.bool (nameB (L.getD k ⟨#[]⟩))) ∧ W = w') := fun k hk W => Nam.R.isName_any _ W
    have HG := Lib.hid (fun W (h : Below w.heap.size w W) k (hk : k < L.length) => (hL.below h).get (k := k) hk)
    obtain ⟨st, hst⟩ : ∃ st, stJ L = st := ⟨_, rfl⟩
    obtain ⟨E, hE⟩ : ∃ E, joinE L = E := ⟨_, rfl⟩
    obtain ⟨V, hV⟩ : ∃ V, joinV L = V := ⟨_, rfl⟩
    obtain ⟨n, hn⟩ : ∃ n, L.length = n := ⟨_, rfl⟩
    rw [hst] at HZ HS HE1 HE2 h0
    rw [hE, hV] at HN HE1 HE2 ⊢
    rw [hn] at HN HZ HS HE1 HE2 HIN HG hc1 hl ⊢
    have hg1 : ¬ (40 : Int) < (n : Int) := by omega
    clear hL hall hend hst hE hV hn
    obtain ⟨W0, rfl⟩ : ∃ W0 : World, W0 = w := ⟨_, rfl⟩
    go_enter Tryz.func166, Tryz.ntmps166
    go_wp2
    go_loopw [4, 5, 6] (fun s i _ wr => ∃ k : Nat, k ≤ n ∧ i = .int .i64 (k : Int) ∧ s = .string (st k) ∧ Hid (∀ j, j < k → nameP (L.getD j ⟨#[]⟩)) ∧ Hid (Below W0.heap.size W0 wr)) (fun _ i _ _ => n - (intOf i).toNat)
    case atStart => exact ⟨0, by omega, rfl, by rw [h0], fun j hj => by omega, Below.refl _ _⟩
    case round =>
      obtain ⟨k, hk, rfl, rfl, HA, HB⟩ := hrel
      clear h0
      by_cases hlt : k < n
      · obtain ⟨b, off, e1, c1⟩ := HG.out _ HB.out k hlt
        cases e1
        have hI := HIN.out k hlt
        have hz := HZ.out k hk HA.out
        have hS := HS.out k hlt
        have hN := HN.out k hlt
        have hA2 : nameP (L.getD k ⟨#[]⟩) → ∀ j, j < k + 1 → nameP (L.getD j ⟨#[]⟩) := fun h j hj => by
          rcases Nat.lt_succ_iff_lt_or_eq.1 hj with h2 | h2
          · exact HA.out j h2
          · rw [h2]; exact h
        have HA2 := Lib.hid hA2
        obtain ⟨x, hx⟩ : ∃ x, L.getD k ⟨#[]⟩ = x := ⟨_, rfl⟩
        rw [hx] at c1 hI hS hN HA2
        by_cases hnm : nameP x
        · rw [nameB_yes hnm] at hI
          have hq := hnm.2.1
          have HI := Lib.hid hI
          have HA3 := Lib.hid (HA2.out hnm)
          obtain ⟨q, hq2⟩ : ∃ q, st (k + 1) = q := ⟨_, rfl⟩
          obtain ⟨t, ht⟩ : ∃ t, st k = t := ⟨_, rfl⟩
          rw [hq2, ht] at hS
          rw [ht] at hz ⊢
          have hadd1 := fun W => run_string_add_sum (P := Tryz.prog) (w := W) t ⟨#[47]⟩ (by show t.size + 1 ≤ _; omega)
          have hadd2 := fun W => run_string_add_sum (P := Tryz.prog) (w := W) (t ++ ⟨#[47]⟩) x (by rw [ByteArray.size_append]; show t.size + 1 + x.size ≤ _; omega)
          have HQS := Lib.hid (hq2.trans hS)
          clear hI hS hq2 ht hN hA2 hx hnm
          go_wp2_with (go_at_call 130; (with_reducible refine Calls.mono (HI.out _) ?_); rintro e w2 ⟨rfl, rfl⟩)
          go_roundw
          case rel => exact ⟨k + 1, by omega, by go_num, by rw [HQS.out], HA3.out, HB.out⟩
          case measure => simp [intOf]; omega
        · rw [nameB_no hnm] at hI
          have HI := Lib.hid hI
          obtain ⟨e1, e2⟩ := hN hnm
          have H1 := Lib.hid e1
          have H2 := Lib.hid e2
          clear hI hS hN hA2 hx hnm e1 e2
          go_wp2_with (go_at_call 130; (with_reducible refine Calls.mono (HI.out _) ?_); rintro e w2 ⟨rfl, rfl⟩)
          go_returns
          exact ⟨by rw [H1.out, H2.out]; rfl, HB.out⟩
      · obtain rfl : k = n := by omega
        have hz := HZ.out k hk HA.out
        have h1 := HE1.out HA.out
        have h2 := HE2.out HA.out
        obtain ⟨t, ht⟩ : ∃ t, st k = t := ⟨_, rfl⟩
        rw [ht] at h1 h2 hz ⊢
        clear ht
        by_cases hbig : 1000 < t.size
        · obtain ⟨e1, e2⟩ := h1 hbig
          have H1 := Lib.hid e1
          have H2 := Lib.hid e2
          have g1 : (1000 : Int) < (t.size : Int) := by omega
          clear h1 h2 e1 e2
          go_wp2
          go_returns
          exact ⟨by rw [H1.out, H2.out]; rfl, HB.out⟩
        · obtain ⟨e1, e2⟩ := h2 hbig
          have g1 : ¬ (1000 : Int) < (t.size : Int) := by omega
          by_cases h0 : t = ⟨#[]⟩
          · rw [if_pos h0] at e2
            have H1 := Lib.hid e1
            have H2 := Lib.hid e2
            subst h0
            clear h1 h2 e1 e2
            go_wp2
            go_returns
            exact ⟨by rw [H1.out, H2.out]; rfl, HB.out⟩
          · rw [if_neg h0] at e2
            have H1 := Lib.hid e1
            have H2 := Lib.hid e2
            have hq : (t.toList == []) = false := by
              rw [beq_eq_false_iff_ne]
              intro he
              apply h0
              apply ba_ext
              rw [← Lib.toList_data, he]
            clear h1 h2 e1 e2
            go_wp2
            go_returns
            exact ⟨by rw [H1.out, H2.out]; rfl, HB.out⟩
end
end R
end Go.Proofs.YtkipkcmcolomcaaGreat.Pth
