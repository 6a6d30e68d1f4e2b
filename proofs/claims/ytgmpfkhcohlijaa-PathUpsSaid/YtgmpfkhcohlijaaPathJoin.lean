/- Within, Join of the program. -/
import Derived.Lib.Join
import Derived.Test.YtgmpfkhcohlijaaPathCut
import Derived.Test.YtgmpfkhcohlijaaPathRefU
import Derived.Test.YtgmpfkhcohlijaaNamIsN
namespace Go.Proofs.Ytgmpfkhcohlijaa.Pth
open Go.RowKit Nam
attribute [local go_sem] Oper.semAt_some
set_option linter.unusedVariables false
set_option linter.unusedSimpArgs false
theorem empty_is : ByteArray.empty = (⟨#[]⟩ : ByteArray) := rfl
theorem Strs.cells {w : World} {a : Option Addr} {n cap : Nat} {X : List ByteArray} (h : Strs w (.slice a n cap) X) (h0 : 0 < X.length) : ∃ b off, a = some ⟨b, off, none⟩ ∧ ∀ j, j < X.length → w.cell? ⟨b, off + j, none⟩ = some (.string (X.getD j ⟨#[]⟩)) := by
  obtain ⟨b, off, e, _⟩ := h.get h0
  refine ⟨b, off, e, fun j hj => ?_⟩
  obtain ⟨b2, off2, e2, h2⟩ := h.get hj
  rw [e] at e2
  cases e2
  exact h2
theorem withinB_nil (B : List ByteArray) : withinB [] B = true := decide_eq_true rfl
theorem drewN_below (w : World) (q : Nat) : Below w.heap.size w (w.drewN q) := by
  induction q with
  | zero => exact Below.refl _ _
  | succ q ih => exact ih.drew
section
set_option maxRecDepth 100000
set_option maxHeartbeats 8000000
theorem within_any (v1 v2 : Value) (X Y : List ByteArray) (w : World) (h1 : Strs w v1 X) (h2 : Strs w v2 Y) : Calls Try.prog 16 #[v1, v2] w (Ans w (.bool (withinB X Y))) := by
  obtain ⟨a1, c1, rfl, p1, q1⟩ := h1.parts
  obtain ⟨a2, c2, rfl, p2, q2⟩ := h2.parts
  by_cases hl : X.length ≤ Y.length
  case neg =>
    have HF := Lib.hid (within_long (A := X) (B := Y) (by omega))
    have g1 : ¬ (X.length : Int) ≤ (Y.length : Int) := by omega
    clear h1 h2 hl
    go_enter Try.func16, Try.ntmps16
    go_wp2
    go_ret
    exact ⟨by rw [HF.out]; rfl, Below.refl _ _⟩
  have g1 : (X.length : Int) ≤ (Y.length : Int) := by omega
  by_cases h0 : X.length = 0
  · have hX : X = [] := List.eq_nil_of_length_eq_zero h0
    have hE := Lib.hid (fun a2' d W => Shf.Try.slices_Equal_string_empty a1 a2' c1 0 d W (by decide))
    subst hX
    have HF := Lib.hid (withinB_nil Y)
    clear h1 h2 h0
    simp only [List.length_nil] at g1 p1 hl ⊢
    go_enter Try.func16, Try.ntmps16
    go_wp2_with (go_at_call 26; (with_reducible refine Calls.mono (hE.out _ _ _) ?_); rintro e w1 ⟨rfl, rfl⟩)
    go_ret
    exact ⟨by rw [HF.out]; rfl, Below.refl _ _⟩
  obtain ⟨b1, o1, rfl, k1⟩ := h1.cells (by omega)
  obtain ⟨b2, o2, rfl, k2⟩ := h2.cells (by omega)
  have hE := Lib.hid (fun d => Shf.Try.slices_Equal_string b1 o1 X.length c1 b2 o2 X.length d X Y w (Nat.le_refl _) hl (by omega) (by omega) k1 k2)
  have HF : Hid (decide (X = Y.take X.length) = withinB X Y) := by
    unfold Hid withinB
    exact decide_eq_decide.2 eq_comm
  clear h1 h2 k1 k2
  go_enter Try.func16, Try.ntmps16
  go_wp2_with (go_at_call 26; (with_reducible refine Calls.mono (hE.out _) ?_); rintro e w1 ⟨rfl, q, rfl⟩)
  go_ret
  exact ⟨by rw [← HF.out]; rfl, drewN_below _ _⟩
/-- a name or none, of a text of any size -/
theorem isName_all (s : ByteArray) (w : World) : Calls Try.prog 20 #[.string s] w (Ans w (.bool (nameB s))) := by
  by_cases h : s.size ≤ 281474976710656
  · exact isName_any s w h
  · have HN := Lib.hid (nameB_no (s := s) (fun h => by have := h.2.1; omega))
    have g1 : ((s.size : Int) ≥ 1) := by omega
    have g2 : ¬ ((s.size : Int) ≤ 59) := by omega
    clear h
    go_enter Try.func20, Try.ntmps20
    go_wp2
    go_ret
    exact ⟨by rw [HN.out]; rfl, Below.refl _ _⟩
theorem areNames_any (v : Value) (L : List ByteArray) (w : World) (hL : Strs w v L) : Calls Try.prog 24 #[v] w (Ans w (.bool (decide (∀ q ∈ L, nameP q)))) := by
  obtain ⟨a, cap, rfl, p1, q1⟩ := hL.parts
  have HG := Lib.hid (fun W (h : Below w.heap.size w W) k (hk : k < L.length) => (hL.below h).get (k := k) hk)
  have HI := Lib.hid (fun k W => isName_all (L.getD k ⟨#[]⟩) W)
  have HN : Hid (∀ k, k < L.length → ¬ nameP (L.getD k ⟨#[]⟩) → decide (∀ q ∈ L, nameP q) = false) := fun k hk h => decide_eq_false fun h2 => h (h2 _ (getD_mem hk))
  have HY : Hid ((∀ j, j < L.length → nameP (L.getD j ⟨#[]⟩)) → decide (∀ q ∈ L, nameP q) = true) := fun h => decide_eq_true fun q hq => by
    obtain ⟨j, hj, e⟩ := mem_getD hq
    rw [← e]; exact h j hj
  obtain ⟨D, hD⟩ : ∃ D, decide (∀ q ∈ L, nameP q) = D := ⟨_, rfl⟩
  obtain ⟨n, hn⟩ : ∃ n, L.length = n := ⟨_, rfl⟩
  rw [hD] at HN HY ⊢
  rw [hn] at HN HY HG p1 ⊢
  clear hL hD hn
  obtain ⟨W0, rfl⟩ : ∃ W0 : World, W0 = w := ⟨_, rfl⟩
  go_enter Try.func24, Try.ntmps24
  go_wp2
  go_loopw [4, 7] (fun _ i wr => ∃ k : Nat, k ≤ n ∧ i = .int .i64 (k : Int) ∧ Hid (∀ j, j < k → nameP (L.getD j ⟨#[]⟩)) ∧ Hid (Below W0.heap.size W0 wr)) (fun _ i _ => n - (intOf i).toNat)
  case atStart => exact ⟨0, by omega, rfl, fun j hj => by omega, Below.refl _ _⟩
  case round =>
    obtain ⟨k, hk, rfl, HA, HB⟩ := hrel
    by_cases hlt : k < n
    · obtain ⟨b, off, e1, c1⟩ := HG.out _ HB.out k hlt
      cases e1
      have hI := HI.out k
      have hN := HN.out k hlt
      have hA2 : nameP (L.getD k ⟨#[]⟩) → ∀ j, j < k + 1 → nameP (L.getD j ⟨#[]⟩) := fun h j hj => by
        rcases Nat.lt_succ_iff_lt_or_eq.1 hj with h2 | h2
        · exact HA.out j h2
        · rw [h2]; exact h
      have HA2 := Lib.hid hA2
      obtain ⟨x, hx⟩ : ∃ x, L.getD k ⟨#[]⟩ = x := ⟨_, rfl⟩
      rw [hx] at c1 hI hN HA2
      have hlt2 : (k : Int) < (n : Int) := by omega
      by_cases hnm : nameP x
      · rw [nameB_yes hnm] at hI
        have HI2 := Lib.hid hI
        have HA3 := Lib.hid (HA2.out hnm)
        clear hI hN hA2 hx hnm
        go_wp2_with (go_at_call 20; (with_reducible refine Calls.mono (HI2.out _) ?_); rintro e w2 ⟨rfl, hB2⟩; have HB2 := Lib.hid (below_th HB.out hB2))
        go_roundw
        case rel => exact ⟨k + 1, by omega, by go_num, HA3.out, HB2.out⟩
        case measure => simp [intOf]; omega
      · rw [nameB_no hnm] at hI
        have HI2 := Lib.hid hI
        have H1 := Lib.hid (hN hnm)
        clear hI hN hA2 hx hnm
        go_wp2_with (go_at_call 20; (with_reducible refine Calls.mono (HI2.out _) ?_); rintro e w2 ⟨rfl, hB2⟩; have HB2 := Lib.hid (below_th HB.out hB2))
        go_ret
        exact ⟨by rw [H1.out]; rfl, HB2.out⟩
    · obtain rfl : k = n := by omega
      have H1 := Lib.hid (HY.out HA.out)
      have hge : ¬ ((k : Int) < (k : Int)) := by omega
      go_wp2
      go_ret
      exact ⟨by rw [H1.out]; rfl, HB.out⟩
/-- what the library joins -/
theorem join_is : ∀ (p : ByteArray) (r : List ByteArray), (slash ++ (⟨(Lib.join ((p :: r).map (·.data.toList)) [47]).toArray⟩ : ByteArray)) = joinS (p :: r) := by
  have h : ∀ r : List ByteArray, (Lib.joinTail [47] (r.map (·.data.toList))) = (joinS r).data.toList := by
    intro r
    induction r with
    | nil => rfl
    | cons q r ih =>
      show ([47] ++ q.data.toList) ++ Lib.joinTail [47] (r.map (·.data.toList)) = _
      rw [ih, joinS, app_list, app_list]
      rfl
  intro p r
  apply ba_ext
  rw [List.map_cons, Lib.join_cons, h r, joinS, app_list, app_list, app_list]
  show [47] ++ (p.data.toList ++ (joinS r).data.toList) = ([47] ++ p.data.toList) ++ (joinS r).data.toList
  rw [List.append_assoc]
theorem join_len (p : ByteArray) (r : List ByteArray) : (Lib.join ((p :: r).map (·.data.toList)) [47]).length + 1 = szP (p :: r) := by
  have h := congrArg ByteArray.size (join_is p r)
  rw [joinS_size, ByteArray.size_append] at h
  rw [← h]
  show _ = 1 + (Lib.join ((p :: r).map (·.data.toList)) [47]).toArray.size
  rw [List.size_toArray]
  omega
theorem join_any (v : Value) (L : List ByteArray) (w : World) (hL : Strs w v L) : Calls Try.prog 11 #[v] w (Ans w (.tuple #[.string (joinV L), .int .i64 (joinE L)])) := by
  have hA := areNames_any v L w hL
  have HB : Hid (¬ fitJ L → ∀ W, Below w.heap.size w W → Ans w (.tuple #[.string (joinV L), .int .i64 (joinE L)]) (.returned (.tuple #[.string ⟨#[]⟩, .int .i64 120])) W) := fun h W hB => ⟨by rw [(join_no h).1, (join_no h).2], hB⟩
  have HY : Hid (fitJ L → ∀ W, Below w.heap.size w W → Ans w (.tuple #[.string (joinV L), .int .i64 (joinE L)]) (.returned (.tuple #[.string (outJ L), .int .i64 0])) W) := fun h W hB => ⟨by rw [(join_yes h).1, (join_yes h).2], hB⟩
  obtain ⟨a, cap, rfl, p1, q1⟩ := hL.parts
  by_cases hl : 40 < L.length
  · have HF := Lib.hid (HB.out (fun h => by have := h.1; omega))
    have g1 : (40 : Int) < (L.length : Int) := by omega
    clear hL hl hA
    go_enter Try.func11, Try.ntmps11
    go_wp2
    go_returns
    exact HF.out _ (Below.refl _ _)
  have g1 : ¬ (40 : Int) < (L.length : Int) := by omega
  by_cases hn : ∀ q ∈ L, nameP q
  case neg =>
    have HF := Lib.hid (HB.out (fun h => hn h.2.1))
    rw [decide_eq_false hn] at hA
    have HA := Lib.hid hA
    clear hL hl hA hn
    go_enter Try.func11, Try.ntmps11
    go_wp2_with (go_at_call 24; (with_reducible refine Calls.mono HA.out ?_); rintro e w1 ⟨rfl, hB1⟩)
    go_returns
    exact HF.out _ hB1
  rw [decide_eq_true hn] at hA
  have HA := Lib.hid hA
  have hsz := szP_names L hn
  have hjoin : ∃ t : ByteArray, slash ++ t = outJ L ∧ t.size ≤ 3000 ∧ ∀ W, Below w.heap.size w W → Calls Try.prog 25 #[.slice a L.length cap, .string ⟨#[47]⟩] W (Ans W (.string t)) := by
    cases L with
    | nil => exact ⟨⟨#[]⟩, by decide, by decide, fun W _ => (Shf.Try.strings_Join_none a cap ⟨#[47]⟩ W).mono fun e w' h => ⟨h.1, by rw [h.2]; exact Below.refl _ _⟩⟩
    | cons p r =>
      obtain ⟨b, off, e, hc⟩ := hL.cells (by simp)
      have hz := join_len p r
      refine ⟨⟨(Lib.join ((p :: r).map (·.data.toList)) [47]).toArray⟩, ?_, ?_, fun W hW => ?_⟩
      · rw [join_is]
        exact (if_neg (by simp)).symm
      · show (Lib.join ((p :: r).map (·.data.toList)) [47]).toArray.size ≤ _
        rw [List.size_toArray]
        omega
      · subst e
        have hc2 : ∀ (j : Nat) x, (p :: r)[j]? = some x → W.cell? ⟨b, off + j, none⟩ = some (.string x) := fun j x hj => by
          have hjl := (List.getElem?_eq_some_iff.1 hj).1
          have h1 := hc j hjl
          rw [List.getD_eq_getElem?_getD, hj] at h1
          exact (hW.cell (p := ⟨b, off + j, none⟩) (World.block_lt_of_cell? _ _ h1)).trans h1
        have hb : b < W.heap.size := World.block_lt_of_cell? _ _ (hc2 0 p rfl)
        exact Shf.Try.strings_Join b off cap (p :: r) ⟨#[47]⟩ W hc2 hb (by omega) p1 (by show (Lib.join ((p :: r).map (·.data.toList)) [47]).length ≤ _; omega)
  obtain ⟨t, ht, htz, hJ⟩ := hjoin
  have HJ := Lib.hid hJ
  have hoz := outJ_size L
  rw [← ht] at hoz
  have hadd := fun W => run_string_add_sum (P := Try.prog) (w := W) ⟨#[47]⟩ t (by show 1 + t.size ≤ _; omega)
  have hsl : slash = ⟨#[47]⟩ := rfl
  rw [hsl] at ht hoz
  have hone : ((⟨#[47]⟩ : ByteArray) ++ t).size = 1 + t.size := by rw [ByteArray.size_append]; rfl
  have hmx : (1000 < ((⟨#[47]⟩ : ByteArray) ++ t).size) ↔ 1000 < szP L := by rw [hoz]; omega
  by_cases hbig : 1000 < ((⟨#[47]⟩ : ByteArray) ++ t).size
  · have HF := Lib.hid (HB.out (fun h => by have := h.2.2; have := hmx.1 hbig; omega))
    have g2 : (1000 : Int) < 1 + (t.size : Int) := by omega
    clear hL hl hA hn hJ hoz hmx hbig ht hsl hsz hone HY HB
    go_enter Try.func11, Try.ntmps11
    go_wp2_with (first
      | (go_at_call 24; (with_reducible refine Calls.mono HA.out ?_); rintro e w1 ⟨rfl, hB1⟩)
      | (go_at_call 25; (with_reducible refine Calls.mono (HJ.out _ hB1) ?_); rintro e w2 ⟨rfl, hB2⟩))
    go_returns
    exact HF.out _ (below_th hB1 hB2)
  · have HF := Lib.hid (HY.out ⟨by omega, hn, by have := fun h => hbig (hmx.2 h); omega⟩)
    rw [← ht] at HF
    have g2 : ¬ (1000 : Int) < 1 + (t.size : Int) := by omega
    clear hL hl hA hn hJ hoz hmx hbig ht hsl hsz hone HY HB
    go_enter Try.func11, Try.ntmps11
    go_wp2_with (first
      | (go_at_call 24; (with_reducible refine Calls.mono HA.out ?_); rintro e w1 ⟨rfl, hB1⟩)
      | (go_at_call 25; (with_reducible refine Calls.mono (HJ.out _ hB1) ?_); rintro e w2 ⟨rfl, hB2⟩))
    go_returns
    exact HF.out _ (below_th hB1 hB2)
end
end Go.Proofs.Ytgmpfkhcohlijaa.Pth
