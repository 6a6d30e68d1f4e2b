/- The document's with, used, Move, End. -/
import Derived.Test.YthfcjbfldokanaaDatRefA
import Derived.Test.YthfcjbfldokanaaDatMov
namespace Go.Proofs.Ythfcjbfldokanaa.Dat.R
open Go.RowKit
attribute [local go_sem] Oper.semAt_some
set_option linter.unusedVariables false

theorem make_any (base n : Nat) (C : Int) (hC : C = (n : Int)) (hn : n ≤ 4096) (W : World) (hb : base ≤ W.heap.size) : ∃ w2, (Instr.makeSlice 22 (.int .i64 0) (.int .i64 C)).run Try.prog W = .ok (.slice (some ⟨W.heap.size, 0, none⟩) 0 n) w2 ∧ w2.ownsRow base 40 3 (.slice (some ⟨W.heap.size, 0, none⟩) 0 n) 0 [] ∧ W.grownBy w2 none := by
  obtain ⟨i0, hi, hz0, hz1, hz2⟩ := info_parts infoTr
  subst hC
  exact run_make_own (P := Try.prog) W base 22 40 i0 (.agg #[.int .u32 0, .int .u64 0, .int .u64 0]) 3 Try.underlying22 hi hz0 hz1 .i64 .i64 n (by rw [hz2]; omega) (by unfold maxLen; omega) hb
theorem make_below {W w2 : World} (h : W.grownBy w2 none) : Below W.heap.size W w2 := (Below.refl _ W).grown h (Nat.le_refl _) (fun r e => by cases e)
/-- what with leaves -/
def wiV (M : List T) : List T := if RightP M then M else []
def wiE (M : List T) : Int := if RightP M then 0 else 80
section
set_option maxRecDepth 100000
set_option maxHeartbeats 2000000
theorem with_any (v : Value) (L : List T) (k : Nat) (t : T) (w : World) (hL : Trs w v L) (hk : k < L.length) (hle : L.length ≤ 4096) : Calls Try.prog 34 #[v, .int .i64 k, t.val] w (TabPost (wiV (L.set k t)) (wiE (L.set k t)) w) := by
  obtain ⟨i0, hin, hz0, hz1, hz2⟩ := info_parts infoTr
  obtain ⟨b, off, cap, rfl, _⟩ := hL.at (k := 0) (by omega)
  have hnew := below_new w (boxO t)
  have hA := At.new w t
  obtain ⟨N, hN⟩ : ∃ N, L.length = N := ⟨_, rfl⟩
  have hcap : N ≤ cap ∧ cap ≤ 9223372036854775807 := by
    obtain ⟨a1, cap1, e, g1, g2⟩ := hL.parts
    cases e
    omega
  obtain ⟨hcap1, hcap2⟩ := hcap
  have HCC := Lib.hid (fun W (hB : Below w.heap.size w W) => (hL.below hB).news)
  have HV := Lib.hid (cellsL_length L)
  have HO := Lib.hid (cellsL_one L)
  obtain ⟨w2, hm2, hown2, hgrow2⟩ := make_any w.heap.size N (N : Int) rfl (by omega) (w.alloc (boxO t)) hnew.size
  have hB2 := make_below hgrow2
  have hb2 := below_th hnew hB2
  rw [World.size_alloc] at hown2
  have HSet := Lib.hid (fun (W : World) (base g cap : Nat) (h : W.ownsRow base 40 3 (.slice (some ⟨g, 0, none⟩) N cap) N (cellsL L)) => own_set hN h (k := k) (by omega) t)
  obtain ⟨M, hM⟩ : ∃ M, L.set k t = M := ⟨_, rfl⟩
  have hMl : M.length = N := by rw [← hM, List.length_set, hN]
  have hR2 := fun (W : World) (g cap : Nat) (h : Trs W (.slice (some ⟨g, 0, none⟩) N cap) M) => right_any _ M W h
  unfold Ans at hR2
  simp only [hM] at HSet
  have HOwn : Hid (∀ (W : World) (base g cap : Nat), W.ownsRow base 40 3 (.slice (some ⟨g, 0, none⟩) N cap) N (cellsL M) → Trs W (.slice (some ⟨g, 0, none⟩) N cap) M) := fun W base g cap h => Trs.own (base := base) (by rw [hMl]; exact h)
  have HBX := Lib.hid (fun W (hB : Below (w.alloc (boxO t)).heap.size (w.alloc (boxO t)) W) => (hA.th hB).c)
  have hN1 : 1 ≤ N := by omega
  have hkN : k < N := by omega
  rw [hM]
  rw [hN] at HV hle ⊢
  obtain ⟨xs, hxs⟩ : ∃ xs, cellsL L = xs := ⟨_, rfl⟩
  simp only [hxs] at HCC HV HO HSet
  have HB0 := Lib.hid hnew
  have HB2 := Lib.hid hB2
  have Hb2 := Lib.hid hb2
  have HR2 := Lib.hid hR2
  have hsz2 := hb2.size
  obtain ⟨y0, y1, y2⟩ := (hA.th hB2).c
  clear hL hM hnew hA hN hMl hxs hB2 hb2 hR2 hk
  obtain ⟨ph, st, fi⟩ := t
  unfold T.val
  unfold boxO at HB0 HBX HB2 hm2 hgrow2
  dsimp only at *
  by_cases hr : RightP M
  · have HF : Hid (∀ (W : World) (v : Value), Trs W v M → Below w.heap.size w W → TabPost (wiV M) (wiE M) w (.returned (.tuple #[v, .int .i64 0])) W) := fun W v h1 h2 => ⟨v, by rw [show wiE M = 0 from if_pos hr], by rw [show wiV M = M from if_pos hr]; exact h1, h2⟩
    rw [rightB_yes hr] at HR2
    clear hr
    go_enter Try.func34, Try.ntmps34
    go_wp2_with (first
      | (at_builtin; (refine wpList_append_own _ rfl _ _ 22 rfl w.heap.size 40 i0 (.agg #[.int .u32 0, .int .u64 0, .int .u64 0]) 3 24 Try.underlying22 hin hz0 hz1 hz2 rfl (by decide) (.slice (some ⟨w.heap.size + 1, 0, none⟩) 0 N) 0 [] rfl hown2 ⟨b, off, none⟩ N cap xs rfl HV.out (HCC.out _ Hb2.out) HO.out (by unfold maxLen; omega) (by omega) hsz2 ?_; intro v3 w3 hown3 hgrow3 _; rw [Nat.zero_add, List.nil_append] at hown3; obtain ⟨g, cap3, rfl, hg, hc1, hc2⟩ := own_open hown3 (by omega); have hb13 := HB2.out.grown hgrow3 HB2.out.size (fun r e => Nat.le_of_eq (by simpa [Value.ownBlock] using e)); obtain ⟨z0, z1, z2⟩ := HBX.out _ hb13; obtain ⟨⟨u0, k0⟩, f0, ⟨u1, k1⟩, f1, ⟨u2, k2⟩, f2, hown4, hB4⟩ := HSet.out _ _ _ _ hown3; have HS3 := Lib.hid (HOwn.out _ _ _ _ hown4); have HB3 := Lib.hid ((below_th HB0.out hb13).trans (hB4.mono hg)); clear hown2 hown3 hown4 hB4))
      | (go_at_call 16; (with_reducible refine Calls.mono (HR2.out _ _ _ HS3.out) ?_); rintro e w4 ⟨rfl, hB4⟩))
    go_returns
    exact HF.out _ _ (HS3.out.below hB4) (below_th HB3.out hB4)
  · have HF : Hid (∀ (W : World), Below w.heap.size w W → TabPost (wiV M) (wiE M) w (.returned (.tuple #[.slice none 0 0, .int .i64 80])) W) := fun W h2 => by rw [show wiE M = 80 from if_neg hr]; exact tab_no _ (if_neg hr) h2
    rw [rightB_no hr] at HR2
    clear hr
    go_enter Try.func34, Try.ntmps34
    go_wp2_with (first
      | (at_builtin; (refine wpList_append_own _ rfl _ _ 22 rfl w.heap.size 40 i0 (.agg #[.int .u32 0, .int .u64 0, .int .u64 0]) 3 24 Try.underlying22 hin hz0 hz1 hz2 rfl (by decide) (.slice (some ⟨w.heap.size + 1, 0, none⟩) 0 N) 0 [] rfl hown2 ⟨b, off, none⟩ N cap xs rfl HV.out (HCC.out _ Hb2.out) HO.out (by unfold maxLen; omega) (by omega) hsz2 ?_; intro v3 w3 hown3 hgrow3 _; rw [Nat.zero_add, List.nil_append] at hown3; obtain ⟨g, cap3, rfl, hg, hc1, hc2⟩ := own_open hown3 (by omega); have hb13 := HB2.out.grown hgrow3 HB2.out.size (fun r e => Nat.le_of_eq (by simpa [Value.ownBlock] using e)); obtain ⟨z0, z1, z2⟩ := HBX.out _ hb13; obtain ⟨⟨u0, k0⟩, f0, ⟨u1, k1⟩, f1, ⟨u2, k2⟩, f2, hown4, hB4⟩ := HSet.out _ _ _ _ hown3; have HS3 := Lib.hid (HOwn.out _ _ _ _ hown4); have HB3 := Lib.hid ((below_th HB0.out hb13).trans (hB4.mono hg)); clear hown2 hown3 hown4 hB4))
      | (go_at_call 16; (with_reducible refine Calls.mono (HR2.out _ _ _ HS3.out) ?_); rintro e w4 ⟨rfl, hB4⟩))
    go_returns
    exact HF.out _ (below_th HB3.out hB4)
def hasB (L : List T) (i : Nat) : Bool := decide (hasP L i)
theorem used_any (v : Value) (L : List T) (i : Nat) (w : World) (hL : Trs w v L) (hi : i < 4294967296) : Calls Try.prog 36 #[v, .int .u32 i] w (Ans w (.bool (hasB L i))) := by
  obtain ⟨a, cap, rfl, hn, hm⟩ := hL.parts
  have wu : IntKind.u64.wrap (i : Int) = (i : Int) := by rw [IntKind.wrap_u64]; omega
  obtain ⟨N, hN⟩ : ∃ N, L.length = N := ⟨_, rfl⟩
  have wn : IntKind.u64.wrap (N : Int) = (N : Int) := by rw [IntKind.wrap_u64]; omega
  by_cases hlt : i < N
  · obtain ⟨b, off, c, e, c0, c1, c2⟩ := hL.at (k := i) (by omega)
    cases e
    have hf := free_any (tr L i)
    have hv : hasB L i = !freeB (tr L i) := by
      unfold hasB freeB
      by_cases hz : tr L i = T.zero
      · rw [decide_eq_true hz, decide_eq_false (fun h => h.2 hz)]; rfl
      · rw [decide_eq_false hz, decide_eq_true ⟨by omega, hz⟩]; rfl
    have HV := Lib.hid hv
    obtain ⟨x, hx⟩ : ∃ x, freeB (tr L i) = x := ⟨_, rfl⟩
    rw [hx] at hf HV
    unfold T.val at hf
    have HF := Lib.hid hf
    have g1 : (i : Int) < (N : Int) := by omega
    rw [hN] at hn ⊢
    clear hL hf hx hv hN
    go_enter Try.func36, Try.ntmps36
    go_wp2_with (go_at_call 33; (with_reducible refine Calls.mono (HF.out _) ?_); rintro e w1 ⟨rfl, hB1⟩)
    go_ret
    exact ⟨by rw [HV.out]; rfl, hB1⟩
  · have HV : Hid (hasB L i = false) := decide_eq_false (fun h => hlt (by have := h.1; omega))
    have g1 : ¬ (i : Int) < (N : Int) := by omega
    rw [hN] at hn ⊢
    clear hL hN hlt
    go_enter Try.func36, Try.ntmps36
    go_wp2
    go_ret
    exact ⟨by rw [HV.out]; rfl, Below.refl _ _⟩
end
end Go.Proofs.Ythfcjbfldokanaa.Dat.R
