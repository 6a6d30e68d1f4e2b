/- The program's numbers of blocks, one behind the other. -/
import Derived.Test.YtdakfdecfpebcaaBmpU32
import Derived.Test.YtdakfdecfpebcaaBmpFrx
namespace Go.Proofs.Ytdakfdecfpebcaa.Bmp
open Go.RowKit Ino
attribute [local go_sem] Oper.semAt_some
set_option linter.unusedVariables false
set_option linter.unusedSimpArgs false
instance (c : Nat) (L : List ByteArray) : Decidable (runsP c L) := by unfold runsP; infer_instance
theorem strs_get {w : World} {a : Option Addr} {n cap : Nat} {L : List ByteArray} (h : Strs w (.slice a n cap) L) {k : Nat} (hk : k < L.length) : ∃ b off, a = some ⟨b, off, none⟩ ∧ w.cell? ⟨b, off + k, none⟩ = some (.string (L.getD k ⟨#[]⟩)) := h.get hk
section
set_option maxRecDepth 100000
set_option maxHeartbeats 4000000
theorem joined_any (v : Value) (L : List ByteArray) (c : Nat) (w : World) (hL : Strs w v L) (hc : c ≤ 16129) (hl : L.length = (c + 126) / 127) :
    Calls Try.prog 33 #[v, .int .i64 c] w (U32Post (if runsP c L then some (runs c L L.length) else none) w) := by
  obtain ⟨a, cap, rfl, hc1, hc2⟩ := hL.parts
  have HYES : Hid ((∀ j, j < L.length → frontP (L.getD j ⟨#[]⟩) (chN c j)) → ∀ v W, U32s W v (runs c L L.length) → Below w.heap.size w W → U32Post (if runsP c L then some (runs c L L.length) else none) w (.returned (.tuple #[v, .int .i64 0])) W) := fun h v W h1 h2 => by
    rw [if_pos (show runsP c L from h)]
    exact ⟨v, rfl, h1, h2⟩
  have HNO : Hid (∀ k, k < L.length → ¬ frontP (L.getD k ⟨#[]⟩) (chN c k) → ∀ W, Below w.heap.size w W → U32Post (if runsP c L then some (runs c L L.length) else none) w (.returned (.tuple #[.slice none 0 0, .int .i64 130])) W) := fun k hk hn W h2 => by
    rw [if_neg (show ¬ runsP c L from fun h => hn (h k hk))]
    exact ⟨rfl, h2⟩
  obtain ⟨R, hR⟩ : ∃ R, U32Post (if runsP c L then some (runs c L L.length) else none) w = R := ⟨_, rfl⟩
  rw [hR] at HYES HNO ⊢
  have HGET := Lib.hid (fun W (h : Below w.heap.size w W) k (hk : k < L.length) => strs_get (hL.below h) hk)
  have HLEN : Hid (∀ k, k ≤ L.length → (runs c L k).length = min c (127 * k)) := fun k hk => runs_length k (by omega)
  have HSUC := Lib.hid (fun k => runs_succ c L k)
  have HFR : Hid (∀ k, k < L.length → ∀ W, Calls Try.prog 34 #[.string (L.getD k ⟨#[]⟩), .int .i64 (chN c k)] W (U32Post (if frontP (L.getD k ⟨#[]⟩) (chN c k) then some (firsts (L.getD k ⟨#[]⟩) (chN c k)) else none) W)) := fun k hk W => front_any _ _ W (by unfold chN; omega)
  obtain ⟨N, hN⟩ : ∃ N, L.length = N := ⟨_, rfl⟩
  simp only [hN] at HYES HNO HGET HLEN HFR hc1 ⊢
  clear hL hR hN hl
  obtain ⟨W0, rfl⟩ : ∃ W0 : World, W0 = w := ⟨_, rfl⟩
  go_enter Try.func33, Try.ntmps33
  go_wp2
  go_loopw [6, 13] (fun u i wr => ∃ k : Nat, k ≤ N ∧ i = .int .i64 (k : Int) ∧ Hid (∀ j, j < k → frontP (L.getD j ⟨#[]⟩) (chN c j)) ∧ Hid (Below W0.heap.size W0 wr) ∧ Hid (wr.ownsRow W0.heap.size 22 1 u (runs c L k).length ((runs c L k).map fun (n : Nat) => Value.int .u32 (n : Int)))) (fun _ i _ => N - (intOf i).toNat)
  case atStart => exact ⟨0, by omega, rfl, fun j hj => by omega, Below.refl _ _, World.ownsRow_nil _ _ _ _⟩
  case round =>
    obtain ⟨k, hk, rfl, HP, HBw, HOW⟩ := hrel
    have hln := HLEN.out k hk
    obtain ⟨_, _, e0, _, _⟩ := (U32s.own HOW.out).parts
    subst e0
    by_cases hlt : k < N
    · obtain ⟨bb, off, e1, c1⟩ := HGET.out _ HBw.out k hlt
      subst e1
      have hF := HFR.out k hlt
      have hsuc := HSUC.out k
      have hfl := firsts_length (L.getD k ⟨#[]⟩) (chN c k)
      have hm1 : min ((c : Int) - ((runs c L k).length : Int)) 127 = (chN c k : Int) := by rw [hln]; unfold chN; omega
      have hw1 : IntKind.i64.wrap ((c : Int) - ((runs c L k).length : Int)) = (c : Int) - ((runs c L k).length : Int) := by rw [IntKind.wrap_i64] <;> omega
      obtain ⟨q, hqq⟩ : ∃ q, chN c k = q := ⟨_, rfl⟩
      have hq127 : q ≤ 127 := by rw [← hqq]; unfold chN; omega
      have HPK : Hid (frontP (L.getD k ⟨#[]⟩) q → ∀ j, j < k + 1 → frontP (L.getD j ⟨#[]⟩) (chN c j)) := fun h j hj => by
        rcases Nat.lt_succ_iff_lt_or_eq.1 hj with h3 | h3
        · exact HP.out j h3
        · rw [h3, hqq]; exact h
      have HNK := Lib.hid (HNO.out k hlt)
      rw [hqq] at hF hsuc hfl hm1 HNK
      have HSUCK := Lib.hid hsuc
      obtain ⟨x, hx⟩ : ∃ x, L.getD k ⟨#[]⟩ = x := ⟨_, rfl⟩
      rw [hx] at hF hfl HNK HPK HSUCK c1
      have HOW2 := Lib.hid (fun W2 (h : Below wr.heap.size wr W2) => own_below2 HOW.out h)
      have HB2 := Lib.hid (fun W2 (h : Below wr.heap.size wr W2) => below_th HBw.out h)
      obtain ⟨rk, hrk⟩ : ∃ rk, runs c L k = rk := ⟨_, rfl⟩
      rw [hrk] at HOW2 HSUCK hm1 hw1 hln ⊢
      have hmb : rk.length ≤ 16129 := by omega
      obtain ⟨m, hm⟩ : ∃ m, rk.length = m := ⟨_, rfl⟩
      rw [hm] at HOW2 hm1 hw1 hmb ⊢
      have HM := Lib.hid hm
      clear hsuc hqq hx hrk hln hm HP HOW HBw
      by_cases hfp : frontP x q
      · rw [if_pos hfp] at hF
        have HPN := Lib.hid (HPK.out hfp)
        have HF := Lib.hid hF
        clear hfp hF HPK HNK
        go_wp2_with (first
          | (go_at_call 34; (with_reducible refine Calls.mono (HF.out _) ?_); rintro e w2 ⟨v9, rfl, hU, hB⟩; obtain ⟨a9, cap9, rfl, hq1, hq2⟩ := hU.parts; rw [hfl] at hU hq1; have hszb : W0.heap.size ≤ w2.heap.size := (HB2.out _ hB).size)
          | (at_builtin; refine wpList_append_u32s rfl _ _ rfl rfl W0.heap.size _ m (rk.map fun (n : Nat) => Value.int .u32 (n : Int)) rfl (HOW2.out _ hB) _ (firsts x q) rfl hU (by omega) hszb ?_; intro v' w3 hown' hgrow))
        obtain ⟨a8, n8, cap8, rfl⟩ : ∃ a n cap, v' = .slice a n cap := by
          rcases hown'.2 with ⟨hv, _⟩ | ⟨g, cap, cur, hv, _⟩
          · exact ⟨_, _, _, hv⟩
          · exact ⟨_, _, _, hv⟩
        have HLAST : Hid (Below W0.heap.size W0 w3 ∧ w3.ownsRow W0.heap.size 22 1 (.slice a8 n8 cap8) (runs c L (k + 1)).length ((runs c L (k + 1)).map fun (n : Nat) => Value.int .u32 (n : Int))) := by
          refine ⟨(HB2.out _ hB).grown hgrow hszb (fun r e => ((HOW2.out _ hB).lt r e).1), ?_⟩
          rw [HSUCK.out, List.length_append, List.map_append, HM.out]
          exact hown'
        go_roundw
        case rel => exact ⟨k + 1, by omega, by go_num, HPN.out, HLAST.out.1, HLAST.out.2⟩
        case measure => simp [intOf]; omega
      · rw [if_neg hfp] at hF
        have HF := Lib.hid hF
        have HNN := Lib.hid (HNK.out hfp)
        clear hfp hF HPK HNK
        go_wp2_with (go_at_call 34; (with_reducible refine Calls.mono (HF.out _) ?_); rintro e w2 ⟨rfl, hB⟩)
        first | exact HNN.out _ (HB2.out _ hB) | (go_returns; exact HNN.out _ (HB2.out _ hB))
    · obtain rfl : k = N := by omega
      have HF := Lib.hid (HYES.out HP.out _ _ (U32s.own HOW.out) HBw.out)
      clear HP HOW HBw
      go_wp2
      first | exact HF.out | (go_returns; exact HF.out)
end
end Go.Proofs.Ytdakfdecfpebcaa.Bmp
