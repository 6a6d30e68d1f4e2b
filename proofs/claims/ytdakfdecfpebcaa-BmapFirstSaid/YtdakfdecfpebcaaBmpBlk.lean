/- The document's block of numbers. -/
import Derived.Test.YtdakfdecfpebcaaBmpWay
import Derived.Test.YtdakfdecfpebcaaNumRef
import Derived.Test.YtdakfdecfpebcaaNumFit
namespace Go.Proofs.Ytdakfdecfpebcaa.Bmp.R
open Go.RowKit Ino
attribute [local go_sem] Oper.semAt_some
set_option linter.unusedVariables false
set_option linter.unusedSimpArgs false
theorem take_next {L : List Nat} {k : Nat} (h : k < L.length) : numsB (L.take (k + 1)) = numsB (L.take k) ++ numB (L.getD k 0) 4 := by
  rw [List.take_add_one, List.getElem?_eq_getElem h, List.getD_eq_getElem?_getD, List.getElem?_eq_getElem h, numsB_app]
  congr 1
section
set_option maxRecDepth 100000
set_option maxHeartbeats 4000000
theorem block_any (v : Value) (L : List Nat) (w : World) (hL : U32s w v L) (hS : Small L) (hl : L.length ≤ 127) : Calls Try.prog 30 #[v] w (Ans w (.string (blkB L))) := by
  obtain ⟨a, cap, rfl, hc1, hc2⟩ := hL.parts
  have HL := Lib.hid hL
  have HT := Lib.hid (fun k (h : k < L.length) => take_next h)
  have HZ : Hid (∀ k, k ≤ L.length → (numsB (L.take k)).size = 4 * k) := fun k h => by rw [numsB_size, List.length_take]; omega
  have HSM : Hid (∀ k, k < L.length → L.getD k 0 < 4294967296) := fun k h => by
    rw [List.getD_eq_getElem?_getD, List.getElem?_eq_getElem h]
    exact hS _ (List.getElem_mem h)
  have HB : Hid (numsB (L.take L.length) ++ zeros (508 - 4 * L.length) = blkB L) := by unfold Hid blkB; rw [List.take_length]
  have h0 : numsB (L.take 0) = ⟨#[]⟩ := rfl
  obtain ⟨n, hn⟩ : ∃ n, L.length = n := ⟨_, rfl⟩
  have HN := Lib.hid hn
  obtain ⟨R, hR⟩ : ∃ R, blkB L = R := ⟨_, rfl⟩
  rw [hR] at HB ⊢
  rw [hn] at HL HT HZ HSM HB hc1 hl ⊢
  clear hL hS hn hR
  obtain ⟨W0, rfl⟩ : ∃ W0 : World, W0 = w := ⟨_, rfl⟩
  go_enter Try.func30, Try.ntmps30
  go_wp2
  go_loopw [3, 4] (fun s i wr => ∃ k : Nat, k ≤ n ∧ i = .int .i64 (k : Int) ∧ s = .string (numsB (L.take k)) ∧ Hid (Below W0.heap.size W0 wr)) (fun _ i _ => n - (intOf i).toNat)
  case atStart => exact ⟨0, by omega, rfl, by rw [h0], Below.refl _ _⟩
  case round =>
    obtain ⟨k, hk, rfl, rfl, HBw⟩ := hrel
    clear h0
    have hz := HZ.out k hk
    obtain ⟨st, hst⟩ : ∃ st, numsB (L.take k) = st := ⟨_, rfl⟩
    by_cases hlt : k < n
    · have hT := HT.out k hlt
      have hx := HSM.out k hlt
      obtain ⟨b, off, e1, c1⟩ := (HL.out.below HBw.out).get (k := k) (by rw [HN.out]; exact hlt)
      subst e1
      rw [hst] at hz hT ⊢
      obtain ⟨q, hq⟩ : ∃ q, numsB (L.take (k + 1)) = q := ⟨_, rfl⟩
      rw [hq] at hT
      obtain ⟨x, hxx⟩ : ∃ x, L.getD k 0 = x := ⟨_, rfl⟩
      rw [hxx] at c1 hT hx
      have P1 := Lib.hid (fun W => bytes_ref x 4 W (by rw [show (256 : Nat) ^ 8 = 18446744073709551616 by decide]; omega) (by omega) (by omega))
      obtain ⟨B1, hB1⟩ : ∃ B, numB x 4 = B := ⟨_, rfl⟩
      have z1 : B1.size = 4 := by rw [← hB1, numB_size]
      simp only [hB1] at P1 hT
      have wx : IntKind.u64.wrap (x : Int) = x := by rw [IntKind.wrap_u64]; omega
      have hadd1 := fun W => run_string_add_sum (P := Try.prog) (w := W) st B1 (by omega)
      have HQS := Lib.hid (hq.trans hT)
      clear hT hq hst hxx hB1 hx
      go_wp2_with (go_at_call 41; (with_reducible refine Calls.mono (P1.out _) ?_); rintro e w2 ⟨rfl, hBn⟩)
      have HB3 := Lib.hid (below_th HBw.out hBn)
      go_roundw
      case rel => exact ⟨k + 1, by omega, by go_num, by rw [HQS.out], HB3.out⟩
      case measure => simp [intOf]; omega
    · obtain rfl : k = n := by omega
      have hbk := HB.out
      rw [hst] at hz hbk ⊢
      obtain ⟨r, hr⟩ : ∃ r, 508 - 4 * k = r := ⟨_, rfl⟩
      rw [hr] at hbk
      have hr9 : r ≤ 508 := by omega
      have hwr : IntKind.i64.wrap (508 - (st.size : Int)) = (r : Int) := by rw [IntKind.wrap_i64]; omega
      have hmk : ∀ W : World, (Instr.makeSlice 58 (.int .i64 (r : Int)) (.int .i64 (r : Int))).run Try.prog W = .ok (.slice (some ⟨W.heap.size, 0, none⟩) r r) (W.alloc (.cells (madeCells #[.int .u8 0] r) 5)) := fun W =>
        run_make_row' (P := Try.prog) 58 5 (.int .u8 0) 1 Try.underlying58 infoByte rfl .i64 .i64 r (by omega) (by omega) W
      have hcv := conv_zeros _ _ _ (World.rowIs_made wr (.int .u8 0) r 5) r
      have hadd := fun W => run_string_add_sum (P := Try.prog) (w := W) st (zeros r) (by rw [zeros_size]; omega)
      have HBK := Lib.hid hbk
      have HBw2 := Lib.hid (below_al HBw.out (.cells (madeCells #[.int .u8 0] r) 5))
      clear hst hr hz
      go_wp2
      go_ret
      exact ⟨by rw [← HBK.out]; rfl, HBw2.out⟩
end
end Go.Proofs.Ytdakfdecfpebcaa.Bmp.R
