/- The program's block of numbers. -/
import Derived.Test.YtdakfdecfpebcaaBmpBld
namespace Go.Proofs.Ytdakfdecfpebcaa.Bmp
open Go.RowKit Ino
attribute [local go_sem] Oper.semAt_some
set_option linter.unusedVariables false
set_option linter.unusedSimpArgs false
section
set_option maxRecDepth 100000
set_option maxHeartbeats 4000000
theorem put4 (x : Nat) (W : World) (h : x < 4294967296) : Calls Try.prog 36 #[.int .u64 x, .int .i64 4] W fun e w' => e = .returned (.tuple #[.string (numB x 4), .int .i64 0]) ∧ Below W.heap.size W w' := by
  have hok : putOk x (4 : Nat) := ⟨by omega, by omega, by
    rw [Int.toNat_natCast, show (256 : Nat) ^ 4 = 4294967296 by decide]
    exact h⟩
  have hp := put_any x (4 : Nat) W (by rw [show (256 : Nat) ^ 8 = 18446744073709551616 by decide]; omega)
  rw [putS_yes hok, putE_yes hok, Int.toNat_natCast] at hp
  exact hp
theorem blockOf_any (v : Value) (L : List Nat) (w : World) (hL : U32s w v L) (hS : Small L) (hl : L.length ≤ 127) : Calls Try.prog 28 #[v] w (Ans w (.string (blkB L))) := by
  obtain ⟨a, cap, rfl, hc1, hc2⟩ := hL.parts
  have HL := Lib.hid hL
  have HT : Hid (∀ k, k < L.length → (numsB (L.take k)).data.toList ++ (numB (L.getD k 0) 4).data.toList = (numsB (L.take (k + 1))).data.toList) := fun k h => by rw [R.take_next h, lapp]
  have HZ : Hid (∀ k, k ≤ L.length → (numsB (L.take k)).data.toList.length = 4 * k) := fun k h => by
    have := numsB_size (L.take k)
    rw [List.length_take] at this
    rw [Array.length_toList]
    show (numsB (L.take k)).size = _
    omega
  have HSM : Hid (∀ k, k < L.length → L.getD k 0 < 4294967296) := fun k h => by
    rw [List.getD_eq_getElem?_getD, List.getElem?_eq_getElem h]
    exact hS _ (List.getElem_mem h)
  have HB : Hid (fitS (⟨(numsB (L.take L.length)).data.toList.toArray⟩ : ByteArray) 508 = blkB L) := by
    unfold Hid
    have e : (⟨(numsB (L.take L.length)).data.toList.toArray⟩ : ByteArray) = numsB L := by rw [List.take_length]
    rw [e]
    have hs := numsB_size L
    rw [fitS_yes ⟨by omega, by omega⟩]
    unfold blkB
    rw [hs]
    rfl
  have h0 : (numsB (L.take 0)).data.toList = [] := rfl
  obtain ⟨n, hn⟩ : ∃ n, L.length = n := ⟨_, rfl⟩
  have HN := Lib.hid hn
  obtain ⟨R, hR⟩ : ∃ R, blkB L = R := ⟨_, rfl⟩
  rw [hR] at HB ⊢
  rw [hn] at HL HT HZ HSM HB hc1 hl ⊢
  clear hL hS hn hR
  obtain ⟨W0, rfl⟩ : ∃ W0 : World, W0 = w := ⟨_, rfl⟩
  have hbn := bld_new W0
  have hbw := below_new W0 (.cells #[.pointer none, .slice none 0 0] 60)
  go_enter Try.func28, Try.ntmps28
  go_wp2
  go_loopw [12] (fun i wr => ∃ k : Nat, k ≤ n ∧ i = .int .i64 (k : Int) ∧ Hid (Bld wr W0.heap.size (numsB (L.take k)).data.toList) ∧ Hid (Below W0.heap.size W0 wr)) (fun i _ => n - (intOf i).toNat)
  case atStart => exact ⟨0, by omega, rfl, by rw [h0]; exact hbn, hbw⟩
  case round =>
    obtain ⟨k, hk, rfl, HBl, HBw⟩ := hrel
    clear h0 hbn hbw
    have hz := HZ.out k hk
    by_cases hlt : k < n
    · have hT := HT.out k hlt
      have hx := HSM.out k hlt
      obtain ⟨b, off, e1, c1⟩ := (HL.out.below HBw.out).get (k := k) (by rw [HN.out]; exact hlt)
      subst e1
      obtain ⟨x, hxx⟩ : ∃ x, L.getD k 0 = x := ⟨_, rfl⟩
      rw [hxx] at c1 hT hx
      have P1 := Lib.hid (fun W => put4 x W hx)
      have z1 : (numB x 4).size = 4 := numB_size x 4
      have wx : IntKind.u64.wrap (x : Int) = x := by rw [IntKind.wrap_u64]; omega
      have HT2 := Lib.hid hT
      have HP2 : Hid (∀ W, Bld W W0.heap.size (numsB (L.take k)).data.toList → Calls Try.prog 37 #[.pointer (some ⟨W0.heap.size, 0, none⟩), .string (numB x 4)] W fun e w' => e = .returned (.tuple #[.int .i64 (numB x 4).size, .nilIface]) ∧ Bld w' W0.heap.size ((numsB (L.take k)).data.toList ++ (numB x 4).data.toList) ∧ Below W0.heap.size W w') := fun W hb => write_any _ _ _ W hb (by omega)
      obtain ⟨B1, hB1⟩ : ∃ B, numB x 4 = B := ⟨_, rfl⟩
      simp only [hB1] at P1 HT2 HP2
      have HBA : Hid (∀ W, Below wr.heap.size wr W → Bld W W0.heap.size (numsB (L.take k)).data.toList) := fun W hb => bld_th HBl.out hb
      clear hT hxx hB1 hx z1 hz
      go_wp2_with (first
        | (go_at_call 36; (with_reducible refine Calls.mono (P1.out _) ?_); rintro e w2 ⟨rfl, hBn⟩)
        | (go_at_call 37; (with_reducible refine Calls.mono (HP2.out _ (HBA.out _ hBn)) ?_); rintro e w3 ⟨rfl, hb3, hBm⟩))
      have HFin : Hid (Bld w3 W0.heap.size (numsB (L.take (k + 1))).data.toList ∧ Below W0.heap.size W0 w3) := ⟨by rw [← HT2.out]; exact hb3, (below_th HBw.out hBn).trans hBm⟩
      go_roundw
      case rel => exact ⟨k + 1, by omega, by go_num, HFin.out.1, HFin.out.2⟩
      case measure => simp [intOf]; omega
    · obtain rfl : k = n := by omega
      have hbk := HB.out
      obtain ⟨l, hl9⟩ : ∃ l, (numsB (L.take k)).data.toList = l := ⟨_, rfl⟩
      rw [hl9] at hz hbk HBl
      have hsz : (⟨l.toArray⟩ : ByteArray).size = 4 * k := by show l.toArray.size = _; simpa using hz
      have HS := Lib.hid (Shf.Try.Builder_String_any W0.heap.size W0.heap.size l wr HBl.out (by have := bld_lt HBl.out; omega))
      have hE : fitE (⟨l.toArray⟩ : ByteArray) 508 = 0 := fitE_yes ⟨by omega, by omega⟩
      have HF : Hid (∀ W, Calls Try.prog 38 #[.string ⟨l.toArray⟩, .int .i64 508] W fun e w' => e = .returned (.tuple #[.string R, .int .i64 0]) ∧ Below W.heap.size W w') := fun W => by
        have := fit_any (⟨l.toArray⟩ : ByteArray) 508 W (by omega)
        rw [hbk, hE] at this
        exact this
      clear hl9 hz hbk hsz hE
      go_wp2_with (first
        | (go_at_call 39; (with_reducible refine Calls.mono HS.out ?_); rintro e w2 ⟨rfl, hBn⟩)
        | (go_at_call 38; (with_reducible refine Calls.mono (HF.out _) ?_); rintro e w3 ⟨rfl, hBm⟩))
      have HG : Hid (Below W0.heap.size W0 w3) := ((HBw.out).trans hBn).trans (hBm.mono (by have := (HBw.out.trans hBn).size; omega))
      go_ret
      exact ⟨rfl, HG.out⟩
end
end Go.Proofs.Ytdakfdecfpebcaa.Bmp
