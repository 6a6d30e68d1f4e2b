/- A block of the table, of the program. -/
import Derived.Test.YtoedjemelblpaaaCpsBytes0
import Derived.Test.YtoedjemelblpaaaCpsChk
namespace Go.Proofs.Ytoedjemelblpaaa.Cps
open Go.RowKit Go.Shelf
attribute [local go_sem] Oper.semAt_some
set_option linter.unusedVariables false
set_option linter.unusedSimpArgs false

section
set_option maxRecDepth 100000
set_option maxHeartbeats 4000000
theorem dput_any (n : Nat) (k : Nat) (w : World) (hn : n < 256 ^ k) (h1 : 1 ≤ k) (h2 : k ≤ 8) : Calls Try.prog 63 #[.int .u64 n, .int .i64 k] w fun e w' => e = .returned (.string (numB n k)) ∧ Below w.heap.size w w' := by
  have hok : putOk n k := ⟨by omega, by omega, by simpa using hn⟩
  have hp := put_any n k w (Nat.lt_of_lt_of_le hn (Nat.pow_le_pow_right (by decide) h2))
  rw [putS_yes hok, putE_yes hok, Int.toNat_natCast] at hp
  clear hok hn
  go_enter Try.func63, Try.ntmps63
  go_wp2_with (go_at_call 71; refine hp.mono ?_; rintro e w' ⟨rfl, hB⟩)
  go_ret
  exact ⟨rfl, hB⟩
theorem dtake_any (s : ByteArray) (a k : Nat) (w : World) (hs : s.size ≤ 281474976710656) (h1 : 1 ≤ k) (h2 : k ≤ 8) (hk : a + k ≤ s.size) : Calls Try.prog 72 #[.string s, .int .i64 a, .int .i64 k] w fun e w' => e = .returned (.int .u64 (takeN s a k)) ∧ Below w.heap.size w w' := by
  have hok : takeOk s a k := ⟨by omega, by omega, by omega, by omega⟩
  have hp := take_any s a k w hs (by omega)
  rw [takeV_yes hok, takeE_yes hok, Int.toNat_natCast, Int.toNat_natCast] at hp
  clear hok
  go_enter Try.func72, Try.ntmps72
  go_wp2_with (go_at_call 75; refine hp.mono ?_; rintro e w' ⟨rfl, hB⟩)
  go_ret
  exact ⟨rfl, hB⟩
theorem flagOf_any (c : C) (w : World) : Calls Try.prog 64 #[c.val] w fun e w' => e = .returned (.int .u64 (flagN c)) ∧ Below w.heap.size w w' := by
  have HB := below_new w (boxO c)
  obtain ⟨n, ti, sn, ro⟩ := c
  unfold C.val
  unfold boxO at HB
  dsimp only at HB ⊢
  cases sn with
  | true =>
    go_enter Try.func64, Try.ntmps64
    go_wp2
    go_ret
    exact ⟨rfl, HB⟩
  | false =>
    go_enter Try.func64, Try.ntmps64
    go_wp2
    go_ret
    exact ⟨rfl, HB⟩
theorem blockOf_any (v : Value) (M : List C) (w : World) (hL : Chs w v M) (h9 : M.length ≤ 9) (hf : ∀ i, i < M.length → fineP (ck M i)) : Calls Try.prog 49 #[v] w (Ans w (.string (blkB M))) := by
  obtain ⟨a, cap, rfl, hn, hm⟩ := hL.parts
  have HL := Lib.hid hL
  obtain ⟨N, hN⟩ : ∃ N, M.length = N := ⟨_, rfl⟩
  have hsz : ∀ k, k ≤ N → (saidK M k).size = 55 * k := fun k hk => saidK_size k (fun j hj => (hf j (by omega)).2.2)
  have hszN := hsz N (Nat.le_refl _)
  have hfo : fitOk (saidK M N) 508 := by
    unfold fitOk
    omega
  have hfit := fun W => fit_any (saidK M N) 508 W (by rw [hszN]; omega)
  rw [fitS_yes hfo, fitE_yes hfo] at hfit
  have hbl : blkB M = saidK M N ++ zeros ((508 : Int).toNat - (saidK M N).size) := by unfold blkB; rw [hN, hszN]; rfl
  rw [← hbl] at hfit
  have HF := Lib.hid hfit
  have HSZ := Lib.hid hsz
  have HSU := Lib.hid (fun k => show saidK M (k + 1) = saidK M k ++ chB (ck M k) from rfl)
  have HFT := Lib.hid hf
  obtain ⟨x, hx⟩ : ∃ x, blkB M = x := ⟨_, rfl⟩
  obtain ⟨sk, hsk⟩ : ∃ sk, saidK M = sk := ⟨_, rfl⟩
  have hsk0 : Hid (sk 0 = (⟨#[]⟩ : ByteArray)) := by rw [← hsk]; rfl
  rw [hx] at HF ⊢
  rw [hsk] at HF
  simp only [hsk] at HSZ HSU
  rw [hN] at HL hn h9 HFT ⊢
  have HN := Lib.hid hN
  clear hL hf hfo hfit hbl hx hsk hN hsz hszN
  obtain ⟨W0, rfl⟩ : ∃ W0 : World, W0 = w := ⟨_, rfl⟩
  go_enter Try.func49, Try.ntmps49
  go_wp2
  go_loopw [3, 5, 10] (fun t _ i wr => ∃ k : Nat, k ≤ N ∧ i = .int .i64 (k : Int) ∧ t = .string (sk k) ∧ Below W0.heap.size W0 wr) (fun _ _ i _ => N - (intOf i).toNat)
  case atStart => exact ⟨0, by omega, rfl, by rw [hsk0.out], Below.refl _ _⟩
  case round =>
    obtain ⟨k, hk, rfl, rfl, hB⟩ := hrel
    have hskz := HSZ.out k hk
    by_cases hlt : k < N
    · obtain ⟨b, off, cap2, e2, c0, c1, c2, c3⟩ := ((HL.out).below hB).at (k := k) (by rw [HN.out]; exact hlt)
      rw [HN.out] at e2
      cases e2
      obtain ⟨o1, o2, o3⟩ := HFT.out k hlt
      have hS := HSU.out k
      unfold chB at hS
      obtain ⟨st, hst⟩ : ∃ st, sk k = st := ⟨_, rfl⟩
      obtain ⟨q, hq⟩ : ∃ q, sk (k + 1) = q := ⟨_, rfl⟩
      rw [hst, hq] at hS
      rw [hst] at hskz
      have hfl := flagN_lt (ck M k)
      have hfo := fun W => flagOf_any (ck M k) W
      obtain ⟨fl, hfle⟩ : ∃ fl, flagN (ck M k) = fl := ⟨_, rfl⟩
      rw [hfle] at hS hfl hfo
      obtain ⟨W2, hW2⟩ : ∃ W2, wr.alloc (boxO (ck M k)) = W2 := ⟨_, rfl⟩
      have hA : At W2 wr.heap.size (ck M k) := by rw [← hW2]; exact At.new wr _
      have hB2 : Below W0.heap.size W0 W2 := by rw [← hW2]; exact below_al hB _
      obtain ⟨y, hy⟩ : ∃ y, ck M k = y := ⟨_, rfl⟩
      rw [hy] at c0 c1 c2 c3 hS hA hW2 o1 o2 o3 hfo
      obtain ⟨ncp, ti, sn, ro⟩ := y
      unfold boxO at hW2
      unfold C.val at hfo
      dsimp only at c0 c1 c2 c3 hS hW2 o1 o2 o3 hfo
      have P1 := Lib.hid (fun W => dput_any ncp 6 W (by omega) (by omega) (by omega))
      have P2 := Lib.hid (fun W => dput_any ti 6 W (by omega) (by omega) (by omega))
      have P3 := Lib.hid (fun W => dput_any fl 1 W (by omega) (by omega) (by omega))
      have P4 := Lib.hid hfo
      obtain ⟨C1, hC1⟩ : ∃ x, numB ncp 6 = x := ⟨_, rfl⟩
      obtain ⟨C2, hC2⟩ : ∃ x, numB ti 6 = x := ⟨_, rfl⟩
      obtain ⟨C3, hC3⟩ : ∃ x, numB fl 1 = x := ⟨_, rfl⟩
      have z1 : C1.size = 6 := by rw [← hC1, numB_size]
      have z2 : C2.size = 6 := by rw [← hC2, numB_size]
      have z3 : C3.size = 1 := by rw [← hC3, numB_size]
      simp only [hC1, hC2, hC3] at P1 P2 P3 hS
      have HCE : Hid (∀ W, Below W2.heap.size W2 W → W.cell? ⟨wr.heap.size, 0, none⟩ = some (.int .u64 (ncp : Int)) ∧ W.cell? ⟨wr.heap.size, 1, none⟩ = some (.int .u64 (ti : Int)) ∧ W.cell? ⟨wr.heap.size, 2, none⟩ = some (.bool sn) ∧ W.cell? ⟨wr.heap.size, 3, none⟩ = some (.string ro)) := fun W hW => (hA.th hW).c
      have HSS := Lib.hid hS
      have HQ := Lib.hid hq
      have HB2 := Lib.hid hB2
      have hself : Below W2.heap.size W2 W2 := Below.refl _ _
      have hself2 : Below W2.heap.size W2 W2.drew := hself.drew
      have hadd1 := fun W => run_string_add_sum (P := Try.prog) (w := W) C1 C2 (by omega)
      have hadd2 := fun W => run_string_add_sum (P := Try.prog) (w := W) (C1 ++ C2) C3 (by simp only [ByteArray.size_append]; omega)
      have hadd3 := fun W => run_string_add_sum (P := Try.prog) (w := W) (C1 ++ C2 ++ C3) ro (by simp only [ByteArray.size_append]; omega)
      have hadd4 := fun W => run_string_add_sum (P := Try.prog) (w := W) st (C1 ++ C2 ++ C3 ++ ro) (by simp only [ByteArray.size_append]; omega)
      clear hC1 hC2 hC3 hS hq hA hB2 hy hB hfo hfle
      go_wp2
      go_region_held3 (fun w' => (w'.cell? ⟨wr.heap.size, 0, none⟩ = some (.int .u64 (ncp : Int)) ∧ w'.cell? ⟨wr.heap.size, 1, none⟩ = some (.int .u64 (ti : Int)) ∧ w'.cell? ⟨wr.heap.size, 2, none⟩ = some (.bool sn) ∧ w'.cell? ⟨wr.heap.size, 3, none⟩ = some (.string ro))) (exact HCE.out _ (by assumption)) (first
        | (go_at_call 63; with_reducible refine Calls.mono (P1.out _) ?_; rintro e w' ⟨rfl, hBn⟩; have := below_th (by assumption : Below W2.heap.size W2 _) hBn)
        | (go_at_call 63; with_reducible refine Calls.mono (P2.out _) ?_; rintro e w' ⟨rfl, hBn⟩; have := below_th (by assumption : Below W2.heap.size W2 _) hBn)
        | (go_at_call 64; with_reducible refine Calls.mono (P4.out _) ?_; rintro e w' ⟨rfl, hBn⟩; have := below_th (by assumption : Below W2.heap.size W2 _) hBn)
        | (go_at_call 63; with_reducible refine Calls.mono (P3.out _) ?_; rintro e w' ⟨rfl, hBn⟩; have := below_th (by assumption : Below W2.heap.size W2 _) hBn))
      have HBZ2 := Lib.hid (below_th HB2.out (by assumption : Below W2.heap.size W2 _))
      go_wp2
      go_roundw
      case rel => exact ⟨k + 1, by omega, by go_num, by rw [HQ.out, HSS.out], HBZ2.out⟩
      case measure => simp [intOf]; omega
    · obtain rfl : N = k := by omega
      go_wp2_with (go_at_call 65; refine (HF.out _).mono ?_; rintro e w' ⟨rfl, hBf⟩)
      go_ret
      exact ⟨rfl, below_th hB hBf⟩
end
end Go.Proofs.Ytoedjemelblpaaa.Cps
