/- The document's Bytes of names. -/
import Derived.Test.YtafbkagoajcmeaaDirRefR
namespace Go.Proofs.Ytafbkagoajcmeaa.Dir.R
open Go.RowKit
attribute [local go_sem] Oper.semAt_some
set_option linter.unusedVariables false
set_option linter.unusedSimpArgs false
theorem bytesL_take (L : List N) {k : Nat} (h : k < L.length) : bytesL (L.take (k + 1)) = bytesL (L.take k) ++ ent (nm L k) := by rw [take_snoc h, bytesL_snoc]
theorem take_size_le (L : List N) (k : Nat) : (bytesL (L.take k)).size ≤ (bytesL L).size := by
  conv => rhs; rw [← List.take_append_drop k L]
  rw [bytesL_app, ByteArray.size_append]
  omega
section
set_option maxRecDepth 100000
set_option maxHeartbeats 8000000
theorem bytes_any (v : Value) (L : List N) (w : World) (hL : Nms w v L) (hsz : (bytesL L).size ≤ 1000000) (hin : ∀ i, i < L.length → (nm L i).ino < 4294967296) : Calls Try.prog 38 #[v] w (Ans w (.string (bytesL L))) := by
  obtain ⟨a, cap, rfl, hcap1, hcap2⟩ := hL.parts
  have HL := Lib.hid hL
  have HS := Lib.hid (fun k (h : k < L.length) => bytesL_take L h)
  have HZ := Lib.hid (fun k => Nat.le_trans (take_size_le L k) hsz)
  have HI := Lib.hid hin
  have HE : Hid (bytesL (L.take L.length) = bytesL L) := by unfold Hid; rw [List.take_length]
  obtain ⟨n, hn⟩ : ∃ n, L.length = n := ⟨_, rfl⟩
  have HN := Lib.hid hn
  obtain ⟨st, hst⟩ : ∃ st : Nat → ByteArray, (fun k => bytesL (L.take k)) = st := ⟨_, rfl⟩
  have hst' : ∀ k, bytesL (L.take k) = st k := fun k => congrFun hst k
  have h0 : st 0 = ⟨#[]⟩ := by rw [← hst' 0]; rfl
  simp only [hst'] at HS HZ HE
  rw [hn] at HL HS HI HE hcap1 ⊢
  obtain ⟨Z, hZ⟩ : ∃ Z, bytesL L = Z := ⟨_, rfl⟩
  rw [hZ] at HE ⊢
  clear hL hin hsz hn hst hst' hZ
  obtain ⟨W0, rfl⟩ : ∃ W0 : World, W0 = w := ⟨_, rfl⟩
  go_enter Try.func38, Try.ntmps38
  go_wp2
  go_loopw [3, 4] (fun s i wr => ∃ k : Nat, k ≤ n ∧ i = .int .i64 (k : Int) ∧ s = .string (st k) ∧ Hid (Below W0.heap.size W0 wr)) (fun _ i _ => n - (intOf i).toNat)
  case atStart => exact ⟨0, by omega, rfl, by rw [h0], Below.refl _ _⟩
  case round =>
    obtain ⟨k, hk, rfl, rfl, HB⟩ := hrel
    clear h0
    by_cases hlt : k < n
    · have h1 := (HL.out.below HB.out).at (k := k) (by rw [HN.out]; exact hlt)
      rw [HN.out] at h1
      obtain ⟨b, off, cap2, e2, c0, c1⟩ := h1
      cases e2
      have HC := Lib.hid (fun W (h : Below wr.heap.size wr W) => ((HL.out.below HB.out).below h).get HN.out hlt)
      unfold Reads at HC
      have hS := HS.out k hlt
      have hz := HZ.out k
      have hz2 := HZ.out (k + 1)
      have hi4 := HI.out k hlt
      obtain ⟨q, hq⟩ : ∃ q, st (k + 1) = q := ⟨_, rfl⟩
      obtain ⟨t, ht⟩ : ∃ t, st k = t := ⟨_, rfl⟩
      rw [hq] at hS hz2
      rw [ht] at hS hz ⊢
      obtain ⟨e, he⟩ : ∃ e, nm L k = e := ⟨_, rfl⟩
      rw [he] at c0 c1 hS hi4
      rw [he] at HC
      obtain ⟨x, y⟩ := e
      dsimp only at c0 c1 hi4 HC
      unfold ent at hS
      dsimp only at hS
      have hxz : x.size ≤ 1000000 := by
        rw [hS] at hz2
        simp only [ByteArray.size_append] at hz2
        omega
      have e8 : (256 : Nat) ^ 8 = 18446744073709551616 := by decide
      have P1 := Lib.hid (fun W => bytes_ref y 4 W (by omega) (by omega) (by omega))
      have P2 := Lib.hid (fun W => bytes_ref x.size 2 W (by omega) (by omega) (by omega))
      obtain ⟨B1, hB1⟩ : ∃ B, numB y 4 = B := ⟨_, rfl⟩
      obtain ⟨B2, hB2⟩ : ∃ B, numB x.size 2 = B := ⟨_, rfl⟩
      have z1 : B1.size = 4 := by rw [← hB1, numB_size]
      have z2 : B2.size = 2 := by rw [← hB2, numB_size]
      simp only [hB1, hB2] at P1 P2 hS
      simp only [app_assoc] at hS
      have wy : IntKind.u64.wrap (y : Int) = y := by rw [IntKind.wrap_u64]; omega
      have wx : IntKind.u64.wrap (x.size : Int) = x.size := by rw [IntKind.wrap_u64]; omega
      have hadd1 := fun W => run_string_add_sum (P := Try.prog) (w := W) t B1 (by omega)
      have hadd2 := fun W => run_string_add_sum (P := Try.prog) (w := W) (t ++ B1) B2 (by simp only [ByteArray.size_append]; omega)
      have hadd3 := fun W => run_string_add_sum (P := Try.prog) (w := W) (t ++ B1 ++ B2) x (by simp only [ByteArray.size_append]; omega)
      have HQS := Lib.hid (hq.trans hS)
      have hself : Below wr.heap.size wr wr := Below.refl _ _
      have hself2 : Below wr.heap.size wr wr.drew := hself.drew
      clear hS hq ht he hB1 hB2 e8 hz2 hi4
      go_wp2
      go_region_held3 (fun w' => (w'.cell? ⟨b, off + k * 2, none⟩ = some (.string x) ∧ w'.cell? ⟨b, off + k * 2 + 1, none⟩ = some (.int .u32 (y : Int)))) (exact HC.out _ (by assumption)) (first
        | (go_at_call 52; (with_reducible refine Calls.mono (P1.out _) ?_); rintro e w2 ⟨rfl, hBn⟩; have := below_th (by assumption : Below wr.heap.size wr _) hBn)
        | (go_at_call 52; (with_reducible refine Calls.mono (P2.out _) ?_); rintro e w2 ⟨rfl, hBn⟩; have := below_th (by assumption : Below wr.heap.size wr _) hBn))
      have HB3 := Lib.hid (below_th HB.out (by assumption : Below wr.heap.size wr _))
      go_wp2
      go_roundw
      case rel => exact ⟨k + 1, by omega, by go_num, by rw [HQS.out], HB3.out⟩
      case measure => simp [intOf]; omega
    · obtain rfl : k = n := by omega
      go_wp2
      go_ret
      exact ⟨by rw [← HE.out]; rfl, HB.out⟩
end
end Go.Proofs.Ytafbkagoajcmeaa.Dir.R
