/- The document's Encode. -/
import Derived.Test.YtbadkbfcfcgfhaaNumRef
import Derived.Test.YtbadkbfcfcgfhaaInoEnc
namespace Go.Proofs.Ytbadkbfcfcgfhaa.Ino.R
open Go.RowKit Go.Shelf
attribute [local go_sem] Oper.semAt_some
set_option linter.unusedVariables false
set_option linter.unusedSimpArgs false
section
set_option maxRecDepth 100000
set_option maxHeartbeats 4000000
theorem encode_no (n : I) (hn : IOk n) (w : World) (h : ¬ RightP n) : Calls Try.prog 10 #[n.val] w (Ans w (.tuple #[.string (encS n), .int .i64 (encE n)])) := by
  have HS := Lib.hid (encS_no h)
  have HE := Lib.hid (encE_no h)
  have hr := fun W => right_any n hn W
  rw [rightB_no h] at hr
  have HB := below_new w (boxO n)
  unfold boxO at HB
  unfold I.val at hr ⊢
  clear h hn
  go_enter Try.func10, Try.ntmps10
  go_wp2_with (go_at_call 14; refine (hr _).mono ?_; rintro e w' ⟨rfl, hB⟩)
  go_ret2
  exact ⟨by rw [HS.out, HE.out]; rfl, below_th HB hB⟩
theorem encode_yes (kk mode links size time dd : Nat) (m : M) (n : I) (hI : n = ⟨kk, mode, links, size, time, dd, m⟩) (hn : IOk n) (hr : RightP n) (w : World) :
    Calls Try.prog 10 #[n.val] w (Ans w (.tuple #[.string (encS n), .int .i64 (encE n)])) := by
  have hF := Fits.of hr hn
  have hR := fun W => right_any n hn W
  rw [rightB_yes hr] at hR
  rw [encS_yes hr, encE_yes hr]
  have hby : bytes n = wholeK n 6 ++ ⟨#[0, 0]⟩ := rfl
  have HWS : Hid (∀ k, wholeK n (k + 1) = wholeK n k ++ numB (m.at' k) 4) := fun k => by rw [hI]; rfl
  have HWZ := Lib.hid (fun k => wholeK_size n k)
  have hsaid : wholeK n 0 = numB kk 1 ++ numB mode 2 ++ numB links 2 ++ numB size 4 ++ numB time 6 ++ numB dd 1 := by rw [hI]; rfl
  obtain ⟨wk, hwk⟩ : ∃ wk, wholeK n = wk := ⟨_, rfl⟩
  rw [hwk] at HWS HWZ hsaid hby
  rw [hby]
  have hend := fun W => run_string_add_sum (P := Try.prog) (w := W) (wk 6) ⟨#[0, 0]⟩ (by have := HWZ.out 6; show (wk 6).size + 2 ≤ _; omega)
  have HEND := Lib.hid hend
  have hA := At.new w n
  have hB := below_new w (boxO n)
  clear hby hwk hend
  subst hI
  obtain ⟨f1, f2, f3, f4, f5, f6, fm⟩ := hF
  dsimp only at f1 f2 f3 f4 f5 f6 fm
  have HMO := Lib.hid fm
  unfold I.val at hR ⊢
  unfold boxO at hA hB
  dsimp only at hR hA hB ⊢
  have HR := Lib.hid hR
  have w1 : IntKind.u64.wrap (kk : Int) = kk := by rw [IntKind.wrap_u64]; omega
  have w2 : IntKind.u64.wrap (mode : Int) = mode := by rw [IntKind.wrap_u64]; omega
  have w3 : IntKind.u64.wrap (links : Int) = links := by rw [IntKind.wrap_u64]; omega
  have w4 : IntKind.u64.wrap (size : Int) = size := by rw [IntKind.wrap_u64]; omega
  have w6 : IntKind.u64.wrap (dd : Int) = dd := by rw [IntKind.wrap_u64]; omega
  have e8 : (256 : Nat) ^ 8 = 18446744073709551616 := by decide
  have P1 := Lib.hid (fun W => bytes_ref kk 1 W (by omega) (by omega) (by omega))
  have P2 := Lib.hid (fun W => bytes_ref mode 2 W (by omega) (by omega) (by omega))
  have P3 := Lib.hid (fun W => bytes_ref links 2 W (by omega) (by omega) (by omega))
  have P4 := Lib.hid (fun W => bytes_ref size 4 W (by omega) (by omega) (by omega))
  have P5 := Lib.hid (fun W => bytes_ref time 6 W (by omega) (by omega) (by omega))
  have P6 := Lib.hid (fun W => bytes_ref dd 1 W (by omega) (by omega) (by omega))
  obtain ⟨B1, hB1⟩ : ∃ x, numB kk 1 = x := ⟨_, rfl⟩
  have z1 : B1.size = 1 := by rw [← hB1, numB_size]
  obtain ⟨B2, hB2⟩ : ∃ x, numB mode 2 = x := ⟨_, rfl⟩
  have z2 : B2.size = 2 := by rw [← hB2, numB_size]
  obtain ⟨B3, hB3⟩ : ∃ x, numB links 2 = x := ⟨_, rfl⟩
  have z3 : B3.size = 2 := by rw [← hB3, numB_size]
  obtain ⟨B4, hB4⟩ : ∃ x, numB size 4 = x := ⟨_, rfl⟩
  have z4 : B4.size = 4 := by rw [← hB4, numB_size]
  obtain ⟨B5, hB5⟩ : ∃ x, numB time 6 = x := ⟨_, rfl⟩
  have z5 : B5.size = 6 := by rw [← hB5, numB_size]
  obtain ⟨B6, hB6⟩ : ∃ x, numB dd 1 = x := ⟨_, rfl⟩
  have z6 : B6.size = 1 := by rw [← hB6, numB_size]
  simp only [hB1, hB2, hB3, hB4, hB5, hB6] at P1 P2 P3 P4 P5 P6 hsaid
  have hadd1 := fun W => run_string_add_sum (P := Try.prog) (w := W) B1 B2 (by omega)
  have hadd2 := fun W => run_string_add_sum (P := Try.prog) (w := W) (B1 ++ B2) B3 (by simp only [ByteArray.size_append]; omega)
  have hadd3 := fun W => run_string_add_sum (P := Try.prog) (w := W) (B1 ++ B2 ++ B3) B4 (by simp only [ByteArray.size_append]; omega)
  have hadd4 := fun W => run_string_add_sum (P := Try.prog) (w := W) (B1 ++ B2 ++ B3 ++ B4) B5 (by simp only [ByteArray.size_append]; omega)
  have hadd5 := fun W => run_string_add_sum (P := Try.prog) (w := W) (B1 ++ B2 ++ B3 ++ B4 ++ B5) B6 (by simp only [ByteArray.size_append]; omega)
  clear hB1 hB2 hB3 hB4 hB5 hB6 f1 f2 f3 f4 f5 f6 fm e8 hR hn hr
  go_enter Try.func10, Try.ntmps10
  go_wp2_with (go_at_call 14; (with_reducible refine Calls.mono (HR.out _) ?_); rintro e W1 ⟨rfl, hB1⟩)
  have hA1 := hA.th hB1
  have hBw1 := below_th hB hB1
  have HC : Hid (∀ W, Below W1.heap.size W1 W → W.cell? ⟨w.heap.size, 0, none⟩ = some (.int .i64 (kk : Int)) ∧ W.cell? ⟨w.heap.size, 1, none⟩ = some (.int .u16 (mode : Int)) ∧ W.cell? ⟨w.heap.size, 2, none⟩ = some (.int .u16 (links : Int)) ∧ W.cell? ⟨w.heap.size, 3, none⟩ = some (.int .u32 (size : Int)) ∧ W.cell? ⟨w.heap.size, 4, none⟩ = some (.int .u64 (time : Int)) ∧ W.cell? ⟨w.heap.size, 5, none⟩ = some (.int .i64 (dd : Int))) := fun W hW => by
    obtain ⟨a0, a1, a2, a3, a4, a5, _⟩ := (hA1.th hW).c
    exact ⟨a0, a1, a2, a3, a4, a5⟩
  have HCM : Hid (∀ W, Below W1.heap.size W1 W → ∀ i, i < 6 → W.cell? ⟨w.heap.size, 6 + i, none⟩ = some (.int .u32 (m.at' i))) := fun W hW i hi => (hA1.th hW).cellM hi
  have HBw1 := Lib.hid hBw1
  have hself : Below W1.heap.size W1 W1 := Below.refl _ _
  have hself2 : Below W1.heap.size W1 W1.drew := hself.drew
  clear hA hB hB1 hA1 hBw1
  go_region_held3 (fun w' => w'.cell? ⟨w.heap.size, 0, none⟩ = some (.int .i64 (kk : Int)) ∧ w'.cell? ⟨w.heap.size, 1, none⟩ = some (.int .u16 (mode : Int)) ∧ w'.cell? ⟨w.heap.size, 2, none⟩ = some (.int .u16 (links : Int)) ∧ w'.cell? ⟨w.heap.size, 3, none⟩ = some (.int .u32 (size : Int)) ∧ w'.cell? ⟨w.heap.size, 4, none⟩ = some (.int .u64 (time : Int)) ∧ w'.cell? ⟨w.heap.size, 5, none⟩ = some (.int .i64 (dd : Int))) (first | exact HC.out _ (by assumption)) (first
    | (go_at_call 26; (with_reducible refine Calls.mono (P1.out _) ?_); rintro e w' ⟨rfl, hBn⟩; have := below_th (by assumption : Below W1.heap.size W1 _) hBn)
    | (go_at_call 26; (with_reducible refine Calls.mono (P2.out _) ?_); rintro e w' ⟨rfl, hBn⟩; have := below_th (by assumption : Below W1.heap.size W1 _) hBn)
    | (go_at_call 26; (with_reducible refine Calls.mono (P3.out _) ?_); rintro e w' ⟨rfl, hBn⟩; have := below_th (by assumption : Below W1.heap.size W1 _) hBn)
    | (go_at_call 26; (with_reducible refine Calls.mono (P4.out _) ?_); rintro e w' ⟨rfl, hBn⟩; have := below_th (by assumption : Below W1.heap.size W1 _) hBn)
    | (go_at_call 26; (with_reducible refine Calls.mono (P5.out _) ?_); rintro e w' ⟨rfl, hBn⟩; have := below_th (by assumption : Below W1.heap.size W1 _) hBn)
    | (go_at_call 26; (with_reducible refine Calls.mono (P6.out _) ?_); rintro e w' ⟨rfl, hBn⟩; have := below_th (by assumption : Below W1.heap.size W1 _) hBn))
  have hbr : Below W1.heap.size W1 w' := by assumption
  rw [← hsaid]
  clear hsaid
  go_wp2
  go_loopw [5, 6] (fun s i wr => ∃ k : Nat, k ≤ 6 ∧ i = .int .i64 (k : Int) ∧ s = .string (wk k) ∧ Hid (Below W1.heap.size W1 wr)) (fun _ i _ => 6 - (intOf i).toNat)
  case atStart => exact ⟨0, by omega, rfl, rfl, hbr⟩
  case round =>
    obtain ⟨k, hk, rfl, rfl, HBr⟩ := hrel
    by_cases hlt : k < 6
    · have hck := HCM.out wr HBr.out k hlt
      have hli : (k : Int) < 6 := by omega
      have hx4 := at_lt HMO.out k
      have e8 : (256 : Nat) ^ 8 = 18446744073709551616 := by decide
      have hPk := fun W => bytes_ref (m.at' k) 4 W (by omega) (by omega) (by omega)
      have hS := HWS.out k
      have hz := HWZ.out k
      obtain ⟨x, hx⟩ : ∃ x, m.at' k = x := ⟨_, rfl⟩
      obtain ⟨st, hst⟩ : ∃ st, wk k = st := ⟨_, rfl⟩
      obtain ⟨q, hq⟩ : ∃ q, wk (k + 1) = q := ⟨_, rfl⟩
      rw [hx] at hx4 hPk hS hck
      rw [hst] at hS hz ⊢
      rw [hq] at hS
      have hwx : IntKind.u64.wrap (x : Int) = x := by rw [IntKind.wrap_u64]; omega
      obtain ⟨Bk, hBk⟩ : ∃ Bk, numB x 4 = Bk := ⟨_, rfl⟩
      have hzk : Bk.size = 4 := by rw [← hBk, numB_size]
      rw [hBk] at hPk hS
      have hadd := fun W => run_string_add_sum (P := Try.prog) (w := W) st Bk (by omega)
      have HPk := Lib.hid hPk
      have HQS := Lib.hid (hq.trans hS)
      clear hS hq hBk hPk hx hst e8
      go_wp2_with (go_at_call 26; (with_reducible refine Calls.mono (HPk.out _) ?_); rintro e w2 ⟨rfl, hB2⟩)
      go_roundw
      case rel => exact ⟨k + 1, by omega, by go_num, by rw [HQS.out], below_th HBr.out hB2⟩
      case measure => simp [intOf]; omega
    · obtain rfl : k = 6 := by omega
      have hend := HEND.out
      go_wp2
      go_ret2
      exact ⟨rfl, below_th HBw1.out HBr.out⟩
theorem encode_any (n : I) (hn : IOk n) (w : World) : Calls Try.prog 10 #[n.val] w (Ans w (.tuple #[.string (encS n), .int .i64 (encE n)])) := by
  by_cases h : RightP n
  · have hF := Fits.of h hn
    have e : n = ⟨n.kind.toNat, n.mode, n.links, n.size, n.time, n.depth.toNat, n.m⟩ := by
      have h1 := hF.kind
      have h2 := hF.depth
      obtain ⟨a, b, c, d, e, f, g⟩ := n
      dsimp only at h1 h2 ⊢
      congr 1
      · omega
      · omega
    exact encode_yes _ _ _ _ _ _ _ n e hn h w
  · exact encode_no n hn w h
end
end Go.Proofs.Ytbadkbfcfcgfhaa.Ino.R
