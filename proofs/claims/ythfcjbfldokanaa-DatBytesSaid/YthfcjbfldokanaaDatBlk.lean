/- A table's bytes; a block of it, of the program. -/
import Derived.Test.YthfcjbfldokanaaNumFacts
import Derived.Test.YthfcjbfldokanaaNumFit
import Derived.Test.YthfcjbfldokanaaDatRight
namespace Go.Proofs.Ythfcjbfldokanaa.Dat
open Go.RowKit Go.Shelf
attribute [local go_sem] Oper.semAt_some
set_option linter.unusedVariables false

/-- numbers that stand in their bytes -/
def fitT (t : T) : Prop := t.phys < 4294967296 ∧ t.start < 281474976710656 ∧ t.fin < 281474976710656
theorem RightP.fit {L : List T} (h : RightP L) (i : Nat) : fitT (tr L i) := by
  rcases h.one i with e | e
  · rw [e]; unfold fitT T.zero; decide
  · have h1 := e.1.2
    have h2 := e.2.1.2
    have h3 := e.2.2
    refine ⟨by omega, h2, ?_⟩
    rcases h3 with h3 | h3
    · omega
    · exact h3.2.2
def trB (t : T) : ByteArray := numB t.phys 4 ++ numB t.start 6 ++ numB t.fin 6
theorem trB_size (t : T) : (trB t).size = 16 := by
  simp only [trB, ByteArray.size_append, numB_size]
def saidK (M : List T) : Nat → ByteArray
  | 0 => ⟨#[]⟩
  | k + 1 => saidK M k ++ trB (tr M k)
theorem saidK_size (M : List T) : ∀ k, (saidK M k).size = 16 * k
  | 0 => rfl
  | k + 1 => by rw [saidK, ByteArray.size_append, saidK_size M k, trB_size]; omega
theorem saidK_congr {M M' : List T} : ∀ k, (∀ j, j < k → tr M j = tr M' j) → saidK M k = saidK M' k
  | 0, _ => rfl
  | k + 1, h => by rw [saidK, saidK, saidK_congr k (fun j hj => h j (by omega)), h k (by omega)]
def blkB (M : List T) : ByteArray := saidK M M.length ++ zeros (508 - 16 * M.length)
/-- the k-th thirty-one places -/
def chunk (L : List T) (k : Nat) : List T := (L.drop (31 * k)).take 31
theorem chunk_length (L : List T) (k : Nat) : (chunk L k).length = min 31 (L.length - 31 * k) := by unfold chunk; rw [List.length_take, List.length_drop]
theorem tr_chunk (L : List T) (k : Nat) {j : Nat} (h : j < 31) : tr (chunk L k) j = tr L (31 * k + j) := by unfold chunk; rw [tr_take h, tr_drop]
def nBl (n : Nat) : Nat := (n + 30) / 31
def blksK (L : List T) (k : Nat) : List ByteArray := (List.range k).map fun i => blkB (chunk L i)
theorem blksK_zero (L : List T) : blksK L 0 = [] := rfl
theorem blksK_succ (L : List T) (k : Nat) : blksK L (k + 1) = blksK L k ++ [blkB (chunk L k)] := by
  unfold blksK
  rw [List.range_succ, List.map_append]
  rfl
theorem blksK_length (L : List T) (k : Nat) : (blksK L k).length = k := by unfold blksK; simp
def encV (L : List T) : List ByteArray := if RightP L then blksK L (nBl L.length) else []
def encE (L : List T) : Int := if RightP L then 0 else 80
section
set_option maxRecDepth 100000
set_option maxHeartbeats 4000000
theorem dput_any (n : Nat) (k : Nat) (w : World) (hn : n < 256 ^ k) (h1 : 1 ≤ k) (h2 : k ≤ 8) : Calls Try.prog 55 #[.int .u64 n, .int .i64 k] w fun e w' => e = .returned (.string (numB n k)) ∧ Below w.heap.size w w' := by
  have hok : putOk n k := ⟨by omega, by omega, by simpa using hn⟩
  have hp := put_any n k w (Nat.lt_of_lt_of_le hn (Nat.pow_le_pow_right (by decide) h2))
  rw [putS_yes hok, putE_yes hok, Int.toNat_natCast] at hp
  clear hok hn
  go_enter Try.func55, Try.ntmps55
  go_wp2_with (go_at_call 57; refine hp.mono ?_; rintro e w' ⟨rfl, hB⟩)
  go_ret
  exact ⟨rfl, hB⟩
theorem blockOf_any (v : Value) (M : List T) (w : World) (hL : Trs w v M) (h31 : M.length ≤ 31) (hf : ∀ i, fitT (tr M i)) : Calls Try.prog 48 #[v] w (Ans w (.string (blkB M))) := by
  obtain ⟨a, cap, rfl, hn, hm⟩ := hL.parts
  have HL := Lib.hid hL
  obtain ⟨N, hN⟩ : ∃ N, M.length = N := ⟨_, rfl⟩
  have hfo : fitOk (saidK M N) 508 := by
    have := saidK_size M N
    unfold fitOk
    omega
  have hfit := fun W => fit_any (saidK M N) 508 W (by rw [saidK_size]; omega)
  rw [fitS_yes hfo, fitE_yes hfo] at hfit
  have hbl : blkB M = saidK M N ++ zeros ((508 : Int).toNat - (saidK M N).size) := by unfold blkB; rw [hN, saidK_size]; rfl
  rw [← hbl] at hfit
  have HF := Lib.hid hfit
  have HSZ := Lib.hid (fun k => saidK_size M k)
  have HSU := Lib.hid (fun k => show saidK M (k + 1) = saidK M k ++ trB (tr M k) from rfl)
  have HFT := Lib.hid hf
  obtain ⟨x, hx⟩ : ∃ x, blkB M = x := ⟨_, rfl⟩
  obtain ⟨sk, hsk⟩ : ∃ sk, saidK M = sk := ⟨_, rfl⟩
  have hsk0 : Hid (sk 0 = (⟨#[]⟩ : ByteArray)) := by rw [← hsk]; rfl
  rw [hx] at HF ⊢
  rw [hsk] at HF
  simp only [hsk] at HSZ HSU
  rw [hN] at HL hn h31 ⊢
  have HN := Lib.hid hN
  clear hL hf hfo hfit hbl hx hsk hN
  obtain ⟨W0, rfl⟩ : ∃ W0 : World, W0 = w := ⟨_, rfl⟩
  go_enter Try.func48, Try.ntmps48
  go_wp2
  go_loopw [3, 5, 10] (fun t _ i wr => ∃ k : Nat, k ≤ N ∧ i = .int .i64 (k : Int) ∧ t = .string (sk k) ∧ Below W0.heap.size W0 wr) (fun _ _ i _ => N - (intOf i).toNat)
  case atStart => exact ⟨0, by omega, rfl, by rw [hsk0.out], Below.refl _ _⟩
  case round =>
    obtain ⟨k, hk, rfl, rfl, hB⟩ := hrel
    have hskz := HSZ.out k
    by_cases hlt : k < N
    · obtain ⟨b, off, cap2, e2, c0, c1, c2⟩ := ((HL.out).below hB).at (k := k) (by rw [HN.out]; exact hlt)
      rw [HN.out] at e2
      cases e2
      obtain ⟨o1, o2, o3⟩ := HFT.out k
      have hS := HSU.out k
      unfold trB at hS
      obtain ⟨st, hst⟩ : ∃ st, sk k = st := ⟨_, rfl⟩
      obtain ⟨q, hq⟩ : ∃ q, sk (k + 1) = q := ⟨_, rfl⟩
      rw [hst, hq] at hS
      rw [hst] at hskz
      obtain ⟨W2, hW2⟩ : ∃ W2, wr.alloc (boxO (tr M k)) = W2 := ⟨_, rfl⟩
      have hA : At W2 wr.heap.size (tr M k) := by rw [← hW2]; exact At.new wr _
      have hB2 : Below W0.heap.size W0 W2 := by rw [← hW2]; exact below_al hB _
      obtain ⟨y, hy⟩ : ∃ y, tr M k = y := ⟨_, rfl⟩
      rw [hy] at c0 c1 c2 hS hA hW2 o1 o2 o3
      obtain ⟨ph, s6, fi⟩ := y
      unfold boxO at hW2
      dsimp only at c0 c1 c2 hS hW2 o1 o2 o3
      have P1 := Lib.hid (fun W => dput_any ph 4 W (by omega) (by omega) (by omega))
      have P2 := Lib.hid (fun W => dput_any s6 6 W (by omega) (by omega) (by omega))
      have P3 := Lib.hid (fun W => dput_any fi 6 W (by omega) (by omega) (by omega))
      have q1 : IntKind.u64.wrap (ph : Int) = ph := by rw [IntKind.wrap_u64]; omega
      obtain ⟨C1, hC1⟩ : ∃ x, numB ph 4 = x := ⟨_, rfl⟩
      obtain ⟨C2, hC2⟩ : ∃ x, numB s6 6 = x := ⟨_, rfl⟩
      obtain ⟨C3, hC3⟩ : ∃ x, numB fi 6 = x := ⟨_, rfl⟩
      have z1 : C1.size = 4 := by rw [← hC1, numB_size]
      have z2 : C2.size = 6 := by rw [← hC2, numB_size]
      have z3 : C3.size = 6 := by rw [← hC3, numB_size]
      simp only [hC1, hC2, hC3] at P1 P2 P3 hS
      have HCE : Hid (∀ W, Below W2.heap.size W2 W → W.cell? ⟨wr.heap.size, 0, none⟩ = some (.int .u32 (ph : Int)) ∧ W.cell? ⟨wr.heap.size, 1, none⟩ = some (.int .u64 (s6 : Int)) ∧ W.cell? ⟨wr.heap.size, 2, none⟩ = some (.int .u64 (fi : Int))) := fun W hW => (hA.th hW).c
      have HSS := Lib.hid hS
      have HQ := Lib.hid hq
      have HB2 := Lib.hid hB2
      have hself : Below W2.heap.size W2 W2 := Below.refl _ _
      have hself2 : Below W2.heap.size W2 W2.drew := hself.drew
      have hcat : st.size + (C1 ++ C2 ++ C3).size ≤ 1000 := by simp only [ByteArray.size_append]; omega
      have hadd := fun W => run_string_add_sum (P := Try.prog) (w := W) st (C1 ++ C2 ++ C3) (by omega)
      clear hC1 hC2 hC3 hS hq hA hB2 hy hB hcat
      go_wp2
      go_region_held3 (fun w' => (w'.cell? ⟨wr.heap.size, 0, none⟩ = some (.int .u32 (ph : Int)) ∧ w'.cell? ⟨wr.heap.size, 1, none⟩ = some (.int .u64 (s6 : Int)) ∧ w'.cell? ⟨wr.heap.size, 2, none⟩ = some (.int .u64 (fi : Int)))) (exact HCE.out _ (by assumption)) (first
        | (go_at_call 55; with_reducible refine Calls.mono (P1.out _) ?_; rintro e w' ⟨rfl, hBn⟩; have := below_th (by assumption : Below W2.heap.size W2 _) hBn)
        | (go_at_call 55; with_reducible refine Calls.mono (P2.out _) ?_; rintro e w' ⟨rfl, hBn⟩; have := below_th (by assumption : Below W2.heap.size W2 _) hBn)
        | (go_at_call 55; with_reducible refine Calls.mono (P3.out _) ?_; rintro e w' ⟨rfl, hBn⟩; have := below_th (by assumption : Below W2.heap.size W2 _) hBn))
      have HBZ2 := Lib.hid (below_th HB2.out (by assumption : Below W2.heap.size W2 _))
      go_wp2
      go_roundw
      case rel => exact ⟨k + 1, by omega, by go_num, by rw [HQ.out, HSS.out], HBZ2.out⟩
      case measure => simp [intOf]; omega
    · obtain rfl : N = k := by omega
      go_wp2_with (go_at_call 56; refine (HF.out _).mono ?_; rintro e w' ⟨rfl, hBf⟩)
      go_ret
      exact ⟨rfl, below_th hB hBf⟩
end
end Go.Proofs.Ythfcjbfldokanaa.Dat
