/- Several texts in one, each under its own heading. -/
import Derived.Test.YtdniakoedgohkaaPk04
import Derived.Test.YtdniakoedgohkaaPk16
import Derived.Test.YtdniakoedgohkaaPk13
import Derived.RangeFuncBound
import Derived.RangeFuncCalls
import Derived.RangeFuncLeaves
import Derived.OwnWalkIn
import Derived.TacticsInMore
import Derived.LoopNIn
import Derived.LoopIn
import Derived.Shelf.Abstract
import Derived.Test.YtdniakoedgohkaaPk07
/- A table's bytes; a block of it, of the program. -/
namespace Go.Proofs.Ytdniakoedgohkaa.Dat
open Go.RowKit Go.Shelf
attribute [local go_sem] Oper.semAt_some
set_option linter.unusedVariables false

/-- numbers that stand in their bytes -/
def fitT (t : T) : Prop := t.phys < 4294967296 ∧ t.start < 281474976710656 ∧ t.fin < 281474976710656
theorem RightP.fit {L : List T} (h : RightP L) (i : Nat) : fitT (tr L i) := by
  rcases h.one i with e | e
  · rw [e]; unfold fitT T.zero; decide
  · have h1 := e.1.2
    have h2 := e.2.1.2
    have h3 := e.2.2
    refine ⟨by omega, h2, ?_⟩
    rcases h3 with h3 | h3
    · omega
    · exact h3.2.2
def trB (t : T) : ByteArray := numB t.phys 4 ++ numB t.start 6 ++ numB t.fin 6
theorem trB_size (t : T) : (trB t).size = 16 := by
  simp only [trB, ByteArray.size_append, numB_size]
def saidK (M : List T) : Nat → ByteArray
  | 0 => ⟨#[]⟩
  | k + 1 => saidK M k ++ trB (tr M k)
theorem saidK_size (M : List T) : ∀ k, (saidK M k).size = 16 * k
  | 0 => rfl
  | k + 1 => by rw [saidK, ByteArray.size_append, saidK_size M k, trB_size]; omega
theorem saidK_congr {M M' : List T} : ∀ k, (∀ j, j < k → tr M j = tr M' j) → saidK M k = saidK M' k
  | 0, _ => rfl
  | k + 1, h => by rw [saidK, saidK, saidK_congr k (fun j hj => h j (by omega)), h k (by omega)]
def blkB (M : List T) : ByteArray := saidK M M.length ++ zeros (508 - 16 * M.length)
/-- the k-th thirty-one places -/
def chunk (L : List T) (k : Nat) : List T := (L.drop (31 * k)).take 31
theorem chunk_length (L : List T) (k : Nat) : (chunk L k).length = min 31 (L.length - 31 * k) := by unfold chunk; rw [List.length_take, List.length_drop]
theorem tr_chunk (L : List T) (k : Nat) {j : Nat} (h : j < 31) : tr (chunk L k) j = tr L (31 * k + j) := by unfold chunk; rw [tr_take h, tr_drop]
def nBl (n : Nat) : Nat := (n + 30) / 31
def blksK (L : List T) (k : Nat) : List ByteArray := (List.range k).map fun i => blkB (chunk L i)
theorem blksK_zero (L : List T) : blksK L 0 = [] := rfl
theorem blksK_succ (L : List T) (k : Nat) : blksK L (k + 1) = blksK L k ++ [blkB (chunk L k)] := by
  unfold blksK
  rw [List.range_succ, List.map_append]
  rfl
theorem blksK_length (L : List T) (k : Nat) : (blksK L k).length = k := by unfold blksK; simp
def encV (L : List T) : List ByteArray := if RightP L then blksK L (nBl L.length) else []
def encE (L : List T) : Int := if RightP L then 0 else 80
section
set_option maxRecDepth 100000
set_option maxHeartbeats 4000000
theorem dput_any (n : Nat) (k : Nat) (w : World) (hn : n < 256 ^ k) (h1 : 1 ≤ k) (h2 : k ≤ 8) : Calls Try.prog 71 #[.int .u64 n, .int .i64 k] w fun e w' => e = .returned (.string (numB n k)) ∧ Below w.heap.size w w' := by
  have hok : putOk n k := ⟨by omega, by omega, by simpa using hn⟩
  have hp := put_any n k w (Nat.lt_of_lt_of_le hn (Nat.pow_le_pow_right (by decide) h2))
  rw [putS_yes hok, putE_yes hok, Int.toNat_natCast] at hp
  clear hok hn
  go_enter Try.func71, Try.ntmps71
  go_wp2_with (go_at_call 59; refine hp.mono ?_; rintro e w' ⟨rfl, hB⟩)
  go_ret
  exact ⟨rfl, hB⟩
theorem blockOf_any (v : Value) (M : List T) (w : World) (hL : Trs w v M) (h31 : M.length ≤ 31) (hf : ∀ i, fitT (tr M i)) : Calls Try.prog 47 #[v] w (Ans w (.string (blkB M))) := by
  obtain ⟨a, cap, rfl, hn, hm⟩ := hL.parts
  have HL := Lib.hid hL
  obtain ⟨N, hN⟩ : ∃ N, M.length = N := ⟨_, rfl⟩
  have hfo : fitOk (saidK M N) 508 := by
    have := saidK_size M N
    unfold fitOk
    omega
  have hfit := fun W => fit_any (saidK M N) 508 W (by rw [saidK_size]; omega)
  rw [fitS_yes hfo, fitE_yes hfo] at hfit
  have hbl : blkB M = saidK M N ++ zeros ((508 : Int).toNat - (saidK M N).size) := by unfold blkB; rw [hN, saidK_size]; rfl
  rw [← hbl] at hfit
  have HF := Lib.hid hfit
  have HSZ := Lib.hid (fun k => saidK_size M k)
  have HSU := Lib.hid (fun k => show saidK M (k + 1) = saidK M k ++ trB (tr M k) from rfl)
  have HFT := Lib.hid hf
  obtain ⟨x, hx⟩ : ∃ x, blkB M = x := ⟨_, rfl⟩
  obtain ⟨sk, hsk⟩ : ∃ sk, saidK M = sk := ⟨_, rfl⟩
  have hsk0 : Hid (sk 0 = (⟨#[]⟩ : ByteArray)) := by rw [← hsk]; rfl
  rw [hx] at HF ⊢
  rw [hsk] at HF
  simp only [hsk] at HSZ HSU
  rw [hN] at HL hn h31 ⊢
  have HN := Lib.hid hN
  clear hL hf hfo hfit hbl hx hsk hN
  obtain ⟨W0, rfl⟩ : ∃ W0 : World, W0 = w := ⟨_, rfl⟩
  go_enter Try.func47, Try.ntmps47
  go_wp2
  go_loopw [3, 5, 10] (fun t _ i wr => ∃ k : Nat, k ≤ N ∧ i = .int .i64 (k : Int) ∧ t = .string (sk k) ∧ Below W0.heap.size W0 wr) (fun _ _ i _ => N - (intOf i).toNat)
  case atStart => exact ⟨0, by omega, rfl, by rw [hsk0.out], Below.refl _ _⟩
  case round =>
    obtain ⟨k, hk, rfl, rfl, hB⟩ := hrel
    have hskz := HSZ.out k
    by_cases hlt : k < N
    · obtain ⟨b, off, cap2, e2, c0, c1, c2⟩ := ((HL.out).below hB).at (k := k) (by rw [HN.out]; exact hlt)
      rw [HN.out] at e2
      cases e2
      obtain ⟨o1, o2, o3⟩ := HFT.out k
      have hS := HSU.out k
      unfold trB at hS
      obtain ⟨st, hst⟩ : ∃ st, sk k = st := ⟨_, rfl⟩
      obtain ⟨q, hq⟩ : ∃ q, sk (k + 1) = q := ⟨_, rfl⟩
      rw [hst, hq] at hS
      rw [hst] at hskz
      obtain ⟨W2, hW2⟩ : ∃ W2, wr.alloc (boxO (tr M k)) = W2 := ⟨_, rfl⟩
      have hA : At W2 wr.heap.size (tr M k) := by rw [← hW2]; exact At.new wr _
      have hB2 : Below W0.heap.size W0 W2 := by rw [← hW2]; exact below_al hB _
      obtain ⟨y, hy⟩ : ∃ y, tr M k = y := ⟨_, rfl⟩
      rw [hy] at c0 c1 c2 hS hA hW2 o1 o2 o3
      obtain ⟨ph, s6, fi⟩ := y
      unfold boxO at hW2
      dsimp only at c0 c1 c2 hS hW2 o1 o2 o3
      have P1 := Lib.hid (fun W => dput_any ph 4 W (by omega) (by omega) (by omega))
      have P2 := Lib.hid (fun W => dput_any s6 6 W (by omega) (by omega) (by omega))
      have P3 := Lib.hid (fun W => dput_any fi 6 W (by omega) (by omega) (by omega))
      have q1 : IntKind.u64.wrap (ph : Int) = ph := by rw [IntKind.wrap_u64]; omega
      obtain ⟨C1, hC1⟩ : ∃ x, numB ph 4 = x := ⟨_, rfl⟩
      obtain ⟨C2, hC2⟩ : ∃ x, numB s6 6 = x := ⟨_, rfl⟩
      obtain ⟨C3, hC3⟩ : ∃ x, numB fi 6 = x := ⟨_, rfl⟩
      have z1 : C1.size = 4 := by rw [← hC1, numB_size]
      have z2 : C2.size = 6 := by rw [← hC2, numB_size]
      have z3 : C3.size = 6 := by rw [← hC3, numB_size]
      simp only [hC1, hC2, hC3] at P1 P2 P3 hS
      have HCE : Hid (∀ W, Below W2.heap.size W2 W → W.cell? ⟨wr.heap.size, 0, none⟩ = some (.int .u32 (ph : Int)) ∧ W.cell? ⟨wr.heap.size, 1, none⟩ = some (.int .u64 (s6 : Int)) ∧ W.cell? ⟨wr.heap.size, 2, none⟩ = some (.int .u64 (fi : Int))) := fun W hW => (hA.th hW).c
      have HSS := Lib.hid hS
      have HQ := Lib.hid hq
      have HB2 := Lib.hid hB2
      have hself : Below W2.heap.size W2 W2 := Below.refl _ _
      have hself2 : Below W2.heap.size W2 W2.drew := hself.drew
      have hcat : st.size + (C1 ++ C2 ++ C3).size ≤ 1000 := by simp only [ByteArray.size_append]; omega
      have hadd := fun W => run_string_add_sum (P := Try.prog) (w := W) st (C1 ++ C2 ++ C3) (by omega)
      clear hC1 hC2 hC3 hS hq hA hB2 hy hB hcat
      go_wp2
      go_region_held3 (fun w' => (w'.cell? ⟨wr.heap.size, 0, none⟩ = some (.int .u32 (ph : Int)) ∧ w'.cell? ⟨wr.heap.size, 1, none⟩ = some (.int .u64 (s6 : Int)) ∧ w'.cell? ⟨wr.heap.size, 2, none⟩ = some (.int .u64 (fi : Int)))) (exact HCE.out _ (by assumption)) (first
        | (go_at_call 71; with_reducible refine Calls.mono (P1.out _) ?_; rintro e w' ⟨rfl, hBn⟩; have := below_th (by assumption : Below W2.heap.size W2 _) hBn)
        | (go_at_call 71; with_reducible refine Calls.mono (P2.out _) ?_; rintro e w' ⟨rfl, hBn⟩; have := below_th (by assumption : Below W2.heap.size W2 _) hBn)
        | (go_at_call 71; with_reducible refine Calls.mono (P3.out _) ?_; rintro e w' ⟨rfl, hBn⟩; have := below_th (by assumption : Below W2.heap.size W2 _) hBn))
      have HBZ2 := Lib.hid (below_th HB2.out (by assumption : Below W2.heap.size W2 _))
      go_wp2
      go_roundw
      case rel => exact ⟨k + 1, by omega, by go_num, by rw [HQ.out, HSS.out], HBZ2.out⟩
      case measure => simp [intOf]; omega
    · obtain rfl : N = k := by omega
      go_wp2_with (go_at_call 30; refine (HF.out _).mono ?_; rintro e w' ⟨rfl, hBf⟩)
      go_ret
      exact ⟨rfl, below_th hB hBf⟩
end
end Go.Proofs.Ytdniakoedgohkaa.Dat
/- What blocks of places say, and that a table's blocks say the table. -/
namespace Go.Proofs.Ytdniakoedgohkaa.Dat
set_option linter.unusedVariables false
set_option linter.unusedSimpArgs false
/-- the place that stands there -/
def trAt (b : ByteArray) (p : Nat) : T := ⟨takeN b p 4, takeN b (p + 4) 6, takeN b (p + 10) 6⟩
theorem tr_back (a z : ByteArray) (t : T) (h : fitT t) : trAt (a ++ trB t ++ z) a.size = t := by
  obtain ⟨h1, h2, h3⟩ := h
  have e4 : (256 : Nat) ^ 4 = 4294967296 := by decide
  have e6 : (256 : Nat) ^ 6 = 281474976710656 := by decide
  have s1 : (a ++ numB t.phys 4).size = a.size + 4 := by rw [ByteArray.size_append, numB_size]
  have s2 : (a ++ numB t.phys 4 ++ numB t.start 6).size = a.size + 10 := by rw [ByteArray.size_append, s1, numB_size]
  have k1 : takeN (a ++ trB t ++ z) a.size 4 = t.phys := by
    rw [show a ++ trB t ++ z = a ++ numB t.phys 4 ++ (numB t.start 6 ++ numB t.fin 6 ++ z) by unfold trB; simp only [app_assoc]]
    exact Cps.takeN_mid a _ _ _ 4 rfl (by rw [e4]; exact h1)
  have k2 : takeN (a ++ trB t ++ z) (a.size + 4) 6 = t.start := by
    rw [show a ++ trB t ++ z = (a ++ numB t.phys 4) ++ numB t.start 6 ++ (numB t.fin 6 ++ z) by unfold trB; simp only [app_assoc], ← s1]
    exact Cps.takeN_mid _ _ _ _ 6 rfl (by rw [e6]; exact h2)
  have k3 : takeN (a ++ trB t ++ z) (a.size + 10) 6 = t.fin := by
    rw [show a ++ trB t ++ z = (a ++ numB t.phys 4 ++ numB t.start 6) ++ numB t.fin 6 ++ z by unfold trB; simp only [app_assoc], ← s2]
    exact Cps.takeN_mid _ _ _ _ 6 rfl (by rw [e6]; exact h3)
  unfold trAt
  rw [k1, k2, k3]
theorem zeros_app (m n : Nat) : zeros m ++ zeros n = zeros (m + n) := by
  apply ByteArray.ext
  apply Array.toList_inj.1
  rw [app_list]
  show List.replicate m 0 ++ List.replicate n 0 = List.replicate (m + n) 0
  rw [List.replicate_append_replicate]
theorem trB_zero : trB T.zero = zeros 16 := by
  apply ByteArray.ext
  decide
theorem said_zeros (M : List T) (m : Nat) : ∀ d, (∀ j, m ≤ j → j < m + d → tr M j = T.zero) → saidK M (m + d) = saidK M m ++ zeros (16 * d)
  | 0, _ => by rw [Nat.add_zero, Nat.mul_zero]; exact (app_none _).symm
  | d + 1, h => by
    rw [← Nat.add_assoc, saidK, said_zeros M m d (fun j h1 h2 => h j h1 (by omega)), h (m + d) (by omega) (by omega), trB_zero, ← app_assoc, zeros_app, show 16 * d + 16 = 16 * (d + 1) by omega]
theorem blk_pad {M M' : List T} (hl : M'.length ≤ 31) (hle : M.length ≤ M'.length) (h : ∀ i, i < 31 → tr M i = tr M' i) : blkB M = blkB M' := by
  obtain ⟨d, hd⟩ : ∃ d, M'.length = M.length + d := ⟨M'.length - M.length, by omega⟩
  unfold blkB
  rw [hd, said_zeros M' M.length d (fun j h1 h2 => by rw [← h j (by omega)]; exact tr_out h1), saidK_congr M.length (fun j hj => (h j (by omega)).symm), ← app_assoc, zeros_app]
  congr 2
  omega
theorem said_from (M : List T) (j : Nat) : ∀ n, ∃ z, saidK M (j + n) = saidK M j ++ z
  | 0 => ⟨⟨#[]⟩, (app_none _).symm⟩
  | n + 1 => by
    obtain ⟨z, hz⟩ := said_from M j n
    exact ⟨z ++ trB (tr M (j + n)), by rw [← Nat.add_assoc, saidK, hz, app_assoc]⟩
theorem tr_app_zero (L : List T) (n i : Nat) : tr (L ++ List.replicate n T.zero) i = tr L i := by
  unfold tr
  rw [List.getD_eq_getElem?_getD, List.getD_eq_getElem?_getD]
  rcases Nat.lt_or_ge i L.length with h | h
  · rw [List.getElem?_append_left h]
  · rw [List.getElem?_append_right h, List.getElem?_eq_none h, List.getElem?_replicate]
    split <;> rfl
theorem trAt_full {M : List T} (hl : M.length = 31) (hf : ∀ i, fitT (tr M i)) {j : Nat} (hj : j < 31) : trAt (blkB M) (16 * j) = tr M j := by
  obtain ⟨z, hz⟩ := said_from M (j + 1) (30 - j)
  have h1 : blkB M = saidK M j ++ trB (tr M j) ++ (z ++ zeros (508 - 16 * 31)) := by
    unfold blkB
    rw [hl, show (31 : Nat) = j + 1 + (30 - j) by omega, hz, saidK]
    simp only [app_assoc]
  rw [h1, show 16 * j = (saidK M j).size by rw [saidK_size]]
  exact tr_back _ _ _ (hf j)
theorem trAt_blk {M : List T} (hl : M.length ≤ 31) (hf : ∀ i, fitT (tr M i)) {j : Nat} (hj : j < 31) : trAt (blkB M) (16 * j) = tr M j := by
  have hl2 : (M ++ List.replicate (31 - M.length) T.zero).length = 31 := by rw [List.length_append, List.length_replicate]; omega
  have h1 : blkB M = blkB (M ++ List.replicate (31 - M.length) T.zero) := blk_pad (by omega) (by omega) (fun i _ => (tr_app_zero _ _ _).symm)
  rw [h1, trAt_full hl2 (fun i => by rw [tr_app_zero]; exact hf i) hj, tr_app_zero]
theorem blkB_size {M : List T} (hl : M.length ≤ 31) : (blkB M).size = 508 := by
  unfold blkB
  rw [ByteArray.size_append, saidK_size, zeros_size]
  omega
/-- all that blocks have room for -/
def allT (T' : List ByteArray) (k : Nat) : T := trAt (T'.getD (k / 31) ⟨#[]⟩) (16 * (k % 31))
def plT (T' : List ByteArray) (n : Nat) : List T := (List.range n).map (allT T')
theorem plT_length (T' : List ByteArray) (n : Nat) : (plT T' n).length = n := by simp [plT]
theorem plT_succ (T' : List ByteArray) (n : Nat) : plT T' (n + 1) = plT T' n ++ [allT T' n] := by simp [plT, List.range_succ]
theorem tr_plT {T' : List ByteArray} {n i : Nat} (h : i < n) : tr (plT T' n) i = allT T' i := by
  unfold tr plT
  rw [List.getD_eq_getElem?_getD, List.getElem?_map, List.getElem?_range h]
  rfl
theorem enc_is {L : List T} (h : RightP L) : encV L = blksK L (nBl L.length) := if_pos h
theorem enc_len {L : List T} (h : RightP L) : (encV L).length = nBl L.length := by rw [enc_is h, blksK_length]
theorem enc_getD {L : List T} (h : RightP L) {i : Nat} (hi : i < nBl L.length) : (encV L).getD i ⟨#[]⟩ = blkB (chunk L i) := by
  rw [enc_is h]
  unfold blksK
  rw [List.getD_eq_getElem?_getD, List.getElem?_map, List.getElem?_range hi]
  rfl
theorem chunk_le (L : List T) (k : Nat) : (chunk L k).length ≤ 31 := by rw [chunk_length]; omega
theorem chunk_fit {L : List T} (h : RightP L) (k i : Nat) : fitT (tr (chunk L k) i) := by
  rcases Nat.lt_or_ge i 31 with hi | hi
  · rw [tr_chunk L k hi]; exact h.fit _
  · rw [tr_out (Nat.le_trans (chunk_le L k) hi)]; exact ⟨by decide, by decide, by decide⟩
theorem enc_sizes {L : List T} (h : RightP L) : ∀ b ∈ encV L, b.size = 508 := fun b hb => by
  rw [enc_is h] at hb
  unfold blksK at hb
  obtain ⟨i, _, rfl⟩ := List.mem_map.1 hb
  exact blkB_size (chunk_le L i)
theorem all_back {L : List T} (h : RightP L) {k : Nat} (hk : k < 31 * nBl L.length) : allT (encV L) k = tr L k := by
  unfold allT
  rw [enc_getD h (by omega), trAt_blk (chunk_le _ _) (chunk_fit h _) (Nat.mod_lt _ (by decide)), tr_chunk L _ (Nat.mod_lt _ (by decide))]
  congr 1
  omega
/-- the places that a table's blocks have -/
def full (L : List T) : List T := plT (encV L) (31 * nBl L.length)
theorem nBl_ge (n : Nat) : n ≤ 31 * nBl n := by unfold nBl; omega
theorem full_length (L : List T) : (full L).length = 31 * nBl L.length := plT_length _ _
theorem tr_full {L : List T} (h : RightP L) (i : Nat) : tr (full L) i = tr L i := by
  rcases Nat.lt_or_ge i (31 * nBl L.length) with hi | hi
  · unfold full
    rw [tr_plT hi, all_back h hi]
  · rw [tr_out (by rw [full_length]; exact hi), tr_out (Nat.le_trans (nBl_ge _) hi)]
theorem full_right {L : List T} (h : RightP L) : RightP (full L) := by
  have h1 := nBl_ge L.length
  have hl := full_length L
  refine rightP_of (by have := h.1; omega) ?_ (by rw [tr_full h]; exact h.2.1) (fun i _ => by rw [tr_full h]; exact h.one i)
  have h2 := h.1.2
  rw [hl]
  unfold nBl
  omega
theorem full_enc {L : List T} (h : RightP L) : encV (full L) = encV L := by
  have h1 := nBl_ge L.length
  have hn : nBl (full L).length = nBl L.length := by rw [full_length]; unfold nBl; omega
  rw [enc_is h, enc_is (full_right h), hn]
  unfold blksK
  refine List.map_congr_left fun i hi => ?_
  rw [List.mem_range] at hi
  refine (blk_pad (chunk_le _ _) ?_ (fun j hj => ?_)).symm
  · rw [chunk_length, chunk_length, full_length]
    omega
  · rw [tr_chunk _ _ hj, tr_chunk _ _ hj, tr_full h]
theorem full_bare {L : List T} (h : RightP L) : bare (full L) = bare L := by
  have h1 := nBl_ge L.length
  have hc : ∀ k, cand (full L) k = cand L k := fun k => List.filter_congr (fun i _ => by
    have e : usedP (full L) i ↔ usedP L i := by unfold usedP; rw [tr_full h]
    exact decide_eq_decide.2 e)
  have hb : ∀ m, cand L (L.length + m) = cand L L.length := fun m => by
    induction m with
    | zero => rfl
    | succ m ih => rw [← Nat.add_assoc, cand_succ, if_neg (fun hu => hu (tr_out (Nat.le_add_right _ _))), List.append_nil, ih]
  have hN : bareN (full L) = bareN L := by
    unfold bareN cnd
    rw [hc, full_length, show 31 * nBl L.length = L.length + (31 * nBl L.length - L.length) by omega, hb]
  have l1 := bare_length h.1.1
  have l2 := bare_length (full_right h).1.1
  refine tr_ext (by rw [l1, l2, hN]) (fun i _ => ?_)
  rw [tr_bare (full_right h).1.1, tr_bare h.1.1, tr_full h]
theorem swpV_right {L : List T} {C : List Int} (h : RightP L) : RightP (swpV L C) ∧ bare (swpV L C) = swpV L C := by
  have hl := swp_length L C
  have h1 : 1 ≤ (swp L C).length := by have := h.1; omega
  unfold swpV
  rw [if_pos h]
  exact ⟨bare_right (swp_right h C), bare_bare h1⟩
end Go.Proofs.Ytdniakoedgohkaa.Dat
/- The iterator of the program's package dat hands out the places that are not free, each with its number. -/
namespace Go.Proofs.Ytdniakoedgohkaa.Dat
open Go.RowKit
attribute [local go_sem] Oper.semAt_some
set_option linter.unusedVariables false

/-- the blocks bs lie as they lay -/
def Same (bs : List Nat) (W W' : World) : Prop := ∀ b, b ∈ bs → W'.heap[b]? = W.heap[b]?
theorem Same.refl (bs : List Nat) (W : World) : Same bs W W := fun _ _ => rfl
theorem Same.trans {bs : List Nat} {A B C : World} (h : Same bs A B) (k : Same bs B C) : Same bs A C := fun b hb => (k b hb).trans (h b hb)
theorem Same.below {bs : List Nat} {W W' : World} {n : Nat} (hb : Below n W W') (h : ∀ b, b ∈ bs → b < n) : Same bs W W' := fun b hh => hb.block b (h b hh)
theorem Same.cell {bs : List Nat} {W W' : World} (h : Same bs W W') {p : Addr} (hp : p.block ∈ bs) : W'.cell? p = W.cell? p := World.cell?_of_block (w := W) (h p.block hp)
theorem sameK_t {bs : List Nat} {A B C : World} (h : Same bs A B) (k : Same bs B C) : Same bs A C := h.trans k
theorem sameK_b {bs : List Nat} {w : World} (hn : ∀ b, b ∈ bs → b < w.heap.size) (W : World) (l : Nat) (o o' : Obj) (hl : w.heap.size ≤ l) (_ : W.heap[l]? = some o) (_ : o.isCells = false) (_ : o.isWalk = false) : Same bs W (W.putObj l o') :=
  fun b hb => World.putObj_heap_other (by have := hn b hb; omega)
theorem Trs.same {W W' : World} {b off n cap : Nat} {L : List T} (h : Trs W (.slice (some ⟨b, off, none⟩) n cap) L) (hs : Same [b] W W') : Trs W' (.slice (some ⟨b, off, none⟩) n cap) L := by
  obtain ⟨a1, cap1, e, h2, h3, h4, h5⟩ := h
  refine ⟨a1, cap1, e, h2, h3, h4, fun hn => ?_⟩
  obtain ⟨b2, off2, e2, hc⟩ := h5 hn
  cases e
  cases e2
  exact ⟨_, _, rfl, fun j u hj => (hs.cell (p := ⟨b, off + j, none⟩) (by simp)).trans (hc j u hj)⟩
theorem grown_of_below {W W' : World} (h : Below W.heap.size W W') : W.grownBy W' none := ⟨h.1, h.2, h.3, h.4, fun k hk _ => h.5 k hk⟩

/-- what the k-th round is handed -/
def enc (L : List T) (k : Nat) : Array Value := #[.int .i64 (ix L k : Nat), (tr L (ix L k)).val]
theorem enc_at {L : List T} {k : Nat} (hk : k < L.length) (ho : usedP L k) : enc L (cand L k).length = #[.int .i64 (k : Nat), (tr L k).val] ∧ (cand L k).length < (cnd L).length := by
  obtain ⟨e, h⟩ := ix_at hk ho
  unfold enc
  rw [e]
  exact ⟨rfl, h⟩

section
set_option maxRecDepth 100000
set_option maxHeartbeats 4000000
theorem used1_in (n : Nat) (hn : 1 ≤ n) (l Bx b off cap N : Nat) (L : List T) (hN : L.length = N) (hN0 : 0 < N) (J Jx : Nat → World → Prop) (B0 : Nat) (hJ : AbidesFrom B0 J)
    (hY : ∀ k W, J k W → k < (cnd L).length → YieldAt Fence.wide (n - 1) Try.prog l (enc L k) W fun e W' => (e = .returned (.bool true) ∧ J (k + 1) W' ∧ Same [b] W W') ∨ (e = .returned (.bool false) ∧ Jx k W'))
    (W : World) (hbx : W.cell? ⟨Bx, 0, none⟩ = some (.slice (some ⟨b, off, none⟩) N cap)) (hL : Trs W (.slice (some ⟨b, off, none⟩) N cap) L) (h0 : J 0 W) :
    CallsIn Fence.wide n Try.prog 67 #[.func (.yield l) #[] #[], .pointer (some ⟨Bx, 0, none⟩)] W fun e W' => (∃ v, e = .returned v) ∧ (J (cnd L).length W' ∨ ∃ k, k < (cnd L).length ∧ Jx k W') := by
  have hfn : ∀ f, Fence.wide.fn f := fun _ => trivial
  have hJa : ∀ k W1 W2, J k W1 → Below W1.heap.size W1 W2 → J k W2 := fun k W1 W2 h hB => hJ _ _ _ none h (grown_of_below hB) (fun r e => by cases e)
  have hlt := hL.lt (by omega)
  have HA := Lib.hid hJa
  have HY := Lib.hid hY
  have HL := Lib.hid (fun W' (h : Same [b] W W') k (hk : k < N) => (hL.same h).get hN hk)
  have HE := Lib.hid (fun k (hk : k < N) => enc_at (L := L) (k := k) (by omega))
  have HC := Lib.hid (fun k => cand_succ L k)
  have HD : Hid (cand L N = cnd L) := by unfold Hid cnd; rw [hN]
  have hcap : N ≤ cap ∧ cap ≤ 9223372036854775807 := by
    obtain ⟨a1, cap1, e, h1, h2⟩ := hL.parts
    cases e
    omega
  obtain ⟨hcap1, hcap2⟩ := hcap
  clear hJa hY hJ hL hN
  refine callsIn_of_wp Try.func67 rfl trivial ?_ rfl
  simp only [Try.ntmps67, List.size_toArray, List.length_cons, List.length_nil, Nat.reduceAdd, Nat.reduceSub, Array.replicate_succ, Array.replicate_zero, List.push_toArray, List.append_toArray, List.nil_append, List.cons_append]
  gi_wp2
  gi_loopw [3, 4, 7] (fun _ _ i wr => ∃ k : Nat, k ≤ N ∧ i = .int .i64 (k : Int) ∧ J (cand L k).length wr ∧ Same [b] W wr ∧ b < wr.heap.size) (fun _ _ i _ => N - (intOf i).toNat)
  case atStart => exact ⟨0, by omega, rfl, h0, Same.refl _ _, hlt⟩
  case round =>
    obtain ⟨k, hk, rfl, hJk, hS, hbl⟩ := hrel
    by_cases hltk : k < N
    · obtain ⟨c0, c1, c2⟩ := HL.out _ hS k hltk
      have hAt := At.new wr (tr L k)
      have hJ1 : ∀ W', Below (wr.alloc (boxO (tr L k))).heap.size (wr.alloc (boxO (tr L k))) W' → J (cand L k).length W' := fun W' h => HA.out _ _ _ hJk (below_th (below_new wr (boxO (tr L k))) h)
      have hS1 : ∀ W', Below (wr.alloc (boxO (tr L k))).heap.size (wr.alloc (boxO (tr L k))) W' → Same [b] W W' ∧ b < W'.heap.size := fun W' h => ⟨hS.trans (Same.below (below_th (below_new wr (boxO (tr L k))) h) (by simpa using hbl)), by have := (below_th (below_new wr (boxO (tr L k))) h).size; omega⟩
      obtain ⟨d0, d1, d2⟩ := hAt.c
      have hX : ∀ W', Below (wr.alloc (boxO (tr L k))).heap.size (wr.alloc (boxO (tr L k))) W' → W'.cell? ⟨wr.heap.size, 0, none⟩ = some (.int .u32 (tr L k).phys) ∧ W'.cell? ⟨wr.heap.size, 1, none⟩ = some (.int .u64 (tr L k).start) ∧ W'.cell? ⟨wr.heap.size, 2, none⟩ = some (.int .u64 (tr L k).fin) := fun W' h => (hAt.th h).c
      have hC := HC.out k
      have hE := HE.out k hltk
      have hf := isFree_any (tr L k)
      have hu : usedP L k ↔ ¬ tr L k = T.zero := Iff.rfl
      obtain ⟨s, hs⟩ : ∃ s, tr L k = s := ⟨_, rfl⟩
      rw [hs] at c0 c1 c2 hJ1 hS1 d0 d1 d2 hE hf hu hX
      have HJ1 := Lib.hid hJ1
      have HS1 := Lib.hid hS1
      have HC1 := Lib.hid hC
      have HE1 := Lib.hid hE
      have HU := Lib.hid hu
      have HX := Lib.hid hX
      clear hJ1 hS1 hC hE hu hs hAt hJk hS hX
      obtain ⟨ph, st, fi⟩ := s
      unfold boxO at HJ1 HS1 HX d0 d1 d2
      unfold T.val at HE1 hf
      dsimp only at c0 c1 c2 HJ1 HS1 HX d0 d1 d2 HE1 hf
      by_cases hz : (⟨ph, st, fi⟩ : T) = T.zero
      · have HNO := Lib.hid (show ¬ usedP L k from fun hh => HU.out.1 hh hz)
        rw [show freeB ⟨ph, st, fi⟩ = true from decide_eq_true hz] at hf
        have HF := Lib.hid hf
        clear hz hf
        gi_wp2_with (gi_at_call 64; refine (callsIn_wide.2 (HF.out _)).mono ?_; rintro e w1 ⟨rfl, hB1⟩)
        go_roundw
        case rel => exact ⟨k + 1, by omega, by go_num, by rw [HC1.out, if_neg HNO.out, List.append_nil]; exact HJ1.out _ hB1, (HS1.out _ hB1).1, (HS1.out _ hB1).2⟩
        case measure => simp [intOf]; omega
      · have hyes : usedP L k := HU.out.2 hz
        rw [show freeB ⟨ph, st, fi⟩ = false from decide_eq_false hz] at hf
        have HF := Lib.hid hf
        obtain ⟨he, hlen⟩ := HE1.out hyes
        have HY1 := Lib.hid (fun W' h => HY.out _ W' (HJ1.out W' h) hlen)
        rw [he] at HY1
        have HCC := Lib.hid (show cand L (k + 1) = cand L k ++ [k] by rw [HC1.out, if_pos hyes])
        have HLEN := Lib.hid hlen
        clear hz hf he hlen hyes
        gi_wp2_with (gi_at_call 64; refine (callsIn_wide.2 (HF.out _)).mono ?_; rintro e w1 ⟨rfl, hB1⟩; obtain ⟨e0, e1, e2⟩ := HX.out _ hB1; obtain ⟨fn, tmps, assign, body, hy, hR⟩ := HY1.out _ hB1)
        refine hR.mono ?_
        rintro e W3 (⟨rfl, hJ3, hk3⟩ | ⟨rfl, hJx3⟩)
        · have hb3 : b < W3.heap.size := by
            have h1 := hk3 b (by simp)
            have h2 := (HS1.out _ hB1).2
            rw [Array.getElem?_eq_getElem h2] at h1
            exact (Array.getElem?_eq_some_iff.1 h1).1
          gi_wp2
          go_roundw
          case rel => exact ⟨k + 1, by omega, by go_num, by rw [HCC.out, List.length_append]; exact hJ3, (HS1.out _ hB1).1.trans hk3, hb3⟩
          case measure => simp [intOf]; omega
        · gi_wp2
          refine bodyPost_ret (results_none rfl _ _ _) rfl ?_
          exact ⟨⟨_, rfl⟩, .inr ⟨_, HLEN.out, hJx3⟩⟩
    · obtain rfl : k = N := by omega
      rw [HD.out] at hJk
      gi_wp2
      go_end0
      exact ⟨⟨_, rfl⟩, .inl hJk⟩
theorem used_in (n : Nat) (a : Option Addr) (N cap : Nat) (w : World) :
    CallsIn Fence.wide n Try.prog 43 #[.slice a N cap] w fun e w' => e = .returned (.func (.func 67) #[] #[.pointer (some ⟨w.heap.size, 0, none⟩)]) ∧ w.alloc (.cells #[.slice a N cap] 36) = w' := by
  refine callsIn_of_wp Try.func43 rfl trivial ?_ rfl
  simp only [Try.ntmps43, List.size_toArray, List.length_cons, List.length_nil, Nat.reduceAdd, Nat.reduceSub, Array.replicate_succ, Array.replicate_zero, List.push_toArray, List.append_toArray, List.nil_append, List.cons_append]
  gi_wp2
  go_ret
  exact ⟨rfl, rfl⟩
end
end Go.Proofs.Ytdniakoedgohkaa.Dat
