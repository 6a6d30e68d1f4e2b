/- Several texts in one, each under its own heading. -/
import Derived.Test.YteopcjfakhmifaaPk09
import Derived.Test.YteopcjfakhmifaaPk04
import Derived.Test.YteopcjfakhmifaaPk20
/- The table of inodes, as data: inodes as contents, contents as inodes; they are one to one. -/
namespace Go.Proofs.Yteopcjfakhmifaa.Vol
open Ino (I M RightP IOk laid piece getV getE)
set_option linter.unusedVariables false
set_option linter.unusedSimpArgs false
/-! ### inodes as contents -/
/-- the first n inodes from f on, in a block -/
def blk (L : List I) (f : Nat) : Nat → ByteArray
  | 0 => zeros 508
  | n + 1 => laid (blk L f n) n (ino L (f + n))
theorem blk_zero (L : List I) (f : Nat) : blk L f 0 = zeros 508 := rfl
theorem blk_succ (L : List I) (f n : Nat) : blk L f (n + 1) = laid (blk L f n) n (ino L (f + n)) := rfl
theorem blk_size (L : List I) (f : Nat) : ∀ n, n ≤ 12 → (blk L f n).size = 508
  | 0, _ => zeros_size 508
  | n + 1, h => Ino.laid_size (blk_size L f n (by omega)) (by omega) _
/-- the blocks of the first n inodes -/
def tabC (L : List I) (n : Nat) : List ByteArray := (List.range ((n + 11) / 12)).map fun j => blk L (12 * j) (min 12 (n - 12 * j))
theorem tabC_len (L : List I) (n : Nat) : (tabC L n).length = (n + 11) / 12 := by unfold tabC; simp
theorem tabC_at (L : List I) (n : Nat) {j : Nat} (h : j < (n + 11) / 12) : tx (tabC L n) j = blk L (12 * j) (min 12 (n - 12 * j)) := by
  unfold tx tabC
  rw [List.getD_eq_getElem?_getD, List.getElem?_map, List.getElem?_range h]
  rfl
theorem tab_new (L : List I) {i : Nat} (h : i % 12 = 0) : tabC L (i + 1) = tabC L i ++ [laid (zeros 508) 0 (ino L i)] := by
  obtain ⟨q, rfl⟩ : ∃ q, i = 12 * q := ⟨i / 12, by omega⟩
  have e1 : (12 * q + 1 + 11) / 12 = q + 1 := by omega
  have e2 : (12 * q + 11) / 12 = q := by omega
  unfold tabC
  rw [e1, e2, List.range_succ, List.map_append]
  have h1 : ((List.range q).map fun j => blk L (12 * j) (min 12 (12 * q + 1 - 12 * j))) = (List.range q).map fun j => blk L (12 * j) (min 12 (12 * q - 12 * j)) := by
    apply List.map_congr_left
    intro j hj
    rw [List.mem_range] at hj
    rw [show min 12 (12 * q + 1 - 12 * j) = min 12 (12 * q - 12 * j) by omega]
  have h2 : (List.map (fun j => blk L (12 * j) (min 12 (12 * q + 1 - 12 * j))) [q]) = [laid (zeros 508) 0 (ino L (12 * q))] := by
    rw [List.map_singleton, show min 12 (12 * q + 1 - 12 * q) = 0 + 1 by omega, blk_succ, blk_zero, Nat.add_zero]
  rw [h1, h2]
theorem tab_last (L : List I) {i : Nat} (h : ¬ i % 12 = 0) : tx (tabC L i) ((tabC L i).length - 1) = blk L (i - i % 12) (i % 12) := by
  rw [tabC_len, tabC_at L i (by omega)]
  rw [show 12 * ((i + 11) / 12 - 1) = i - i % 12 by omega, show min 12 (i - (i - i % 12)) = i % 12 by omega]
theorem tab_old (L : List I) {i : Nat} (h : ¬ i % 12 = 0) : tabC L (i + 1) = (tabC L i).set ((tabC L i).length - 1) (laid (tx (tabC L i) ((tabC L i).length - 1)) (i % 12) (ino L i)) := by
  have e1 : (i + 1 + 11) / 12 = (i + 11) / 12 := by omega
  have hl : (tabC L (i + 1)).length = (tabC L i).length := by rw [tabC_len, tabC_len, e1]
  rw [tab_last L h]
  apply tx_ext
  · rw [List.length_set, hl]
  · intro j hj
    rw [hl, tabC_len] at hj
    rw [tabC_at L (i + 1) (by omega)]
    by_cases hjl : j = (tabC L i).length - 1
    · rw [hjl, tabC_len]
      unfold tx
      rw [List.getD_eq_getElem?_getD, List.getElem?_set_self (by rw [tabC_len]; omega)]
      rw [show 12 * ((i + 11) / 12 - 1) = i - i % 12 by omega, show min 12 (i + 1 - (i - i % 12)) = i % 12 + 1 by omega, blk_succ, show i - i % 12 + i % 12 = i by omega]
      rfl
    · unfold tx
      rw [List.getD_eq_getElem?_getD, List.getElem?_set_ne (fun e => hjl e.symm), ← List.getD_eq_getElem?_getD]
      show _ = tx (tabC L i) j
      rw [tabC_at L i (by omega)]
      rw [tabC_len] at hjl
      rw [show min 12 (i + 1 - 12 * j) = min 12 (i - 12 * j) by omega]
/-- inodes that contents are made of -/
def tabP (L : List I) : Prop := L.length ≤ 240 ∧ ∀ i, i < L.length → RightP (ino L i)
instance (L : List I) : Decidable (tabP L) := by unfold tabP; exact @instDecidableAnd _ _ _ (Nat.decidableBallLT _ _)
def tabV (L : List I) : List ByteArray := if tabP L then tabC L L.length else []
def tabE (L : List I) : Int := if tabP L then 0 else 154
theorem tab_yes {L : List I} (h : tabP L) : tabV L = tabC L L.length ∧ tabE L = 0 := ⟨if_pos h, if_pos h⟩
theorem tab_no {L : List I} (h : ¬ tabP L) : tabV L = [] ∧ tabE L = 154 := ⟨if_neg h, if_neg h⟩
/-! ### contents as inodes -/
/-- the first n inodes of contents -/
def inosC (C : List ByteArray) (n : Nat) : List I := (List.range n).map fun i => getV (tx C (i / 12)) ((i % 12 : Nat) : Int)
theorem inosC_len (C : List ByteArray) (n : Nat) : (inosC C n).length = n := by unfold inosC; simp
theorem inosC_succ (C : List ByteArray) (n : Nat) : inosC C (n + 1) = inosC C n ++ [getV (tx C (n / 12)) ((n % 12 : Nat) : Int)] := by
  unfold inosC
  rw [List.range_succ, List.map_append]
  rfl
theorem inosC_at (C : List ByteArray) {n i : Nat} (h : i < n) : ino (inosC C n) i = getV (tx C (i / 12)) ((i % 12 : Nat) : Int) := by
  unfold ino inosC
  rw [List.getD_eq_getElem?_getD, List.getElem?_map, List.getElem?_range h]
  rfl
/-- a content of the table -/
def conP (c : ByteArray) : Prop := c.size = 508 ∧ bareB c 504 = true ∧ ∀ k, k < 12 → getE c ((k : Nat) : Int) = 0
instance (c : ByteArray) : Decidable (conP c) := by unfold conP; exact @instDecidableAnd _ _ _ (@instDecidableAnd _ _ _ (Nat.decidableBallLT _ _))
def inosP (C : List ByteArray) : Prop := C.length ≤ 20 ∧ ∀ j, j < C.length → conP (tx C j)
instance (C : List ByteArray) : Decidable (inosP C) := by unfold inosP; exact @instDecidableAnd _ _ _ (Nat.decidableBallLT _ _)
def inosV (C : List ByteArray) : List I := if inosP C then inosC C (12 * C.length) else []
def inosE (C : List ByteArray) : Int := if inosP C then 0 else 154
theorem inos_yes {C : List ByteArray} (h : inosP C) : inosV C = inosC C (12 * C.length) ∧ inosE C = 0 := ⟨if_pos h, if_pos h⟩
theorem inos_no {C : List ByteArray} (h : ¬ inosP C) : inosV C = [] ∧ inosE C = 154 := ⟨if_neg h, if_neg h⟩
/-! ### one to one -/
theorem laid_behind {c : ByteArray} {k : Nat} (h : c.size = 508) (hk : k < 12) (n : I) : (laid c k n).data.toList.drop 504 = c.data.toList.drop 504 := by
  have hl := len_list c
  unfold laid
  have h1 : (c.extract 0 (k * 42) ++ Ino.bytes n).data.toList.length = k * 42 + 42 := by
    rw [len_list, ByteArray.size_append, Ino.bytes_size, ByteArray.size_extract]
    omega
  rw [app_list, List.drop_append, List.drop_of_length_le (by omega), List.nil_append, h1, Lib.extract_data, List.take_of_length_le (by rw [List.length_drop]; omega), List.drop_drop]
  congr 1
  omega
theorem blk_bare (L : List I) (f : Nat) : ∀ n, n ≤ 12 → bareB (blk L f n) 504 = true
  | 0, _ => by
    rw [blk_zero]
    unfold bareB
    show ((List.replicate 508 (0 : UInt8)).drop 504).all (· == 0) = true
    rw [List.drop_replicate]
    decide
  | n + 1, h => by
    have := blk_bare L f n (by omega)
    unfold bareB at this ⊢
    rw [blk_succ, laid_behind (blk_size L f n (by omega)) (by omega)]
    exact this
theorem zeros_piece (k : Nat) (hk : k < 12) : (zeros 508).extract (k * 42) (k * 42 + 42) = Ino.bytes I.zero := by
  have h0 : Ino.bytes I.zero = zeros 42 := by apply ba_ext; decide
  rw [h0]
  apply ba_ext
  rw [Lib.extract_data]
  show ((List.replicate 508 (0 : UInt8)).drop (k * 42)).take (k * 42 + 42 - k * 42) = List.replicate 42 0
  rw [List.drop_replicate, List.take_replicate]
  congr 1
  omega
theorem blk_piece (L : List I) (f : Nat) {k : Nat} (hk : k < 12) : ∀ n, n ≤ 12 → (blk L f n).extract (k * 42) (k * 42 + 42) = Ino.bytes (if k < n then ino L (f + k) else I.zero)
  | 0, _ => by rw [if_neg (by omega)]; exact zeros_piece k hk
  | n + 1, h => by
    rw [blk_succ]
    by_cases e : k = n
    · subst e
      rw [Ino.laid_piece (blk_size L f k (by omega)) hk, if_pos (by omega)]
    · rw [Ino.laid_other (blk_size L f n (by omega)) (by omega) hk e, blk_piece L f hk n (by omega)]
      by_cases h2 : k < n
      · rw [if_pos h2, if_pos (by omega)]
      · rw [if_neg h2, if_neg (by omega)]
theorem blk_get (L : List I) (f : Nat) {k n : Nat} (hk : k < 12) (hn : n ≤ 12) (hr : ∀ i, RightP (ino L i)) (ho : ∀ i, IOk (ino L i)) : getE (blk L f n) ((k : Nat) : Int) = 0 ∧ getV (blk L f n) ((k : Nat) : Int) = if k < n then ino L (f + k) else I.zero := by
  have hp : Ino.hasP (blk L f n) ((k : Nat) : Int) := ⟨blk_size L f n hn, by omega, by omega⟩
  have hpc : piece (blk L f n) ((k : Nat) : Int) = Ino.bytes (if k < n then ino L (f + k) else I.zero) := by
    unfold piece
    rw [Int.toNat_natCast]
    exact blk_piece L f hk n hn
  have hx : RightP (if k < n then ino L (f + k) else I.zero) ∧ IOk (if k < n then ino L (f + k) else I.zero) := by
    split
    · exact ⟨hr _, ho _⟩
    · exact ⟨.inl rfl, IOk.zero⟩
  obtain ⟨h1, h2⟩ := Ino.dec_of hx.1 hx.2
  rw [Ino.getE_yes hp, Ino.getV_yes hp, hpc, Ino.decE_yes h1, Ino.decV_yes h1, h2]
  exact ⟨rfl, rfl⟩
/-- inodes are read from their table as they were, free ones behind -/
theorem tab_back {L : List I} (h : tabP L) (ho : ∀ i, IOk (ino L i)) : inosP (tabV L) ∧ ∃ n, (tabV L).length = n ∧ L.length ≤ 12 * n ∧ 12 * n < L.length + 12 ∧ ∀ i, i < 12 * n → ino (inosV (tabV L)) i = ino L i := by
  have hr : ∀ i, RightP (ino L i) := fun i => by
    by_cases hi : i < L.length
    · exact h.2 i hi
    · have : ino L i = I.zero := by unfold ino; rw [List.getD_eq_getElem?_getD, List.getElem?_eq_none (by omega)]; rfl
      rw [this]
      exact .inl rfl
  have hlen := h.1
  rw [(tab_yes h).1]
  have hl := tabC_len L L.length
  have hp : inosP (tabC L L.length) := by
    refine ⟨by omega, fun j hj => ?_⟩
    rw [hl] at hj
    rw [tabC_at L _ hj]
    exact ⟨blk_size _ _ _ (by omega), blk_bare _ _ _ (by omega), fun k hk => (blk_get L _ hk (by omega) hr ho).1⟩
  refine ⟨hp, _, rfl, by omega, by omega, fun i hi => ?_⟩
  rw [(inos_yes hp).1, inosC_at _ hi, tabC_at L _ (by omega), (blk_get L _ (by omega) (by omega) hr ho).2]
  rw [show 12 * (i / 12) + i % 12 = i by omega]
  split
  · rfl
  · have : ino L i = I.zero := by unfold ino; rw [List.getD_eq_getElem?_getD, List.getElem?_eq_none (by omega)]; rfl
    rw [this]
end Go.Proofs.Yteopcjfakhmifaa.Vol
/- The document's Encode. -/
namespace Go.Proofs.Yteopcjfakhmifaa.Ino.R
open Go.RowKit Go.Shelf
attribute [local go_sem] Oper.semAt_some
set_option linter.unusedVariables false
set_option linter.unusedSimpArgs false
section
set_option maxRecDepth 100000
set_option maxHeartbeats 4000000
theorem encode_no (n : I) (hn : IOk n) (w : World) (h : ¬ RightP n) : Calls Try.prog 66 #[n.val] w (Ans w (.tuple #[.string (encS n), .int .i64 (encE n)])) := by
  have HS := Lib.hid (encS_no h)
  have HE := Lib.hid (encE_no h)
  have hr := fun W => right_any n hn W
  rw [rightB_no h] at hr
  have HB := below_new w (boxO n)
  unfold boxO at HB
  unfold I.val at hr ⊢
  clear h hn
  go_enter Try.func66, Try.ntmps66
  go_wp2_with (go_at_call 47; refine (hr _).mono ?_; rintro e w' ⟨rfl, hB⟩)
  go_ret2
  exact ⟨by rw [HS.out, HE.out]; rfl, below_th HB hB⟩
theorem encode_yes (kk mode links size time dd : Nat) (m : M) (n : I) (hI : n = ⟨kk, mode, links, size, time, dd, m⟩) (hn : IOk n) (hr : RightP n) (w : World) :
    Calls Try.prog 66 #[n.val] w (Ans w (.tuple #[.string (encS n), .int .i64 (encE n)])) := by
  have hF := Fits.of hr hn
  have hR := fun W => right_any n hn W
  rw [rightB_yes hr] at hR
  rw [encS_yes hr, encE_yes hr]
  have hby : bytes n = wholeK n 6 ++ ⟨#[0, 0]⟩ := rfl
  have HWS : Hid (∀ k, wholeK n (k + 1) = wholeK n k ++ numB (m.at' k) 4) := fun k => by rw [hI]; rfl
  have HWZ := Lib.hid (fun k => wholeK_size n k)
  have hsaid : wholeK n 0 = numB kk 1 ++ numB mode 2 ++ numB links 2 ++ numB size 4 ++ numB time 6 ++ numB dd 1 := by rw [hI]; rfl
  obtain ⟨wk, hwk⟩ : ∃ wk, wholeK n = wk := ⟨_, rfl⟩
  rw [hwk] at HWS HWZ hsaid hby
  rw [hby]
  have hend := fun W => run_string_add_sum (P := Try.prog) (w := W) (wk 6) ⟨#[0, 0]⟩ (by have := HWZ.out 6; show (wk 6).size + 2 ≤ _; omega)
  have HEND := Lib.hid hend
  have hA := At.new w n
  have hB := below_new w (boxO n)
  clear hby hwk hend
  subst hI
  obtain ⟨f1, f2, f3, f4, f5, f6, fm⟩ := hF
  dsimp only at f1 f2 f3 f4 f5 f6 fm
  have HMO := Lib.hid fm
  unfold I.val at hR ⊢
  unfold boxO at hA hB
  dsimp only at hR hA hB ⊢
  have HR := Lib.hid hR
  have w1 : IntKind.u64.wrap (kk : Int) = kk := by rw [IntKind.wrap_u64]; omega
  have w2 : IntKind.u64.wrap (mode : Int) = mode := by rw [IntKind.wrap_u64]; omega
  have w3 : IntKind.u64.wrap (links : Int) = links := by rw [IntKind.wrap_u64]; omega
  have w4 : IntKind.u64.wrap (size : Int) = size := by rw [IntKind.wrap_u64]; omega
  have w6 : IntKind.u64.wrap (dd : Int) = dd := by rw [IntKind.wrap_u64]; omega
  have e8 : (256 : Nat) ^ 8 = 18446744073709551616 := by decide
  have P1 := Lib.hid (fun W => bytes_ref kk 1 W (by omega) (by omega) (by omega))
  have P2 := Lib.hid (fun W => bytes_ref mode 2 W (by omega) (by omega) (by omega))
  have P3 := Lib.hid (fun W => bytes_ref links 2 W (by omega) (by omega) (by omega))
  have P4 := Lib.hid (fun W => bytes_ref size 4 W (by omega) (by omega) (by omega))
  have P5 := Lib.hid (fun W => bytes_ref time 6 W (by omega) (by omega) (by omega))
  have P6 := Lib.hid (fun W => bytes_ref dd 1 W (by omega) (by omega) (by omega))
  obtain ⟨B1, hB1⟩ : ∃ x, numB kk 1 = x := ⟨_, rfl⟩
  have z1 : B1.size = 1 := by rw [← hB1, numB_size]
  obtain ⟨B2, hB2⟩ : ∃ x, numB mode 2 = x := ⟨_, rfl⟩
  have z2 : B2.size = 2 := by rw [← hB2, numB_size]
  obtain ⟨B3, hB3⟩ : ∃ x, numB links 2 = x := ⟨_, rfl⟩
  have z3 : B3.size = 2 := by rw [← hB3, numB_size]
  obtain ⟨B4, hB4⟩ : ∃ x, numB size 4 = x := ⟨_, rfl⟩
  have z4 : B4.size = 4 := by rw [← hB4, numB_size]
  obtain ⟨B5, hB5⟩ : ∃ x, numB time 6 = x := ⟨_, rfl⟩
  have z5 : B5.size = 6 := by rw [← hB5, numB_size]
  obtain ⟨B6, hB6⟩ : ∃ x, numB dd 1 = x := ⟨_, rfl⟩
  have z6 : B6.size = 1 := by rw [← hB6, numB_size]
  simp only [hB1, hB2, hB3, hB4, hB5, hB6] at P1 P2 P3 P4 P5 P6 hsaid
  have hadd1 := fun W => run_string_add_sum (P := Try.prog) (w := W) B1 B2 (by omega)
  have hadd2 := fun W => run_string_add_sum (P := Try.prog) (w := W) (B1 ++ B2) B3 (by simp only [ByteArray.size_append]; omega)
  have hadd3 := fun W => run_string_add_sum (P := Try.prog) (w := W) (B1 ++ B2 ++ B3) B4 (by simp only [ByteArray.size_append]; omega)
  have hadd4 := fun W => run_string_add_sum (P := Try.prog) (w := W) (B1 ++ B2 ++ B3 ++ B4) B5 (by simp only [ByteArray.size_append]; omega)
  have hadd5 := fun W => run_string_add_sum (P := Try.prog) (w := W) (B1 ++ B2 ++ B3 ++ B4 ++ B5) B6 (by simp only [ByteArray.size_append]; omega)
  clear hB1 hB2 hB3 hB4 hB5 hB6 f1 f2 f3 f4 f5 f6 fm e8 hR hn hr
  go_enter Try.func66, Try.ntmps66
  go_wp2_with (go_at_call 47; (with_reducible refine Calls.mono (HR.out _) ?_); rintro e W1 ⟨rfl, hB1⟩)
  have hA1 := hA.th hB1
  have hBw1 := below_th hB hB1
  have HC : Hid (∀ W, Below W1.heap.size W1 W → W.cell? ⟨w.heap.size, 0, none⟩ = some (.int .i64 (kk : Int)) ∧ W.cell? ⟨w.heap.size, 1, none⟩ = some (.int .u16 (mode : Int)) ∧ W.cell? ⟨w.heap.size, 2, none⟩ = some (.int .u16 (links : Int)) ∧ W.cell? ⟨w.heap.size, 3, none⟩ = some (.int .u32 (size : Int)) ∧ W.cell? ⟨w.heap.size, 4, none⟩ = some (.int .u64 (time : Int)) ∧ W.cell? ⟨w.heap.size, 5, none⟩ = some (.int .i64 (dd : Int))) := fun W hW => by
    obtain ⟨a0, a1, a2, a3, a4, a5, _⟩ := (hA1.th hW).c
    exact ⟨a0, a1, a2, a3, a4, a5⟩
  have HCM : Hid (∀ W, Below W1.heap.size W1 W → ∀ i, i < 6 → W.cell? ⟨w.heap.size, 6 + i, none⟩ = some (.int .u32 (m.at' i))) := fun W hW i hi => (hA1.th hW).cellM hi
  have HBw1 := Lib.hid hBw1
  have hself : Below W1.heap.size W1 W1 := Below.refl _ _
  have hself2 : Below W1.heap.size W1 W1.drew := hself.drew
  clear hA hB hB1 hA1 hBw1
  go_region_held3 (fun w' => w'.cell? ⟨w.heap.size, 0, none⟩ = some (.int .i64 (kk : Int)) ∧ w'.cell? ⟨w.heap.size, 1, none⟩ = some (.int .u16 (mode : Int)) ∧ w'.cell? ⟨w.heap.size, 2, none⟩ = some (.int .u16 (links : Int)) ∧ w'.cell? ⟨w.heap.size, 3, none⟩ = some (.int .u32 (size : Int)) ∧ w'.cell? ⟨w.heap.size, 4, none⟩ = some (.int .u64 (time : Int)) ∧ w'.cell? ⟨w.heap.size, 5, none⟩ = some (.int .i64 (dd : Int))) (first | exact HC.out _ (by assumption)) (first
    | (go_at_call 75; (with_reducible refine Calls.mono (P1.out _) ?_); rintro e w' ⟨rfl, hBn⟩; have := below_th (by assumption : Below W1.heap.size W1 _) hBn)
    | (go_at_call 75; (with_reducible refine Calls.mono (P2.out _) ?_); rintro e w' ⟨rfl, hBn⟩; have := below_th (by assumption : Below W1.heap.size W1 _) hBn)
    | (go_at_call 75; (with_reducible refine Calls.mono (P3.out _) ?_); rintro e w' ⟨rfl, hBn⟩; have := below_th (by assumption : Below W1.heap.size W1 _) hBn)
    | (go_at_call 75; (with_reducible refine Calls.mono (P4.out _) ?_); rintro e w' ⟨rfl, hBn⟩; have := below_th (by assumption : Below W1.heap.size W1 _) hBn)
    | (go_at_call 75; (with_reducible refine Calls.mono (P5.out _) ?_); rintro e w' ⟨rfl, hBn⟩; have := below_th (by assumption : Below W1.heap.size W1 _) hBn)
    | (go_at_call 75; (with_reducible refine Calls.mono (P6.out _) ?_); rintro e w' ⟨rfl, hBn⟩; have := below_th (by assumption : Below W1.heap.size W1 _) hBn))
  have hbr : Below W1.heap.size W1 w' := by assumption
  rw [← hsaid]
  clear hsaid
  go_wp2
  go_loopw [5, 6] (fun s i wr => ∃ k : Nat, k ≤ 6 ∧ i = .int .i64 (k : Int) ∧ s = .string (wk k) ∧ Hid (Below W1.heap.size W1 wr)) (fun _ i _ => 6 - (intOf i).toNat)
  case atStart => exact ⟨0, by omega, rfl, rfl, hbr⟩
  case round =>
    obtain ⟨k, hk, rfl, rfl, HBr⟩ := hrel
    by_cases hlt : k < 6
    · have hck := HCM.out wr HBr.out k hlt
      have hli : (k : Int) < 6 := by omega
      have hx4 := at_lt HMO.out k
      have e8 : (256 : Nat) ^ 8 = 18446744073709551616 := by decide
      have hPk := fun W => bytes_ref (m.at' k) 4 W (by omega) (by omega) (by omega)
      have hS := HWS.out k
      have hz := HWZ.out k
      obtain ⟨x, hx⟩ : ∃ x, m.at' k = x := ⟨_, rfl⟩
      obtain ⟨st, hst⟩ : ∃ st, wk k = st := ⟨_, rfl⟩
      obtain ⟨q, hq⟩ : ∃ q, wk (k + 1) = q := ⟨_, rfl⟩
      rw [hx] at hx4 hPk hS hck
      rw [hst] at hS hz ⊢
      rw [hq] at hS
      have hwx : IntKind.u64.wrap (x : Int) = x := by rw [IntKind.wrap_u64]; omega
      obtain ⟨Bk, hBk⟩ : ∃ Bk, numB x 4 = Bk := ⟨_, rfl⟩
      have hzk : Bk.size = 4 := by rw [← hBk, numB_size]
      rw [hBk] at hPk hS
      have hadd := fun W => run_string_add_sum (P := Try.prog) (w := W) st Bk (by omega)
      have HPk := Lib.hid hPk
      have HQS := Lib.hid (hq.trans hS)
      clear hS hq hBk hPk hx hst e8
      go_wp2_with (go_at_call 75; (with_reducible refine Calls.mono (HPk.out _) ?_); rintro e w2 ⟨rfl, hB2⟩)
      go_roundw
      case rel => exact ⟨k + 1, by omega, by go_num, by rw [HQS.out], below_th HBr.out hB2⟩
      case measure => simp [intOf]; omega
    · obtain rfl : k = 6 := by omega
      have hend := HEND.out
      go_wp2
      go_ret2
      exact ⟨rfl, below_th HBw1.out HBr.out⟩
theorem encode_any (n : I) (hn : IOk n) (w : World) : Calls Try.prog 66 #[n.val] w (Ans w (.tuple #[.string (encS n), .int .i64 (encE n)])) := by
  by_cases h : RightP n
  · have hF := Fits.of h hn
    have e : n = ⟨n.kind.toNat, n.mode, n.links, n.size, n.time, n.depth.toNat, n.m⟩ := by
      have h1 := hF.kind
      have h2 := hF.depth
      obtain ⟨a, b, c, d, e, f, g⟩ := n
      dsimp only at h1 h2 ⊢
      congr 1
      · omega
      · omega
    exact encode_yes _ _ _ _ _ _ _ n e hn h w
  · exact encode_no n hn w h
end
end Go.Proofs.Yteopcjfakhmifaa.Ino.R
