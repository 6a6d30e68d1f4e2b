/- Several texts in one, each under its own heading. -/
import Derived.Deep.RegionLaw
import Derived.Test.YtdniakoedgohkaaPk12
import Derived.Test.YtdniakoedgohkaaPk04
import Derived.Test.YtdniakoedgohkaaPk09
import Derived.Test.YtdniakoedgohkaaPk11
/- Add, Expire of the program. -/
namespace Go.Proofs.Ytdniakoedgohkaa.Cps
open Go.RowKit Go.Shelf
attribute [local go_sem] Oper.semAt_some
set_option linter.unusedVariables false
set_option linter.unusedSimpArgs false

theorem eqlS (a : Option Addr) (n c : Nat) (w : World) : (binOp .eql 37 (.slice a n c) (.slice none 0 0)).run Try.prog w = .ok (.bool a.isNone) w :=
  Lib.run_eql_slice_nil w _ _ a n c 0 0 Try.underlying37
/-- what Expire leaves -/
def ExpPost (L : List C) (now keep : Nat) (w : World) (e : Ending) (w' : World) : Prop := ∃ v, e = .returned (.tuple #[v, .int .i64 (expN L now keep : Nat), .int .i64 (expE L)]) ∧ Chs w' v (expV L now keep) ∧ Below w.heap.size w w'
section
set_option maxRecDepth 100000
set_option maxHeartbeats 4000000
end
end Go.Proofs.Ytdniakoedgohkaa.Cps
/- A table's bytes, and what they are read as; they speak of no program. -/
namespace Go.Proofs.Ytdniakoedgohkaa.Cps
set_option linter.unusedVariables false
set_option linter.unusedSimpArgs false

def flagN (c : C) : Nat := if c.snap = true then 1 else 0
theorem flagN_lt (c : C) : flagN c < 256 := by unfold flagN; split <;> omega
def chB (c : C) : ByteArray := numB c.cp 6 ++ numB c.tick 6 ++ numB (flagN c) 1 ++ c.root
theorem chB_size {c : C} (h : c.root.size = 42) : (chB c).size = 55 := by
  simp only [chB, ByteArray.size_append, numB_size, h]
def saidK (M : List C) : Nat → ByteArray
  | 0 => ⟨#[]⟩
  | k + 1 => saidK M k ++ chB (ck M k)
def sized (M : List C) (k : Nat) : Prop := ∀ j, j < k → (ck M j).root.size = 42
theorem saidK_size {M : List C} : ∀ k, sized M k → (saidK M k).size = 55 * k
  | 0, _ => rfl
  | k + 1, h => by rw [saidK, ByteArray.size_append, saidK_size k (fun j hj => h j (by omega)), chB_size (h k (by omega))]; omega
theorem saidK_congr {M M' : List C} : ∀ k, (∀ j, j < k → ck M j = ck M' j) → saidK M k = saidK M' k
  | 0, _ => rfl
  | k + 1, h => by rw [saidK, saidK, saidK_congr k (fun j hj => h j (by omega)), h k (by omega)]
def blkB (M : List C) : ByteArray := saidK M M.length ++ zeros (508 - 55 * M.length)
theorem blkB_size {M : List C} (h : sized M M.length) (h9 : M.length ≤ 9) : (blkB M).size = 508 := by
  unfold blkB
  rw [ByteArray.size_append, saidK_size _ h, zeros_size]
  omega
/-- the k-th nine checkpoints -/
def chunk (L : List C) (k : Nat) : List C := (L.drop (9 * k)).take 9
theorem chunk_length (L : List C) (k : Nat) : (chunk L k).length = min 9 (L.length - 9 * k) := by unfold chunk; rw [List.length_take, List.length_drop]
theorem ck_chunk (L : List C) (k : Nat) {j : Nat} (h : j < 9) : ck (chunk L k) j = ck L (9 * k + j) := by
  unfold chunk ck
  simp only [List.getD_eq_getElem?_getD, List.getElem?_take, if_pos h, List.getElem?_drop]
def nBl (n : Nat) : Nat := (n + 8) / 9
def blksK (L : List C) (k : Nat) : List ByteArray := (List.range k).map fun i => blkB (chunk L i)
theorem blksK_zero (L : List C) : blksK L 0 = [] := rfl
theorem blksK_succ (L : List C) (k : Nat) : blksK L (k + 1) = blksK L k ++ [blkB (chunk L k)] := by
  unfold blksK
  rw [List.range_succ, List.map_append]
  rfl
theorem blksK_length (L : List C) (k : Nat) : (blksK L k).length = k := by unfold blksK; simp
theorem blksK_get {L : List C} {n i : Nat} (h : i < n) : (blksK L n)[i]? = some (blkB (chunk L i)) := by
  unfold blksK
  rw [List.getElem?_map, List.getElem?_range h]
  rfl
def encV (L : List C) : List ByteArray := if RightP L then blksK L (nBl L.length) else []
def encE (L : List C) : Int := if RightP L then 0 else 90
theorem RightP.sized {L : List C} (h : RightP L) (k : Nat) : sized (chunk L k) (chunk L k).length := fun j hj => by
  rw [chunk_length] at hj
  rw [ck_chunk L k (by omega)]
  exact (h.fine (by omega)).2.2

/-! ### what is read -/
def chkAt (b : ByteArray) (p : Nat) : C := ⟨takeN b p 6, takeN b (p + 6) 6, decide (takeN b (p + 12) 1 = 1), b.extract (p + 13) (p + 55)⟩
theorem takeN_mid (a b c : ByteArray) (n k : Nat) (hb : numB n k = b) (h : n < 256 ^ k) : takeN (a ++ b ++ c) a.size k = n := by
  rw [takeN_congr (a ++ b ++ c) (a ++ b) a.size a.size k (fun i hi => sb_left _ _ _ (by rw [ByteArray.size_append, ← hb, numB_size]; omega)), ← hb, takeN_back a n k h]
theorem extract_mid (a b c : ByteArray) : (a ++ b ++ c).extract a.size (a.size + b.size) = b := by
  apply ByteArray.ext
  apply Array.toList_inj.1
  have ha : a.data.toList.length = a.size := by simp
  have hb : b.data.toList.length = b.size := by simp
  rw [Lib.extract_data, app_list, app_list, ← ha, List.append_assoc, List.drop_left, show a.data.toList.length + b.size - a.data.toList.length = b.data.toList.length by omega, List.take_left]
theorem chk_back (a z : ByteArray) (c : C) (h : fineP c) : chkAt (a ++ chB c ++ z) a.size = c := by
  obtain ⟨h1, h2, h3⟩ := h
  have e : (256 : Nat) ^ 6 = 281474976710656 := by decide
  have f : flagN c < 256 ^ 1 := by have := flagN_lt c; omega
  have e1 : takeN (a ++ chB c ++ z) a.size 6 = c.cp := by
    have := takeN_mid a (numB c.cp 6) (numB c.tick 6 ++ numB (flagN c) 1 ++ c.root ++ z) c.cp 6 rfl (by rw [e]; exact h1)
    rw [← this]
    congr 1
    unfold chB
    simp only [app_assoc]
  have e2 : takeN (a ++ chB c ++ z) (a.size + 6) 6 = c.tick := by
    have := takeN_mid (a ++ numB c.cp 6) (numB c.tick 6) (numB (flagN c) 1 ++ c.root ++ z) c.tick 6 rfl (by rw [e]; exact h2)
    rw [ByteArray.size_append, numB_size] at this
    rw [← this]
    congr 1
    unfold chB
    simp only [app_assoc]
  have e3 : takeN (a ++ chB c ++ z) (a.size + 12) 1 = flagN c := by
    have := takeN_mid (a ++ numB c.cp 6 ++ numB c.tick 6) (numB (flagN c) 1) (c.root ++ z) (flagN c) 1 rfl f
    rw [ByteArray.size_append, ByteArray.size_append, numB_size, numB_size] at this
    rw [← this]
    congr 1
    unfold chB
    simp only [app_assoc]
  have e4 : (a ++ chB c ++ z).extract (a.size + 13) (a.size + 55) = c.root := by
    have := extract_mid (a ++ numB c.cp 6 ++ numB c.tick 6 ++ numB (flagN c) 1) c.root z
    simp only [ByteArray.size_append, numB_size, h3] at this
    rw [← this]
    congr 1
    unfold chB
    simp only [app_assoc]
  unfold chkAt
  rw [e1, e2, e3, e4]
  obtain ⟨n, t, s, r⟩ := c
  congr 1
  unfold flagN
  cases s <;> rfl
/-- what comes behind j checkpoints -/
def tailK (M : List C) : Nat → Nat → ByteArray
  | _, 0 => ⟨#[]⟩
  | j, n + 1 => chB (ck M j) ++ tailK M (j + 1) n
theorem said_split (M : List C) : ∀ n j, saidK M (j + n) = saidK M j ++ tailK M j n
  | 0, j => by rw [tailK, app_none]; rfl
  | n + 1, j => by
    rw [show j + (n + 1) = (j + 1) + n by omega, said_split M n (j + 1), saidK, tailK, app_assoc]
theorem blk_at {M : List C} {j : Nat} (hj : j < M.length) : ∃ z, blkB M = saidK M j ++ chB (ck M j) ++ z := by
  obtain ⟨n, hn⟩ : ∃ n, M.length = j + 1 + n := ⟨M.length - j - 1, by omega⟩
  refine ⟨tailK M (j + 1) n ++ zeros (508 - 55 * M.length), ?_⟩
  unfold blkB
  have h2 : saidK M M.length = saidK M j ++ chB (ck M j) ++ tailK M (j + 1) n := by
    rw [hn, said_split M n (j + 1), saidK]
  rw [h2]
  simp only [app_assoc]
theorem chk_blk {M : List C} {j : Nat} (hs : sized M M.length) (hj : j < M.length) (hf : fineP (ck M j)) : chkAt (blkB M) (55 * j) = ck M j := by
  obtain ⟨z, hz⟩ := blk_at hj
  have h1 := saidK_size j (fun i hi => hs i (by omega) : sized M j)
  rw [hz, ← h1]
  exact chk_back _ _ _ hf
theorem sb_zeros (n i : Nat) : sb (zeros n) i = 0 := by
  unfold sb zeros
  simp only [List.getElem?_replicate]
  split <;> rfl
theorem sb_blk_end {M : List C} (hs : sized M M.length) {i : Nat} (hi : 55 * M.length ≤ i) : sb (blkB M) i = 0 := by
  have h1 := saidK_size _ hs
  unfold blkB
  obtain ⟨d, rfl⟩ : ∃ d, i = (saidK M M.length).size + d := ⟨i - (saidK M M.length).size, by omega⟩
  rw [sb_right, sb_zeros]
theorem takeN_zero (b : ByteArray) (p : Nat) : ∀ k, (∀ i, i < k → sb b (p + i) = 0) → takeN b p k = 0
  | 0, _ => rfl
  | k + 1, h => by rw [takeN, takeN_zero b p k (fun i hi => h i (by omega)), h k (by omega)]; omega
theorem chk_blk_end {M : List C} {j : Nat} (hs : sized M M.length) (hj : M.length ≤ j) : (chkAt (blkB M) (55 * j)).cp = 0 :=
  takeN_zero _ _ _ fun i _ => sb_blk_end hs (by omega)
/-- all that blocks have room for -/
def allK (T : List ByteArray) (k : Nat) : C := chkAt (T.getD (k / 9) ⟨#[]⟩) (55 * (k % 9))
theorem blks_len {L : List C} (h : RightP L) : encV L = blksK L (nBl L.length) := if_pos h
theorem enc_getD {L : List C} (h : RightP L) {i : Nat} (hi : i < nBl L.length) : (encV L).getD i ⟨#[]⟩ = blkB (chunk L i) := by
  rw [blks_len h, List.getD_eq_getElem?_getD, blksK_get hi]
  rfl
/-- what was written is read -/
theorem all_back {L : List C} (h : RightP L) {k : Nat} (hk : k < L.length) : allK (encV L) k = ck L k := by
  have hd := Nat.div_add_mod k 9
  have hm := Nat.mod_lt k (show 0 < 9 by decide)
  unfold allK
  rw [enc_getD h (by unfold nBl; omega)]
  have hl := chunk_length L (k / 9)
  rw [chk_blk (h.sized (k / 9)) (by rw [hl]; omega) (by rw [ck_chunk L _ hm]; exact h.fine (by omega)), ck_chunk L _ hm, hd]
theorem all_end {L : List C} (h : RightP L) (hk : L.length < 9 * nBl L.length) : (allK (encV L) L.length).cp = 0 := by
  have hd := Nat.div_add_mod L.length 9
  have hm := Nat.mod_lt L.length (show 0 < 9 by decide)
  unfold allK
  rw [enc_getD h (by omega)]
  have hl := chunk_length L (L.length / 9)
  exact chk_blk_end (h.sized _) (by rw [hl]; omega)
theorem enc_length {L : List C} (h : RightP L) : (encV L).length = nBl L.length := by rw [blks_len h, blksK_length]
theorem enc_inj {L M : List C} (h : RightP L) (k : RightP M) (e : encV L = encV M) : L = M := by
  have h1 := enc_length h
  have h2 := enc_length k
  rw [e, h2] at h1
  have hlen : L.length = M.length := by
    rcases Nat.lt_trichotomy L.length M.length with hh | hh | hh
    · have e1 := all_end h (by rw [← h1]; unfold nBl; omega)
      rw [e, all_back k hh] at e1
      have := k.pos hh
      omega
    · exact hh
    · have e1 := all_end k (by rw [h1]; unfold nBl; omega)
      rw [← e, all_back h hh] at e1
      have := h.pos hh
      omega
  exact ck_ext hlen fun i hi => by rw [← all_back h hi, e, all_back k (by omega)]
theorem enc_sizes {L : List C} (h : RightP L) : ∀ b ∈ encV L, b.size = 508 := fun b hb => by
  rw [blks_len h] at hb
  unfold blksK at hb
  obtain ⟨i, _, rfl⟩ := List.mem_map.1 hb
  exact blkB_size (h.sized i) (by rw [chunk_length]; omega)
/-- the table that blocks are -/
def DecP (T : List ByteArray) (L : List C) : Prop := RightP L ∧ encV L = T
instance (T : List ByteArray) (L : List C) : Decidable (DecP T L) := by unfold DecP; infer_instance
/-- the first k of all -/
def firstK (T : List ByteArray) (k : Nat) : List C := (List.range k).map (allK T)
theorem firstK_length (T : List ByteArray) (k : Nat) : (firstK T k).length = k := by simp [firstK]
theorem firstK_succ (T : List ByteArray) (k : Nat) : firstK T (k + 1) = firstK T k ++ [allK T k] := by simp [firstK, List.range_succ]
theorem ck_firstK {T : List ByteArray} {k i : Nat} (h : i < k) : ck (firstK T k) i = allK T i := by
  have h1 := ck_get (L := firstK T k) (i := i) (by rw [firstK_length]; exact h)
  unfold firstK at h1
  rw [List.getElem?_map, List.getElem?_range h] at h1
  exact (Option.some.inj h1).symm
theorem firstK_back {T : List ByteArray} {L : List C} (h : DecP T L) : firstK T L.length = L :=
  ck_ext (firstK_length _ _) fun i hi => by
    rw [firstK_length] at hi
    rw [ck_firstK hi, ← h.2, all_back h.1 hi]
theorem dec_length {T : List ByteArray} {L : List C} (h : DecP T L) : L.length ≤ 9 * T.length := by
  rw [← h.2, enc_length h.1]
  unfold nBl
  omega
/-- where the reading ends -/
theorem dec_stop {T : List ByteArray} {L : List C} (h : DecP T L) {k : Nat} (hk : k ≤ 9 * T.length) (h0 : ∀ j, j < k → ¬ (allK T j).cp = 0) (h1 : k = 9 * T.length ∨ (allK T k).cp = 0) : firstK T k = L := by
  have hl := dec_length h
  have hT : T.length = nBl L.length := by rw [← h.2, enc_length h.1]
  have e : k = L.length := by
    rcases Nat.lt_trichotomy k L.length with hh | hh | hh
    · rcases h1 with h1 | h1
      · omega
      · rw [← h.2, all_back h.1 hh] at h1
        have := h.1.pos hh
        omega
    · exact hh
    · have := h0 _ hh
      rw [← h.2] at this
      exact absurd (all_end h.1 (by rw [← hT]; omega)) this
  rw [e]
  exact firstK_back h
def decK (T : List ByteArray) : Option Nat := (List.range (9 * T.length + 1)).find? (fun k => decide (DecP T (firstK T k)))
def decV (T : List ByteArray) : List C := match decK T with | some k => firstK T k | none => []
def decE (T : List ByteArray) : Int := match decK T with | some _ => 0 | none => 90
theorem dec_yes {T : List ByteArray} {L : List C} (h : DecP T L) : decV T = L ∧ decE T = 0 := by
  cases hk : decK T with
  | none =>
    have := List.find?_eq_none.1 hk L.length (by rw [List.mem_range]; have := dec_length h; omega)
    rw [firstK_back h] at this
    exact absurd (decide_eq_true h) this
  | some k =>
    have h2 : DecP T (firstK T k) := by
      have h3 := List.find?_some hk
      exact of_decide_eq_true h3
    refine ⟨?_, by unfold decE; rw [hk]⟩
    unfold decV
    rw [hk]
    exact enc_inj h2.1 h.1 (h2.2.trans h.2.symm)
theorem dec_no {T : List ByteArray} (h : ¬ ∃ L, DecP T L) : decV T = [] ∧ decE T = 90 := by
  cases hk : decK T with
  | none => exact ⟨by unfold decV; rw [hk], by unfold decE; rw [hk]⟩
  | some k =>
    have h3 := List.find?_some hk
    have h4 : DecP T (firstK T k) := of_decide_eq_true h3
    exact absurd ⟨_, h4⟩ h
theorem decE_zero {T : List ByteArray} : decE T = 0 → DecP T (decV T) := fun h => by
  by_cases hx : ∃ L, DecP T L
  · obtain ⟨L, hL⟩ := hx
    rw [(dec_yes hL).1]
    exact hL
  · rw [(dec_no hx).2] at h
    cases h
end Go.Proofs.Ytdniakoedgohkaa.Cps
/- The library's Chunk hands out a table's places, nine at a time. -/
namespace Go.Proofs.Ytdniakoedgohkaa.Cps
open Go.RowKit
attribute [local go_sem] Oper.semAt_some
set_option linter.unusedVariables false
set_option linter.unusedSimpArgs false

/-- the blocks bs lie as they lay -/
def Same (bs : List Nat) (W W' : World) : Prop := ∀ b, b ∈ bs → W'.heap[b]? = W.heap[b]?
theorem Same.refl (bs : List Nat) (W : World) : Same bs W W := fun _ _ => rfl
theorem Same.trans {bs : List Nat} {A B C : World} (h : Same bs A B) (k : Same bs B C) : Same bs A C := fun b hb => (k b hb).trans (h b hb)
theorem Same.below {bs : List Nat} {W W' : World} {n : Nat} (hb : Below n W W') (h : ∀ b, b ∈ bs → b < n) : Same bs W W' := fun b hh => hb.block b (h b hh)
theorem Same.cell {bs : List Nat} {W W' : World} (h : Same bs W W') {p : Addr} (hp : p.block ∈ bs) : W'.cell? p = W.cell? p := World.cell?_of_block (w := W) (h p.block hp)
theorem sameK_t {bs : List Nat} {A B C : World} (h : Same bs A B) (k : Same bs B C) : Same bs A C := h.trans k
theorem sameK_b {bs : List Nat} {w : World} (hn : ∀ b, b ∈ bs → b < w.heap.size) (W : World) (l : Nat) (o o' : Obj) (hl : w.heap.size ≤ l) (_ : W.heap[l]? = some o) (_ : o.isCells = false) (_ : o.isWalk = false) : Same bs W (W.putObj l o') :=
  fun b hb => World.putObj_heap_other (by have := hn b hb; omega)

/-- how long the k-th piece is, and where it lies -/
def chN (N k : Nat) : Nat := min 9 (N - 9 * k)
def chEnc (b off N k : Nat) : Array Value := #[.slice (some ⟨b, off + 9 * k * 4, none⟩) (chN N k) (chN N k)]
section
set_option maxRecDepth 100000
set_option maxHeartbeats 4000000
theorem chunk1_in (n : Nat) (hn : 1 ≤ n) (l Bx By b off cap N : Nat) (a : Option Addr) (ha : 0 < N → a = some ⟨b, off, none⟩) (hN9 : N ≤ 100000) (J Jx : Nat → World → Prop) (B0 : Nat) (hJ : AbidesFrom B0 J)
    (hY : ∀ k W, J k W → 9 * k < N → YieldAt Fence.wide (n - 1) Try.prog l (chEnc b off N k) W fun e W' => (e = .returned (.bool true) ∧ J (k + 1) W' ∧ Same [Bx, By] W W') ∨ (e = .returned (.bool false) ∧ Jx k W'))
    (W : World) (hbx : W.cell? ⟨Bx, 0, none⟩ = some (.slice a N cap)) (hby : W.cell? ⟨By, 0, none⟩ = some (.int .i64 9)) (hcap : N ≤ cap) (hcap2 : cap ≤ 9223372036854775807) (h0 : J 0 W) :
    CallsIn Fence.wide n Try.prog 73 #[.func (.yield l) #[] #[], .pointer (some ⟨Bx, 0, none⟩), .pointer (some ⟨By, 0, none⟩)] W fun e W' => (∃ v, e = .returned v) ∧ (J ((N + 8) / 9) W' ∨ ∃ k, k < (N + 8) / 9 ∧ Jx k W') := by
  have hfn : ∀ f, Fence.wide.fn f := fun _ => trivial
  have hJa : ∀ k W1 W2, J k W1 → Below W1.heap.size W1 W2 → J k W2 := fun k W1 W2 h hB => hJ _ _ _ none h (grown_of_below hB) (fun r e => by cases e)
  have hlt := World.block_lt_of_cell? _ _ hbx
  have hlt2 := World.block_lt_of_cell? _ _ hby
  have HA := Lib.hid hJa
  have HY := Lib.hid hY
  have HX := Lib.hid (fun W' (h : Same [Bx, By] W W') => And.intro ((h.cell (p := ⟨Bx, 0, none⟩) (by simp)).trans hbx) ((h.cell (p := ⟨By, 0, none⟩) (by simp)).trans hby))
  clear hJa hY hJ hbx hby
  refine callsIn_of_wp Try.func73 rfl trivial ?_ rfl
  simp only [Try.ntmps73, List.size_toArray, List.length_cons, List.length_nil, Nat.reduceAdd, Nat.reduceSub, Array.replicate_succ, Array.replicate_zero, List.push_toArray, List.append_toArray, List.nil_append, List.cons_append]
  gi_wp2
  gi_loopw [4, 5] (fun i _ wr => ∃ k : Nat, 9 * k < N + 9 ∧ i = .int .i64 ((9 * k : Nat) : Int) ∧ J k wr ∧ Same [Bx, By] W wr) (fun i _ _ => N + 9 - (intOf i).toNat)
  case atStart => exact ⟨0, by omega, rfl, h0, Same.refl _ _⟩
  case round =>
    obtain ⟨k, hk, rfl, hJk, hS⟩ := hrel
    obtain ⟨c0, c1⟩ := HX.out _ hS
    obtain ⟨i, hi⟩ : ∃ i, 9 * k = i := ⟨_, rfl⟩
    rw [hi]
    by_cases hltk : i < N
    · obtain rfl := ha (by omega)
      have d0 : wr.drew.cell? ⟨Bx, 0, none⟩ = some (.slice (some ⟨b, off, none⟩) N cap) := c0
      have d1 : wr.drew.cell? ⟨By, 0, none⟩ = some (.int .i64 9) := c1
      obtain ⟨m, hm⟩ : ∃ m, chN N k = m := ⟨_, rfl⟩
      have hm2 : m = min 9 (N - i) := by rw [← hm, ← hi]; rfl
      have hmin : (if ((N - i : Nat) : Int) < 9 then ((N - i : Nat) : Int) else 9) = (m : Int) := by rw [hm2]; split <;> omega
      have hsub : (N : Int) - (i : Int) = ((N - i : Nat) : Int) := by omega
      have hwm : IntKind.i64.wrap ((i : Int) + (m : Int)) = (i : Int) + (m : Int) := by rw [IntKind.wrap_i64]; omega
      have hw9 : IntKind.i64.wrap ((i : Int) + 9) = (i : Int) + 9 := by rw [IntKind.wrap_i64]; omega
      have hb1 : (i : Int) + (m : Int) ≤ (cap : Int) := by omega
      have hb2 : i ≤ cap := by omega
      have hb3 : i ≤ N := by omega
      have hb4 : (i : Int) ≤ (i : Int) + (m : Int) := by omega
      have hne : ¬ cap = i := by omega
      gi_wp2
      refine wpIn_wide.2 ?_
      go_quiet (fail)
      obtain ⟨V, hV⟩ : ∃ V, wr.drewN nq = V := ⟨_, rfl⟩
      have e0 : V.cell? ⟨Bx, 0, none⟩ = some (.slice (some ⟨b, off, none⟩) N cap) := by rw [← hV]; exact c0
      have e1 : V.cell? ⟨By, 0, none⟩ = some (.int .i64 9) := by rw [← hV]; exact c1
      have hBV : Below wr.heap.size wr V := by rw [← hV]; exact below_drewN (Below.refl _ _) _
      have HSV := Lib.hid (show Same [Bx, By] W V from hS.trans (by rw [← hV]; exact fun _ _ => rfl))
      have hJV := HA.out _ _ _ hJk hBV
      obtain ⟨fn, tmps, assign, body, hy, hR⟩ := HY.out k V hJV (by omega)
      have henc : chEnc b off N k = #[.slice (some ⟨b, off + i * 4, none⟩) m m] := by unfold chEnc; rw [hm, hi]
      rw [henc] at hy
      rw [hV]
      rw [show min (9 : Int) ((N - i : Nat) : Int) = (m : Int) by omega]
      have hm9 : m ≤ 9 := by omega
      have hm1 : 1 ≤ m := by omega
      have hm0 : ¬ m = 0 := by omega
      have hmi : ¬ i + m = i := by omega
      clear hV hBV hJV hJk henc hm d0 d1 c0 c1 hS hmin hm2
      have hnat : i + m - i = m := by omega
      have hk1 : i + 9 = 9 * (k + 1) := by omega
      have HK1 := Lib.hid hk1
      have HI := Lib.hid hi
      clear hi hk1
      gi_wp2
      refine hR.mono ?_
      rintro e W3 (⟨rfl, hJ3, hk3⟩ | ⟨rfl, hJx3⟩)
      · obtain ⟨q0, q1⟩ := HX.out W3 (HSV.out.trans hk3)
        gi_wp2
        go_roundw
        case rel => exact ⟨k + 1, by have := HI.out; omega, by rw [← HK1.out]; go_num, hJ3, HSV.out.trans hk3⟩
        case measure => simp [intOf]; omega
      · gi_wp2
        refine bodyPost_ret (results_none rfl _ _ _) rfl ?_
        exact ⟨⟨_, rfl⟩, .inr ⟨k, by have := HI.out; omega, hJx3⟩⟩
    · have hkk : (N + 8) / 9 = k := by omega
      have HJ : Hid (J ((N + 8) / 9) wr) := by rw [hkk]; exact hJk
      clear hi hJk hkk
      gi_wp2
      go_end0
      exact ⟨⟨_, rfl⟩, .inl HJ.out⟩
theorem chunk_in (n : Nat) (a : Option Addr) (N cap : Nat) (w : World) :
    CallsIn Fence.wide n Try.prog 49 #[.slice a N cap, .int .i64 9] w fun e w' => e = .returned (.func (.func 73) #[] #[.pointer (some ⟨w.heap.size, 0, none⟩), .pointer (some ⟨w.heap.size + 1, 0, none⟩)]) ∧ (w.alloc (.cells #[.slice a N cap] 37)).alloc (.cells #[.int .i64 9] 3) = w' := by
  refine callsIn_of_wp Try.func49 rfl trivial ?_ rfl
  simp only [Try.ntmps49, List.size_toArray, List.length_cons, List.length_nil, Nat.reduceAdd, Nat.reduceSub, Array.replicate_succ, Array.replicate_zero, List.push_toArray, List.append_toArray, List.nil_append, List.cons_append]
  gi_wp2
  go_ret
  exact ⟨rfl, rfl⟩
end
end Go.Proofs.Ytdniakoedgohkaa.Cps
