/- What the document reads out of blocks; its take. -/
import Derived.Test.YtoedjemelblpaaaNumTakeRef
import Derived.Test.YtoedjemelblpaaaCpsRefE
import Derived.Test.YtoedjemelblpaaaCpsDec
namespace Go.Proofs.Ytoedjemelblpaaa.Cps.R
open Go.RowKit
attribute [local go_sem] Oper.semAt_some
set_option linter.unusedVariables false
set_option linter.unusedSimpArgs false
theorem bareB_yes {s : ByteArray} {a : Nat} (h : ∀ i, a ≤ i → sb s i = 0) : bareB s a = true := by
  unfold bareB
  rw [List.all_eq_true]
  intro x hx
  obtain ⟨i, hi⟩ := List.mem_iff_getElem?.1 hx
  rw [List.getElem?_drop] at hi
  have h1 := h (a + i) (by omega)
  unfold sb at h1
  rw [hi] at h1
  rw [beq_iff_eq]
  exact UInt8.toNat_inj.1 h1
theorem bareB_no {s : ByteArray} {a i : Nat} (ha : a ≤ i) (hi : ¬ sb s i = 0) : bareB s a = false := by
  rw [Bool.eq_false_iff]
  intro h
  unfold bareB at h
  rw [List.all_eq_true] at h
  apply hi
  unfold sb
  cases hx : s.data.toList[i]? with
  | none => rfl
  | some x =>
    have hm : x ∈ s.data.toList.drop a := List.mem_of_getElem? (i := i - a) (by rw [List.getElem?_drop, show a + (i - a) = i by omega]; exact hx)
    have := h x hm
    rw [beq_iff_eq] at this
    rw [this]
    rfl
def chkR (b : ByteArray) (p : Nat) : C := ⟨takeN b p 6, takeN b (p + 6) 6, decide (¬ sb b (p + 12) = 0), b.extract (p + 13) (p + 55)⟩
theorem takeN_one (b : ByteArray) (p : Nat) : takeN b p 1 = sb b p := by simp [takeN]
theorem flag_blk {M : List C} {j : Nat} (hs : sized M M.length) (hj : j < M.length) : sb (blkB M) (55 * j + 12) = flagN (ck M j) := by
  obtain ⟨z, hz⟩ := blk_at hj
  have h1 := saidK_size j (fun i hi => hs i (by omega) : sized M j)
  have f : flagN (ck M j) < 256 ^ 1 := by have := flagN_lt (ck M j); omega
  rw [← takeN_one, hz, ← h1]
  have := takeN_mid (saidK M j ++ numB (ck M j).cp 6 ++ numB (ck M j).tick 6) (numB (flagN (ck M j)) 1) ((ck M j).root ++ z) (flagN (ck M j)) 1 rfl f
  rw [ByteArray.size_append, ByteArray.size_append, numB_size, numB_size] at this
  rw [← this]
  congr 1
  unfold chB
  simp only [app_assoc]
theorem chkR_blk {M : List C} {j : Nat} (hs : sized M M.length) (hj : j < M.length) (hf : fineP (ck M j)) : chkR (blkB M) (55 * j) = ck M j := by
  have h1 := chk_blk hs hj hf
  have h2 := flag_blk hs hj
  have h3 : takeN (blkB M) (55 * j + 12) 1 = flagN (ck M j) := by rw [takeN_one, h2]
  rw [← h1]
  unfold chkR chkAt
  rw [h2, h3]
  congr 1
  unfold flagN
  split <;> rfl
theorem bare_blk {M : List C} {k : Nat} (hs : sized M M.length) (hp : ∀ j, j < M.length → 1 ≤ (ck M j).cp ∧ fineP (ck M j)) : bareB (blkB M) (55 * k) = decide (M.length ≤ k) := by
  by_cases h : M.length ≤ k
  · rw [decide_eq_true h]
    exact bareB_yes fun i hi => sb_blk_end hs (by omega)
  · rw [decide_eq_false h]
    obtain ⟨h1, h2⟩ := hp k (by omega)
    have h3 := chk_blk hs (show k < M.length by omega) h2
    by_cases hx : ∃ i, i < 6 ∧ ¬ sb (blkB M) (55 * k + i) = 0
    · obtain ⟨i, _, hi⟩ := hx
      exact bareB_no (i := 55 * k + i) (by omega) hi
    · have h4 : (chkAt (blkB M) (55 * k)).cp = 0 := takeN_zero _ _ _ fun i hi => by
        by_cases h5 : sb (blkB M) (55 * k + i) = 0
        · exact h5
        · exact absurd ⟨i, hi, h5⟩ hx
      rw [h3] at h4
      omega
theorem dec_at {T : List ByteArray} {L : List C} (h : DecP T L) {i : Nat} {b : ByteArray} (hb : T[i]? = some b) : b.size = 508 ∧ ∀ k, k < 9 → bareB b (55 * k) = decide (L.length ≤ 9 * i + k) ∧ (9 * i + k < L.length → chkR b (55 * k) = ck L (9 * i + k)) := by
  have hi : i < T.length := (List.getElem?_eq_some_iff.1 hb).1
  have hl : T.length = nBl L.length := by rw [← h.2, enc_length h.1]
  have he : b = blkB (chunk L i) := by
    have := enc_getD h.1 (i := i) (by omega)
    rw [h.2, List.getD_eq_getElem?_getD, hb] at this
    exact this
  have hs := h.1.sized i
  have hcl := chunk_length L i
  have hp : ∀ j, j < (chunk L i).length → 1 ≤ (ck (chunk L i) j).cp ∧ fineP (ck (chunk L i) j) := fun j hj => by
    rw [ck_chunk L i (by omega)]
    exact ⟨h.1.pos (by omega), h.1.fine (by omega)⟩
  subst he
  refine ⟨blkB_size hs (by omega), fun k hk => ⟨?_, fun hlt => ?_⟩⟩
  · rw [bare_blk hs hp]
    rw [decide_eq_decide]
    omega
  · rw [chkR_blk hs (by omega) (hp k (by omega)).2, ck_chunk L i hk]
set_option maxRecDepth 100000 in
set_option maxHeartbeats 1000000 in
theorem take_any (s : ByteArray) (a k : Nat) (w : World) (hs : s.size ≤ 281474976710656) (h1 : 1 ≤ k) (h2 : k ≤ 8) (hk : a + k ≤ s.size) : Calls Try.prog 56 #[.string s, .int .i64 a, .int .i64 k] w fun e w' => e = .returned (.int .u64 (takeN s a k)) ∧ w = w' := by
  have h := take_ref_yes s a k w hs h1 h2 hk
  generalize takeN s a k = x at h ⊢
  clear hs h1 h2 hk
  go_enter Try.func56, Try.ntmps56
  go_wp2_with (go_at_call 69; (with_reducible refine Calls.mono h ?_); rintro e w1 ⟨rfl, rfl⟩)
  go_ret
  exact ⟨rfl, rfl⟩
end Go.Proofs.Ytoedjemelblpaaa.Cps.R
