/- The names that stand one behind the other at the head of bytes; when these are a directory's. They speak of no program. -/
import Derived.Test.YtafbkagoajcmeaaDirParse
import Derived.Test.YtafbkagoajcmeaaDirOrd
import Derived.Test.YtafbkagoajcmeaaDirRefF
namespace Go.Proofs.Ytafbkagoajcmeaa.Dir
set_option linter.unusedVariables false
set_option linter.unusedSimpArgs false

/-- does a name stand there, and a file's number? -/
def good (s : ByteArray) (a : Nat) : Prop := hereOk s a ∧ fineE (here s a)
instance (s : ByteArray) (a : Nat) : Decidable (hereOk s a) := by unfold hereOk takeOk tokOk; infer_instance
instance (e : N) : Decidable (fineE e) := by unfold fineE; infer_instance
instance (s : ByteArray) (a : Nat) : Decidable (good s a) := by unfold good; infer_instance
/-- where the k-th name stands -/
def pos (P : List N) (k : Nat) : Nat := (bytesL (P.take k)).size
theorem pos_zero (P : List N) : pos P 0 = 0 := rfl
theorem pos_all (P : List N) : pos P P.length = (bytesL P).size := by unfold pos; rw [List.take_length]
theorem pos_succ {P : List N} {k : Nat} (h : k < P.length) : pos P (k + 1) = pos P k + 6 + (nm P k).name.size := by
  unfold pos
  rw [take_snoc h, bytesL_snoc, ByteArray.size_append, ent_size]
  omega
theorem pos_app {P R : List N} {k : Nat} (h : k ≤ P.length) : pos (P ++ R) k = pos P k := by
  unfold pos
  rw [List.take_append_of_le_length h]
theorem pos_mono (P : List N) {k : Nat} : pos P k ≤ pos P P.length := by
  rw [pos_all]
  unfold pos
  conv => rhs; rw [← List.take_append_drop k P]
  rw [bytesL_app, ByteArray.size_append]
  omega
/-- what is read, one name behind the other, up to what is none -/
structure Run (s : ByteArray) (P : List N) : Prop where
  at_ : ∀ k, k < P.length → good s (pos P k) ∧ here s (pos P k) = nm P k
  bytes : bytesL P = s.extract 0 (pos P P.length)
  le : pos P P.length ≤ s.size
  stop : pos P P.length < s.size → ¬ good s (pos P P.length)
theorem run_from (s : ByteArray) : ∀ (n : Nat) (P : List N), s.size - pos P P.length ≤ n → (∀ k, k < P.length → good s (pos P k) ∧ here s (pos P k) = nm P k) → bytesL P = s.extract 0 (pos P P.length) → pos P P.length ≤ s.size → ∃ R, Run s R
  | n, P, hn, hat, hb, hle => by
    by_cases hg : pos P P.length < s.size ∧ good s (pos P P.length)
    · obtain ⟨hlt, hg⟩ := hg
      obtain ⟨z1, z2, z3⟩ := here_size hg.1
      have hsn := step_good hb hg.1
      have hl : (P ++ [here s (pos P P.length)]).length = P.length + 1 := by simp
      have hp : pos (P ++ [here s (pos P P.length)]) (P.length + 1) = pos P P.length + 6 + (here s (pos P P.length)).name.size := by
        rw [pos_succ (by omega), pos_app (Nat.le_refl _), nm_last]
      match n, hn with
      | 0, hn => omega
      | n + 1, hn =>
        refine run_from s n (P ++ [here s (pos P P.length)]) (by rw [hl, hp]; omega) (fun k hk => ?_) (by rw [hl, hp]; exact hsn) (by rw [hl, hp]; omega)
        rw [hl] at hk
        by_cases hh : k < P.length
        · rw [pos_app (by omega), nm_app hh]
          exact hat k hh
        · obtain rfl : k = P.length := by omega
          rw [pos_app (Nat.le_refl _), nm_last]
          exact ⟨hg, rfl⟩
    · exact ⟨P, hat, hb, hle, fun h1 h2 => hg ⟨h1, h2⟩⟩
theorem Run.ex (s : ByteArray) : ∃ P, Run s P := run_from s s.size [] (by omega) (fun k hk => absurd hk (Nat.not_lt_zero _)) (by
  show bytesL [] = s.extract 0 0
  apply ba_ext
  rw [Lib.extract_data]
  simp [bytesL]) (by show (bytesL []).size ≤ s.size; exact Nat.zero_le _)
theorem Run.fine {s : ByteArray} {P : List N} (h : Run s P) : ∀ e ∈ P, fineE e := fun e he => by
  obtain ⟨i, hi, rfl⟩ := mem_nm he
  have := h.at_ i hi
  rw [← this.2]
  exact this.1.2
theorem Run.lt {s : ByteArray} {P : List N} (h : Run s P) {k : Nat} (hk : k < P.length) : pos P k < s.size ∧ pos P (k + 1) ≤ s.size := by
  have h1 := pos_mono P (k := k + 1)
  have h2 := pos_succ hk
  have h3 := h.le
  omega
theorem Run.many {s : ByteArray} {P : List N} (h : Run s P) : 6 * P.length ≤ s.size := by
  have := bytesL_many P
  have h2 := h.le
  rw [pos_all] at h2
  omega
/-- when they are a directory's -/
theorem Run.dir {s : ByteArray} {P : List N} (h : Run s P) (ha : pos P P.length = s.size) (hs : s.size ≤ 20000) (hd : (P.map (·.name)).Nodup) : DirP s P :=
  read_all (Fine.iff.2 ⟨h.fine, hd⟩) (by rw [← ha]; exact h.bytes) hs
theorem Run.of_dir {s : ByteArray} {P L : List N} (h : Run s P) (hL : DirP s L) : P = L ∧ pos P P.length = s.size := by
  have hs : bytesL P ++ s.extract (pos P P.length) s.size = bytesL L := by rw [h.bytes, app_extract s 0 _ s.size (by omega) h.le, extract_all, hL.2.1]
  obtain ⟨R, hR, hR2⟩ := pre_split P L _ h.fine hL.1.mem hs
  have hF : Fine P := by
    have := hL.1
    rw [hR] at this
    exact this.pre
  have ha : pos P P.length = s.size := by
    rcases Nat.lt_or_ge (pos P P.length) s.size with hlt | hge
    · have := step_is hL hF h.bytes hlt
      exact absurd ⟨this.1, this.2.1⟩ (h.stop hlt)
    · have := h.le
      omega
  rw [ha] at hR2
  have h0 : R = [] := bytesL_none (by
    rw [hR2]
    apply ba_ext
    rw [Lib.extract_data]
    simp)
  rw [h0, List.append_nil] at hR
  exact ⟨hR.symm, ha⟩
/-- names that rise or stand twice side by side -/
def Rises (M : List N) : Prop := ∀ i j, i < j → j < M.length → ltB (nm M j).name (nm M i).name = false
/-- do two stand side by side? -/
def twiceP (M : List N) : Prop := ∃ i, i + 1 < M.length ∧ (nm M (i + 1)).name = (nm M i).name
theorem Rises.up {M : List N} (h : Rises M) (ht : ¬ twiceP M) : Up M := Up.next fun i hi => by
  rcases ltB_total (nm M i).name (nm M (i + 1)).name with h1 | h1 | h1
  · exact h1
  · exact absurd ⟨i, hi, h1.symm⟩ ht
  · rw [h i (i + 1) (by omega) hi] at h1
    cases h1
theorem Up.nodup {M : List N} (h : Up M) : (M.map (·.name)).Nodup := by
  unfold List.Nodup
  rw [List.pairwise_map]
  refine h.imp fun {a b} hab he => ?_
  rw [he, ltB_irr] at hab
  cases hab
theorem twice_not {P M : List N} (hp : M.Perm P) (ht : twiceP M) : ¬ Fine P := fun hF => by
  obtain ⟨i, hi, he⟩ := ht
  have := (hF.perm hp.symm).2 _ _ hi (by omega) he
  omega
end Go.Proofs.Ytafbkagoajcmeaa.Dir
