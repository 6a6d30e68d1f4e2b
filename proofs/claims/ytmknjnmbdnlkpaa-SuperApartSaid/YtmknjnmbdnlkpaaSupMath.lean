/- Plain facts: super blocks and their bytes. They speak of no program. -/
import Derived.Test.YtmknjnmbdnlkpaaNumFacts
namespace Go.Proofs.Ytmknjnmbdnlkpaa.Super
set_option linter.unusedVariables false

theorem beq_yes {A B : ByteArray} (h : A = B) : (A.toList == B.toList) = true := by rw [h]; simp
theorem beq_no {A B : ByteArray} (h : ¬ A = B) : (A.toList == B.toList) = false := by
  rw [beq_eq_false_iff_ne]
  exact fun he => h (ByteArray.ext (Array.toList_inj.1 (by rw [← Lib.toList_data, ← Lib.toList_data]; exact he)))
structure S where
  blocks : Int
  seq : Nat
  at_ : Int
  cp : Nat
theorem S.ext' {a b : S} (h1 : a.blocks = b.blocks) (h2 : a.seq = b.seq) (h3 : a.at_ = b.at_) (h4 : a.cp = b.cp) : a = b := by
  cases a; cases b; simp_all
def S.none : S := ⟨0, 0, 0, 0⟩
def RightP (s : S) : Prop := (128 ≤ s.blocks ∧ s.blocks ≤ 4096 ∧ s.blocks % 16 = 0) ∧ 16 ≤ s.at_ ∧ s.at_ < s.blocks ∧ (1 ≤ s.seq ∧ s.seq < 281474976710656) ∧ 1 ≤ s.cp ∧ s.cp < 281474976710656
instance (s : S) : Decidable (RightP s) := by unfold RightP; infer_instance

def mk : ByteArray := ⟨#[78, 65, 85, 84]⟩
def said (s : S) : ByteArray := mk ++ numB s.blocks.toNat 4 ++ numB s.seq 6 ++ numB s.at_.toNat 4 ++ numB s.cp 6
theorem said_size (s : S) : (said s).size = 24 := by
  simp only [said, ByteArray.size_append, numB_size]
  rfl
/-- the first sector -/
def sector (s : S) : ByteArray := said s ++ zeros 232
theorem sector_size (s : S) : (sector s).size = 256 := by rw [sector, ByteArray.size_append, said_size, zeros_size]

def encS (s : S) : ByteArray := if RightP s then said s ++ zeros 488 else ⟨#[]⟩
def encE (s : S) : Int := if RightP s then 0 else 50
theorem encS_yes {s : S} (h : RightP s) : encS s = said s ++ zeros 488 := if_pos h
theorem encS_no {s : S} (h : ¬ RightP s) : encS s = ⟨#[]⟩ := if_neg h
theorem encE_yes {s : S} (h : RightP s) : encE s = 0 := if_pos h
theorem encE_no {s : S} (h : ¬ RightP s) : encE s = 50 := if_neg h
theorem enc_size {s : S} (h : RightP s) : (encS s).size = 512 := by rw [encS_yes h, ByteArray.size_append, said_size, zeros_size]
theorem encS_le (s : S) : (encS s).size ≤ 512 := by
  by_cases h : RightP s
  · rw [enc_size h]; omega
  · rw [encS_no h]; decide

theorem zeros_add (a b : Nat) : zeros a ++ zeros b = zeros (a + b) := by
  apply ByteArray.ext
  apply Array.toList_inj.1
  rw [app_list]
  simp [zeros]
theorem enc_two (s : S) : said s ++ zeros 488 = sector s ++ zeros 256 := by
  rw [sector, ← app_assoc, zeros_add]
theorem enc_head {s : S} (h : RightP s) : (encS s).extract 0 256 = sector s := by
  have := extract_left (sector s) (zeros 256)
  rw [sector_size] at this
  rw [encS_yes h, enc_two, this]

/-! ### what is read -/
def decS (b : ByteArray) : S := ⟨takeN b 4 4, takeN b 8 6, takeN b 14 4, takeN b 18 6⟩
def decOk (b : ByteArray) : Prop := b.size = 512 ∧ RightP (decS b) ∧ sector (decS b) = b.extract 0 256
instance (b : ByteArray) : Decidable (decOk b) := by unfold decOk; infer_instance
def decV (b : ByteArray) : S := if decOk b then decS b else S.none
def decE (b : ByteArray) : Int := if decOk b then 0 else 50
theorem decV_yes {b : ByteArray} (h : decOk b) : decV b = decS b := if_pos h
theorem decV_no {b : ByteArray} (h : ¬ decOk b) : decV b = S.none := if_neg h
theorem decE_yes {b : ByteArray} (h : decOk b) : decE b = 0 := if_pos h
theorem decE_no {b : ByteArray} (h : ¬ decOk b) : decE b = 50 := if_neg h

theorem takeN_mid (a b : ByteArray) (n k : Nat) (h : n < 256 ^ k) : takeN (a ++ numB n k ++ b) a.size k = n := by
  rw [takeN_congr (a ++ numB n k ++ b) (a ++ numB n k) a.size a.size k (fun i hi => sb_left _ _ _ (by rw [ByteArray.size_append, numB_size]; omega)), takeN_back a n k h]
theorem dec_said (s : S) (t : ByteArray) (h : RightP s) : decS (said s ++ t) = s := by
  obtain ⟨⟨b1, b2, b3⟩, a1, a2, ⟨s1, s2⟩, c1, c2⟩ := h
  have e4 : (256 : Nat) ^ 4 = 4294967296 := by decide
  have e6 : (256 : Nat) ^ 6 = 281474976710656 := by decide
  have h1 := takeN_mid mk (numB s.seq 6 ++ numB s.at_.toNat 4 ++ numB s.cp 6 ++ t) s.blocks.toNat 4 (by omega)
  have h2 := takeN_mid (mk ++ numB s.blocks.toNat 4) (numB s.at_.toNat 4 ++ numB s.cp 6 ++ t) s.seq 6 (by omega)
  have h3 := takeN_mid (mk ++ numB s.blocks.toNat 4 ++ numB s.seq 6) (numB s.cp 6 ++ t) s.at_.toNat 4 (by omega)
  have h4 := takeN_mid (mk ++ numB s.blocks.toNat 4 ++ numB s.seq 6 ++ numB s.at_.toNat 4) t s.cp 6 (by omega)
  simp only [ByteArray.size_append, numB_size, app_assoc, show mk.size = 4 from rfl, Nat.reduceAdd] at h1 h2 h3 h4
  simp only [decS, said]
  refine S.ext' ?_ ?_ ?_ ?_
  · simp only [h1]; omega
  · exact h2
  · simp only [h3]; omega
  · exact h4
theorem sb_extract (b : ByteArray) (n i : Nat) (h : i < n) : sb (b.extract 0 n) i = sb b i := by
  unfold sb
  rw [Lib.extract_data, List.drop_zero, List.getElem?_take]
  simp [h]
theorem decS_head (b : ByteArray) : decS (b.extract 0 256) = decS b := by
  unfold decS
  rw [takeN_congr (b.extract 0 256) b 4 4 4 (fun i hi => sb_extract _ _ _ (by omega)), takeN_congr (b.extract 0 256) b 8 8 6 (fun i hi => sb_extract _ _ _ (by omega)),
    takeN_congr (b.extract 0 256) b 14 14 4 (fun i hi => sb_extract _ _ _ (by omega)), takeN_congr (b.extract 0 256) b 18 18 6 (fun i hi => sb_extract _ _ _ (by omega))]
/-- a block whose first sector is a right one's is read as that -/
theorem dec_of {s : S} {b : ByteArray} (h : RightP s) (hb : b.size = 512) (hx : b.extract 0 256 = sector s) : decOk b ∧ decS b = s := by
  have e : decS b = s := by rw [← decS_head, hx, sector, dec_said s _ h]
  exact ⟨⟨hb, by rw [e]; exact h, by rw [e, hx]⟩, e⟩
theorem dec_enc {s : S} (h : RightP s) : decOk (encS s) ∧ decS (encS s) = s := dec_of h (enc_size h) (enc_head h)
theorem enc_inj {a b : S} (ha : RightP a) (hb : RightP b) (h : encS a = encS b) : a = b := by
  rw [← (dec_enc ha).2, h, (dec_enc hb).2]

/-! ### the newer one -/
def first (b : ByteArray) (n : Int) : Prop := decOk b ∧ (decS b).blocks = n
instance (b : ByteArray) (n : Int) : Decidable (first b n) := by unfold first; infer_instance
def New (one two : ByteArray) (n : Int) : S × Int × Int :=
  if first one n ∧ (¬ first two n ∨ (decS two).seq ≤ (decS one).seq) then (decS one, 0, 0)
  else if first two n then (decS two, 1, 0) else (S.none, 0, 50)
theorem new_one {one two : ByteArray} {n : Int} (h1 : first one n) (h2 : ¬ first two n ∨ (decS two).seq ≤ (decS one).seq) : New one two n = (decS one, 0, 0) := if_pos ⟨h1, h2⟩
theorem new_two {one two : ByteArray} {n : Int} (h1 : ¬ first one n ∨ (decS one).seq < (decS two).seq) (h2 : first two n) : New one two n = (decS two, 1, 0) := by
  unfold New
  rw [if_neg, if_pos h2]
  rintro ⟨k1, k2⟩
  rcases h1 with h | h
  · exact h k1
  · rcases k2 with k | k
    · exact k h2
    · omega
theorem new_none {one two : ByteArray} {n : Int} (h1 : ¬ first one n) (h2 : ¬ first two n) : New one two n = (S.none, 0, 50) := by
  unfold New
  rw [if_neg (fun h => h1 h.1), if_neg h2]
end Go.Proofs.Ytmknjnmbdnlkpaa.Super
