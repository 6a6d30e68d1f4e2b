/- Several texts in one, each under its own heading. -/
import Derived.Lib.Strings
import Derived.Test.YteopcjfakhmifaaPk06
import Derived.Test.YteopcjfakhmifaaPk05
import Derived.Lib.Hide
/- Plain facts: numbers and texts come back from their bytes. They speak of no program. -/
namespace Go.Proofs.Yteopcjfakhmifaa

theorem app_list (s t : ByteArray) : (s ++ t).data.toList = s.data.toList ++ t.data.toList := by simp
theorem sb_left (s t : ByteArray) (i : Nat) (h : i < s.size) : sb (s ++ t) i = sb s i := by
  unfold sb
  rw [app_list, List.getElem?_append_left (by simpa using h)]
theorem sb_right (s t : ByteArray) (i : Nat) : sb (s ++ t) (s.size + i) = sb t i := by
  unfold sb
  rw [app_list, List.getElem?_append_right (by simp)]
  simp
theorem takeN_congr (s t : ByteArray) (a b : Nat) : ∀ k, (∀ i, i < k → sb s (a + i) = sb t (b + i)) → takeN s a k = takeN t b k
  | 0, _ => rfl
  | k + 1, h => by rw [takeN, takeN, takeN_congr s t a b k (fun i hi => h i (by omega)), h k (by omega)]
theorem sb_numB (n k i : Nat) (h : i < k) : sb (numB n k) i = n / 256 ^ i % 256 := by
  unfold sb numB
  rw [strOfNums_data, numL, List.map_map, List.getElem?_map, List.getElem?_eq_getElem (by simpa using h)]
  simp only [Option.map_some, Option.getD_some, Function.comp, List.getElem_range]
  rw [nbyte_nat, Int.toNat_natCast]
  simp
theorem takeN_numB (n k : Nat) : ∀ j, j ≤ k → takeN (numB n k) 0 j = n % 256 ^ j
  | 0, _ => by simp [takeN, Nat.mod_one]
  | j + 1, h => by
    rw [takeN, takeN_numB n k j (by omega), Nat.zero_add, sb_numB n k j (by omega), Nat.pow_succ, Nat.mod_mul, Nat.mul_comm]
theorem takeN_back (s : ByteArray) (n k : Nat) (h : n < 256 ^ k) : takeN (s ++ numB n k) s.size k = n := by
  rw [takeN_congr (s ++ numB n k) (numB n k) s.size 0 k (fun i _ => by rw [sb_right, Nat.zero_add]), takeN_numB n k k (Nat.le_refl _), Nat.mod_eq_of_lt h]
theorem takeN_byte (s : ByteArray) (a : Nat) : ∀ (k i : Nat), i < k → takeN s a k / 256 ^ i % 256 = sb s (a + i)
  | k + 1, i, h => by
    rw [takeN]
    by_cases hik : i = k
    · subst hik
      rw [Nat.add_mul_div_right _ _ (Nat.pow_pos (by decide)), Nat.div_eq_of_lt (takeN_lt s a i), Nat.zero_add, Nat.mod_eq_of_lt (sb_lt s _)]
    · have hlt : i < k := by omega
      obtain ⟨d, rfl⟩ : ∃ d, k = i + (d + 1) := ⟨k - i - 1, by omega⟩
      have e : sb s (a + (i + (d + 1))) * 256 ^ (i + (d + 1)) = (sb s (a + (i + (d + 1))) * 256 ^ d * 256) * 256 ^ i := by
        rw [Nat.pow_add, Nat.pow_succ, Nat.mul_comm (256 ^ i), Nat.mul_assoc, Nat.mul_assoc, Nat.mul_assoc]
      rw [e, Nat.add_mul_div_right _ _ (Nat.pow_pos (by decide)), Nat.add_mul_mod_self_right]
      exact takeN_byte s a (i + (d + 1)) i hlt
theorem list_sb (s : ByteArray) (i : Nat) (h : i < s.data.toList.length) : s.data.toList[i] = UInt8.ofNat (sb s i) := by
  unfold sb
  rw [List.getElem?_eq_getElem h]
  simp
theorem numB_take (s : ByteArray) (a k : Nat) (h : a + k ≤ s.size) : numB (takeN s a k) k = s.extract a (a + k) := by
  apply ByteArray.ext
  apply Array.toList_inj.1
  have hl : s.data.toList.length = s.size := by simp
  rw [Lib.extract_data, show a + k - a = k from by omega]
  apply List.ext_getElem
  · rw [numB, strOfNums_data, List.length_map, numL_length, List.length_take, List.length_drop]
    omega
  · intro i h1 h2
    have hi : i < k := by rw [numB, strOfNums_data, List.length_map, numL_length] at h1; exact h1
    rw [List.getElem_take, List.getElem_drop, list_sb s (a + i) (by omega), ← takeN_byte s a k i hi]
    simp only [numB, strOfNums_data, numL, List.map_map, List.getElem_map, Function.comp, List.getElem_range]
    rw [nbyte_nat, Int.toNat_natCast]
theorem numB_inj (n m k : Nat) (hn : n < 256 ^ k) (hm : m < 256 ^ k) (h : numB n k = numB m k) : n = m := by
  have h1 := takeN_numB n k k (Nat.le_refl _)
  have h2 := takeN_numB m k k (Nat.le_refl _)
  rw [h, h2, Nat.mod_eq_of_lt hn, Nat.mod_eq_of_lt hm] at h1
  exact h1.symm
theorem numB_wider (n k : Nat) (h : n < 256 ^ k) : numB n (k + 1) = numB n k ++ ⟨#[0]⟩ := by
  apply ByteArray.ext
  apply Array.toList_inj.1
  rw [app_list]
  simp only [numB, strOfNums_data, numL, List.range_succ, List.map_append, List.map_cons, List.map_nil]
  rw [high_zero n k h k (Nat.le_refl _)]
  simp
theorem app_right_inj (a s t : ByteArray) (h : a ++ s = a ++ t) : s = t := by
  apply ByteArray.ext
  apply Array.toList_inj.1
  have := congrArg (fun x : ByteArray => x.data.toList) h
  simp only [app_list] at this
  exact List.append_cancel_left this
theorem extract_app (a s : ByteArray) : (a ++ s).extract a.size (a.size + s.size) = s := by
  apply ByteArray.ext
  apply Array.toList_inj.1
  have ha : a.data.toList.length = a.size := by simp
  have hs : s.data.toList.length = s.size := by simp
  rw [Lib.extract_data, app_list, ← ha, List.drop_left, List.take_of_length_le (by omega)]
theorem extract_left (a s : ByteArray) : (a ++ s).extract 0 a.size = a := by
  apply ByteArray.ext
  apply Array.toList_inj.1
  have ha : a.data.toList.length = a.size := by simp
  rw [Lib.extract_data, app_list, ← ha, List.drop_zero, Nat.sub_zero, List.take_left]
theorem app_assoc (a b c : ByteArray) : a ++ (b ++ c) = (a ++ b) ++ c := by
  apply ByteArray.ext
  apply Array.toList_inj.1
  simp only [app_list, List.append_assoc]

/-! ### what was put is taken -/
theorem take_put {s : ByteArray} {n : Nat} {wd : Int} (h : putOk n wd) : takeE (s ++ putS n wd) s.size wd = 0 ∧ takeV (s ++ putS n wd) s.size wd = (n : Int) ∧ (putS n wd).size = wd.toNat := by
  have h' := h
  obtain ⟨h1, h2, h3⟩ := h'
  rw [putS_yes h]
  have hok : takeOk (s ++ numB n wd.toNat) s.size wd := ⟨h1, h2, by omega, by rw [ByteArray.size_append, numB_size]; omega⟩
  refine ⟨takeE_yes hok, ?_, numB_size _ _⟩
  rw [takeV_yes hok, Int.toNat_natCast, takeN_back s n _ h3]
theorem tok_text {s t : ByteArray} (h : textOk t) : tokE (s ++ textS t) s.size = 0 ∧ tokS (s ++ textS t) s.size = t ∧ tokI (s ++ textS t) s.size = (s.size : Int) + ((textS t).size : Int) := by
  have hlt : t.size < 256 ^ 2 := by unfold textOk at h; rw [show (256 : Nat) ^ 2 = 65536 from rfl]; omega
  rw [textS_yes h, app_assoc]
  have hN : takeN (s ++ numB t.size 2 ++ t) s.size 2 = t.size := by
    have hsz : (s ++ numB t.size 2).size = s.size + 2 := by rw [ByteArray.size_append, numB_size]
    rw [takeN_congr (s ++ numB t.size 2 ++ t) (s ++ numB t.size 2) s.size s.size 2 (fun i hi => sb_left _ _ _ (by omega)), takeN_back s t.size 2 hlt]
  have hsz : (s ++ numB t.size 2 ++ t).size = s.size + 2 + t.size := by rw [ByteArray.size_append, ByteArray.size_append, numB_size]
  have hok : tokOk (s ++ numB t.size 2 ++ t) s.size := ⟨⟨by decide, by decide, by omega, by rw [hsz]; omega⟩, by rw [Int.toNat_natCast, hN, hsz]; omega⟩
  refine ⟨tokE_yes hok, ?_, ?_⟩
  · rw [tokS_yes hok, hN]
    have := extract_app (s ++ numB t.size 2) t
    rw [ByteArray.size_append, numB_size] at this
    exact this
  · rw [tokI_yes hok, hN, ByteArray.size_append, numB_size]
    omega
theorem put_take {s : ByteArray} {at0 wd : Int} (h : takeOk s at0 wd) : ∃ a k : Nat, at0 = a ∧ wd = k ∧ 1 ≤ k ∧ k ≤ 8 ∧ a + k ≤ s.size ∧ takeV s at0 wd = ((takeN s a k : Nat) : Int) ∧ takeN s a k < 256 ^ 8 ∧ putE (takeN s a k) wd = 0 ∧ putS (takeN s a k) wd = s.extract a (a + k) ∧ (s.extract a (a + k)).size = k := by
  have h' := h
  obtain ⟨h1, h2, h3, h4⟩ := h'
  obtain ⟨k, rfl⟩ := Int.eq_ofNat_of_zero_le (show 0 ≤ wd by omega)
  obtain ⟨a, rfl⟩ := Int.eq_ofNat_of_zero_le h3
  have hlt := takeN_lt s a k
  have hok : putOk (takeN s a k) (k : Int) := ⟨h1, h2, by rw [Int.toNat_natCast]; exact hlt⟩
  refine ⟨a, k, rfl, rfl, by omega, by omega, by omega, ?_, Nat.lt_of_lt_of_le hlt (Nat.pow_le_pow_right (by decide) (by omega)), putE_yes hok, ?_, ?_⟩
  · rw [takeV_yes h, Int.toNat_natCast, Int.toNat_natCast]
  · rw [putS_yes hok, Int.toNat_natCast, numB_take s a k (by omega)]
  · rw [ByteArray.size_extract]
    omega

/-! ### what is fitted, what is bare -/
theorem zeros_none : zeros 0 = ⟨#[]⟩ := rfl
theorem app_none (s : ByteArray) : s ++ (⟨#[]⟩ : ByteArray) = s := by
  apply ByteArray.ext
  apply Array.toList_inj.1
  rw [app_list]
  simp
theorem fit_again {s : ByteArray} {size : Int} (h : fitOk s size) : fitE (fitS s size) size = 0 ∧ fitS (fitS s size) size = fitS s size ∧ ((fitS s size).size : Int) = size ∧ bareB (fitS s size) s.size = true ∧ (fitS s size).extract 0 s.size = s ∧ s.size ≤ (fitS s size).size := by
  have h' := h
  obtain ⟨h1, h2⟩ := h'
  obtain ⟨k, rfl⟩ := Int.eq_ofNat_of_zero_le (show 0 ≤ size by omega)
  have hsz : (fitS s (k : Int)).size = k := by rw [fitS_yes h, ByteArray.size_append, zeros_size, Int.toNat_natCast]; omega
  have hok : fitOk (fitS s (k : Int)) k := ⟨by rw [hsz]; omega, h2⟩
  refine ⟨fitE_yes hok, ?_, by rw [hsz], ?_, ?_, by rw [hsz]; omega⟩
  · rw [fitS_yes hok, hsz, Int.toNat_natCast, Nat.sub_self, zeros_none, app_none]
  · rw [fitS_yes h]
    unfold bareB
    rw [app_list, List.drop_append_of_le_length (by simp), List.drop_of_length_le (by simp)]
    simp [zeros]
  · rw [fitS_yes h, extract_left]
theorem bare_app (s t : ByteArray) : bareB (s ++ t) 0 = (bareB s 0 && bareB t 0) := by
  unfold bareB
  rw [List.drop_zero, List.drop_zero, List.drop_zero, app_list, List.all_append]

end Go.Proofs.Yteopcjfakhmifaa
/- Inodes as data: which are right, their bytes, what bytes are read as, blocks of them. They speak of no program. -/
namespace Go.Proofs.Yteopcjfakhmifaa.Ino
set_option linter.unusedVariables false
set_option linter.unusedSimpArgs false

/-- the six numbers of a map -/
structure M where
  a : Nat
  b : Nat
  c : Nat
  d : Nat
  e : Nat
  f : Nat
deriving DecidableEq
def M.zero : M := ⟨0, 0, 0, 0, 0, 0⟩
def M.at' (m : M) : Nat → Nat
  | 0 => m.a
  | 1 => m.b
  | 2 => m.c
  | 3 => m.d
  | 4 => m.e
  | 5 => m.f
  | _ => 0
/-- an inode -/
structure I where
  kind : Int
  mode : Nat
  links : Nat
  size : Nat
  time : Nat
  depth : Int
  m : M
deriving DecidableEq
def I.zero : I := ⟨0, 0, 0, 0, 0, 0, M.zero⟩
def MOk (m : M) : Prop := m.a < 4294967296 ∧ m.b < 4294967296 ∧ m.c < 4294967296 ∧ m.d < 4294967296 ∧ m.e < 4294967296 ∧ m.f < 4294967296
/-- numbers of their types -/
structure IOk (n : I) : Prop where
  kind : -9223372036854775808 ≤ n.kind ∧ n.kind ≤ 9223372036854775807
  mode : n.mode < 65536
  links : n.links < 65536
  size : n.size < 4294967296
  time : n.time < 18446744073709551616
  depth : -9223372036854775808 ≤ n.depth ∧ n.depth ≤ 9223372036854775807
  m : MOk n.m
theorem IOk.zero : IOk I.zero := ⟨by decide, by decide, by decide, by decide, by decide, by decide, by unfold MOk; decide⟩

/-! ### how much a size has -/
def blN (s : Nat) : Nat := if s % 508 = 0 then s / 508 else s / 508 + 1
def dpN (s : Nat) : Nat := if blN s ≤ 6 then 0 else if blN s ≤ 127 then 1 else 2
theorem dp_le (s : Nat) : dpN s ≤ 2 := by unfold dpN; split <;> (try split) <;> omega
theorem bl_le (s : Nat) (h : s < 4294967296) : blN s ≤ 8454661 := by unfold blN; split <;> omega
theorem bl_mono {a b : Nat} (h : a ≤ b) : blN a ≤ blN b := by unfold blN; split <;> split <;> omega
theorem dp_mono {a b : Nat} (h : a ≤ b) : dpN a ≤ dpN b := by
  have := bl_mono h
  unfold dpN
  split <;> split <;> (try split) <;> (try split) <;> omega
theorem bl_room (a : Nat) : a ≤ blN a * 508 ∧ blN a * 508 < a + 508 := by unfold blN; split <;> omega

/-! ### right inodes -/
/-- the first places of a map -/
def cutM (m : M) (k : Nat) : M := ⟨if 0 < k then m.a else 0, if 1 < k then m.b else 0, if 2 < k then m.c else 0, if 3 < k then m.d else 0, if 4 < k then m.e else 0, if 5 < k then m.f else 0⟩
theorem cutM_at (m : M) (k i : Nat) (h : i < 6) : (cutM m k).at' i = if i < k then m.at' i else 0 := by
  match i, h with
  | 0, _ => rfl
  | 1, _ => rfl
  | 2, _ => rfl
  | 3, _ => rfl
  | 4, _ => rfl
  | 5, _ => rfl
theorem M.ext' {m n : M} (h : ∀ i, i < 6 → m.at' i = n.at' i) : m = n := by
  cases m; cases n
  have h0 := h 0 (by omega)
  have h1 := h 1 (by omega)
  have h2 := h 2 (by omega)
  have h3 := h 3 (by omega)
  have h4 := h 4 (by omega)
  have h5 := h 5 (by omega)
  simp only [M.at'] at h0 h1 h2 h3 h4 h5
  rw [h0, h1, h2, h3, h4, h5]
def mapP (m : M) (s : Nat) : Prop := if dpN s = 0 then m = cutM m (blN s) else ¬ m.a = 0 ∧ m = cutM m 1
instance (m : M) (s : Nat) : Decidable (mapP m s) := by unfold mapP; infer_instance
/-- a used one that is right -/
def UsedP (n : I) : Prop := (1 ≤ n.kind ∧ n.kind ≤ 3) ∧ n.mode ≤ 4095 ∧ n.size ≤ 8193532 ∧ n.time < 281474976710656 ∧ n.depth = dpN n.size ∧ mapP n.m n.size
instance (n : I) : Decidable (UsedP n) := by unfold UsedP; infer_instance
def RightP (n : I) : Prop := n = I.zero ∨ UsedP n
instance (n : I) : Decidable (RightP n) := by unfold RightP; infer_instance
/-- numbers that bytes have room for -/
structure Fits (n : I) : Prop where
  kind : 0 ≤ n.kind ∧ n.kind ≤ 3
  mode : n.mode < 65536
  links : n.links < 65536
  size : n.size < 4294967296
  time : n.time < 281474976710656
  depth : 0 ≤ n.depth ∧ n.depth ≤ 2
  m : MOk n.m
theorem Fits.of {n : I} (h : RightP n) (k : IOk n) : Fits n := by
  rcases h with rfl | ⟨h1, h2, h3, h4, h5, h6⟩
  · exact ⟨by decide, by decide, by decide, by decide, by decide, by decide, by unfold MOk; decide⟩
  · have := dp_le n.size
    exact ⟨by omega, k.mode, k.links, k.size, h4, by omega, k.m⟩

/-! ### an inode as bytes -/
def said (n : I) : ByteArray := numB n.kind.toNat 1 ++ numB n.mode 2 ++ numB n.links 2 ++ numB n.size 4 ++ numB n.time 6 ++ numB n.depth.toNat 1
theorem said_size (n : I) : (said n).size = 16 := by simp only [said, ByteArray.size_append, numB_size]
/-- with the first k numbers of the map -/
def wholeK (n : I) : Nat → ByteArray
  | 0 => said n
  | k + 1 => wholeK n k ++ numB (n.m.at' k) 4
theorem wholeK_size (n : I) : ∀ k, (wholeK n k).size = 16 + 4 * k
  | 0 => said_size n
  | k + 1 => by rw [wholeK, ByteArray.size_append, wholeK_size n k, numB_size]; omega
def whole (n : I) : ByteArray := wholeK n 6
theorem whole_size (n : I) : (whole n).size = 40 := wholeK_size n 6
def bytes (n : I) : ByteArray := whole n ++ zeros 2
theorem bytes_size (n : I) : (bytes n).size = 42 := by rw [bytes, ByteArray.size_append, whole_size, zeros_size]
def encS (n : I) : ByteArray := if RightP n then bytes n else ⟨#[]⟩
def encE (n : I) : Int := if RightP n then 0 else 100
theorem encS_yes {n : I} (h : RightP n) : encS n = bytes n := if_pos h
theorem encS_no {n : I} (h : ¬ RightP n) : encS n = ⟨#[]⟩ := if_neg h
theorem encE_yes {n : I} (h : RightP n) : encE n = 0 := if_pos h
theorem encE_no {n : I} (h : ¬ RightP n) : encE n = 100 := if_neg h
theorem enc_size {n : I} (h : RightP n) : (encS n).size = 42 := by rw [encS_yes h, bytes_size]
theorem encS_le (n : I) : (encS n).size ≤ 42 := by
  by_cases h : RightP n
  · rw [enc_size h]; omega
  · rw [encS_no h]; decide

/-! ### what is read -/
/-- a number that may be missing -/
def tk (s : ByteArray) (a k : Nat) : Nat := if a + k ≤ s.size then takeN s a k else 0
theorem tk_yes {s : ByteArray} {a k : Nat} (h : a + k ≤ s.size) : tk s a k = takeN s a k := if_pos h
theorem tk_no {s : ByteArray} {a k : Nat} (h : ¬ a + k ≤ s.size) : tk s a k = 0 := if_neg h
theorem tk_lt (s : ByteArray) (a k : Nat) : tk s a k < 256 ^ k := by
  unfold tk
  split
  · exact takeN_lt s a k
  · exact Nat.pow_pos (by decide)
def decM (s : ByteArray) : M := ⟨tk s 16 4, tk s 20 4, tk s 24 4, tk s 28 4, tk s 32 4, tk s 36 4⟩
theorem decM_at (s : ByteArray) (i : Nat) (h : i < 6) : (decM s).at' i = tk s (16 + i * 4) 4 := by
  match i, h with
  | 0, _ => rfl
  | 1, _ => rfl
  | 2, _ => rfl
  | 3, _ => rfl
  | 4, _ => rfl
  | 5, _ => rfl
def decN (s : ByteArray) : I := ⟨tk s 0 1, tk s 1 2, tk s 3 2, tk s 5 4, tk s 9 6, tk s 15 1, decM s⟩
theorem decN_ok (s : ByteArray) : IOk (decN s) := by
  have e1 : (256 : Nat) ^ 1 = 256 := by decide
  have e2 : (256 : Nat) ^ 2 = 65536 := by decide
  have e4 : (256 : Nat) ^ 4 = 4294967296 := by decide
  have e6 : (256 : Nat) ^ 6 = 281474976710656 := by decide
  have h1 := tk_lt s 0 1
  have h2 := tk_lt s 1 2
  have h3 := tk_lt s 3 2
  have h4 := tk_lt s 5 4
  have h5 := tk_lt s 9 6
  have h6 := tk_lt s 15 1
  have m0 := tk_lt s 16 4
  have m1 := tk_lt s 20 4
  have m2 := tk_lt s 24 4
  have m3 := tk_lt s 28 4
  have m4 := tk_lt s 32 4
  have m5 := tk_lt s 36 4
  rw [e1] at h1 h6
  rw [e2] at h2 h3
  rw [e4] at h4 m0 m1 m2 m3 m4 m5
  rw [e6] at h5
  refine ⟨?_, h2, h3, h4, ?_, ?_, m0, m1, m2, m3, m4, m5⟩
  · show _ ≤ ((tk s 0 1 : Nat) : Int) ∧ ((tk s 0 1 : Nat) : Int) ≤ _
    omega
  · show tk s 9 6 < _
    omega
  · show _ ≤ ((tk s 15 1 : Nat) : Int) ∧ ((tk s 15 1 : Nat) : Int) ≤ _
    omega
def decOk (s : ByteArray) : Prop := RightP (decN s) ∧ bytes (decN s) = s
instance (s : ByteArray) : Decidable (decOk s) := by unfold decOk; infer_instance
def decV (s : ByteArray) : I := if decOk s then decN s else I.zero
def decE (s : ByteArray) : Int := if decOk s then 0 else 100
theorem decV_yes {s : ByteArray} (h : decOk s) : decV s = decN s := if_pos h
theorem decV_no {s : ByteArray} (h : ¬ decOk s) : decV s = I.zero := if_neg h
theorem decE_yes {s : ByteArray} (h : decOk s) : decE s = 0 := if_pos h
theorem decE_no {s : ByteArray} (h : ¬ decOk s) : decE s = 100 := if_neg h
theorem decOk.size {s : ByteArray} (h : decOk s) : s.size = 42 := by rw [← h.2, bytes_size]
theorem decV_ok (s : ByteArray) : IOk (decV s) := by
  unfold decV
  split
  · exact decN_ok s
  · exact IOk.zero

theorem tk_left {A : ByteArray} (B : ByteArray) {p k : Nat} (h : p + k ≤ A.size) : tk (A ++ B) p k = tk A p k := by
  rw [tk_yes h, tk_yes (by rw [ByteArray.size_append]; omega)]
  exact takeN_congr (A ++ B) A p p k fun i hi => sb_left _ _ _ (by omega)
theorem tk_last {A : ByteArray} {n k p : Nat} (hp : A.size = p) (h : n < 256 ^ k) : tk (A ++ numB n k) p k = n := by
  subst hp
  rw [tk_yes (by rw [ByteArray.size_append, numB_size]; omega), takeN_back A n k h]
theorem tk_first {n k : Nat} (h : n < 256 ^ k) : tk (numB n k) 0 k = n := by
  rw [tk_yes (by rw [numB_size]; omega), takeN_numB n k k (Nat.le_refl _), Nat.mod_eq_of_lt h]
theorem dec_whole_at (n : I) (k : Nat) (hm : n.m.at' k < 4294967296) : ∀ j, k < j → tk (wholeK n j) (16 + k * 4) 4 = n.m.at' k
  | 0, h => by omega
  | j + 1, h => by
    have e4 : (256 : Nat) ^ 4 = 4294967296 := by decide
    by_cases hj : k = j
    · subst hj
      exact tk_last (by rw [wholeK_size]; omega) (by omega)
    · rw [wholeK, tk_left _ (by rw [wholeK_size]; omega), dec_whole_at n k hm j (by omega)]
theorem dec_whole_said (n : I) (p k : Nat) (h : p + k ≤ 16) : ∀ j, tk (wholeK n j) p k = tk (said n) p k
  | 0 => rfl
  | j + 1 => by rw [wholeK, tk_left _ (by rw [wholeK_size]; omega), dec_whole_said n p k h j]
theorem at_lt {m : M} (h : MOk m) (i : Nat) : m.at' i < 4294967296 := by
  obtain ⟨h0, h1, h2, h3, h4, h5⟩ := h
  unfold M.at'
  split <;> omega
theorem dec_said {n : I} (h : Fits n) : tk (said n) 0 1 = n.kind.toNat ∧ tk (said n) 1 2 = n.mode ∧ tk (said n) 3 2 = n.links ∧ tk (said n) 5 4 = n.size ∧ tk (said n) 9 6 = n.time ∧ tk (said n) 15 1 = n.depth.toNat := by
  obtain ⟨h1, h2, h3, h4, h5, h6, _⟩ := h
  have e1 : (256 : Nat) ^ 1 = 256 := by decide
  have e2 : (256 : Nat) ^ 2 = 65536 := by decide
  have e4 : (256 : Nat) ^ 4 = 4294967296 := by decide
  have e6 : (256 : Nat) ^ 6 = 281474976710656 := by decide
  obtain ⟨P0, hP0⟩ : ∃ P, numB n.kind.toNat 1 = P := ⟨_, rfl⟩
  have z0 : P0.size = 1 := by rw [← hP0, numB_size]
  have t0 : tk P0 0 1 = n.kind.toNat := by rw [← hP0]; exact tk_first (by omega)
  obtain ⟨P1, hP1⟩ : ∃ P, P0 ++ numB n.mode 2 = P := ⟨_, rfl⟩
  have z1 : P1.size = 3 := by rw [← hP1, ByteArray.size_append, numB_size, z0]
  have s1 : ∀ p k, p + k ≤ 1 → tk P1 p k = tk P0 p k := fun p k h => by rw [← hP1]; exact tk_left _ (by omega)
  have t1 : tk P1 1 2 = n.mode := by rw [← hP1]; exact tk_last z0 (by omega)
  obtain ⟨P2, hP2⟩ : ∃ P, P1 ++ numB n.links 2 = P := ⟨_, rfl⟩
  have z2 : P2.size = 5 := by rw [← hP2, ByteArray.size_append, numB_size, z1]
  have s2 : ∀ p k, p + k ≤ 3 → tk P2 p k = tk P1 p k := fun p k h => by rw [← hP2]; exact tk_left _ (by omega)
  have t2 : tk P2 3 2 = n.links := by rw [← hP2]; exact tk_last z1 (by omega)
  obtain ⟨P3, hP3⟩ : ∃ P, P2 ++ numB n.size 4 = P := ⟨_, rfl⟩
  have z3 : P3.size = 9 := by rw [← hP3, ByteArray.size_append, numB_size, z2]
  have s3 : ∀ p k, p + k ≤ 5 → tk P3 p k = tk P2 p k := fun p k h => by rw [← hP3]; exact tk_left _ (by omega)
  have t3 : tk P3 5 4 = n.size := by rw [← hP3]; exact tk_last z2 (by omega)
  obtain ⟨P4, hP4⟩ : ∃ P, P3 ++ numB n.time 6 = P := ⟨_, rfl⟩
  have z4 : P4.size = 15 := by rw [← hP4, ByteArray.size_append, numB_size, z3]
  have s4 : ∀ p k, p + k ≤ 9 → tk P4 p k = tk P3 p k := fun p k h => by rw [← hP4]; exact tk_left _ (by omega)
  have t4 : tk P4 9 6 = n.time := by rw [← hP4]; exact tk_last z3 (by omega)
  have s5 : ∀ p k, p + k ≤ 15 → tk (P4 ++ numB n.depth.toNat 1) p k = tk P4 p k := fun p k h => tk_left _ (by omega)
  have t5 : tk (P4 ++ numB n.depth.toNat 1) 15 1 = n.depth.toNat := tk_last z4 (by omega)
  have E : said n = P4 ++ numB n.depth.toNat 1 := by rw [← hP4, ← hP3, ← hP2, ← hP1, ← hP0]; rfl
  rw [E]
  refine ⟨?_, ?_, ?_, ?_, ?_, t5⟩
  · rw [s5 _ _ (by omega), s4 _ _ (by omega), s3 _ _ (by omega), s2 _ _ (by omega), s1 _ _ (by omega), t0]
  · rw [s5 _ _ (by omega), s4 _ _ (by omega), s3 _ _ (by omega), s2 _ _ (by omega), t1]
  · rw [s5 _ _ (by omega), s4 _ _ (by omega), s3 _ _ (by omega), t2]
  · rw [s5 _ _ (by omega), s4 _ _ (by omega), t3]
  · rw [s5 _ _ (by omega), t4]
theorem tk_bytes (n : I) {p k : Nat} (h : p + k ≤ 40) : tk (bytes n) p k = tk (wholeK n 6) p k := by
  unfold bytes
  exact tk_left _ (by rw [whole_size]; omega)
theorem dec_bytes {n : I} (h : Fits n) : decN (bytes n) = n := by
  obtain ⟨t0, t1, t2, t3, t4, t5⟩ := dec_said h
  have hm : decM (bytes n) = n.m := M.ext' fun i hi => by
    rw [decM_at _ i hi, tk_bytes n (by omega), dec_whole_at n i (at_lt h.m i) 6 hi]
  have hs : ∀ p k, p + k ≤ 16 → tk (bytes n) p k = tk (said n) p k := fun p k h => by rw [tk_bytes n (by omega), dec_whole_said n p k h]
  unfold decN
  rw [hm, hs 0 1 (by omega), hs 1 2 (by omega), hs 3 2 (by omega), hs 5 4 (by omega), hs 9 6 (by omega), hs 15 1 (by omega), t0, t1, t2, t3, t4, t5]
  have h1 := h.kind
  have h2 := h.depth
  obtain ⟨kind, mode, links, size, time, depth, m⟩ := n
  dsimp only at h1 h2 ⊢
  congr 1
  · omega
  · omega
theorem dec_of {n : I} (h : RightP n) (k : IOk n) : decOk (bytes n) ∧ decN (bytes n) = n := by
  have e := dec_bytes (Fits.of h k)
  exact ⟨⟨by rw [e]; exact h, by rw [e]⟩, e⟩
theorem dec_enc {n : I} (h : RightP n) (k : IOk n) : decV (encS n) = n ∧ decE (encS n) = 0 := by
  obtain ⟨h1, h2⟩ := dec_of h k
  rw [encS_yes h]
  exact ⟨by rw [decV_yes h1, h2], decE_yes h1⟩
theorem enc_dec {s : ByteArray} (h : decOk s) : encS (decV s) = s ∧ encE (decV s) = 0 := by
  rw [decV_yes h, encS_yes h.1, encE_yes h.1]
  exact ⟨h.2, rfl⟩
theorem enc_inj {a b : I} (ha : RightP a) (hb : RightP b) (ka : IOk a) (kb : IOk b) (h : encS a = encS b) : a = b := by
  rw [← (dec_enc ha ka).1, h, (dec_enc hb kb).1]

/-! ### blocks of inodes -/
def hasP (c : ByteArray) (k : Int) : Prop := c.size = 508 ∧ 0 ≤ k ∧ k < 12
instance (c : ByteArray) (k : Int) : Decidable (hasP c k) := by unfold hasP; infer_instance
def piece (c : ByteArray) (k : Int) : ByteArray := c.extract (k.toNat * 42) (k.toNat * 42 + 42)
theorem piece_size {c : ByteArray} {k : Int} (h : hasP c k) : (piece c k).size = 42 := by
  obtain ⟨h1, h2, h3⟩ := h
  unfold piece
  rw [ByteArray.size_extract]
  omega
def getV (c : ByteArray) (k : Int) : I := if hasP c k then decV (piece c k) else I.zero
def getE (c : ByteArray) (k : Int) : Int := if hasP c k then decE (piece c k) else 2
def laid (c : ByteArray) (k : Nat) (n : I) : ByteArray := c.extract 0 (k * 42) ++ bytes n ++ c.extract (k * 42 + 42) c.size
def putV (c : ByteArray) (k : Int) (n : I) : ByteArray := if hasP c k ∧ RightP n then laid c k.toNat n else ⟨#[]⟩
def putEr (c : ByteArray) (k : Int) (n : I) : Int := if hasP c k then encE n else 2
theorem getV_yes {c : ByteArray} {k : Int} (h : hasP c k) : getV c k = decV (piece c k) := if_pos h
theorem getE_yes {c : ByteArray} {k : Int} (h : hasP c k) : getE c k = decE (piece c k) := if_pos h
theorem getV_no {c : ByteArray} {k : Int} (h : ¬ hasP c k) : getV c k = I.zero := if_neg h
theorem getE_no {c : ByteArray} {k : Int} (h : ¬ hasP c k) : getE c k = 2 := if_neg h
theorem putV_yes {c : ByteArray} {k : Int} {n : I} (h : hasP c k) (hn : RightP n) : putV c k n = laid c k.toNat n := if_pos ⟨h, hn⟩
theorem putV_no {c : ByteArray} {k : Int} {n : I} (h : ¬ hasP c k ∨ ¬ RightP n) : putV c k n = ⟨#[]⟩ := if_neg (fun x => h.elim (fun y => y x.1) (fun y => y x.2))
theorem putEr_yes {c : ByteArray} {k : Int} {n : I} (h : hasP c k) : putEr c k n = encE n := if_pos h
theorem putEr_no {c : ByteArray} {k : Int} {n : I} (h : ¬ hasP c k) : putEr c k n = 2 := if_neg h
theorem getV_ok (c : ByteArray) (k : Int) : IOk (getV c k) := by
  unfold getV
  split
  · exact decV_ok _
  · exact IOk.zero
theorem laid_size {c : ByteArray} {k : Nat} (h : c.size = 508) (hk : k < 12) (n : I) : (laid c k n).size = 508 := by
  unfold laid
  rw [ByteArray.size_append, ByteArray.size_append, bytes_size, ByteArray.size_extract, ByteArray.size_extract]
  omega
theorem ext_drop (s : ByteArray) (i j : Nat) : (s.extract i j).data.toList = (s.data.toList.drop i).take (j - i) := Lib.extract_data s i j
theorem drop_mid (X Y Z : List UInt8) (a b : Nat) (h1 : X.length = a) (h2 : Y.length = b) : (((X ++ Y) ++ Z).drop a).take (a + b - a) = Y := by
  subst h1 h2
  rw [List.append_assoc, List.drop_left, Nat.add_sub_cancel_left, List.take_left]
theorem laid_piece {c : ByteArray} {k : Nat} (h : c.size = 508) (hk : k < 12) (n : I) : (laid c k n).extract (k * 42) (k * 42 + 42) = bytes n := by
  have e1 : (c.extract 0 (k * 42)).size = k * 42 := by rw [ByteArray.size_extract]; omega
  have l1 : (c.extract 0 (k * 42)).data.toList.length = k * 42 := by simpa using e1
  have l2 : (bytes n).data.toList.length = 42 := by simpa using bytes_size n
  unfold laid
  apply ByteArray.ext
  apply Array.toList_inj.1
  rw [ext_drop, app_list, app_list]
  exact drop_mid _ _ _ _ _ l1 l2
theorem laid_other {c : ByteArray} {k j : Nat} (h : c.size = 508) (hk : k < 12) (hj : j < 12) (hne : ¬ j = k) (n : I) : (laid c k n).extract (j * 42) (j * 42 + 42) = c.extract (j * 42) (j * 42 + 42) := by
  have hc : c.data.toList.length = 508 := by simpa using h
  apply ByteArray.ext
  apply Array.toList_inj.1
  rw [ext_drop, ext_drop]
  have l2 : (bytes n).data.toList.length = 42 := by simpa using bytes_size n
  apply List.ext_getElem?
  intro i
  rw [List.getElem?_take, List.getElem?_take]
  split
  · rename_i hi
    rw [List.getElem?_drop, List.getElem?_drop]
    unfold laid
    rw [app_list, app_list, ext_drop, ext_drop, Nat.sub_zero, List.drop_zero]
    by_cases hlt : j < k
    · rw [List.getElem?_append_left (by rw [List.length_append, List.length_take]; omega), List.getElem?_append_left (by rw [List.length_take]; omega), List.getElem?_take, if_pos (by omega)]
    · rw [List.getElem?_append_right (by rw [List.length_append, List.length_take]; omega), List.length_append, List.length_take, l2, List.getElem?_take, List.getElem?_drop, if_pos (by omega)]
      congr 1
      omega
  · rfl
end Go.Proofs.Yteopcjfakhmifaa.Ino
