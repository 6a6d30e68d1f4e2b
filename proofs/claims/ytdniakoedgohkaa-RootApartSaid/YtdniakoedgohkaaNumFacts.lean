/- Plain facts: numbers and texts come back from their bytes. They speak of no program. -/
import Derived.Lib.Strings
import Derived.Test.YtdniakoedgohkaaNumTok
namespace Go.Proofs.Ytdniakoedgohkaa

theorem app_list (s t : ByteArray) : (s ++ t).data.toList = s.data.toList ++ t.data.toList := by simp
theorem sb_left (s t : ByteArray) (i : Nat) (h : i < s.size) : sb (s ++ t) i = sb s i := by
  unfold sb
  rw [app_list, List.getElem?_append_left (by simpa using h)]
theorem sb_right (s t : ByteArray) (i : Nat) : sb (s ++ t) (s.size + i) = sb t i := by
  unfold sb
  rw [app_list, List.getElem?_append_right (by simp)]
  simp
theorem takeN_congr (s t : ByteArray) (a b : Nat) : ∀ k, (∀ i, i < k → sb s (a + i) = sb t (b + i)) → takeN s a k = takeN t b k
  | 0, _ => rfl
  | k + 1, h => by rw [takeN, takeN, takeN_congr s t a b k (fun i hi => h i (by omega)), h k (by omega)]
theorem sb_numB (n k i : Nat) (h : i < k) : sb (numB n k) i = n / 256 ^ i % 256 := by
  unfold sb numB
  rw [strOfNums_data, numL, List.map_map, List.getElem?_map, List.getElem?_eq_getElem (by simpa using h)]
  simp only [Option.map_some, Option.getD_some, Function.comp, List.getElem_range]
  rw [nbyte_nat, Int.toNat_natCast]
  simp
theorem takeN_numB (n k : Nat) : ∀ j, j ≤ k → takeN (numB n k) 0 j = n % 256 ^ j
  | 0, _ => by simp [takeN, Nat.mod_one]
  | j + 1, h => by
    rw [takeN, takeN_numB n k j (by omega), Nat.zero_add, sb_numB n k j (by omega), Nat.pow_succ, Nat.mod_mul, Nat.mul_comm]
theorem takeN_back (s : ByteArray) (n k : Nat) (h : n < 256 ^ k) : takeN (s ++ numB n k) s.size k = n := by
  rw [takeN_congr (s ++ numB n k) (numB n k) s.size 0 k (fun i _ => by rw [sb_right, Nat.zero_add]), takeN_numB n k k (Nat.le_refl _), Nat.mod_eq_of_lt h]
theorem takeN_byte (s : ByteArray) (a : Nat) : ∀ (k i : Nat), i < k → takeN s a k / 256 ^ i % 256 = sb s (a + i)
  | k + 1, i, h => by
    rw [takeN]
    by_cases hik : i = k
    · subst hik
      rw [Nat.add_mul_div_right _ _ (Nat.pow_pos (by decide)), Nat.div_eq_of_lt (takeN_lt s a i), Nat.zero_add, Nat.mod_eq_of_lt (sb_lt s _)]
    · have hlt : i < k := by omega
      obtain ⟨d, rfl⟩ : ∃ d, k = i + (d + 1) := ⟨k - i - 1, by omega⟩
      have e : sb s (a + (i + (d + 1))) * 256 ^ (i + (d + 1)) = (sb s (a + (i + (d + 1))) * 256 ^ d * 256) * 256 ^ i := by
        rw [Nat.pow_add, Nat.pow_succ, Nat.mul_comm (256 ^ i), Nat.mul_assoc, Nat.mul_assoc, Nat.mul_assoc]
      rw [e, Nat.add_mul_div_right _ _ (Nat.pow_pos (by decide)), Nat.add_mul_mod_self_right]
      exact takeN_byte s a (i + (d + 1)) i hlt
theorem list_sb (s : ByteArray) (i : Nat) (h : i < s.data.toList.length) : s.data.toList[i] = UInt8.ofNat (sb s i) := by
  unfold sb
  rw [List.getElem?_eq_getElem h]
  simp
theorem numB_take (s : ByteArray) (a k : Nat) (h : a + k ≤ s.size) : numB (takeN s a k) k = s.extract a (a + k) := by
  apply ByteArray.ext
  apply Array.toList_inj.1
  have hl : s.data.toList.length = s.size := by simp
  rw [Lib.extract_data, show a + k - a = k from by omega]
  apply List.ext_getElem
  · rw [numB, strOfNums_data, List.length_map, numL_length, List.length_take, List.length_drop]
    omega
  · intro i h1 h2
    have hi : i < k := by rw [numB, strOfNums_data, List.length_map, numL_length] at h1; exact h1
    rw [List.getElem_take, List.getElem_drop, list_sb s (a + i) (by omega), ← takeN_byte s a k i hi]
    simp only [numB, strOfNums_data, numL, List.map_map, List.getElem_map, Function.comp, List.getElem_range]
    rw [nbyte_nat, Int.toNat_natCast]
theorem numB_inj (n m k : Nat) (hn : n < 256 ^ k) (hm : m < 256 ^ k) (h : numB n k = numB m k) : n = m := by
  have h1 := takeN_numB n k k (Nat.le_refl _)
  have h2 := takeN_numB m k k (Nat.le_refl _)
  rw [h, h2, Nat.mod_eq_of_lt hn, Nat.mod_eq_of_lt hm] at h1
  exact h1.symm
theorem numB_wider (n k : Nat) (h : n < 256 ^ k) : numB n (k + 1) = numB n k ++ ⟨#[0]⟩ := by
  apply ByteArray.ext
  apply Array.toList_inj.1
  rw [app_list]
  simp only [numB, strOfNums_data, numL, List.range_succ, List.map_append, List.map_cons, List.map_nil]
  rw [high_zero n k h k (Nat.le_refl _)]
  simp
theorem app_right_inj (a s t : ByteArray) (h : a ++ s = a ++ t) : s = t := by
  apply ByteArray.ext
  apply Array.toList_inj.1
  have := congrArg (fun x : ByteArray => x.data.toList) h
  simp only [app_list] at this
  exact List.append_cancel_left this
theorem extract_app (a s : ByteArray) : (a ++ s).extract a.size (a.size + s.size) = s := by
  apply ByteArray.ext
  apply Array.toList_inj.1
  have ha : a.data.toList.length = a.size := by simp
  have hs : s.data.toList.length = s.size := by simp
  rw [Lib.extract_data, app_list, ← ha, List.drop_left, List.take_of_length_le (by omega)]
theorem extract_left (a s : ByteArray) : (a ++ s).extract 0 a.size = a := by
  apply ByteArray.ext
  apply Array.toList_inj.1
  have ha : a.data.toList.length = a.size := by simp
  rw [Lib.extract_data, app_list, ← ha, List.drop_zero, Nat.sub_zero, List.take_left]
theorem app_assoc (a b c : ByteArray) : a ++ (b ++ c) = (a ++ b) ++ c := by
  apply ByteArray.ext
  apply Array.toList_inj.1
  simp only [app_list, List.append_assoc]

/-! ### what was put is taken -/
theorem take_put {s : ByteArray} {n : Nat} {wd : Int} (h : putOk n wd) : takeE (s ++ putS n wd) s.size wd = 0 ∧ takeV (s ++ putS n wd) s.size wd = (n : Int) ∧ (putS n wd).size = wd.toNat := by
  have h' := h
  obtain ⟨h1, h2, h3⟩ := h'
  rw [putS_yes h]
  have hok : takeOk (s ++ numB n wd.toNat) s.size wd := ⟨h1, h2, by omega, by rw [ByteArray.size_append, numB_size]; omega⟩
  refine ⟨takeE_yes hok, ?_, numB_size _ _⟩
  rw [takeV_yes hok, Int.toNat_natCast, takeN_back s n _ h3]
theorem tok_text {s t : ByteArray} (h : textOk t) : tokE (s ++ textS t) s.size = 0 ∧ tokS (s ++ textS t) s.size = t ∧ tokI (s ++ textS t) s.size = (s.size : Int) + ((textS t).size : Int) := by
  have hlt : t.size < 256 ^ 2 := by unfold textOk at h; rw [show (256 : Nat) ^ 2 = 65536 from rfl]; omega
  rw [textS_yes h, app_assoc]
  have hN : takeN (s ++ numB t.size 2 ++ t) s.size 2 = t.size := by
    have hsz : (s ++ numB t.size 2).size = s.size + 2 := by rw [ByteArray.size_append, numB_size]
    rw [takeN_congr (s ++ numB t.size 2 ++ t) (s ++ numB t.size 2) s.size s.size 2 (fun i hi => sb_left _ _ _ (by omega)), takeN_back s t.size 2 hlt]
  have hsz : (s ++ numB t.size 2 ++ t).size = s.size + 2 + t.size := by rw [ByteArray.size_append, ByteArray.size_append, numB_size]
  have hok : tokOk (s ++ numB t.size 2 ++ t) s.size := ⟨⟨by decide, by decide, by omega, by rw [hsz]; omega⟩, by rw [Int.toNat_natCast, hN, hsz]; omega⟩
  refine ⟨tokE_yes hok, ?_, ?_⟩
  · rw [tokS_yes hok, hN]
    have := extract_app (s ++ numB t.size 2) t
    rw [ByteArray.size_append, numB_size] at this
    exact this
  · rw [tokI_yes hok, hN, ByteArray.size_append, numB_size]
    omega
theorem put_take {s : ByteArray} {at0 wd : Int} (h : takeOk s at0 wd) : ∃ a k : Nat, at0 = a ∧ wd = k ∧ 1 ≤ k ∧ k ≤ 8 ∧ a + k ≤ s.size ∧ takeV s at0 wd = ((takeN s a k : Nat) : Int) ∧ takeN s a k < 256 ^ 8 ∧ putE (takeN s a k) wd = 0 ∧ putS (takeN s a k) wd = s.extract a (a + k) ∧ (s.extract a (a + k)).size = k := by
  have h' := h
  obtain ⟨h1, h2, h3, h4⟩ := h'
  obtain ⟨k, rfl⟩ := Int.eq_ofNat_of_zero_le (show 0 ≤ wd by omega)
  obtain ⟨a, rfl⟩ := Int.eq_ofNat_of_zero_le h3
  have hlt := takeN_lt s a k
  have hok : putOk (takeN s a k) (k : Int) := ⟨h1, h2, by rw [Int.toNat_natCast]; exact hlt⟩
  refine ⟨a, k, rfl, rfl, by omega, by omega, by omega, ?_, Nat.lt_of_lt_of_le hlt (Nat.pow_le_pow_right (by decide) (by omega)), putE_yes hok, ?_, ?_⟩
  · rw [takeV_yes h, Int.toNat_natCast, Int.toNat_natCast]
  · rw [putS_yes hok, Int.toNat_natCast, numB_take s a k (by omega)]
  · rw [ByteArray.size_extract]
    omega

/-! ### what is fitted, what is bare -/
theorem zeros_none : zeros 0 = ⟨#[]⟩ := rfl
theorem app_none (s : ByteArray) : s ++ (⟨#[]⟩ : ByteArray) = s := by
  apply ByteArray.ext
  apply Array.toList_inj.1
  rw [app_list]
  simp
theorem fit_again {s : ByteArray} {size : Int} (h : fitOk s size) : fitE (fitS s size) size = 0 ∧ fitS (fitS s size) size = fitS s size ∧ ((fitS s size).size : Int) = size ∧ bareB (fitS s size) s.size = true ∧ (fitS s size).extract 0 s.size = s ∧ s.size ≤ (fitS s size).size := by
  have h' := h
  obtain ⟨h1, h2⟩ := h'
  obtain ⟨k, rfl⟩ := Int.eq_ofNat_of_zero_le (show 0 ≤ size by omega)
  have hsz : (fitS s (k : Int)).size = k := by rw [fitS_yes h, ByteArray.size_append, zeros_size, Int.toNat_natCast]; omega
  have hok : fitOk (fitS s (k : Int)) k := ⟨by rw [hsz]; omega, h2⟩
  refine ⟨fitE_yes hok, ?_, by rw [hsz], ?_, ?_, by rw [hsz]; omega⟩
  · rw [fitS_yes hok, hsz, Int.toNat_natCast, Nat.sub_self, zeros_none, app_none]
  · rw [fitS_yes h]
    unfold bareB
    rw [app_list, List.drop_append_of_le_length (by simp), List.drop_of_length_le (by simp)]
    simp [zeros]
  · rw [fitS_yes h, extract_left]
theorem bare_app (s t : ByteArray) : bareB (s ++ t) 0 = (bareB s 0 && bareB t 0) := by
  unfold bareB
  rw [List.drop_zero, List.drop_zero, List.drop_zero, app_list, List.all_append]

end Go.Proofs.Ytdniakoedgohkaa
