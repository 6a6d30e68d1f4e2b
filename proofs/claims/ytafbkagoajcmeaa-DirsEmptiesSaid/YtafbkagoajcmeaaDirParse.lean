/- How a directory's bytes are gone through: what stands behind the names that were read. They speak of no program. -/
import Derived.Test.YtafbkagoajcmeaaNumTok
import Derived.Test.YtafbkagoajcmeaaDirMath
namespace Go.Proofs.Ytafbkagoajcmeaa.Dir
set_option linter.unusedVariables false
set_option linter.unusedSimpArgs false

theorem takeN_mid (a b : ByteArray) (n k : Nat) (h : n < 256 ^ k) : takeN (a ++ numB n k ++ b) a.size k = n := by
  rw [takeN_congr (a ++ numB n k ++ b) (a ++ numB n k) a.size a.size k (fun i hi => sb_left _ _ _ (by rw [ByteArray.size_append, numB_size]; omega)), takeN_back a n k h]
theorem extract_mid (a b c : ByteArray) : (a ++ b ++ c).extract a.size (a.size + b.size) = b := by
  apply ba_ext
  have ha : a.data.toList.length = a.size := by simp
  have hb : b.data.toList.length = b.size := by simp
  rw [Lib.extract_data, app_list, app_list, ← ha, List.append_assoc, List.drop_left, show a.data.toList.length + b.size - a.data.toList.length = b.data.toList.length by omega, List.take_left]
theorem app_extract (b : ByteArray) (i j k : Nat) (h1 : i ≤ j) (h2 : j ≤ k) : b.extract i j ++ b.extract j k = b.extract i k := by
  apply ba_ext
  rw [app_list, Lib.extract_data, Lib.extract_data, Lib.extract_data, show k - i = (j - i) + (k - j) by omega, List.take_add, List.drop_drop, show i + (j - i) = j by omega]
theorem extract_all (s : ByteArray) : s.extract 0 s.size = s := by
  apply ba_ext
  rw [Lib.extract_data, List.drop_zero, Nat.sub_zero, List.take_of_length_le (by simp)]
/-- the name that stands at a place -/
def here (s : ByteArray) (a : Nat) : N := ⟨tokS s ((a + 4 : Nat) : Int), takeN s a 4⟩
/-- does one stand there? -/
def hereOk (s : ByteArray) (a : Nat) : Prop := takeOk s (a : Int) 4 ∧ tokOk s ((a + 4 : Nat) : Int)
theorem here_size {s : ByteArray} {a : Nat} (h : hereOk s a) : (here s a).name.size = takeN s (a + 4) 2 ∧ a + 6 + (here s a).name.size ≤ s.size ∧ tokI s ((a + 4 : Nat) : Int) = ((a + 6 + (here s a).name.size : Nat) : Int) := by
  have h2 := h.2.2
  rw [Int.toNat_natCast] at h2
  have e : (here s a).name.size = takeN s (a + 4) 2 := by
    unfold here
    dsimp only
    rw [tokS_yes h.2, ByteArray.size_extract]
    omega
  refine ⟨e, by omega, ?_⟩
  rw [tokI_yes h.2, e]
/-- one more name -/
theorem step_good {s : ByteArray} {a : Nat} {P : List N} (hP : bytesL P = s.extract 0 a) (h : hereOk s a) : bytesL (P ++ [here s a]) = s.extract 0 (a + 6 + (here s a).name.size) := by
  obtain ⟨h1, h2, _⟩ := here_size h
  have h3 := h.2.2
  rw [Int.toNat_natCast] at h3
  rw [bytesL_snoc, hP]
  have e1 : numB (here s a).ino 4 = s.extract a (a + 4) := numB_take s a 4 (by omega)
  have e2 : numB (here s a).name.size 2 = s.extract (a + 4) (a + 4 + 2) := by rw [h1]; exact numB_take s (a + 4) 2 (by omega)
  have e3 : (here s a).name = s.extract (a + 4 + 2) (a + 6 + (here s a).name.size) := by
    rw [h1, show a + 6 + takeN s (a + 4) 2 = a + 4 + 2 + takeN s (a + 4) 2 by omega]
    exact tokS_yes h.2
  have e4 : ent (here s a) = s.extract a (a + 6 + (here s a).name.size) := by
    unfold ent
    rw [e1, e2, app_extract s a (a + 4) (a + 4 + 2) (by omega) (by omega)]
    conv => lhs; arg 2; rw [e3]
    exact app_extract s a (a + 4 + 2) _ (by omega) (by omega)
  rw [e4, app_extract s 0 a _ (by omega) (by omega)]
/-- what stands there, if the bytes are a directory's -/
theorem step_is {s : ByteArray} {L P : List N} {a : Nat} (h : DirP s L) (hF : Fine P) (hP : bytesL P = s.extract 0 a) (ha : a < s.size) :
    hereOk s a ∧ fineE (here s a) ∧ idx P (here s a).name = P.length := by
  have hs : bytesL P ++ s.extract a s.size = bytesL L := by rw [hP, app_extract s 0 a s.size (by omega) (by omega), extract_all, h.2.1]
  obtain ⟨R0, hR, hR2⟩ := pre_split P L _ hF.mem h.1.mem hs
  cases R0 with
  | nil =>
    have := congrArg ByteArray.size hR2
    rw [ByteArray.size_extract, bytesL] at this
    have h0 : (⟨#[]⟩ : ByteArray).size = 0 := rfl
    omega
  | cons e R =>
    have hpa : (bytesL P).size = a := by rw [hP, ByteArray.size_extract]; omega
    have hfe : fineE e := h.1.mem e (by rw [hR]; simp)
    have e4 : (256 : Nat) ^ 4 = 4294967296 := by decide
    have e2 : (256 : Nat) ^ 2 = 65536 := by decide
    have hsz : e.name.size ≤ 59 := hfe.1.2.1
    have hall : s = bytesL P ++ numB e.ino 4 ++ numB e.name.size 2 ++ e.name ++ bytesL R := by
      rw [← h.2.1, hR, bytesL_app, bytesL]
      unfold ent
      simp only [app_assoc]
    have hlen : s.size = a + 6 + e.name.size + (bytesL R).size := by
      conv => lhs; rw [hall]
      simp only [ByteArray.size_append, numB_size, hpa]
    have t1 : takeN s a 4 = e.ino := by
      have := takeN_mid (bytesL P) (numB e.name.size 2 ++ e.name ++ bytesL R) e.ino 4 (by rw [e4]; exact hfe.2.2)
      rw [hpa] at this
      rw [← this]
      congr 1
      rw [hall]
      simp only [app_assoc]
    have t2 : takeN s (a + 4) 2 = e.name.size := by
      have := takeN_mid (bytesL P ++ numB e.ino 4) (e.name ++ bytesL R) e.name.size 2 (by omega)
      rw [ByteArray.size_append, numB_size, hpa] at this
      rw [← this]
      congr 1
      rw [hall]
      simp only [app_assoc]
    have k1 : takeOk s (a : Int) 4 := ⟨by omega, by omega, show (0 : Int) ≤ (a : Int) by omega, show (4 : Int) ≤ (s.size : Int) - (a : Int) by omega⟩
    have k2 : tokOk s ((a + 4 : Nat) : Int) := ⟨⟨by omega, by omega, show (0 : Int) ≤ ((a + 4 : Nat) : Int) by omega, show (2 : Int) ≤ (s.size : Int) - ((a + 4 : Nat) : Int) by omega⟩, by rw [Int.toNat_natCast, t2]; omega⟩
    have t3 : tokS s ((a + 4 : Nat) : Int) = e.name := by
      rw [tokS_yes k2, t2]
      have := extract_mid (bytesL P ++ numB e.ino 4 ++ numB e.name.size 2) e.name (bytesL R)
      simp only [ByteArray.size_append, numB_size, hpa] at this
      rw [← hall] at this
      exact this
    have hh : here s a = e := by
      unfold here
      rw [t1, t3]
    refine ⟨⟨k1, k2⟩, by rw [hh]; exact hfe, ?_⟩
    rw [hh]
    refine idx_none.2 fun i hi hx => ?_
    have h1 := h.1.2 i P.length (by rw [hR, List.length_append]; omega) (by rw [hR, List.length_append, List.length_cons]; omega) (by
      rw [hR, nm_app hi, show nm (P ++ e :: R) P.length = e from by
        have := nm_app2 (L := P) (M := e :: R) (i := 0) (by simp)
        rwa [Nat.add_zero] at this]
      exact hx)
    omega
/-- all was read -/
theorem read_all {s : ByteArray} {P : List N} (hF : Fine P) (hP : bytesL P = s.extract 0 s.size) (hs : s.size ≤ 20000) : DirP s P := ⟨hF, by rw [hP, extract_all], hs⟩
end Go.Proofs.Ytafbkagoajcmeaa.Dir
