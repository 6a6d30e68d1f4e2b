/- Several texts in one, each under its own heading. -/
import Derived.Test.YtkipkcmcolomcaaGreatPk03
import Derived.Test.YtkipkcmcolomcaaGreatPk04
/- How a directory's bytes are gone through: what stands behind the names that were read. They speak of no program. -/
namespace Go.Proofs.YtkipkcmcolomcaaGreat.Dir
set_option linter.unusedVariables false
set_option linter.unusedSimpArgs false

theorem takeN_mid (a b : ByteArray) (n k : Nat) (h : n < 256 ^ k) : takeN (a ++ numB n k ++ b) a.size k = n := by
  rw [takeN_congr (a ++ numB n k ++ b) (a ++ numB n k) a.size a.size k (fun i hi => sb_left _ _ _ (by rw [ByteArray.size_append, numB_size]; omega)), takeN_back a n k h]
theorem extract_mid (a b c : ByteArray) : (a ++ b ++ c).extract a.size (a.size + b.size) = b := by
  apply ba_ext
  have ha : a.data.toList.length = a.size := by simp
  have hb : b.data.toList.length = b.size := by simp
  rw [Lib.extract_data, app_list, app_list, ← ha, List.append_assoc, List.drop_left, show a.data.toList.length + b.size - a.data.toList.length = b.data.toList.length by omega, List.take_left]
theorem app_extract (b : ByteArray) (i j k : Nat) (h1 : i ≤ j) (h2 : j ≤ k) : b.extract i j ++ b.extract j k = b.extract i k := by
  apply ba_ext
  rw [app_list, Lib.extract_data, Lib.extract_data, Lib.extract_data, show k - i = (j - i) + (k - j) by omega, List.take_add, List.drop_drop, show i + (j - i) = j by omega]
theorem extract_all (s : ByteArray) : s.extract 0 s.size = s := by
  apply ba_ext
  rw [Lib.extract_data, List.drop_zero, Nat.sub_zero, List.take_of_length_le (by simp)]
/-- the name that stands at a place -/
def here (s : ByteArray) (a : Nat) : N := ⟨tokS s ((a + 4 : Nat) : Int), takeN s a 4⟩
/-- does one stand there? -/
def hereOk (s : ByteArray) (a : Nat) : Prop := takeOk s (a : Int) 4 ∧ tokOk s ((a + 4 : Nat) : Int)
theorem here_size {s : ByteArray} {a : Nat} (h : hereOk s a) : (here s a).name.size = takeN s (a + 4) 2 ∧ a + 6 + (here s a).name.size ≤ s.size ∧ tokI s ((a + 4 : Nat) : Int) = ((a + 6 + (here s a).name.size : Nat) : Int) := by
  have h2 := h.2.2
  rw [Int.toNat_natCast] at h2
  have e : (here s a).name.size = takeN s (a + 4) 2 := by
    unfold here
    dsimp only
    rw [tokS_yes h.2, ByteArray.size_extract]
    omega
  refine ⟨e, by omega, ?_⟩
  rw [tokI_yes h.2, e]
/-- one more name -/
theorem step_good {s : ByteArray} {a : Nat} {P : List N} (hP : bytesL P = s.extract 0 a) (h : hereOk s a) : bytesL (P ++ [here s a]) = s.extract 0 (a + 6 + (here s a).name.size) := by
  obtain ⟨h1, h2, _⟩ := here_size h
  have h3 := h.2.2
  rw [Int.toNat_natCast] at h3
  rw [bytesL_snoc, hP]
  have e1 : numB (here s a).ino 4 = s.extract a (a + 4) := numB_take s a 4 (by omega)
  have e2 : numB (here s a).name.size 2 = s.extract (a + 4) (a + 4 + 2) := by rw [h1]; exact numB_take s (a + 4) 2 (by omega)
  have e3 : (here s a).name = s.extract (a + 4 + 2) (a + 6 + (here s a).name.size) := by
    rw [h1, show a + 6 + takeN s (a + 4) 2 = a + 4 + 2 + takeN s (a + 4) 2 by omega]
    exact tokS_yes h.2
  have e4 : ent (here s a) = s.extract a (a + 6 + (here s a).name.size) := by
    unfold ent
    rw [e1, e2, app_extract s a (a + 4) (a + 4 + 2) (by omega) (by omega)]
    conv => lhs; arg 2; rw [e3]
    exact app_extract s a (a + 4 + 2) _ (by omega) (by omega)
  rw [e4, app_extract s 0 a _ (by omega) (by omega)]
/-- what stands there, if the bytes are a directory's -/
theorem step_is {s : ByteArray} {L P : List N} {a : Nat} (h : DirP s L) (hF : Fine P) (hP : bytesL P = s.extract 0 a) (ha : a < s.size) :
    hereOk s a ∧ fineE (here s a) ∧ idx P (here s a).name = P.length := by
  have hs : bytesL P ++ s.extract a s.size = bytesL L := by rw [hP, app_extract s 0 a s.size (by omega) (by omega), extract_all, h.2.1]
  obtain ⟨R0, hR, hR2⟩ := pre_split P L _ hF.mem h.1.mem hs
  cases R0 with
  | nil =>
    have := congrArg ByteArray.size hR2
    rw [ByteArray.size_extract, bytesL] at this
    have h0 : (⟨#[]⟩ : ByteArray).size = 0 := rfl
    omega
  | cons e R =>
    have hpa : (bytesL P).size = a := by rw [hP, ByteArray.size_extract]; omega
    have hfe : fineE e := h.1.mem e (by rw [hR]; simp)
    have e4 : (256 : Nat) ^ 4 = 4294967296 := by decide
    have e2 : (256 : Nat) ^ 2 = 65536 := by decide
    have hsz : e.name.size ≤ 59 := hfe.1.2.1
    have hall : s = bytesL P ++ numB e.ino 4 ++ numB e.name.size 2 ++ e.name ++ bytesL R := by
      rw [← h.2.1, hR, bytesL_app, bytesL]
      unfold ent
      simp only [app_assoc]
    have hlen : s.size = a + 6 + e.name.size + (bytesL R).size := by
      conv => lhs; rw [hall]
      simp only [ByteArray.size_append, numB_size, hpa]
    have t1 : takeN s a 4 = e.ino := by
      have := takeN_mid (bytesL P) (numB e.name.size 2 ++ e.name ++ bytesL R) e.ino 4 (by rw [e4]; exact hfe.2.2)
      rw [hpa] at this
      rw [← this]
      congr 1
      rw [hall]
      simp only [app_assoc]
    have t2 : takeN s (a + 4) 2 = e.name.size := by
      have := takeN_mid (bytesL P ++ numB e.ino 4) (e.name ++ bytesL R) e.name.size 2 (by omega)
      rw [ByteArray.size_append, numB_size, hpa] at this
      rw [← this]
      congr 1
      rw [hall]
      simp only [app_assoc]
    have k1 : takeOk s (a : Int) 4 := ⟨by omega, by omega, show (0 : Int) ≤ (a : Int) by omega, show (4 : Int) ≤ (s.size : Int) - (a : Int) by omega⟩
    have k2 : tokOk s ((a + 4 : Nat) : Int) := ⟨⟨by omega, by omega, show (0 : Int) ≤ ((a + 4 : Nat) : Int) by omega, show (2 : Int) ≤ (s.size : Int) - ((a + 4 : Nat) : Int) by omega⟩, by rw [Int.toNat_natCast, t2]; omega⟩
    have t3 : tokS s ((a + 4 : Nat) : Int) = e.name := by
      rw [tokS_yes k2, t2]
      have := extract_mid (bytesL P ++ numB e.ino 4 ++ numB e.name.size 2) e.name (bytesL R)
      simp only [ByteArray.size_append, numB_size, hpa] at this
      rw [← hall] at this
      exact this
    have hh : here s a = e := by
      unfold here
      rw [t1, t3]
    refine ⟨⟨k1, k2⟩, by rw [hh]; exact hfe, ?_⟩
    rw [hh]
    refine idx_none.2 fun i hi hx => ?_
    have h1 := h.1.2 i P.length (by rw [hR, List.length_append]; omega) (by rw [hR, List.length_append, List.length_cons]; omega) (by
      rw [hR, nm_app hi, show nm (P ++ e :: R) P.length = e from by
        have := nm_app2 (L := P) (M := e :: R) (i := 0) (by simp)
        rwa [Nat.add_zero] at this]
      exact hx)
    omega
/-- all was read -/
theorem read_all {s : ByteArray} {P : List N} (hF : Fine P) (hP : bytesL P = s.extract 0 s.size) (hs : s.size ≤ 20000) : DirP s P := ⟨hF, by rw [hP, extract_all], hs⟩
end Go.Proofs.YtkipkcmcolomcaaGreat.Dir
/- The document's names: which may be, where one is among others. -/
namespace Go.Proofs.YtkipkcmcolomcaaGreat.Dir.R
open Go.RowKit
attribute [local go_sem] Oper.semAt_some
set_option linter.unusedVariables false
set_option linter.unusedSimpArgs false
theorem lit_no {s : ByteArray} {l : List UInt8} (h : ¬ s = ⟨l.toArray⟩) : (s.toList == l) = false := by
  rw [beq_eq_false_iff_ne]
  intro he
  apply h
  apply ba_ext
  rw [← Lib.toList_data, he]
section
set_option maxRecDepth 100000
set_option maxHeartbeats 4000000
theorem isName_any (s : ByteArray) (w : World) (hs : s.size ≤ 281474976710656) : Calls Tryz.prog 130 #[.string s] w fun e w' => e = .returned (.bool (nameB s)) ∧ w = w' := by
  by_cases h1 : s.size < 1
  · have HN := Lib.hid (nameB_no (s := s) (fun h => by have := h.1; omega))
    have g1 : (s.size : Int) < 1 := by omega
    clear h1 hs
    go_enter Tryz.func130, Tryz.ntmps130
    go_wp2
    go_ret
    exact ⟨by rw [HN.out]; rfl, rfl⟩
  have g1 : ¬ (s.size : Int) < 1 := by omega
  by_cases h2 : 59 < s.size
  · have HN := Lib.hid (nameB_no (s := s) (fun h => by have := h.2.1; omega))
    have g2 : (59 : Int) < (s.size : Int) := by omega
    clear h1 h2 hs
    go_enter Tryz.func130, Tryz.ntmps130
    go_wp2
    go_ret
    exact ⟨by rw [HN.out]; rfl, rfl⟩
  have g2 : ¬ (59 : Int) < (s.size : Int) := by omega
  by_cases h3 : s = ⟨#[46]⟩
  · subst h3
    have HN := Lib.hid (nameB_no (s := ⟨#[46]⟩) (fun h => h.2.2.1 rfl))
    clear h1 h2 hs g1 g2
    go_enter Tryz.func130, Tryz.ntmps130
    go_wp2
    go_ret
    exact ⟨by rw [HN.out]; rfl, rfl⟩
  have g3 : (s.toList == [46]) = false := lit_no h3
  by_cases h4 : s = ⟨#[46, 46]⟩
  · subst h4
    have HN := Lib.hid (nameB_no (s := ⟨#[46, 46]⟩) (fun h => h.2.2.2.1 rfl))
    clear h1 h2 hs g1 g2 g3 h3
    go_enter Tryz.func130, Tryz.ntmps130
    go_wp2
    go_ret
    exact ⟨by rw [HN.out]; rfl, rfl⟩
  have g4 : (s.toList == [46, 46]) = false := lit_no h4
  have HT : Hid ((∀ i, i < s.size → ¬ sb s i = 0 ∧ ¬ sb s i = 47) → nameB s = true) := fun h => nameB_yes ⟨by omega, by omega, h3, h4, h⟩
  have HF : Hid ((∃ i, i < s.size ∧ (sb s i = 0 ∨ sb s i = 47)) → nameB s = false) := fun ⟨i, hi, hx⟩ => nameB_no fun h => by
    have := h.2.2.2.2 i hi
    rcases hx with hx | hx
    · exact this.1 hx
    · exact this.2 hx
  clear h3 h4
  go_enter Tryz.func130, Tryz.ntmps130
  go_wp2
  go_loop [3] (fun i => ∃ j : Nat, i = .int .i64 (j : Int) ∧ j ≤ s.size ∧ Hid (∀ q, q < j → ¬ sb s q = 0 ∧ ¬ sb s q = 47)) (fun i => (s.size : Nat) - (intOf i).toNat)
  case atStart => exact ⟨0, rfl, by omega, fun q h => by omega⟩
  case round =>
    obtain ⟨j, rfl, hj, HQ⟩ := hrel
    by_cases hlt : j < s.size
    · have e3 : ∀ h : j < s.size, (((s[j]'h).toNat : Nat) : Int) = sbyte s j := fun h => by
        have : s.data.toList[j]? = some (s[j]'h) := Go.Proofs.byte_at s j h
        simp [sbyte, this]
      by_cases hz : sb s j = 0
      · have hb : (sbyte s j == 0) = true := by rw [sbyte_eq, hz]; rfl
        have HN := Lib.hid (HF.out ⟨j, hlt, .inl hz⟩)
        clear hz
        go_wp2
        go_ret
        exact ⟨by rw [HN.out]; rfl, rfl⟩
      · have hb : (sbyte s j == 0) = false := by rw [sbyte_eq]; exact beq_eq_false_iff_ne.2 (by omega)
        by_cases hy : sb s j = 47
        · have hb2 : (sbyte s j == 47) = true := by rw [sbyte_eq, hy]; rfl
          have HN := Lib.hid (HF.out ⟨j, hlt, .inr hy⟩)
          clear hz hy
          go_wp2
          go_ret
          exact ⟨by rw [HN.out]; rfl, rfl⟩
        · have hb2 : (sbyte s j == 47) = false := by rw [sbyte_eq]; exact beq_eq_false_iff_ne.2 (by omega)
          have HN : Hid (∀ q, q < j + 1 → ¬ sb s q = 0 ∧ ¬ sb s q = 47) := fun q h => by
            rcases Nat.lt_succ_iff_lt_or_eq.1 h with h | h
            · exact HQ.out q h
            · rw [h]; exact ⟨hz, hy⟩
          clear hz hy
          go_wp2
          go_round
          case rel => exact ⟨j + 1, by go_num, by omega, HN⟩
          case measure => simp [intOf]; omega
    · obtain rfl : j = s.size := by omega
      have HN := Lib.hid (HT.out HQ.out)
      go_wp2
      go_ret
      exact ⟨by rw [HN.out]; rfl, rfl⟩

/-- where a name is; below 0: it is none -/
def placeV (L : List N) (s : ByteArray) : Int := if idx L s < L.length then (idx L s : Int) else -1
theorem place_any (v : Value) (L : List N) (s : ByteArray) (w : World) (hL : Nms w v L) : Calls Tryz.prog 131 #[v, .string s] w fun e w' => e = .returned (.int .i64 (placeV L s)) ∧ w = w' := by
  obtain ⟨a, cap, rfl, hcap1, hcap2⟩ := hL.parts
  have HY : Hid (∀ i, i < L.length → (nm L i).name = s → (∀ j, j < i → ¬ (nm L j).name = s) → placeV L s = (i : Int)) := fun i hi h h2 => by
    have h1 : idx L s = i := by
      rcases Nat.lt_trichotomy (idx L s) i with hh | hh | hh
      · exact absurd (idx_is (by omega)) (h2 _ hh)
      · exact hh
      · exact absurd h (idx_not hh)
    unfold placeV
    rw [h1, if_pos hi]
  have HN : Hid ((∀ i, i < L.length → ¬ (nm L i).name = s) → placeV L s = -1) := fun h => by
    unfold placeV
    rw [idx_none.2 h, if_neg (Nat.lt_irrefl _)]
  have HL := Lib.hid hL
  obtain ⟨n, hn⟩ : ∃ n, L.length = n := ⟨_, rfl⟩
  have HLN := Lib.hid hn
  rw [hn] at HL HY HN hcap1 ⊢
  clear hL hn
  go_enter Tryz.func131, Tryz.ntmps131
  go_wp2
  go_loop [5] (fun i => ∃ j : Nat, i = .int .i64 (j : Int) ∧ j ≤ n ∧ Hid (∀ q, q < j → ¬ (nm L q).name = s)) (fun i => n - (intOf i).toNat)
  case atStart => exact ⟨0, rfl, by omega, fun q h => by omega⟩
  case round =>
    obtain ⟨j, rfl, hj, HQ⟩ := hrel
    by_cases hlt : j < n
    · have h1 := HL.out.at (k := j) (by rw [HLN.out]; exact hlt)
      rw [HLN.out] at h1
      obtain ⟨b, off, cap2, e2, c0, c1⟩ := h1
      cases e2
      by_cases hq : (nm L j).name = s
      · have hb := beq_yes hq
        have HR := Lib.hid (HY.out j hlt hq HQ.out)
        generalize (nm L j).name = x at *
        generalize (nm L j).ino = y at *
        clear hq
        go_wp2
        go_ret
        exact ⟨by rw [HR.out]; rfl, rfl⟩
      · have hb := beq_no hq
        have HM : Hid (∀ q, q < j + 1 → ¬ (nm L q).name = s) := fun q h => by
          rcases Nat.lt_succ_iff_lt_or_eq.1 h with h | h
          · exact HQ.out q h
          · rw [h]; exact hq
        obtain ⟨x, hx⟩ : ∃ x, (nm L j).name = x := ⟨_, rfl⟩
        rw [hx] at c0 hb
        clear hq hx
        go_wp2
        go_round
        case rel => exact ⟨j + 1, by go_num, by omega, HM⟩
        case measure => simp [intOf]; omega
    · obtain rfl : j = n := by omega
      have HR := Lib.hid (HN.out HQ.out)
      go_wp2
      go_ret
      exact ⟨by rw [HR.out]; rfl, rfl⟩
end
end Go.Proofs.YtkipkcmcolomcaaGreat.Dir.R
/- The document's Read. -/
namespace Go.Proofs.YtkipkcmcolomcaaGreat.Dir.R
open Go.RowKit
attribute [local go_sem] Oper.semAt_some
set_option linter.unusedVariables false
set_option linter.unusedSimpArgs false
/-- what Read answers: the names, in a row of one's own; or none -/
def ReadPost (s : ByteArray) (w : World) (e : Ending) (w' : World) : Prop :=
  (∃ L v, DirP s L ∧ e = .returned (.tuple #[v, .bool true]) ∧ w'.ownsRow w.heap.size 52 2 v L.length (cellsL L) ∧ Below w.heap.size w w') ∨
  ((¬ ∃ L, DirP s L) ∧ e = .returned (.tuple #[.slice none 0 0, .bool false]) ∧ Below w.heap.size w w')
section
set_option maxRecDepth 100000
set_option maxHeartbeats 8000000
theorem read_any (s : ByteArray) (w : World) (hs : s.size ≤ 281474976710656) : Calls Tryz.prog 100 #[.string s] w (ReadPost s w) := by
  obtain ⟨i0, hi, hz0, hz1, hz2⟩ := info_parts infoNm
  have HNO : Hid ((¬ ∃ L, DirP s L) → ∀ w', Below w.heap.size w w' → ReadPost s w (.returned (.tuple #[.slice none 0 0, .bool false])) w') := fun h w' hB => .inr ⟨h, rfl, hB⟩
  by_cases hbig : 20000 < s.size
  · have g1 : (20000 : Int) < (s.size : Int) := by omega
    have HN := Lib.hid (HNO.out (fun ⟨L, hL⟩ => by have := hL.2.2; omega) w (Below.refl _ _))
    clear hbig HNO
    go_enter Tryz.func100, Tryz.ntmps100
    go_wp2
    go_returns
    exact HN.out
  have g1 : ¬ (20000 : Int) < (s.size : Int) := by omega
  have g2 : s.size ≤ 20000 := by omega
  have HYES : Hid (∀ P v w', Fine P → bytesL P = s.extract 0 s.size → w'.ownsRow w.heap.size 52 2 v P.length (cellsL P) → Below w.heap.size w w' → ReadPost s w (.returned (.tuple #[v, .bool true])) w') := fun P v w' h1 h2 h3 h4 => .inl ⟨P, v, read_all h1 h2 g2, rfl, h3, h4⟩
  have HIS : Hid (∀ P a, Fine P → bytesL P = s.extract 0 a → a < s.size → ¬ (hereOk s a ∧ fineE (here s a) ∧ idx P (here s a).name = P.length) → ¬ ∃ L, DirP s L) := fun P a h1 h2 h3 h4 ⟨L, hL⟩ => h4 (step_is hL h1 h2 h3)
  have e0 : bytesL [] = s.extract 0 0 := by
    apply ba_ext
    rw [Lib.extract_data]
    simp [bytesL]
  clear hbig
  go_enter Tryz.func100, Tryz.ntmps100
  go_wp2
  go_loopw [4, 5, 6, 7, 8, 9, 10, 11] (fun v i _ _ _ _ _ _ wr => ∃ (P : List N) (a : Nat), i = .int .i64 (a : Int) ∧ a ≤ s.size ∧ Hid (Fine P) ∧ Hid (bytesL P = s.extract 0 a) ∧ Hid (wr.ownsRow w.heap.size 52 2 v P.length (cellsL P)) ∧ Hid (Below w.heap.size w wr)) (fun _ i _ _ _ _ _ _ _ => s.size - (intOf i).toNat)
  case atStart => exact ⟨[], 0, rfl, by omega, Fine.nil, e0, World.ownsRow_nil _ _ _ _, Below.refl _ _⟩
  case round =>
    obtain ⟨P, a, rfl, ha, HF, HP, HO, HB⟩ := hrel
    clear e0
    by_cases hlt : a < s.size
    · have hli : (a : Int) < (s.size : Int) := by omega
      have HI := HIS.out P a HF.out HP.out hlt
      have HBAD : Hid (¬ (hereOk s a ∧ fineE (here s a) ∧ idx P (here s a).name = P.length) → ReadPost s w (.returned (.tuple #[.slice none 0 0, .bool false])) wr) := fun h => HNO.out (HI h) _ HB.out
      have hNm : Nms wr u4 P := Nms.own HO.out
      have hPl : 6 * P.length ≤ a := by
        have := bytesL_many P
        rw [HP.out, ByteArray.size_extract] at this
        omega
      have hT := Lib.hid (fun W => take_ref s (a : Int) 4 W hs (by omega))
      have hK := Lib.hid (fun W => tok_ref s ((a : Int) + 4) W hs (by omega) (by omega))
      have hpp : (a : Int) + 4 = ((a + 4 : Nat) : Int) := by omega
      have hw1 : IntKind.i64.wrap ((a : Int) + 4) = (a : Int) + 4 := by rw [IntKind.wrap_i64]; omega
      have hts : (tokS s ((a : Int) + 4)).size ≤ 281474976710656 := by
        by_cases h : tokOk s ((a : Int) + 4)
        · rw [hpp] at h ⊢
          rw [tokS_yes h, ByteArray.size_extract]
          omega
        · rw [tokS_no h]
          decide
      have hNB := Lib.hid (fun W => isName_any (tokS s ((a : Int) + 4)) W hts)
      have hPL := Lib.hid (fun W (h : Nms W u4 P) => place_any u4 P (tokS s ((a : Int) + 4)) W h)
      by_cases k1 : takeOk s (a : Int) 4
      · have hv : takeV s (a : Int) 4 = ((takeN s a 4 : Nat) : Int) := by rw [takeV_yes k1, Int.toNat_natCast]; rfl
        rw [hv, takeE_yes k1] at hT
        by_cases k2 : tokOk s ((a + 4 : Nat) : Int)
        · have hgd : hereOk s a := ⟨k1, k2⟩
          obtain ⟨z1, z2, z3⟩ := here_size hgd
          have hname : (here s a).name = tokS s ((a : Int) + 4) := by unfold here; rw [hpp]
          have hino : (here s a).ino = takeN s a 4 := rfl
          have hil := takeN_lt s a 4
          rw [show (256 : Nat) ^ 4 = 4294967296 by decide] at hil
          have HG := Lib.hid (step_good HP.out hgd)
          obtain ⟨X, hX⟩ : ∃ X, here s a = X := ⟨_, rfl⟩
          rw [hX] at z1 z2 z3 hname hino HG HBAD
          rw [← hpp] at z3
          rw [z3, tokE_yes (by rw [hpp]; exact k2), ← hname] at hK
          rw [← hname] at hNB hPL
          rw [← hino] at hT hil
          obtain ⟨xn, xi⟩ := X
          dsimp only at z1 z2 hname hino hil hK hNB hPL hT HG HBAD
          have HLX := Lib.hid z2
          clear z1 z3 hname hino hX hv hts HI k1 k2 hgd hpp
          by_cases k3 : nameP xn
          · rw [nameB_yes k3] at hNB
            by_cases k4 : xi = 0
            · have q4 : ((xi : Int) == 0) = true := by simp [k4]
              have HN := Lib.hid (HBAD.out (fun h => h.2.1.2.1 k4))
              clear k3 k4 z2 hil
              go_wp2_with (first
                | (go_at_call 128; (with_reducible refine Calls.mono (hT.out _) ?_); rintro e w1 ⟨rfl, rfl⟩)
                | (go_at_call 129; (with_reducible refine Calls.mono (hK.out _) ?_); rintro e w1 ⟨rfl, rfl⟩)
                | (go_at_call 130; (with_reducible refine Calls.mono (hNB.out _) ?_); rintro e w1 ⟨rfl, rfl⟩))
              go_returns
              exact HN.out
            · have q4 : ((xi : Int) == 0) = false := beq_eq_false_iff_ne.2 (by omega)
              by_cases k5 : idx P xn < P.length
              · have HN := Lib.hid (HBAD.out (fun h => by have := h.2.2; omega))
                have hpl : placeV P xn = ((idx P xn : Nat) : Int) := if_pos k5
                rw [hpl] at hPL
                generalize idx P xn = ii at hPL
                have q5 : ((ii : Int) ≥ 0) := by omega
                clear k3 k4 z2 hil hpl k5
                go_wp2_with (first
                  | (go_at_call 128; (with_reducible refine Calls.mono (hT.out _) ?_); rintro e w1 ⟨rfl, rfl⟩)
                  | (go_at_call 129; (with_reducible refine Calls.mono (hK.out _) ?_); rintro e w1 ⟨rfl, rfl⟩)
                  | (go_at_call 130; (with_reducible refine Calls.mono (hNB.out _) ?_); rintro e w1 ⟨rfl, rfl⟩)
                  | (go_at_call 131; (with_reducible refine Calls.mono (hPL.out _ hNm) ?_); rintro e w1 ⟨rfl, rfl⟩))
                go_returns
                exact HN.out
              · have hpl : placeV P xn = -1 := if_neg k5
                rw [hpl] at hPL
                have HFN : Hid (Fine (P ++ [⟨xn, xi⟩])) := HF.out.add ⟨k3, k4, hil⟩ (by have := idx_le P xn; show idx P xn = P.length; omega)
                have hwx : IntKind.u32.wrap (xi : Int) = (xi : Int) := by rw [IntKind.wrap_u32]; omega
                obtain ⟨n, hn⟩ : ∃ n, P.length = n := ⟨_, rfl⟩
                have HNN := Lib.hid hn
                rw [hn] at hPl HO
                clear k3 k4 hil hpl k5 hn
                go_wp2_with (first
                  | (go_at_call 128; (with_reducible refine Calls.mono (hT.out _) ?_); rintro e w1 ⟨rfl, rfl⟩)
                  | (go_at_call 129; (with_reducible refine Calls.mono (hK.out _) ?_); rintro e w1 ⟨rfl, rfl⟩)
                  | (go_at_call 130; (with_reducible refine Calls.mono (hNB.out _) ?_); rintro e w1 ⟨rfl, rfl⟩)
                  | (go_at_call 131; (with_reducible refine Calls.mono (hPL.out _ hNm) ?_); rintro e w1 ⟨rfl, rfl⟩)
                  | (at_builtin; go_must (refine wpList_append_own _ rfl _ _ 30 rfl w.heap.size 52 i0 (.agg #[.string ⟨#[]⟩, .int .u32 0]) 2 24 Tryz.underlying30 hi hz0 hz1 hz2 rfl (by decide) _ _ _ rfl (HO.out.alloc _) ⟨wr.heap.size, 0, none⟩ 1 1 [.string xn, .int .u32 (xi : Int)] rfl rfl (World.news_of_block (World.alloc_heap_new wr _)) (by simp [Value.oneCell']) (by unfold maxLen; omega) (by omega) (by have := HB.out.size; simp; omega) ?_; intro v' w1 hown' hgrow _)))
                have hs1 := HB.out.size
                have HB2 : Hid (Below w.heap.size w w1) := (HB.out.alloc hs1 _).grown hgrow (by simp; omega) (fun r e => (HO.out.lt r e).1)
                have HO2 : Hid (w1.ownsRow w.heap.size 52 2 v' (P ++ [(⟨xn, xi⟩ : N)]).length (cellsL (P ++ [(⟨xn, xi⟩ : N)]))) := by
                  rw [List.length_append, cellsL_snoc, HNN.out]
                  exact hown'
                clear hown' hgrow HO
                go_roundw
                case rel => exact ⟨P ++ [⟨xn, xi⟩], a + 6 + xn.size, rfl, HLX.out, HFN, HG, HO2, HB2⟩
                case measure => simp [intOf]; omega
          · rw [nameB_no k3] at hNB
            have HN := Lib.hid (HBAD.out (fun h => k3 h.2.1.1))
            clear k3 z2 hil
            go_wp2_with (first
              | (go_at_call 128; (with_reducible refine Calls.mono (hT.out _) ?_); rintro e w1 ⟨rfl, rfl⟩)
              | (go_at_call 129; (with_reducible refine Calls.mono (hK.out _) ?_); rintro e w1 ⟨rfl, rfl⟩)
              | (go_at_call 130; (with_reducible refine Calls.mono (hNB.out _) ?_); rintro e w1 ⟨rfl, rfl⟩))
            go_returns
            exact HN.out
        · have HN := Lib.hid (HBAD.out (fun h => k2 h.1.2))
          rw [tokE_no (by rw [hpp]; exact k2)] at hK
          generalize tokS s ((a : Int) + 4) = xn at hK hNB hts
          generalize tokI s ((a : Int) + 4) = xj at hK
          generalize takeN s a 4 = xi at hT
          generalize nameB xn = xb at hNB
          clear k1 k2 hv HI hts hPL hpp
          go_wp2_with (first
            | (go_at_call 128; (with_reducible refine Calls.mono (hT.out _) ?_); rintro e w1 ⟨rfl, rfl⟩)
            | (go_at_call 129; (with_reducible refine Calls.mono (hK.out _) ?_); rintro e w1 ⟨rfl, rfl⟩)
            | (go_at_call 130; (with_reducible refine Calls.mono (hNB.out _) ?_); rintro e w1 ⟨rfl, rfl⟩))
          go_returns
          exact HN.out
      · have HN := Lib.hid (HBAD.out (fun h => k1 h.1.1))
        rw [takeE_no k1] at hT
        generalize takeV s (a : Int) 4 = xi at hT
        generalize tokS s ((a : Int) + 4) = xn at hK hNB hts
        generalize tokI s ((a : Int) + 4) = xj at hK
        generalize tokE s ((a : Int) + 4) = xe at hK
        generalize nameB xn = xb at hNB
        clear k1 HI hts hPL hpp
        go_wp2_with (first
          | (go_at_call 128; (with_reducible refine Calls.mono (hT.out _) ?_); rintro e w1 ⟨rfl, rfl⟩)
          | (go_at_call 129; (with_reducible refine Calls.mono (hK.out _) ?_); rintro e w1 ⟨rfl, rfl⟩)
          | (go_at_call 130; (with_reducible refine Calls.mono (hNB.out _) ?_); rintro e w1 ⟨rfl, rfl⟩))
        go_returns
        exact HN.out
    · obtain rfl : a = s.size := by omega
      have HR := Lib.hid (HYES.out P _ _ HF.out HP.out HO.out HB.out)
      go_wp2
      go_returns
      exact HR.out
end
end Go.Proofs.YtkipkcmcolomcaaGreat.Dir.R
/- The document's Bytes of names. -/
namespace Go.Proofs.YtkipkcmcolomcaaGreat.Dir.R
open Go.RowKit
attribute [local go_sem] Oper.semAt_some
set_option linter.unusedVariables false
set_option linter.unusedSimpArgs false
theorem bytesL_take (L : List N) {k : Nat} (h : k < L.length) : bytesL (L.take (k + 1)) = bytesL (L.take k) ++ ent (nm L k) := by rw [take_snoc h, bytesL_snoc]
theorem take_size_le (L : List N) (k : Nat) : (bytesL (L.take k)).size ≤ (bytesL L).size := by
  conv => rhs; rw [← List.take_append_drop k L]
  rw [bytesL_app, ByteArray.size_append]
  omega
section
set_option maxRecDepth 100000
set_option maxHeartbeats 8000000
theorem bytes_any (v : Value) (L : List N) (w : World) (hL : Nms w v L) (hsz : (bytesL L).size ≤ 1000000) (hin : ∀ i, i < L.length → (nm L i).ino < 4294967296) : Calls Tryz.prog 107 #[v] w (Ans w (.string (bytesL L))) := by
  obtain ⟨a, cap, rfl, hcap1, hcap2⟩ := hL.parts
  have HL := Lib.hid hL
  have HS := Lib.hid (fun k (h : k < L.length) => bytesL_take L h)
  have HZ := Lib.hid (fun k => Nat.le_trans (take_size_le L k) hsz)
  have HI := Lib.hid hin
  have HE : Hid (bytesL (L.take L.length) = bytesL L) := by unfold Hid; rw [List.take_length]
  obtain ⟨n, hn⟩ : ∃ n, L.length = n := ⟨_, rfl⟩
  have HN := Lib.hid hn
  obtain ⟨st, hst⟩ : ∃ st : Nat → ByteArray, (fun k => bytesL (L.take k)) = st := ⟨_, rfl⟩
  have hst' : ∀ k, bytesL (L.take k) = st k := fun k => congrFun hst k
  have h0 : st 0 = ⟨#[]⟩ := by rw [← hst' 0]; rfl
  simp only [hst'] at HS HZ HE
  rw [hn] at HL HS HI HE hcap1 ⊢
  obtain ⟨Z, hZ⟩ : ∃ Z, bytesL L = Z := ⟨_, rfl⟩
  rw [hZ] at HE ⊢
  clear hL hin hsz hn hst hst' hZ
  obtain ⟨W0, rfl⟩ : ∃ W0 : World, W0 = w := ⟨_, rfl⟩
  go_enter Tryz.func107, Tryz.ntmps107
  go_wp2
  go_loopw [3, 4] (fun s i wr => ∃ k : Nat, k ≤ n ∧ i = .int .i64 (k : Int) ∧ s = .string (st k) ∧ Hid (Below W0.heap.size W0 wr)) (fun _ i _ => n - (intOf i).toNat)
  case atStart => exact ⟨0, by omega, rfl, by rw [h0], Below.refl _ _⟩
  case round =>
    obtain ⟨k, hk, rfl, rfl, HB⟩ := hrel
    clear h0
    by_cases hlt : k < n
    · have h1 := (HL.out.below HB.out).at (k := k) (by rw [HN.out]; exact hlt)
      rw [HN.out] at h1
      obtain ⟨b, off, cap2, e2, c0, c1⟩ := h1
      cases e2
      have HC := Lib.hid (fun W (h : Below wr.heap.size wr W) => ((HL.out.below HB.out).below h).get HN.out hlt)
      unfold Reads at HC
      have hS := HS.out k hlt
      have hz := HZ.out k
      have hz2 := HZ.out (k + 1)
      have hi4 := HI.out k hlt
      obtain ⟨q, hq⟩ : ∃ q, st (k + 1) = q := ⟨_, rfl⟩
      obtain ⟨t, ht⟩ : ∃ t, st k = t := ⟨_, rfl⟩
      rw [hq] at hS hz2
      rw [ht] at hS hz ⊢
      obtain ⟨e, he⟩ : ∃ e, nm L k = e := ⟨_, rfl⟩
      rw [he] at c0 c1 hS hi4
      rw [he] at HC
      obtain ⟨x, y⟩ := e
      dsimp only at c0 c1 hi4 HC
      unfold ent at hS
      dsimp only at hS
      have hxz : x.size ≤ 1000000 := by
        rw [hS] at hz2
        simp only [ByteArray.size_append] at hz2
        omega
      have e8 : (256 : Nat) ^ 8 = 18446744073709551616 := by decide
      have P1 := Lib.hid (fun W => bytes_ref y 4 W (by omega) (by omega) (by omega))
      have P2 := Lib.hid (fun W => bytes_ref x.size 2 W (by omega) (by omega) (by omega))
      obtain ⟨B1, hB1⟩ : ∃ B, numB y 4 = B := ⟨_, rfl⟩
      obtain ⟨B2, hB2⟩ : ∃ B, numB x.size 2 = B := ⟨_, rfl⟩
      have z1 : B1.size = 4 := by rw [← hB1, numB_size]
      have z2 : B2.size = 2 := by rw [← hB2, numB_size]
      simp only [hB1, hB2] at P1 P2 hS
      simp only [app_assoc] at hS
      have wy : IntKind.u64.wrap (y : Int) = y := by rw [IntKind.wrap_u64]; omega
      have wx : IntKind.u64.wrap (x.size : Int) = x.size := by rw [IntKind.wrap_u64]; omega
      have hadd1 := fun W => run_string_add_sum (P := Tryz.prog) (w := W) t B1 (by omega)
      have hadd2 := fun W => run_string_add_sum (P := Tryz.prog) (w := W) (t ++ B1) B2 (by simp only [ByteArray.size_append]; omega)
      have hadd3 := fun W => run_string_add_sum (P := Tryz.prog) (w := W) (t ++ B1 ++ B2) x (by simp only [ByteArray.size_append]; omega)
      have HQS := Lib.hid (hq.trans hS)
      have hself : Below wr.heap.size wr wr := Below.refl _ _
      have hself2 : Below wr.heap.size wr wr.drew := hself.drew
      clear hS hq ht he hB1 hB2 e8 hz2 hi4
      go_wp2
      go_region_held3 (fun w' => (w'.cell? ⟨b, off + k * 2, none⟩ = some (.string x) ∧ w'.cell? ⟨b, off + k * 2 + 1, none⟩ = some (.int .u32 (y : Int)))) (exact HC.out _ (by assumption)) (first
        | (go_at_call 135; (with_reducible refine Calls.mono (P1.out _) ?_); rintro e w2 ⟨rfl, hBn⟩; have := below_th (by assumption : Below wr.heap.size wr _) hBn)
        | (go_at_call 135; (with_reducible refine Calls.mono (P2.out _) ?_); rintro e w2 ⟨rfl, hBn⟩; have := below_th (by assumption : Below wr.heap.size wr _) hBn))
      have HB3 := Lib.hid (below_th HB.out (by assumption : Below wr.heap.size wr _))
      go_wp2
      go_roundw
      case rel => exact ⟨k + 1, by omega, by go_num, by rw [HQS.out], HB3.out⟩
      case measure => simp [intOf]; omega
    · obtain rfl : k = n := by omega
      go_wp2
      go_ret
      exact ⟨by rw [← HE.out]; rfl, HB.out⟩
end
end Go.Proofs.YtkipkcmcolomcaaGreat.Dir.R
