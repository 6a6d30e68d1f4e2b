/- What the program's functions on maps answer, in the words of maps. -/
import Derived.Test.YtdakfdecfpebcaaBmpLy2
import Derived.Test.YtdakfdecfpebcaaBmpLy3
import Derived.Test.YtdakfdecfpebcaaBmpJoin
namespace Go.Proofs.Ytdakfdecfpebcaa.Bmp
open Go.RowKit Ino
set_option linter.unusedVariables false
set_option linter.unusedSimpArgs false
theorem lay_all (s : Nat) (v1 v2 : Value) (V I : List Nat) (w : World) (h : s < 4294967296) (hV : U32s w v1 V) (hI : U32s w v2 I) (hsm : Small V) (hsi : Small I) : Calls Try.prog 15 #[.int .u32 s, v1, v2] w (LayPost s V I w) := by
  by_cases hok : layP s V I
  · have hd := dp_le s
    by_cases h0 : dpN s = 0
    · exact plain_zero s v1 v2 V I w h hV hI hok h0
    · by_cases h1 : dpN s = 1
      · exact callsIn_wide.1 (layOne_in s v1 v2 V I w h hV hI hok hsm hsi h1)
      · exact callsIn_wide.1 (layTwo_in s v1 v2 V I w h hV hI hok hsm hsi (by omega))
  · exact plain_no s v1 v2 V I w h hV hI hok
theorem six_at (L : List Nat) (i : Nat) (h : i < 6) : (sixOf L).at' i = L.getD i 0 := by
  match i, h with
  | 0, _ => rfl
  | 1, _ => rfl
  | 2, _ => rfl
  | 3, _ => rfl
  | 4, _ => rfl
  | 5, _ => rfl
theorem six_six : ∀ V : List Nat, V.length ≤ 6 → (six (sixOf V)).take V.length = V
  | [], _ => rfl
  | [_], _ => rfl
  | [_, _], _ => rfl
  | [_, _, _], _ => rfl
  | [_, _, _, _], _ => rfl
  | [_, _, _, _, _], _ => rfl
  | [_, _, _, _, _, _], _ => rfl
  | _ :: _ :: _ :: _ :: _ :: _ :: _ :: _, h => by simp at h
theorem six_cut (m : M) (k : Nat) (h : k ≤ 6) : sixOf ((six m).take k) = cutM m k := by
  match k, h with
  | 0, _ => rfl
  | 1, _ => rfl
  | 2, _ => rfl
  | 3, _ => rfl
  | 4, _ => rfl
  | 5, _ => rfl
  | 6, _ => rfl
theorem chk_whole {V : List Nat} (h : V.length ≤ 127) : chk V 0 = V := by
  unfold chk
  rw [Nat.mul_zero, List.drop_zero, List.take_of_length_le h]
theorem join_yes {s : Nat} {m : M} {B : List ByteArray} {V I : List Nat} (hj : joinP s m B V I) : joinO s m B = some V := by
  obtain ⟨hv, hi, hl, hm, hb⟩ := hj
  have hbl := blocks_length hl
  obtain ⟨o1, o2, o3, o4⟩ := hl
  have hcn := cnt_def o1
  have hd := dp_le s
  have hmp : mapP m s := by
    unfold mapP
    unfold mapOf at hm
    by_cases h0 : dpN s = 0
    · rw [if_pos h0] at hm ⊢
      refine M.ext' fun i hi6 => ?_
      rw [cutM_at _ _ _ hi6, ← hm, six_at _ _ hi6]
      split
      · rfl
      · rw [List.getD_eq_getElem?_getD, List.getElem?_eq_none (by omega)]; rfl
    · rw [if_neg h0] at hm ⊢
      rw [← hm]
      refine ⟨fun he => ?_, rfl⟩
      have h1 : 0 < I.length := by rw [o3, hcn]; split <;> omega
      refine o4 _ (List.getElem_mem h1) ?_
      have he2 : I.getD 0 0 = 0 := he
      rw [List.getD_eq_getElem?_getD, List.getElem?_eq_getElem h1] at he2
      exact he2
  unfold joinO
  rw [if_neg (fun h => h ⟨⟨o1, hmp⟩, by rw [← hb]; exact hbl⟩)]
  unfold mapOf at hm
  unfold blocksOf at hb
  by_cases h0 : dpN s = 0
  · rw [if_pos h0] at hm ⊢
    rw [← hm, ← o2, six_six V (by rw [o2]; exact dp_none h0)]
  · rw [if_neg h0] at hb ⊢
    by_cases h1 : dpN s = 1
    · obtain ⟨n7, n127⟩ := dp_one h1
      rw [if_pos h1] at hb ⊢
      have hlo : lowers V 1 = B := by rw [← hb]; show [blkB (chk V 0)] = _; rw [chk_whole (by omega)]
      obtain ⟨k1, k2⟩ := lowers_runs hv (N := 1) (by omega)
      rw [hlo, o2] at k1 k2
      have hB1 : B.length = 1 := by rw [← hb]; rfl
      rw [if_pos k1, hB1, k2]
    · rw [if_neg h1] at hb ⊢
      have h2 : dpN s = 2 := by omega
      have hlm := low_max o1
      have hIl : I.tail.length = lowN s := by rw [List.length_tail, o3, hcn, if_pos h2]; omega
      obtain ⟨k1, k2⟩ := blk_front (l := I.tail) (by omega) (small_tail hi)
      rw [hIl] at k1 k2
      have e0 : B.getD 0 ⟨#[]⟩ = blkB I.tail := by rw [← hb]; rfl
      have e1 : B.tail = lowers V (lowN s) := by rw [← hb]; rfl
      rw [e0, e1, if_pos ⟨o1, h2, k1, by rw [k2]; exact fun hz => o4 0 (List.mem_of_mem_tail hz) rfl⟩]
      obtain ⟨k3, k4⟩ := lowers_runs hv (N := lowN s) (by rw [o2]; rfl)
      rw [o2] at k3 k4
      rw [if_pos k3, lowers_length, k4]
theorem join_back {s : Nat} {m : M} {B : List ByteArray} {V : List Nat} (hm : MOk m) (h : joinO s m B = some V) : ∃ I, joinP s m B V I := by
  unfold joinO at h
  have hd := dp_le s
  by_cases hc : (s ≤ 8193532 ∧ mapP m s) ∧ B.length = cntN s
  · rw [if_neg (fun hh => hh hc)] at h
    obtain ⟨⟨o1, hmp⟩, hB⟩ := hc
    have hcn := cnt_def o1
    unfold mapP at hmp
    by_cases h0 : dpN s = 0
    · rw [if_pos h0] at h hmp
      have h6 := dp_none h0
      have e : (six m).take (blN s) = V := Option.some.inj h
      have hl : V.length = blN s := by rw [← e, List.length_take]; show min _ 6 = _; omega
      have hn0 : cntN s = 0 := by rw [hcn, if_neg (by omega), h0]
      refine ⟨[], fun x hx => ?_, fun x hx => (by cases hx), ⟨o1, hl, (by rw [hn0]; rfl), fun x hx => (by cases hx)⟩, ?_, ?_⟩
      · rw [← e] at hx
        have hx2 := List.mem_of_mem_take hx
        obtain ⟨m0, m1, m2, m3, m4, m5⟩ := hm
        simp only [six, List.mem_cons, List.not_mem_nil, or_false] at hx2
        rcases hx2 with rfl | rfl | rfl | rfl | rfl | rfl <;> assumption
      · unfold mapOf
        rw [if_pos h0, ← e, six_cut m _ h6]
        exact hmp.symm
      · unfold blocksOf
        rw [if_pos h0]
        exact (List.eq_nil_of_length_eq_zero (by omega)).symm
    · rw [if_neg h0] at h hmp
      obtain ⟨ma, mc⟩ := hmp
      by_cases h1 : dpN s = 1
      · rw [if_pos h1] at h
        obtain ⟨n7, n127⟩ := dp_one h1
        by_cases hr : runsP (blN s) B
        · rw [if_pos hr] at h
          have e : runs (blN s) B B.length = V := Option.some.inj h
          have hB1 : B.length = 1 := by rw [hB, hcn, if_neg (by omega), h1]
          have hl : V.length = blN s := by rw [← e, runs_length _ (by omega), hB1]; omega
          have hlo := runs_lowers (c := blN s) (L := B) (by omega) hr
          refine ⟨[m.a], by rw [← e]; exact runs_small _, fun x hx => ?_, ⟨o1, hl, by rw [← hB, hB1]; rfl, fun x hx => ?_⟩, ?_, ?_⟩
          · rw [List.mem_singleton] at hx; rw [hx]; exact hm.1
          · rw [List.mem_singleton] at hx; rw [hx]; exact ma
          · unfold mapOf
            rw [if_neg h0]
            exact mc.symm
          · unfold blocksOf
            rw [if_neg h0, if_pos h1]
            rw [e, hB1] at hlo
            have : lowers V 1 = [blkB (chk V 0)] := rfl
            rw [this, chk_whole (by omega)] at hlo
            exact hlo
        · rw [if_neg hr] at h; cases h
      · rw [if_neg h1] at h
        have h2 : dpN s = 2 := by omega
        have hnb : cntN s = 1 + lowN s := by rw [hcn, if_pos h2]
        have hlm := low_max o1
        have hlw : lowN s = (blN s + 126) / 127 := rfl
        by_cases hp : belowP s (B.getD 0 ⟨#[]⟩)
        · rw [if_pos hp] at h
          by_cases hr : runsP (blN s) B.tail
          · rw [if_pos hr] at h
            have e : runs (blN s) B.tail B.tail.length = V := Option.some.inj h
            have htl : B.tail.length = lowN s := by rw [List.length_tail]; omega
            have hl : V.length = blN s := by rw [← e, runs_length _ (by omega)]; omega
            have hlo := runs_lowers (c := blN s) (L := B.tail) (by omega) hr
            obtain ⟨p1, p2, p3, p4⟩ := hp
            refine ⟨m.a :: firsts (B.getD 0 ⟨#[]⟩) (lowN s), by rw [← e]; exact runs_small _, fun x hx => ?_, ⟨o1, hl, by rw [List.length_cons, firsts_length]; omega, fun x hx => ?_⟩, ?_, ?_⟩
            · rcases List.mem_cons.1 hx with hx | hx
              · rw [hx]; exact hm.1
              · exact firsts_small _ _ x hx
            · rcases List.mem_cons.1 hx with hx | hx
              · rw [hx]; exact ma
              · exact fun hz => p4 (hz ▸ hx)
            · unfold mapOf
              rw [if_neg h0]
              exact mc.symm
            · unfold blocksOf
              rw [if_neg h0, if_neg h1]
              rw [e, htl] at hlo
              rw [List.tail_cons, hlo, front_blk (by omega) p3]
              match B, (show 0 < B.length by omega) with
              | x :: r, _ => rfl
          · rw [if_neg hr] at h; cases h
        · rw [if_neg hp] at h; cases h
  · rw [if_pos hc] at h; cases h
theorem joinP_ok {s : Nat} {m : M} {B : List ByteArray} {V I : List Nat} (hj : joinP s m B V I) : MOk m := by
  obtain ⟨hv, hi, _, hm, _⟩ := hj
  have g : ∀ {L : List Nat} (i : Nat), Small L → L.getD i 0 < 4294967296 := fun {L} i hs => by
    rw [List.getD_eq_getElem?_getD]
    cases h : L[i]? with
    | none => show (0 : Nat) < _; omega
    | some x => exact hs x (List.mem_of_getElem? h)
  rw [← hm]
  unfold mapOf
  split
  · exact ⟨g 0 hv, g 1 hv, g 2 hv, g 3 hv, g 4 hv, g 5 hv⟩
  · exact ⟨g 0 hi, by show 0 < _; omega, by show 0 < _; omega, by show 0 < _; omega, by show 0 < _; omega, by show 0 < _; omega⟩
theorem count_any (s : Nat) (w : World) (h : s < 4294967296) : Calls Try.prog 12 #[.int .u32 s] w (Ans w (.int .i64 (cntN s))) := (count_eq s w h).mono fun e w' ⟨h1, h2⟩ => ⟨h1, by rw [← h2]; exact Below.refl _ _⟩
theorem lay_any (s : Nat) (v1 v2 : Value) (V I : List Nat) (w : World) (h : s < 4294967296) (hV : U32s w v1 V) (hI : U32s w v2 I) (hsm : Small V) (hsi : Small I) (h1 : V.length ≤ 2000) (h2 : I.length ≤ 2000) : Calls Try.prog 15 #[.int .u32 s, v1, v2] w (LayPost s V I w) :=
  lay_all s v1 v2 V I w h hV hI hsm hsi
theorem join_some (s : Nat) (m : M) (v : Value) (B : List ByteArray) (V I : List Nat) (w : World) (h : s < 4294967296) (hB : Strs w v B) (hj : joinP s m B V I) (hl : B.length ≤ 10) : Calls Try.prog 18 #[.int .u32 s, m.val, v] w fun e w' => ∃ v', e = .returned (.tuple #[v', .int .i64 0]) ∧ U32s w' v' V ∧ Below w.heap.size w w' := by
  have := join_all s m v B w h (joinP_ok hj) hB
  rw [join_yes hj] at this
  exact this
theorem join_none (s : Nat) (m : M) (v : Value) (B : List ByteArray) (w : World) (h : s < 4294967296) (hm : MOk m) (hB : Strs w v B) (hj : ∀ V I, ¬ joinP s m B V I) (hl : B.length ≤ 10) : Calls Try.prog 18 #[.int .u32 s, m.val, v] w fun e w' => ∃ v', e = .returned (.tuple #[v', .int .i64 130]) ∧ Below w.heap.size w w' := by
  have := join_all s m v B w h hm hB
  cases e : joinO s m B with
  | none =>
    rw [e] at this
    exact this.mono fun e w' ⟨h1, h2⟩ => ⟨_, h1, h2⟩
  | some V =>
    obtain ⟨I, hI⟩ := join_back hm e
    exact absurd hI (hj V I)
theorem below_some (s : Nat) (T : List Nat) (w : World) (h : s ≤ 8193532) (hd : dpN s = 2) (hT : T.length = lowN s) (hs : Small T) (hz : ∀ x ∈ T, ¬ x = 0) : Calls Try.prog 20 #[.int .u32 s, .string (blkB T)] w fun e w' => ∃ v', e = .returned (.tuple #[v', .int .i64 0]) ∧ U32s w' v' T ∧ Below w.heap.size w w' := by
  have hlm := low_max h
  obtain ⟨k1, k2⟩ := blk_front (l := T) (by omega) hs
  rw [hT] at k1 k2
  have := below_any s (blkB T) w (by omega)
  rw [if_pos ⟨h, hd, k1, by rw [k2]; exact fun hx => hz 0 hx rfl⟩, k2] at this
  exact this
theorem numbers_some (b : ByteArray) (w : World) (h : b.size = 508) : Calls Try.prog 21 #[.string b] w fun e w' => ∃ v', e = .returned (.tuple #[v', .int .i64 0]) ∧ U32s w' v' (numsAt b) ∧ Below w.heap.size w w' := by
  have := numbers_any b w
  rw [if_pos ⟨h, bareB_end b _ (by omega)⟩, firsts_all] at this
  exact this
end Go.Proofs.Ytdakfdecfpebcaa.Bmp
