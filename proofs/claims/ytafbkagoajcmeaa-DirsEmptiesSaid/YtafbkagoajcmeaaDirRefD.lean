/- The document's Drop. -/
import Derived.Test.YtafbkagoajcmeaaDirRefA
namespace Go.Proofs.Ytafbkagoajcmeaa.Dir
def er (L : List N) (i k : Nat) : List N := (L.take k).eraseIdx i
theorem er_zero (L : List N) (i : Nat) : er L i 0 = [] := by unfold er; simp
theorem er_at {L : List N} {i : Nat} (h : i < L.length) : er L i (i + 1) = er L i i := by
  unfold er
  have hl : (L.take i).length = i := by rw [List.length_take]; omega
  rw [take_snoc h, List.eraseIdx_append_of_length_le (by omega), hl, Nat.sub_self, show [nm L i].eraseIdx 0 = [] from rfl, List.append_nil, List.eraseIdx_of_length_le (by omega)]
theorem er_other {L : List N} {i k : Nat} (h : k < L.length) (hk : ¬ k = i) : er L i (k + 1) = er L i k ++ [nm L k] := by
  unfold er
  have hl : (L.take k).length = k := by rw [List.length_take]; omega
  rw [take_snoc h]
  rcases Nat.lt_or_ge i k with hh | hh
  · rw [List.eraseIdx_append_of_lt_length (by omega)]
  · rw [List.eraseIdx_of_length_le (by simp; omega), List.eraseIdx_of_length_le (by omega)]
theorem er_all (L : List N) (i : Nat) : er L i L.length = L.eraseIdx i := by unfold er; rw [List.take_length]
theorem er_len (L : List N) (i k : Nat) : (er L i k).length ≤ k := by
  unfold er
  have h1 := List.length_eraseIdx_le (L.take k) i
  have h2 := List.length_take_le k L
  omega
namespace R
open Go.RowKit
attribute [local go_sem] Oper.semAt_some
set_option linter.unusedVariables false
set_option linter.unusedSimpArgs false
section
set_option maxRecDepth 100000
set_option maxHeartbeats 8000000
theorem drop_any (s name : ByteArray) (D : Option (List N)) (w : World) (hs : s.size ≤ 281474976710656) (hn : name.size ≤ 281474976710656) (h : DirO s D) :
    Calls Try.prog 23 #[.string s, .string name] w (Ans w (.tuple #[.string (dropVo D name), .int .i64 (findEo D name)])) := by
  by_cases hE : findEo D name = 0
  · cases D with
    | none => exact absurd hE (by show ¬ (110 : Int) = 0; decide)
    | some L =>
      obtain ⟨h1, h2⟩ := find_zero.1 hE
      obtain ⟨i0, hi, hz0, hz1, hz2⟩ := info_parts infoNm
      have hF := Lib.hid (fun W => found_good s name L W hs h h1 h2)
      have HV : Hid (dropVo (some L) name = bytesL (L.eraseIdx (idx L name))) := if_pos hE
      rw [HV.out, hE]
      have hdp := h.erase h2
      have hmany := bytesL_many L
      have hsz := h.2.2
      have hbs : bytesL L = s := h.2.1
      rw [hbs] at hmany
      have hall := er_all L (idx L name)
      have hz := er_zero L (idx L name)
      have HAT := Lib.hid (er_at h2)
      have HOT := Lib.hid (fun k (hk : k < L.length) (hne : ¬ k = idx L name) => er_other hk hne)
      have HLEN := Lib.hid (fun k => er_len L (idx L name) k)
      unfold FoundPost at hF
      generalize idx L name = ii at hF h2 hdp HAT HOT HLEN hall hz ⊢
      obtain ⟨E, hEe⟩ : ∃ E : Nat → List N, er L ii = E := ⟨_, rfl⟩
      simp only [hEe] at HAT HOT HLEN hall hz
      have hBy : Hid (∀ W v, Nms W v (E L.length) → Calls Try.prog 38 #[v] W (Ans W (.string (bytesL (L.eraseIdx ii))))) := fun W v hh => by
        rw [hall] at hh
        exact bytes_any v _ W hh (by have := hdp.2.2; omega) (fun i hi2 => (hdp.1.1 i hi2).2.2)
      obtain ⟨Z, hZ⟩ : ∃ Z, bytesL (L.eraseIdx ii) = Z := ⟨_, rfl⟩
      rw [hZ] at hBy ⊢
      obtain ⟨n, hnl⟩ : ∃ n, L.length = n := ⟨_, rfl⟩
      have HNL := Lib.hid hnl
      rw [hnl] at hF HOT hBy h2 hmany
      have hz' : Hid (E 0 = []) := hz
      clear h hs hn hE h1 hdp hbs hall hz hEe hZ hnl
      go_enter Try.func23, Try.ntmps23
      go_wp2_with (first
        | (go_at_call 35; (with_reducible refine Calls.mono (hF.out _) ?_); rintro e w1 ⟨v, rfl, hO, hB⟩; have HL := Lib.hid (Nms.own (L := L) (by rw [HNL.out]; exact hO)); have HB := Lib.hid hB; obtain ⟨a, cap, rfl, hc1, hc2⟩ := own_parts hO; clear hO hB))
      go_loopw [9, 10] (fun u i wr => ∃ k : Nat, k ≤ n ∧ i = .int .i64 (k : Int) ∧ Hid (wr.ownsRow w1.heap.size 40 2 u (E k).length (cellsL (E k))) ∧ Hid (Below w1.heap.size w1 wr)) (fun _ i _ => n - (intOf i).toNat)
      case atStart => exact ⟨0, by omega, rfl, by rw [hz'.out]; exact World.ownsRow_nil _ _ _ _, Below.refl _ _⟩
      case round =>
        obtain ⟨k, hk, rfl, HO, HBk⟩ := hrel
        by_cases hlt : k < n
        · by_cases hki : k = ii
          · subst hki
            have HO2 : Hid (wr.ownsRow w1.heap.size 40 2 u9 (E (k + 1)).length (cellsL (E (k + 1)))) := by rw [HAT.out]; exact HO
            have hq : ((k : Int) != (k : Int)) = false := by simp
            clear HO
            go_wp2
            go_roundw
            case rel => exact ⟨k + 1, by omega, by go_num, HO2, HBk⟩
            case measure => simp [intOf]; omega
          · have hq : ((k : Int) != (ii : Int)) = true := bne_iff_ne.2 (by omega)
            have h3 := (HL.out.below HBk.out).at (k := k) (by rw [HNL.out]; exact hlt)
            rw [HNL.out] at h3
            obtain ⟨b, off, cap2, e2, c0, c1⟩ := h3
            cases e2
            have hE2 := HOT.out k hlt hki
            have hEl := HLEN.out k
            obtain ⟨e, he⟩ : ∃ e, nm L k = e := ⟨_, rfl⟩
            rw [he] at c0 c1 hE2
            obtain ⟨x, y⟩ := e
            dsimp only at c0 c1
            obtain ⟨m, hm⟩ : ∃ m, (E k).length = m := ⟨_, rfl⟩
            rw [hm] at hEl HO
            have HM := Lib.hid hm
            have HE2 := Lib.hid hE2
            have hs1 := HBk.out.size
            clear hE2 he hm hki
            go_wp2_with (at_builtin; go_must (refine wpList_append_own _ rfl _ _ 24 rfl w1.heap.size 40 i0 (.agg #[.string ⟨#[]⟩, .int .u32 0]) 2 24 Try.underlying24 hi hz0 hz1 hz2 rfl (by decide) _ _ _ rfl (HO.out.alloc _) ⟨wr.heap.size, 0, none⟩ 1 1 [.string x, .int .u32 (y : Int)] rfl rfl (World.news_of_block (World.alloc_heap_new wr _)) (by simp [Value.oneCell']) (by unfold maxLen; omega) (by omega) (by simp; omega) ?_; intro v' w2 hown' hgrow _))
            have HB2 : Hid (Below w1.heap.size w1 w2) := (HBk.out.alloc hs1 _).grown hgrow (by simp; omega) (fun r e => (HO.out.lt r e).1)
            have HO2 : Hid (w2.ownsRow w1.heap.size 40 2 v' (E (k + 1)).length (cellsL (E (k + 1)))) := by
              rw [HE2.out, List.length_append, cellsL_snoc, HM.out]
              exact hown'
            clear hown' hgrow HO
            go_roundw
            case rel => exact ⟨k + 1, by omega, by go_num, HO2, HB2⟩
            case measure => simp [intOf]; omega
        · obtain rfl : k = n := by omega
          have HNs := Lib.hid (Nms.own HO.out)
          clear HO
          go_wp2_with (go_at_call 38; (with_reducible refine Calls.mono (hBy.out _ _ HNs.out) ?_); rintro e w2 ⟨rfl, hB2⟩)
          go_returns
          exact ⟨rfl, below_th (below_th HB.out HBk.out) hB2⟩
  · have hF := Lib.hid (fun W => found_bad s name D W hs hn h hE)
    have HV := Lib.hid (dropVo_not hE)
    rw [HV.out]
    obtain ⟨E, hEE⟩ : ∃ E, findEo D name = E := ⟨_, rfl⟩
    rw [hEE] at hE hF ⊢
    have hne : (E != 0) = true := bne_iff_ne.2 hE
    clear h hs hn hE hEE
    go_enter Try.func23, Try.ntmps23
    go_wp2_with (go_at_call 35; (with_reducible refine Calls.mono (hF.out _) ?_); rintro e w1 ⟨⟨v, rfl⟩, hB⟩)
    go_returns
    exact ⟨rfl, hB⟩
end
end R
end Go.Proofs.Ytafbkagoajcmeaa.Dir
