/- The walk of BagWalks: it answers true. -/
import Derived.Test.YtbelgkccfajjoaaBagFill
namespace Go.Proofs.Ytbelgkccfajjoaa
open Go.RowKit Go.Shelf
open I (BagOn)
set_option linter.unusedVariables false

/-- the numbers from one on are those of the numbers from a lesser one on -/
theorem vis_vis (f g : Int) (xs : List (Int × Int)) (h : f ≤ g) : T.vis g xs = (T.vis f xs).filter fun x => decide (g ≤ x) := by
  unfold T.vis
  rw [List.filter_map, List.filter_filter]
  congr 1
  apply List.filter_congr
  intro x _
  simp
  omega
theorem vis_rise (f : Int) (xs : List (Int × Int)) (h : T.Rise xs) : (T.vis f xs).Pairwise (· < ·) := by
  unfold T.vis
  rw [List.pairwise_map]
  exact (List.Pairwise.filter _ h)
theorem filter_from (V : List Int) (i : Nat) (k : Int) (hr : V.Pairwise (· < ·)) (hk : V[i]? = some k) : (V.filter fun x => decide (k + 1 ≤ x)) = V.drop (i + 1) := by
  have hlt := (List.getElem?_eq_some_iff.1 hk).1
  have e : V = V.take (i + 1) ++ V.drop (i + 1) := (List.take_append_drop _ _).symm
  have hlast : V.take (i + 1) = V.take i ++ [k] := by rw [List.take_add_one, hk]; rfl
  rw [e, hlast] at hr
  have hp := List.pairwise_append.1 hr
  have hp2 := List.pairwise_append.1 hp.1
  conv => lhs; rw [e]
  rw [List.filter_append, List.filter_eq_nil_iff.2, List.nil_append, List.filter_eq_self.2]
  · intro x hx
    have := hp.2.2 k (by simp) x hx
    simp; omega
  · intro x hx
    rw [hlast] at hx
    rcases List.mem_append.1 hx with hx | hx
    · have := hp2.2.2 x hx k (by simp)
      simp; omega
    · have : x = k := by simpa using hx
      simp; omega
/-- those ahead of a number come first -/
theorem filter_ahead (V : List Int) (t : Int) (hr : V.Pairwise (· < ·)) : ∃ m, m ≤ V.length ∧ (V.filter fun x => decide (x < t)) = V.take m ∧ ∀ y, y ∈ V.drop m → t ≤ y := by
  induction V with
  | nil => exact ⟨0, Nat.le_refl _, rfl, by simp⟩
  | cons x V ih =>
    obtain ⟨h1, h2⟩ := List.pairwise_cons.1 hr
    by_cases hx : x < t
    · obtain ⟨m, hm, e, ha⟩ := ih h2
      exact ⟨m + 1, by simp; omega, by rw [List.filter_cons, if_pos (by simpa using hx), e]; rfl, by simpa using ha⟩
    · refine ⟨0, Nat.zero_le _, ?_, ?_⟩
      · rw [List.take_zero, List.filter_eq_nil_iff]
        intro y hy
        rcases List.mem_cons.1 hy with rfl | hy
        · simpa using hx
        · have := h1 y hy
          simp; omega
      · intro y hy
        rcases List.mem_cons.1 (by simpa using hy) with rfl | hy
        · omega
        · have := h1 y hy
          omega

theorem i64_range {c : Int} (h : (Lit.int .i64 c).wf = true) : -9223372036854775808 ≤ c ∧ c ≤ 9223372036854775807 := by
  have h1 : IntKind.i64.min = -9223372036854775808 := rfl
  have h2 : IntKind.i64.max = 9223372036854775807 := rfl
  simp only [Lit.wf, Bool.and_eq_true, decide_eq_true_eq] at h
  omega

set_option maxRecDepth 100000 in
set_option maxHeartbeats 4000000 in
theorem BagWalks_walk (v : Value) (L : List Int) (a1 a2 : Int) (w : World) (hL : Lies w v L.length 1 (L.map (.int .i64))) (wL : ∀ n ∈ L, (Lit.int .i64 n).wf = true) (w1' : (Lit.int .i64 a1).wf = true) (w2' : (Lit.int .i64 a2).wf = true) :
    Calls Try.prog 5 #[v, .int .i64 a1, .int .i64 a2] w fun e w' => e = .returned (.bool true) ∧ Below w.heap.size w w' := by
  obtain ⟨a, cap, rfl, hn, hm, hlen, hcells⟩ := hL
  have hm0 := hm.1
  unfold maxLen at hm0
  obtain ⟨K, hK⟩ : ∃ K, min L.length 200 = K := ⟨_, rfl⟩
  have hLL : Lies w (.slice a K cap) K 1 (intsL (L.take K)) := ⟨a, cap, rfl, by omega, ⟨by unfold maxLen; omega, hm.2⟩, by simp [intsL]; omega, fun hp => by
    obtain ⟨b, off, e, hc⟩ := hcells (by omega)
    refine ⟨b, off, e, fun j u hj => hc j u ?_⟩
    unfold intsL at hj
    rw [List.map_take, List.getElem?_take] at hj
    split at hj
    · exact hj
    · cases hj⟩
  have hlk : (L.take K).length = K := by simp; omega
  clear hcells hlen
  obtain ⟨xs, hxs⟩ : ∃ xs, fillL (L.take K) = xs := ⟨_, rfl⟩
  have hxl : xs.length ≤ 1000 := by rw [← hxs]; have := fillL_len (L.take K); omega
  have hF : ∀ W, Below w.heap.size w W → Calls Try.prog 15 #[.slice a K cap] W fun e w' => e = .returned (.pointer (some ⟨W.heap.size, 0, none⟩)) ∧ BagOn w' W.heap.size W.heap.size xs ∧ Below W.heap.size W w' := fun W hB => by
    have h1 := hLL.below hB
    have := filled_on (L.take K) (.slice a K cap) W (by rw [hlk]; exact h1) (by omega)
    rw [hxs] at this
    exact this
  have HF := Lib.hid hF
  have hK2 : K ≤ 200 := by omega
  obtain ⟨V, hV⟩ : ∃ V, T.vis a1 xs = V := ⟨_, rfl⟩
  obtain ⟨KL, hKL⟩ : ∃ KL, (V.filter fun x => decide (x < a2)) = KL := ⟨_, rfl⟩
  obtain ⟨n, hn⟩ : ∃ n, KL.length = n := ⟨_, rfl⟩
  have hKeys : ∀ N W, BagOn W N N xs → Calls Try.prog 20 #[.pointer (some ⟨N, 0, none⟩), .int .i64 a1, .int .i64 a2] W fun e w' => ∃ ak ck, e = .returned (.slice ak n ck) ∧ Hid (Lies w' (.slice ak n ck) n 1 (intsL KL)) ∧ ck ≤ 9223372036854775807 ∧ n ≤ ck ∧ Hid (BagOn w' N N xs) ∧ Below W.heap.size W w' := fun N W hb => by
    have := I.keys_on a1 a2 xs N N W hb hxl
    rw [hV, hKL, hn] at this
    refine this.mono fun e w' ⟨vk, he, ho, hb2, hB⟩ => ?_
    obtain ⟨ak, ck, rfl, h1, h2, h3⟩ := lies_own ho
    exact ⟨ak, ck, he, h1, h3, h2, hb2, hB⟩
  have HKeys := Lib.hid hKeys
  have hr2 := i64_range w2'
  have hr1 := i64_range w1'
  have HLL := Lib.hid hLL
  clear hF hLL hlk hKeys
  go_enter Try.func5, Try.ntmps5
  go_wp2_with (first
    | (go_at_call 9; refine (shown_any _).mono ?_; rintro e w1 ⟨rfl, hB1⟩))
  case' inl => rw [show (200 : Nat) = K by omega]
  case' inr => rw [show L.length = K by omega]
  all_goals
    refine (HF.out _ hB1).mono ?_
    rintro e w2 ⟨rfl, hb2, hB2⟩
    have HB2 := Lib.hid hb2
    have hrise := hb2.bag.rise
    have hVr : V.Pairwise (· < ·) := hV ▸ vis_rise a1 xs hrise
    obtain ⟨m, hm, hKm, hahead⟩ := filter_ahead V a2 hVr
    have HVR := Lib.hid hVr
    clear hb2 hrise hVr
    go_wp2_with (first
      | (go_at_call 20; refine (HKeys.out _ _ HB2.out).mono ?_; rintro e w3 ⟨ak, ck, rfl, hkl, hck, hnk, hb3, hB3⟩))
    have hB13 : Below w.heap.size w w3 := below_th (below_th hB1 hB2) hB3
    clear hB2 HB2 hB3
    go_loopw [10, 11] (fun t i wr => ∃ (j : Nat) (at0 : Int), j ≤ n ∧ i = .int .i64 j ∧ t = .int .i64 at0 ∧ a1 ≤ at0 ∧ Hid (BagOn wr w1.heap.size w1.heap.size xs) ∧ Below w.heap.size w wr ∧ Hid (Lies wr (.slice ak n ck) n 1 (intsL KL)) ∧ Hid (T.vis at0 xs = V.drop j))
      (fun _ i _ => n - (intOf i).toNat)
    case atStart => exact ⟨0, a1, Nat.zero_le _, rfl, rfl, Int.le_refl _, hb3, hB13, hkl, hV⟩
    case round =>
      obtain ⟨j, at0, hj, rfl, rfl, hat, hb, hB, hl, hvis⟩ := hrel
      clear hb3 hB13 hkl
      have hnm : n = m := by
        have := congrArg List.length hKm
        rw [hKL, hn, List.length_take] at this
        omega
      by_cases hlt : j < n
      · obtain ⟨k, hk⟩ : ∃ k, V[j]? = some k := ⟨V[j]'(by omega), by simp⟩
        have hkk : KL[j]? = some k := by rw [← hKL, hKm, List.getElem?_take, if_pos (by omega)]; exact hk
        have hk2 : k < a2 := by
          have hmem : k ∈ KL := List.mem_of_getElem? hkk
          rw [← hKL, List.mem_filter] at hmem
          simpa using hmem.2
        have hcons : V.drop j = k :: V.drop (j + 1) := by
          rw [List.drop_eq_getElem_cons (by omega)]
          rw [List.getElem?_eq_getElem (by omega)] at hk
          rw [Option.some.inj hk]
        have hv := hvis.out
        rw [hcons] at hv
        have hak : at0 ≤ k := by
          have hmem : k ∈ T.vis at0 xs := by rw [hv]; simp
          unfold T.vis at hmem
          obtain ⟨y, hy, rfl⟩ := List.mem_map.1 hmem
          simpa using (List.mem_filter.1 hy).2
        obtain ⟨b, off, rfl, hc⟩ := hl.out.read (j := j) (u := .int .i64 k) (by unfold intsL; rw [List.getElem?_map, hkk]; rfl)
        have hNx : ∀ W, BagOn W w1.heap.size w1.heap.size xs → Calls Try.prog 24 #[.pointer (some ⟨w1.heap.size, 0, none⟩), .int .i64 at0] W fun e w' => e = .returned (.tuple #[.int .i64 k, .bool true]) ∧ Hid (BagOn w' w1.heap.size w1.heap.size xs) ∧ Below W.heap.size W w' := fun W h => by
          have := I.next_on at0 xs _ _ W h
          rw [hv] at this
          exact this
        have hvn : Hid (T.vis (k + 1) xs = V.drop (j + 1)) := by
          show T.vis (k + 1) xs = V.drop (j + 1)
          rw [vis_vis a1 (k + 1) xs (by omega), hV]
          exact filter_from V j k HVR.out hk
        have HNX := Lib.hid hNx
        have hne : (k == 9223372036854775807) = false := by simp; omega
        clear hv hcons hk hkk hNx hvis hKm hKL hV hnm
        go_wp2_with (first
          | (go_at_call 24; refine (HNX.out _ hb.out).mono ?_; rintro e w4 ⟨rfl, hb4, hB4⟩; have hc4 := (World.cell?_of_block (a := ⟨b, off + j, none⟩) (hB4.block b (World.block_lt_of_cell? _ _ hc))).trans hc))
        have hl4 : Hid (Lies w4 (.slice (some ⟨b, off, none⟩) n ck) n 1 (intsL KL)) := hl.out.below hB4
        have hB5 := below_th hB hB4
        clear hl hb hB hB4 hc hc4 HNX
        go_roundw
        case rel => exact ⟨j + 1, k + 1, by omega, by go_num, by go_num, by omega, hb4, hB5, hl4, hvn⟩
        case measure => simp [intOf]; omega
      · obtain rfl : j = n := by omega
        rw [hnm] at hvis
        clear hnm
        obtain ⟨kd, hkd⟩ : ∃ kd, (V.drop m).headD 0 = kd := ⟨_, rfl⟩
        obtain ⟨nb, hnb⟩ : ∃ nb, (!(V.drop m).isEmpty) = nb := ⟨_, rfl⟩
        have hfin : nb = true → a2 ≤ kd := fun h => by
          cases hd : V.drop m with
          | nil => rw [hd] at hnb; simp at hnb; rw [h] at hnb; cases hnb
          | cons y l =>
            rw [hd] at hkd
            have e : y = kd := hkd
            rw [← e]
            exact hahead y (by rw [hd]; simp)
        have hNx : ∀ W, BagOn W w1.heap.size w1.heap.size xs → Calls Try.prog 24 #[.pointer (some ⟨w1.heap.size, 0, none⟩), .int .i64 at0] W fun e w' => e = .returned (.tuple #[.int .i64 kd, .bool nb]) ∧ Hid (BagOn w' w1.heap.size w1.heap.size xs) ∧ Below W.heap.size W w' := fun W h => by
          have := I.next_on at0 xs _ _ W h
          rw [hvis.out, hkd, hnb] at this
          exact this
        have HNX := Lib.hid hNx
        clear hNx hvis hKm hKL hV hahead hkd hnb
        cases nb with
        | false =>
          clear hfin
          go_wp2_with (first
            | (go_at_call 24; refine (HNX.out _ hb.out).mono ?_; rintro e w4 ⟨rfl, hb4, hB4⟩))
          go_ret
          exact ⟨rfl, below_th hB hB4⟩
        | true =>
          have hge := hfin rfl
          clear hfin
          go_wp2_with (first
            | (go_at_call 24; refine (HNX.out _ hb.out).mono ?_; rintro e w4 ⟨rfl, hb4, hB4⟩))
          go_ret
          exact ⟨rfl, below_th hB hB4⟩
end Go.Proofs.Ytbelgkccfajjoaa
