/- The walk of BagEmpties: it answers true. -/
import Derived.Test.YtbelgkccfajjoaaBagOnM
import Derived.Test.YtbelgkccfajjoaaBagShape0I
namespace Go.Proofs.Ytbelgkccfajjoaa
open Go.RowKit Go.Shelf
open I (BagOn)
set_option linter.unusedVariables false

theorem empties_put_mem (a : Int) (v : Int) (xs : List (Int × Int)) (y : Int × Int) (h : y ∈ T.put a v xs) : y.1 = a ∨ y ∈ xs := by
  induction xs with
  | nil => simp [T.put] at h; exact .inl (by rw [h])
  | cons x xs ih =>
    rw [T.put] at h
    split at h
    · rcases List.mem_cons.1 h with rfl | h
      · exact .inr (by simp)
      · exact (ih h).imp id (fun h => by simp [h])
    · split at h
      · rcases List.mem_cons.1 h with rfl | h
        · exact .inl rfl
        · exact .inr (by simp [h])
      · rcases List.mem_cons.1 h with rfl | h
        · exact .inl rfl
        · exact .inr h
theorem fillL_mem (l : List Int) (y : Int × Int) (h : y ∈ fillL l) : y.1 ∈ l := by
  unfold fillL at h
  suffices ∀ xs, y ∈ l.foldl (fun xs x => T.put x x xs) xs → y.1 ∈ l ∨ y ∈ xs from (this [] h).elim id (fun h => by simp at h)
  clear h
  induction l with
  | nil => exact fun xs h => .inr h
  | cons x l ih =>
    intro xs h
    rcases ih _ h with h | h
    · exact .inl (by simp [h])
    · rcases empties_put_mem x x xs y h with h | h
      · exact .inl (by simp [h])
      · exact .inr h
def delL (l : List Int) (xs : List (Int × Int)) : List (Int × Int) := l.foldl (fun xs x => T.del x xs) xs
theorem delL_snoc (l : List Int) (x : Int) (xs : List (Int × Int)) : delL (l ++ [x]) xs = T.del x (delL l xs) := by simp [delL]
theorem delL_mem (l : List Int) (xs : List (Int × Int)) (y : Int × Int) (h : y ∈ delL l xs) : y ∈ xs ∧ y.1 ∉ l := by
  unfold delL at h
  induction l generalizing xs with
  | nil => exact ⟨h, by simp⟩
  | cons x l ih =>
    obtain ⟨h1, h2⟩ := ih _ h
    have h3 := List.mem_filter.1 h1
    refine ⟨h3.1, fun hc => ?_⟩
    rcases List.mem_cons.1 hc with e | hc
    · have := h3.2
      simp [e] at this
    · exact h2 hc
theorem delL_fill (l : List Int) : delL l (fillL l) = [] := List.eq_nil_iff_forall_not_mem.2 fun y hy => (delL_mem l _ y hy).2 (fillL_mem l y (delL_mem l _ y hy).1)
theorem delL_len (l : List Int) (xs : List (Int × Int)) : (delL l xs).length ≤ xs.length := by
  unfold delL
  induction l generalizing xs with
  | nil => exact Nat.le_refl _
  | cons x l ih => exact Nat.le_trans (ih _) (T.del_length x xs)

set_option maxRecDepth 100000 in
set_option maxHeartbeats 8000000 in
theorem BagEmpties_walk (v : Value) (L : List Int) (w : World) (hL : Lies w v L.length 1 (L.map (.int .i64))) (wL : ∀ n ∈ L, (Lit.int .i64 n).wf = true) :
    Calls Try.prog 8 #[v] w fun e w' => e = .returned (.bool true) ∧ Below w.heap.size w w' := by
  obtain ⟨a, cap, rfl, hn, hm, hlen, hcells⟩ := hL
  have hm0 := hm.1
  unfold maxLen at hm0
  obtain ⟨K, hK⟩ : ∃ K, min L.length 200 = K := ⟨_, rfl⟩
  have hLL : Lies w (.slice a K cap) K 1 (intsL (L.take K)) := ⟨a, cap, rfl, by omega, ⟨by unfold maxLen; omega, hm.2⟩, by simp [intsL]; omega, fun hp => by
    obtain ⟨b, off, e, hc⟩ := hcells (by omega)
    refine ⟨b, off, e, fun j u hj => hc j u ?_⟩
    unfold intsL at hj
    rw [List.map_take, List.getElem?_take] at hj
    split at hj
    · exact hj
    · cases hj⟩
  have hlk : (L.take K).length = K := by simp; omega
  clear hcells hlen
  obtain ⟨l, hl⟩ : ∃ l, L.take K = l := ⟨_, rfl⟩
  rw [hl] at hlk hLL
  obtain ⟨xs, hxs⟩ : ∃ xs, fillL l = xs := ⟨_, rfl⟩
  have hxl : xs.length ≤ K := by rw [← hxs, ← hlk]; exact fillL_len l
  have hF : ∀ W, Below w.heap.size w W → Calls Try.prog 15 #[.slice a K cap] W fun e w' => e = .returned (.pointer (some ⟨W.heap.size, 0, none⟩)) ∧ Hid (BagOn w' W.heap.size W.heap.size xs) ∧ Below W.heap.size W w' := fun W hB => by
    have h1 := hLL.below hB
    have := filled_on l (.slice a K cap) W (by rw [hlk]; exact h1) (by omega)
    rw [hxs] at this
    exact this
  have HF := Lib.hid hF
  have hend : delL l xs = [] := by rw [← hxs]; exact delL_fill l
  have hKeys : ∀ N W, BagOn W N N xs → Calls Try.prog 20 #[.pointer (some ⟨N, 0, none⟩), .int .i64 (-9223372036854775808), .int .i64 9223372036854775807] W fun e w' => ∃ ak ck nk : Nat, ∃ ap, e = .returned (.slice ap nk ck) ∧ nk ≤ K ∧ Hid (BagOn w' N N xs) ∧ Below W.heap.size W w' := fun N W hb => by
    refine (I.keys_on (-9223372036854775808) 9223372036854775807 xs N N W hb (by omega)).mono fun e w' ⟨vk, he, ho, hb2, hB⟩ => ?_
    obtain ⟨ak, ck, rfl, h1, h2, h3⟩ := lies_own ho
    refine ⟨0, ck, _, ak, he, ?_, hb2, hB⟩
    refine Nat.le_trans (List.length_filter_le _ _) ?_
    unfold T.vis
    rw [List.length_map]
    exact Nat.le_trans (List.length_filter_le _ _) hxl
  have HKeys := Lib.hid hKeys
  have hKeys0 : ∀ N W, BagOn W N N [] → Calls Try.prog 20 #[.pointer (some ⟨N, 0, none⟩), .int .i64 (-9223372036854775808), .int .i64 9223372036854775807] W fun e w' => ∃ (ck : Nat) (ap : Option Addr), e = .returned (.slice ap 0 ck) ∧ Hid (BagOn w' N N []) ∧ Below W.heap.size W w' := fun N W hb => by
    refine (I.keys_on (-9223372036854775808) 9223372036854775807 [] N N W hb (by simp)).mono fun e w' ⟨vk, he, ho, hb2, hB⟩ => ?_
    obtain ⟨ak, ck, rfl, h1, h2, h3⟩ := lies_own ho
    exact ⟨ck, ak, he, hb2, hB⟩
  have HKeys0 := Lib.hid hKeys0
  have hNext0 : ∀ N W, BagOn W N N [] → Calls Try.prog 24 #[.pointer (some ⟨N, 0, none⟩), .int .i64 (-9223372036854775808)] W fun e w' => e = .returned (.tuple #[.int .i64 0, .bool false]) ∧ Hid (BagOn w' N N []) ∧ Below W.heap.size W w' := fun N W hb => I.next_on (-9223372036854775808) [] N N W hb
  have HNext0 := Lib.hid hNext0
  have hShape0 : ∀ N W, BagOn W N N [] → Calls Try.prog 23 #[.pointer (some ⟨N, 0, none⟩)] W fun e w' => e = .returned (.slice none 0 0) ∧ Hid (BagOn w' N N []) ∧ Below W.heap.size W w' := fun N W hb => (I.shape_empty N N W hb).mono fun e w' ⟨he, hB⟩ => ⟨he, hb.below hB, hB⟩
  have HShape0 := Lib.hid hShape0
  have HEND := Lib.hid hend
  have HLL := Lib.hid hLL
  have HLK := Lib.hid hlk
  have HXL := Lib.hid hxl
  have hK2 : K ≤ 200 := by omega
  clear hF hLL hlk hKeys hKeys0 hNext0 hShape0 hend hxs hl hxl
  go_enter Try.func8, Try.ntmps8
  go_wp2_with (first
    | (go_at_call 9; refine (shown_any _).mono ?_; rintro e w1 ⟨rfl, hB1⟩))
  case' inl => rw [show (200 : Nat) = K by omega]
  case' inr => rw [show L.length = K by omega]
  all_goals
    refine (HF.out _ hB1).mono ?_
    rintro e w2 ⟨rfl, hb2, hB2⟩
    go_wp2_with (first
      | (go_at_call 20; refine (HKeys.out _ _ hb2.out).mono ?_; rintro e w3 ⟨_, ck, nk, ak, rfl, hnk, hb3, hB3⟩))
    have hB13 : Below w.heap.size w w3 := below_th (below_th hB1 hB2) hB3
    have hd0 : Hid (BagOn w3 w1.heap.size w1.heap.size (delL (l.take 0) xs)) := hb3
    clear hB2 hB3 hb2 hb3
    go_loopw [6] (fun i wr => ∃ (j : Nat), j ≤ K ∧ i = .int .i64 j ∧ Hid (BagOn wr w1.heap.size w1.heap.size (delL (l.take j) xs)) ∧ Below w.heap.size w wr)
      (fun i _ => K - (intOf i).toNat)
    case atStart => exact ⟨0, Nat.zero_le _, rfl, hd0, hB13⟩
    case round =>
      obtain ⟨j, hj, rfl, hb, hB⟩ := hrel
      clear hd0 hB13
      by_cases hlt : j < K
      · obtain ⟨x, hx⟩ : ∃ x, l[j]? = some x := ⟨l[j]'(by rw [HLK.out]; exact hlt), by simp⟩
        have htk : delL (l.take (j + 1)) xs = T.del x (delL (l.take j) xs) := by rw [List.take_add_one, hx]; exact delL_snoc _ _ _
        have hlen : (delL (l.take j) xs).length ≤ 1000 := by have := delL_len (l.take j) xs; have := HXL.out; omega
        obtain ⟨b, off, rfl, hc⟩ := HLL.out.read (j := j) (u := .int .i64 x) (by unfold intsL; rw [List.getElem?_map, hx]; rfl)
        obtain ⟨us, hus⟩ : ∃ us, delL (l.take j) xs = us := ⟨_, rfl⟩
        obtain ⟨vs, hvs⟩ : ∃ vs, delL (l.take (j + 1)) xs = vs := ⟨_, rfl⟩
        obtain ⟨is, his⟩ : ∃ is, (T.get x us).isSome = is := ⟨_, rfl⟩
        obtain ⟨gv, hgv⟩ : ∃ gv, (T.get x us).getD 0 = gv := ⟨_, rfl⟩
        rw [hus] at hb htk hlen
        rw [hvs] at htk
        have cG := Lib.hid (fun W h => get_as x gv is us w1.heap.size W hlen hgv his h)
        have cD := Lib.hid (fun W h => drop_as x is us vs w1.heap.size W hlen his htk.symm h)
        have HVS := Lib.hid hvs
        have hbs := World.block_lt_of_cell? _ _ hc
        have HC : Hid (∀ W, Below w.heap.size w W → W.cell? ⟨b, off + j, none⟩ = some (.int .i64 x)) := fun W h => (World.cell?_of_block (h.block b hbs)).trans hc
        have hcr := HC.out _ hB
        clear hx htk hlen hus hvs his hgv hc hbs
        go_wp2_with (first
          | (go_at_call 19; (with_reducible refine Calls.mono (cD.out _ hb4.out) ?_); rintro e w5 ⟨rfl, hb5, hB5⟩)
          | (go_at_call 18; (with_reducible refine Calls.mono (cG.out _ hb.out) ?_); rintro e w4 ⟨rfl, hb4, hB4⟩; have hB4' := hB.trans (hB4.mono hB1.size); have hc4 := HC.out _ hB4'))
        have hB5' := hB4'.trans (hB5.mono hB1.size)
        rw [← HVS.out] at hb5
        clear hb hB hcr hB4 hB4' hc4 hb4 hB5 HC cG cD
        go_roundw
        case rel => exact ⟨j + 1, by omega, by go_num, hb5, hB5'⟩
        case measure => simp [intOf]; omega
      · obtain rfl : j = K := by omega
        rw [List.take_of_length_le (by rw [HLK.out]; exact Nat.le_refl _), HEND.out] at hb
        go_wp2_with (first
          | (go_at_call 20; refine (HKeys0.out _ _ hb6.out).mono ?_; rintro e w7 ⟨ck7, ak7, rfl, hb7, hB7⟩)
          | (go_at_call 23; (with_reducible refine Calls.mono (HShape0.out _ _ hb5.out) ?_); rintro e w6 ⟨rfl, hb6, hB6⟩)
          | (go_at_call 22; (with_reducible refine Calls.mono (len_as 0 [] _ _ rfl hb5.out) ?_); rintro e w8 ⟨rfl, rfl⟩)
          | (go_at_call 24; (with_reducible refine Calls.mono (HNext0.out _ _ hb.out) ?_); rintro e w5 ⟨rfl, hb5, hB5⟩))
        go_ret
        exact ⟨rfl, below_th (below_th (below_th hB hB5) hB6) hB7⟩
end Go.Proofs.Ytbelgkccfajjoaa
