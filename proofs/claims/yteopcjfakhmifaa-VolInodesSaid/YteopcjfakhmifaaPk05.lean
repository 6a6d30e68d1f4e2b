/- Several texts in one, each under its own heading. -/
import Derived.Test.YteopcjfakhmifaaPk04
/- Take answers the number that the bytes from its place on are, and an error where the width is none or they are too few. -/
namespace Go.Proofs.Yteopcjfakhmifaa
open Go.RowKit Go.Shelf
attribute [local go_sem] Oper.semAt_some
set_option linter.unusedVariables false

/-- are there so many bytes from at on? -/
def hasP (s : ByteArray) (at0 cnt : Int) : Prop := 0 ≤ at0 ∧ cnt ≤ (s.size : Int) - at0
instance (s : ByteArray) (at0 cnt : Int) : Decidable (hasP s at0 cnt) := by unfold hasP; infer_instance

set_option maxRecDepth 100000 in
theorem has_yes (s : ByteArray) (at0 cnt : Int) (w : World) (hs : s.size ≤ maxLen) (h : hasP s at0 cnt) (hat : at0 ≤ 9223372036854775807) : Calls Try.prog 88 #[.string s, .int .i64 at0, .int .i64 cnt] w fun e w' => e = .returned (.bool true) ∧ w = w' := by
  obtain ⟨h0, h1⟩ := h
  unfold maxLen at hs
  go_enter Try.func88, Try.ntmps88
  go_wp2
  go_ret
  exact ⟨rfl, rfl⟩

set_option maxRecDepth 100000 in
theorem has_no (s : ByteArray) (at0 cnt : Int) (w : World) (hs : s.size ≤ maxLen) (h : ¬ hasP s at0 cnt) (hat : at0 ≤ 9223372036854775807) : Calls Try.prog 88 #[.string s, .int .i64 at0, .int .i64 cnt] w fun e w' => e = .returned (.bool false) ∧ w = w' := by
  unfold maxLen at hs
  by_cases h0 : 0 ≤ at0
  · have h1 : ¬ cnt ≤ (s.size : Int) - at0 := fun hh => h ⟨h0, hh⟩
    clear h
    go_enter Try.func88, Try.ntmps88
    go_wp2
    go_ret
    exact ⟨rfl, rfl⟩
  · clear h
    go_enter Try.func88, Try.ntmps88
    go_wp2
    go_ret
    exact ⟨rfl, rfl⟩

/-- what the loop has put together -/
def accT (s : ByteArray) (at0 : Nat) (pre : List Place) : Int := pre.foldl (fun a x => bits BinOp.or IntKind.u64 a (IntKind.u64.wrap (sbyte s (at0 + x.1) * 2 ^ min (8 * x.1) 64))) 0
theorem accT_snoc (s : ByteArray) (at0 : Nat) (pre : List Place) (x : Place) : accT s at0 (pre ++ [x]) = bits BinOp.or IntKind.u64 (accT s at0 pre) (IntKind.u64.wrap (sbyte s (at0 + x.1) * 2 ^ min (8 * x.1) 64)) := by simp [accT]

theorem accT_eq (s : ByteArray) (at0 : Nat) : ∀ (j : Nat) (pre : List Place), j ≤ 8 → pre.map (·.1) = List.range j → accT s at0 pre = (takeN s at0 j : Int)
  | 0, pre, _, h => by
    obtain rfl : pre = [] := List.map_eq_nil_iff.1 h
    rfl
  | j + 1, pre, hj, h => by
    rw [List.range_succ] at h
    obtain ⟨p1, p2, rfl, h1, h2⟩ := List.map_eq_append_iff.1 h
    obtain ⟨x, rfl, hx⟩ : ∃ x, p2 = [x] ∧ x.1 = j := by
      cases p2 with
      | nil => cases h2
      | cons x r => cases r with
        | nil => simp at h2; exact ⟨x, rfl, h2⟩
        | cons y r => simp at h2
    rw [accT_snoc, accT_eq s at0 j p1 (by omega) h1, hx, sbyte_eq, or_high _ _ _ (takeN_lt _ _ _) (sb_lt _ _) (by omega)]
    rfl

/-- are there a number's bytes? -/
def takeOk (s : ByteArray) (at0 wd : Int) : Prop := 1 ≤ wd ∧ wd ≤ 8 ∧ hasP s at0 wd
instance (s : ByteArray) (at0 wd : Int) : Decidable (takeOk s at0 wd) := by unfold takeOk; infer_instance
/-- what Take answers -/
def takeV (s : ByteArray) (at0 wd : Int) : Int := if takeOk s at0 wd then (takeN s at0.toNat wd.toNat : Int) else 0
def takeE (s : ByteArray) (at0 wd : Int) : Int := if takeOk s at0 wd then 0 else 2
theorem takeV_yes {s : ByteArray} {at0 wd : Int} (h : takeOk s at0 wd) : takeV s at0 wd = (takeN s at0.toNat wd.toNat : Int) := if_pos h
theorem takeV_no {s : ByteArray} {at0 wd : Int} (h : ¬ takeOk s at0 wd) : takeV s at0 wd = 0 := if_neg h
theorem takeE_yes {s : ByteArray} {at0 wd : Int} (h : takeOk s at0 wd) : takeE s at0 wd = 0 := if_pos h
theorem takeE_no {s : ByteArray} {at0 wd : Int} (h : ¬ takeOk s at0 wd) : takeE s at0 wd = 2 := if_neg h
theorem ret_ve {j k : IntKind} {x y a b : Int} (h : x = y) (h2 : a = b) : Ending.returned (.tuple #[.int j y, .int k b]) = .returned (.tuple #[.int j x, .int k a]) := by rw [h, h2]

set_option maxRecDepth 100000 in
set_option maxHeartbeats 1000000 in
theorem take_in (s : ByteArray) (at0 k : Nat) (w : World) (hs : s.size ≤ 281474976710656) (h1 : 1 ≤ k) (h2 : k ≤ 8) (hk : at0 + k ≤ s.size) :
    CallsIn Fence.wide 9 Try.prog 85 #[.string s, .int .i64 at0, .int .i64 k] w fun e w' => e = .returned (.tuple #[.int .u64 (takeN s at0 k), .int .i64 0]) ∧ Below w.heap.size w w' := by
  have hfn : ∀ f, Fence.wide.fn f := fun _ => trivial
  have hsm : s.size ≤ maxLen := by unfold maxLen; omega
  have hhas : Hid (hasP s (at0 : Int) (k : Int)) := ⟨by omega, by omega⟩
  refine callsIn_of_wp_marks Try.func85 rfl trivial ?_ rfl
  simp only [Try.ntmps85, List.size_toArray, List.length_cons, List.length_nil, Nat.reduceAdd, Nat.reduceSub, Array.replicate_succ, Array.replicate_zero, List.push_toArray, List.append_toArray, List.nil_append, List.cons_append]
  gi_wp2
  apply wide_scope
  gi_wp2_with (first | (gi_at_call 86; refine (callsIn_wide.2 (isWidth_yes _ _ (by omega) (by omega))).mono ?_; rintro e w' ⟨rfl, rfl⟩) | (gi_at_call 88; refine (callsIn_wide.2 (has_yes _ _ _ _ hsm hhas.out (by omega))).mono ?_; rintro e w' ⟨rfl, rfl⟩))
  apply wide_label
  gi_wp2_with (gi_at_call 89; refine (bytesFrom_in _ _ _ _).mono ?_; rintro e w' ⟨rfl, rfl⟩)
  obtain ⟨W0, hW0⟩ : ∃ W0, (((w.alloc (.cells #[.int .i64 k] 3)).alloc (.cells #[.int .u64 0] 36)).alloc (.cells #[.string s] 9)).alloc (.cells #[.int .i64 at0] 3) = W0 := ⟨_, rfl⟩
  have hs0 : W0.heap.size = w.heap.size + 4 := by rw [← hW0]; simp
  have hB0 : Boxed W0 w.heap.size 3 (.int .i64 k) := by rw [← hW0]; exact (((Boxed.new _ _ _).alloc _).alloc _).alloc _
  have hB1 : Boxed W0 (w.heap.size + 1) 36 (.int .u64 0) := by
    rw [← hW0]
    have := Boxed.new (w.alloc (.cells #[.int .i64 k] 3)) 36 (.int .u64 0)
    simp only [World.size_alloc] at this
    exact (this.alloc _).alloc _
  have hB2 : Boxed W0 (w.heap.size + 1 + 1) 9 (.string s) := by
    rw [← hW0]
    have := Boxed.new ((w.alloc (.cells #[.int .i64 k] 3)).alloc (.cells #[.int .u64 0] 36)) 9 (.string s)
    simp only [World.size_alloc] at this
    exact this.alloc _
  have hB3 : Boxed W0 (w.heap.size + 1 + 1 + 1) 3 (.int .i64 at0) := by
    rw [← hW0]
    have := Boxed.new (((w.alloc (.cells #[.int .i64 k] 3)).alloc (.cells #[.int .u64 0] 36)).alloc (.cells #[.string s] 9)) 3 (.int .i64 at0)
    simp only [World.size_alloc] at this
    exact this
  have hBW : Below w.heap.size w W0 := by
    rw [← hW0]
    exact ((((Below.refl _ w).alloc (Nat.le_refl _) _).alloc (by simp) _).alloc (by simp; omega) _).alloc (by simp; omega) _
  rw [hW0]
  refine wpIn_rangeFunc_ownF rfl (by decide) (gf := 91) (lb := #[.pointer (some ⟨w.heap.size + 1 + 1 + 1, 0, none⟩), .pointer (some ⟨w.heap.size + 1 + 1, 0, none⟩)]) rfl trivial (enters_of Try.func91 (by kernel_rfl) rfl)
    (bytesFrom_stops _ (by decide) (w.heap.size + 1 + 1 + 1) (w.heap.size + 1 + 1) s at0 hs (by omega) W0 (by omega) (by omega) hB3.cell hB2.cell) sameK_t (sameK_b (by simp; omega)) (Below.refl _ _) (fun _ => rfl)
    (fun pre W => (Boxed W w.heap.size 3 (.int .i64 k) ∧ Boxed W (w.heap.size + 1) 36 (.int .u64 (accT s at0 pre)) ∧ (∀ y, y ∈ pre → y.1 ≠ k)) ∧ Below w.heap.size w W)
    (fun c pre W => (c = .exit 0 ∧ ∃ pre0 x, pre = pre0 ++ [x] ∧ x.1 = k ∧ Boxed W (w.heap.size + 1) 36 (.int .u64 (accT s at0 pre0))) ∧ Below w.heap.size w W)
    (OwnFrom.and (Own.from (fun s A B row hs hg hr => ⟨boxed_kept hs.1 hg hr, boxed_kept hs.2.1 hg hr, hs.2.2⟩) _) (ownFrom_below (Nat.le_refl _) (by omega)))
    (fun c => OwnFrom.and (Own.from (fun s A B row hs hg hr => by obtain ⟨hc, pre0, x, hp, hx, hb⟩ := hs; exact ⟨hc, pre0, x, hp, hx, boxed_kept hb hg hr⟩) _) (ownFrom_below (Nat.le_refl _) (by omega)))
    ⟨⟨hB0, hB1, by simp⟩, hBW⟩
    (fun x => { tmps := #[.string s, .int .i64 at0, .int .i64 k, undef, undef, .pointer (some ⟨w.heap.size, 0, none⟩), .int .u64 0, .int .i64 0, .pointer (some ⟨w.heap.size + 1, 0, none⟩), .int .i64 (x.1 : Int), .int .u8 (sbyte s (at0 + x.1)), .int .i64 k, .bool true, .bool false, .bool false, .string s, .int .i64 at0, .int .i64 k, .bool true, .bool false, .bool false, .string s, .int .i64 at0, .func (.func 91) #[] #[.pointer (some ⟨w.heap.size + 1 + 1 + 1, 0, none⟩), .pointer (some ⟨w.heap.size + 1 + 1, 0, none⟩)], .int .i64 (x.1 : Int), .int .u8 (sbyte s (at0 + x.1)), undef, undef, undef, undef, undef, undef, undef, undef, undef, undef, undef], defers := [] }) ?assign ?body ?done ?stop
  case assign =>
    intro l x W K hK
    gi_wp2
    exact hK
  case body =>
    rintro l pre x W ⟨⟨hb0, hb1, hne⟩, hB⟩ _
    obtain ⟨x, hx⟩ := x
    have c0 := hb0.cell
    have c1 := hb1.cell
    have f1 := hb1.frozen
    have hmix : Try.prog.follows .mixedOrders = true := by kernel_rfl
    have hby := sbyte_range s (at0 + x)
    by_cases hxk : x = k
    · have hq : ((x : Int) == (k : Int)) = true := by subst hxk; simp
      have HX := Lib.hid hxk
      clear hxk
      gi_wp2
      exact ⟨KeepsOthers.refl _, ⟨rfl, pre, _, rfl, HX.out, hb1⟩, hB⟩
    · have hq : ((x : Int) == (k : Int)) = false := by simp; omega
      have e0 : (0 : Int) ≤ 8 * (x : Int) := by omega
      have e1 : IntKind.i64.wrap (8 * (x : Int)) = 8 * (x : Int) := IntWalk.i64_in _ (by omega)
      have e2 : IntKind.u64.wrap (sbyte s (at0 + x)) = sbyte s (at0 + x) := by rw [IntKind.wrap_u64]; omega
      have e3 : (8 * (x : Int)).toNat = 8 * x := by omega
      gi_wp2
      have HA : Hid (accT s at0 (pre ++ [⟨x, hx⟩]) = bits BinOp.or IntKind.u64 (accT s at0 pre) (IntKind.u64.wrap (sbyte s (at0 + x) * 2 ^ min (8 * x) 64))) := accT_snoc s at0 pre ⟨x, hx⟩
      have HN : Hid (∀ y, y ∈ pre ++ [⟨x, hx⟩] → y.1 ≠ k) := by
        intro y hy
        rcases List.mem_append.1 hy with h | h
        · exact hne y h
        · simp at h; subst h; exact hxk
      gi_region_with_o (fail)
      all_goals
        clear e0 e1 e2 e3
        gi_wp2
        exact ⟨(KeepsOthers.setCell _ _ _).trans (KeepsOthers.drew _), (Same.setCell _ (by simp) _).trans (Same.drew _ _), ⟨boxed_setOther hb0 (by simp), by rw [HA.out]; exact hb1.set _, HN.out⟩, (hB.setCell (p := ⟨w.heap.size + 1, 0, none⟩) (by simp) _).drew⟩
  case done =>
    rintro D ys W hD hys ⟨⟨hb0, hb1, hne⟩, hB⟩ hK
    have hlen : s.size - at0 = k := by
      rcases Nat.lt_or_ge k (s.size - at0) with h | h
      · have : k ∈ ys.map (·.1) := by rw [hys]; simpa using h
        obtain ⟨y, hy, hyk⟩ := List.mem_map.1 this
        exact absurd hyk (hne y hy)
      · omega
    rw [hlen] at hys
    have HV := Lib.hid (accT_eq s at0 k ys h2 hys)
    have c1 := hb1.cell
    clear hlen hys hne
    gi_wp2
    refine ⟨by simp, .inl ⟨_, _, rfl, run_takeDeferred hK, ?_⟩⟩
    exact ⟨_, results_tmp2 rfl _ _ _, by rw [← HV.out]; rfl, hB.trans (belowK_b (w := w) (Nat.le_refl _) W D _ _ (by omega) hK rfl rfl)⟩
  case stop =>
    rintro D c pre W hD ⟨kk, hkk, hpre⟩ ⟨⟨rfl, pre0, x, rfl, hxk, hb1⟩, hB⟩ hK
    have h0 : pre0.map (·.1) = List.range k := by
      cases kk with
      | zero => simp at hpre
      | succ q =>
        rw [List.map_append, List.range_succ] at hpre
        obtain ⟨e1, e2⟩ := List.append_inj' hpre rfl
        simp at e2
        rw [e1]
        have : q = k := by omega
        rw [this]
    have HV := Lib.hid (accT_eq s at0 k pre0 h2 h0)
    have c1 := hb1.cell
    clear h0 hpre
    gi_wp2
    refine ⟨by simp, .inl ⟨_, _, rfl, run_takeDeferred hK, ?_⟩⟩
    exact ⟨_, results_tmp2 rfl _ _ _, by rw [← HV.out]; rfl, hB.trans (belowK_b (w := w) (Nat.le_refl _) W D _ _ (by omega) hK rfl rfl)⟩

set_option maxRecDepth 100000 in
set_option maxHeartbeats 400000 in
theorem take_nowidth (s : ByteArray) (at0 wd : Int) (w : World) (h : wd < 1 ∨ 8 < wd) : Calls Try.prog 85 #[.string s, .int .i64 at0, .int .i64 wd] w fun e w' => e = .returned (.tuple #[.int .u64 0, .int .i64 2]) ∧ Below w.heap.size w w' := by
  have H := Lib.hid h
  clear h
  go_enter Try.func85, Try.ntmps85
  go_wp2
  go_step3
  go_wp2_with (go_at_call 86; refine (isWidth_no _ _ H.out).mono ?_; rintro e w' ⟨rfl, rfl⟩)
  rw [Exit.noGoto_ret]
  go_ret2
  exact ⟨rfl, (Below.refl _ _).alloc (Nat.le_refl _) _⟩

set_option maxRecDepth 100000 in
set_option maxHeartbeats 400000 in
theorem take_nohas (s : ByteArray) (at0 wd : Int) (w : World) (hs : s.size ≤ maxLen) (hat : at0 ≤ 9223372036854775807) (h1 : 1 ≤ wd) (h2 : wd ≤ 8) (h : ¬ hasP s at0 wd) : Calls Try.prog 85 #[.string s, .int .i64 at0, .int .i64 wd] w fun e w' => e = .returned (.tuple #[.int .u64 0, .int .i64 2]) ∧ Below w.heap.size w w' := by
  have H := Lib.hid h
  clear h
  go_enter Try.func85, Try.ntmps85
  go_wp2
  go_step3
  go_wp2_with (first | (go_at_call 86; refine (isWidth_yes _ _ (by omega) (by omega)).mono ?_; rintro e w' ⟨rfl, rfl⟩) | (go_at_call 88; refine (has_no _ _ _ _ hs H.out hat).mono ?_; rintro e w' ⟨rfl, rfl⟩))
  rw [Exit.noGoto_ret]
  go_ret2
  exact ⟨rfl, (Below.refl _ _).alloc (Nat.le_refl _) _⟩

/-- Take, whatever its text, place and width -/
theorem take_any (s : ByteArray) (at0 wd : Int) (w : World) (hs : s.size ≤ 281474976710656) (hat : at0 ≤ 9223372036854775807) :
    Calls Try.prog 85 #[.string s, .int .i64 at0, .int .i64 wd] w fun e w' => e = .returned (.tuple #[.int .u64 (takeV s at0 wd), .int .i64 (takeE s at0 wd)]) ∧ Below w.heap.size w w' := by
  have hsm : s.size ≤ maxLen := by unfold maxLen; omega
  by_cases h : takeOk s at0 wd
  · have h' := h
    obtain ⟨h1, h2, h3, h4⟩ := h'
    obtain ⟨k, rfl⟩ := Int.eq_ofNat_of_zero_le (show 0 ≤ wd by omega)
    obtain ⟨a, rfl⟩ := Int.eq_ofNat_of_zero_le h3
    refine (callsIn_wide.1 (take_in s a k w hs (by omega) (by omega) (by omega))).mono fun e w' ⟨he, hb⟩ => ⟨?_, hb⟩
    rw [he]
    exact ret_ve (by rw [takeV_yes h, Int.toNat_natCast, Int.toNat_natCast]) (takeE_yes h)
  · have fin : ∀ (e : Ending) (w' : World), (e = .returned (.tuple #[.int .u64 0, .int .i64 2]) ∧ Below w.heap.size w w') → e = .returned (.tuple #[.int .u64 (takeV s at0 wd), .int .i64 (takeE s at0 wd)]) ∧ Below w.heap.size w w' := fun e w' ⟨he, hb⟩ => ⟨by rw [he]; exact ret_ve (takeV_no h) (takeE_no h), hb⟩
    by_cases hw : 1 ≤ wd ∧ wd ≤ 8
    · exact (take_nohas s at0 wd w hsm hat hw.1 hw.2 (fun hh => h ⟨hw.1, hw.2, hh⟩)).mono fin
    · exact (take_nowidth s at0 wd w (by omega)).mono fin

end Go.Proofs.Yteopcjfakhmifaa
/- The document's own Take. -/
namespace Go.Proofs.Yteopcjfakhmifaa
open Go.RowKit Go.Shelf
set_option linter.unusedVariables false

set_option maxRecDepth 100000 in
set_option maxHeartbeats 400000 in
theorem take_ref_yes (s : ByteArray) (a k : Nat) (w : World) (hs : s.size ≤ 281474976710656) (h1 : 1 ≤ k) (h2 : k ≤ 8) (hk : a + k ≤ s.size) :
    Calls Try.prog 82 #[.string s, .int .i64 a, .int .i64 k] w fun e w' => e = .returned (.tuple #[.int .u64 (takeN s a k), .int .i64 0]) ∧ w = w' := by
  have hc1 : ¬ ((a : Int) > (s.size : Int)) := by omega
  have hc2 : ¬ ((s.size : Int) - a < k) := by omega
  go_enter Try.func82, Try.ntmps82
  go_wp2
  go_loop [8, 9] (fun n i => ∃ (j : Nat) (t : Nat), j ≤ k ∧ i = .int .i64 ((j : Int) - 1) ∧ n = .int .u64 t ∧ Hid (t = takeN s (a + j) (k - j))) (fun _ i => (intOf i + 1).toNat)
  case atStart => exact ⟨k, 0, Nat.le_refl _, rfl, rfl, by unfold Hid; rw [Nat.sub_self]; rfl⟩
  case round =>
    obtain ⟨j, t, hj, rfl, rfl, HT⟩ := hrel
    cases j with
    | zero =>
      go_wp2
      go_ret2
      have e : t = takeN s a k := by have := HT.out; rwa [Nat.add_zero, Nat.sub_zero] at this
      rw [← e]
      exact ⟨rfl, rfl⟩
    | succ q =>
      have hq : a + q < s.size := by omega
      have e3 : ∀ h : a + q < s.size, (((s[a + q]'h).toNat : Nat) : Int) = sbyte s (a + q) := fun h => by
        have : s.data.toList[a + q]? = some (s[a + q]'h) := Go.Proofs.byte_at s (a + q) h
        simp [sbyte, this]
      have HL : Hid (bits BinOp.or IntKind.u64 (IntKind.u64.wrap ((t : Int) * 256)) (IntKind.u64.wrap (sbyte s (a + q))) = ((takeN s (a + q) (k - q) : Nat) : Int)) := by
        have ht : t < 256 ^ (k - (q + 1)) := by rw [HT.out]; exact takeN_lt _ _ _
        have hw : IntKind.u64.wrap (sbyte s (a + q)) = ((sb s (a + q) : Nat) : Int) := by
          have := sb_lt s (a + q)
          rw [sbyte_eq, IntKind.wrap_u64]; omega
        unfold Hid
        rw [hw, or_low _ _ _ ht (sb_lt _ _) (by omega), show k - q = (k - (q + 1)) + 1 from by omega, takeN_front, HT.out]
        rfl
      go_wp2
      go_round
      case rel => exact ⟨q, takeN s (a + q) (k - q), by omega, rfl, by rw [HL.out], rfl⟩
      case measure => simp [intOf]

set_option maxRecDepth 100000 in
set_option maxHeartbeats 400000 in
/-- the reference's Take, whatever its text, place and width -/
theorem take_ref (s : ByteArray) (at0 wd : Int) (w : World) (hs : s.size ≤ 281474976710656) (hat : at0 ≤ 9223372036854775807) :
    Calls Try.prog 82 #[.string s, .int .i64 at0, .int .i64 wd] w fun e w' => e = .returned (.tuple #[.int .u64 (takeV s at0 wd), .int .i64 (takeE s at0 wd)]) ∧ w = w' := by
  by_cases h : takeOk s at0 wd
  · have h' := h
    obtain ⟨h1, h2, h3, h4⟩ := h'
    obtain ⟨k, rfl⟩ := Int.eq_ofNat_of_zero_le (show 0 ≤ wd by omega)
    obtain ⟨a, rfl⟩ := Int.eq_ofNat_of_zero_le h3
    refine (take_ref_yes s a k w hs (by omega) (by omega) (by omega)).mono fun e w' ⟨he, hb⟩ => ⟨?_, hb⟩
    rw [he]
    exact ret_ve (by rw [takeV_yes h, Int.toNat_natCast, Int.toNat_natCast]) (takeE_yes h)
  · have HV := Lib.hid (takeV_no h)
    have HE := Lib.hid (takeE_no h)
    have h0 : wd < 1 ∨ (1 ≤ wd ∧ 8 < wd) ∨ (1 ≤ wd ∧ wd ≤ 8 ∧ at0 < 0) ∨ (1 ≤ wd ∧ wd ≤ 8 ∧ 0 ≤ at0 ∧ (s.size : Int) < at0) ∨ (1 ≤ wd ∧ wd ≤ 8 ∧ 0 ≤ at0 ∧ at0 ≤ (s.size : Int) ∧ (s.size : Int) - at0 < wd) := by
      unfold takeOk hasP at h
      omega
    clear h
    rcases h0 with h | ⟨h1, h⟩ | ⟨h1, h2, h⟩ | ⟨h1, h2, h3, h⟩ | ⟨h1, h2, h3, h4, h⟩
    all_goals
      go_enter Try.func82, Try.ntmps82
      go_wp2
      go_ret2
      exact ⟨ret_ve HV.out HE.out, rfl⟩

/-! ### a text behind its length -/

def textOk (s : ByteArray) : Prop := s.size ≤ 65535
instance (s : ByteArray) : Decidable (textOk s) := by unfold textOk; infer_instance
/-- what Text answers -/
def textS (s : ByteArray) : ByteArray := if textOk s then numB s.size 2 ++ s else ⟨#[]⟩
def textE (s : ByteArray) : Int := if textOk s then 0 else 2
theorem textS_yes {s : ByteArray} (h : textOk s) : textS s = numB s.size 2 ++ s := if_pos h
theorem textS_no {s : ByteArray} (h : ¬ textOk s) : textS s = ⟨#[]⟩ := if_neg h
theorem textE_yes {s : ByteArray} (h : textOk s) : textE s = 0 := if_pos h
theorem textE_no {s : ByteArray} (h : ¬ textOk s) : textE s = 2 := if_neg h
theorem textOk_put (s : ByteArray) : putOk s.size 2 ↔ textOk s := by
  unfold putOk textOk
  rw [show (2 : Int).toNat = 2 from rfl, show (256 : Nat) ^ 2 = 65536 from rfl]
  omega

/-! ### all bytes from there on -/

/-- are all bytes from a on 0? -/
def bareB (s : ByteArray) (a : Nat) : Bool := (s.data.toList.drop a).all (· == 0)
theorem bareB_end (s : ByteArray) (a : Nat) (h : s.size ≤ a) : bareB s a = true := by
  unfold bareB
  rw [List.drop_of_length_le (by simpa using h)]
  rfl
theorem bareB_step (s : ByteArray) (a : Nat) (h : a < s.size) : bareB s a = ((sb s a == 0) && bareB s (a + 1)) := by
  unfold bareB sb
  have hl : a < s.data.toList.length := by simpa using h
  rw [List.drop_eq_getElem_cons hl, List.all_cons, List.getElem?_eq_getElem hl]
  congr 1
  rw [Bool.eq_iff_iff]
  simp only [Option.getD_some, beq_iff_eq]
  constructor
  · intro h0
    rw [h0]
    rfl
  · intro h0
    exact UInt8.toNat_inj.1 h0

set_option maxRecDepth 100000 in
set_option maxHeartbeats 400000 in
theorem bare_any (s : ByteArray) (from0 : Int) (w : World) (hs : s.size ≤ 281474976710656) :
    Calls Try.prog 34 #[.string s, .int .i64 from0] w fun e w' => e = .returned (.bool (bareB s from0.toNat)) ∧ w = w' := by
  go_enter Try.func34, Try.ntmps34
  go_wp2
  go_loop [5] (fun i => ∃ j : Nat, i = .int .i64 j ∧ Hid (bareB s from0.toNat = bareB s j)) (fun i => (s.size : Nat) - (intOf i).toNat)
  case atStart => exact ⟨from0.toNat, by rw [Int.toNat_eq_max], rfl⟩
  case round =>
    obtain ⟨j, rfl, HB⟩ := hrel
    by_cases hlt : j < s.size
    · have e3 : ∀ h : j < s.size, (((s[j]'h).toNat : Nat) : Int) = sbyte s j := fun h => by
        have : s.data.toList[j]? = some (s[j]'h) := Go.Proofs.byte_at s j h
        simp [sbyte, this]
      by_cases hz : sb s j = 0
      · have hb : (sbyte s j != 0) = false := by rw [sbyte_eq, hz]; rfl
        have HN : Hid (bareB s from0.toNat = bareB s (j + 1)) := by unfold Hid; rw [HB.out, bareB_step s j hlt, hz]; rfl
        clear hz
        go_wp2
        go_round
        case rel => exact ⟨j + 1, by go_num, HN⟩
        case measure => simp [intOf]; omega
      · have hb : (sbyte s j != 0) = true := by rw [sbyte_eq]; simpa using hz
        have HN : Hid (bareB s from0.toNat = false) := by unfold Hid; rw [HB.out, bareB_step s j hlt]; simp [hz]
        clear hz
        go_wp2
        go_ret
        exact ⟨by rw [HN.out]; rfl, rfl⟩
    · have HN : Hid (bareB s from0.toNat = true) := by unfold Hid; rw [HB.out, bareB_end s j (by omega)]
      go_wp2
      go_ret
      exact ⟨by rw [HN.out]; rfl, rfl⟩

set_option maxRecDepth 100000 in
set_option maxHeartbeats 400000 in
theorem bare_ref (s : ByteArray) (from0 : Int) (w : World) (hs : s.size ≤ 281474976710656) :
    Calls Try.prog 38 #[.string s, .int .i64 from0] w fun e w' => e = .returned (.bool (bareB s from0.toNat)) ∧ w = w' := by
  go_enter Try.func38, Try.ntmps38
  go_wp2
  go_loop [5] (fun i => ∃ j : Nat, i = .int .i64 j ∧ Hid (bareB s from0.toNat = bareB s j)) (fun i => (s.size : Nat) - (intOf i).toNat)
  case atStart => exact ⟨from0.toNat, by rw [Int.toNat_eq_max]; rw [Int.max_comm], rfl⟩
  case round =>
    obtain ⟨j, rfl, HB⟩ := hrel
    by_cases hlt : j < s.size
    · have e3 : ∀ h : j < s.size, (((s[j]'h).toNat : Nat) : Int) = sbyte s j := fun h => by
        have : s.data.toList[j]? = some (s[j]'h) := Go.Proofs.byte_at s j h
        simp [sbyte, this]
      by_cases hz : sb s j = 0
      · have hb : (sbyte s j != 0) = false := by rw [sbyte_eq, hz]; rfl
        have HN : Hid (bareB s from0.toNat = bareB s (j + 1)) := by unfold Hid; rw [HB.out, bareB_step s j hlt, hz]; rfl
        clear hz
        go_wp2
        go_round
        case rel => exact ⟨j + 1, by go_num, HN⟩
        case measure => simp [intOf]; omega
      · have hb : (sbyte s j != 0) = true := by rw [sbyte_eq]; simpa using hz
        have HN : Hid (bareB s from0.toNat = false) := by unfold Hid; rw [HB.out, bareB_step s j hlt]; simp [hz]
        clear hz
        go_wp2
        go_ret
        exact ⟨by rw [HN.out]; rfl, rfl⟩
    · have HN : Hid (bareB s from0.toNat = true) := by unfold Hid; rw [HB.out, bareB_end s j (by omega)]
      go_wp2
      go_ret
      exact ⟨by rw [HN.out]; rfl, rfl⟩

end Go.Proofs.Yteopcjfakhmifaa
