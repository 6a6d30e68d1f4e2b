/- Several texts in one, each under its own heading. -/
import Derived.RangeFuncBound
import Derived.RangeFuncCalls
import Derived.RangeFuncLeaves
import Derived.OwnWalkIn
import Derived.TacticsInMore
import Derived.LoopNIn
import Derived.LoopIn
import Derived.Test.YtkipkcmcolomcaaGreatPk09
import Derived.Test.YtkipkcmcolomcaaGreatPk18
import Derived.Shelf.SlSortCmp.NoneTotal
import Derived.Test.YtkipkcmcolomcaaGreatShelf
import Derived.Test.YtkipkcmcolomcaaGreatPk11
/- The iterator of the program's package dirs hands out the names that are read, one behind the other. -/
namespace Go.Proofs.YtkipkcmcolomcaaGreat.Dir
open Go.RowKit
attribute [local go_sem] Oper.semAt_some
set_option linter.unusedVariables false
set_option linter.unusedSimpArgs false

theorem grown_of_below {W W' : World} (h : Below W.heap.size W W') : W.grownBy W' none := ⟨h.1, h.2, h.3, h.4, fun k hk _ => h.5 k hk⟩
/-- entries and texts that lie somewhere stay as they are -/
def KeepE (W W' : World) : Prop := W.heap.size ≤ W'.heap.size ∧ ∀ (b : Nat) (c : Array Value) (t : TypeId) (f : Nat × Nat), (t = 123 ∨ t = 9) → W.heap[b]? = some (.cells c t f) → W'.heap[b]? = some (.cells c t f)
theorem KeepE.refl (W : World) : KeepE W W := ⟨Nat.le_refl _, fun _ _ _ _ _ h => h⟩
theorem keepE_t {A B C : World} (h : KeepE A B) (k : KeepE B C) : KeepE A C := ⟨Nat.le_trans h.1 k.1, fun b c t f ht hb => k.2 b c t f ht (h.2 b c t f ht hb)⟩
theorem KeepE.of_below {W W' : World} (h : Below W.heap.size W W') : KeepE W W' := ⟨h.size, fun b c t f _ hb => (h.block b (Array.getElem?_eq_some_iff.1 hb).1).trans hb⟩
theorem keepE_b {w : World} (W : World) (l : Nat) (o o' : Obj) (_ : w.heap.size ≤ l) (hl : W.heap[l]? = some o) (hc : o.isCells = false) (_ : o.isWalk = false) : KeepE W (W.putObj l o') :=
  ⟨by simp [World.putObj], fun b c t f _ hb => by
    by_cases h : b = l
    · subst h
      rw [hl] at hb
      cases hb
      cases hc
    · exact (World.putObj_heap_other h).trans hb⟩
theorem AtT.keep {W W' : World} {b : Nat} {t : Et} (h : AtT W b t) (hk : KeepE W W') : AtT W' b t := hk.2 _ _ _ _ (.inl rfl) h
/-- a text's box -/
def AtS (W : World) (b : Nat) (s : ByteArray) : Prop := W.heap[b]? = some (.cells #[.string s] 9 (0, 0))
theorem AtS.new (w : World) (s : ByteArray) : AtS (w.alloc (.cells #[.string s] 9)) w.heap.size s := World.alloc_heap_new w _
theorem AtS.c {W : World} {b : Nat} {s : ByteArray} (h : AtS W b s) : W.cell? ⟨b, 0, none⟩ = some (.string s) := by
  unfold AtS at h
  simp only [World.cell?, h]
  rfl
theorem AtS.keep {W W' : World} {b : Nat} {s : ByteArray} (h : AtS W b s) (hk : KeepE W W') : AtS W' b s := hk.2 _ _ _ _ (.inr rfl) h
theorem AtS.lt {W : World} {b : Nat} {s : ByteArray} (h : AtS W b s) : b < W.heap.size := (Array.getElem?_eq_some_iff.1 h).1
theorem AtS.th {W W' : World} {b : Nat} {s : ByteArray} (h : AtS W b s) (hB : Below W.heap.size W W') : AtS W' b s := (hB.block b h.lt).trans h
/-- what the k-th round is handed -/
def etAt (P : List N) (k : Nat) : Et := ⟨(nm P k).name, (nm P k).ino, pos P k, pos P (k + 1)⟩
def encT (P : List N) (k : Nat) : Array Value := #[(etAt P k).val]
theorem Run.et {s : ByteArray} {P : List N} (h : Run s P) {k : Nat} (hk : k < P.length) : etV s (pos P k) = etAt P k ∧ decide (good s (pos P k)) = true := by
  obtain ⟨h1, h2⟩ := h.at_ k hk
  refine ⟨?_, decide_eq_true h1⟩
  rw [etV_yes h1, h2]
  unfold etOf etAt
  rw [pos_succ hk]
theorem Run.end_ {s : ByteArray} {P : List N} (h : Run s P) (hlt : pos P P.length < s.size) : etV s (pos P P.length) = Et.zero ∧ decide (good s (pos P P.length)) = false :=
  ⟨etV_no (h.stop hlt), decide_eq_false (h.stop hlt)⟩
section
set_option maxRecDepth 100000
set_option maxHeartbeats 4000000
theorem entries1_in (n : Nat) (hn : 1 ≤ n) (l Bs : Nat) (s : ByteArray) (P : List N) (hR : Run s P) (hs : s.size ≤ 281474976710656) (J Jx : Nat → World → Prop) (B0 : Nat) (hJ : AbidesFrom B0 J)
    (hY : ∀ k W, J k W → k < P.length → YieldAt Fence.wide (n - 1) Tryz.prog l (encT P k) W fun e W' => (e = .returned (.bool true) ∧ J (k + 1) W' ∧ KeepE W W') ∨ (e = .returned (.bool false) ∧ Jx k W'))
    (W : World) (hS : AtS W Bs s) (h0 : J 0 W) :
    CallsIn Fence.wide n Tryz.prog 116 #[.func (.yield l) #[] #[], .pointer (some ⟨Bs, 0, none⟩)] W fun e W' => (∃ v, e = .returned v) ∧ (J P.length W' ∨ ∃ k, k < P.length ∧ Jx k W') := by
  have hfn : ∀ f, Fence.wide.fn f := fun _ => trivial
  have hJa : ∀ k W1 W2, J k W1 → Below W1.heap.size W1 W2 → J k W2 := fun k W1 W2 h hB => hJ _ _ _ none h (grown_of_below hB) (fun r e => by cases e)
  have HA := Lib.hid hJa
  have HY := Lib.hid hY
  have HR := Lib.hid hR
  have HE := Lib.hid (fun (a : Nat) W (ha : a ≤ s.size) => entryAt_any s a W hs ha)
  unfold Ans at HE
  clear hJa hY hJ hR
  refine callsIn_of_wp Tryz.func116 rfl trivial ?_ rfl
  simp only [Tryz.ntmps116, List.size_toArray, List.length_cons, List.length_nil, Nat.reduceAdd, Nat.reduceSub, Array.replicate_succ, Array.replicate_zero, List.push_toArray, List.append_toArray, List.nil_append, List.cons_append]
  gi_wp2
  gi_loopw [3, 4, 5] (fun i _ _ wr => ∃ k : Nat, k ≤ P.length ∧ i = .int .i64 (pos P k : Nat) ∧ J k wr ∧ Hid (AtS wr Bs s)) (fun i _ _ _ => s.size - (intOf i).toNat)
  case atStart => exact ⟨0, by omega, rfl, h0, hS⟩
  case round =>
    obtain ⟨k, hkN, rfl, hJk, HS⟩ := hrel
    have hbx := HS.out.c
    by_cases hltk : k < P.length
    · obtain ⟨l1, l2⟩ := HR.out.lt hltk
      obtain ⟨e1, e2⟩ := HR.out.et hltk
      have hp2 := pos_succ hltk
      have hE := HE.out (pos P k) wr (by omega)
      rw [e1, e2] at hE
      have hYk := fun W h => HY.out k W h hltk
      unfold encT at hYk
      obtain ⟨t, ht⟩ : ∃ t, etAt P k = t := ⟨_, rfl⟩
      have ht3 : t.b = pos P (k + 1) := by rw [← ht]; rfl
      simp only [ht] at hYk hE
      have HYK := Lib.hid hYk
      obtain ⟨p, hp⟩ : ∃ p, pos P k = p := ⟨_, rfl⟩
      rw [hp] at hE l1 hp2 ⊢
      have hlt2 : (p : Int) < (s.size : Int) := by omega
      have HL : Hid (p < t.b ∧ t.b ≤ s.size) := by
        unfold Hid
        rw [ht3]
        omega
      have HT := Lib.hid ht3
      clear e1 e2 hp2 ht hYk l2 ht3
      obtain ⟨x0, x1, x2, x3⟩ := t
      unfold Et.val at hE HYK
      dsimp only at hE HYK HL HT
      have HEE := Lib.hid hE
      have hA2 : ∀ w1, Below wr.heap.size wr w1 → J k (w1.alloc (boxT ⟨x0, x1, x2, x3⟩)) ∧ AtS (w1.alloc (boxT ⟨x0, x1, x2, x3⟩)) Bs s := fun w1 hB => ⟨HA.out _ _ _ (HA.out _ _ _ hJk hB) (below_new _ _), (HS.out.th hB).th (below_new _ _)⟩
      have HA2 := Lib.hid hA2
      have HN2 := Lib.hid (fun w1 => AtT.new w1 ⟨x0, x1, x2, x3⟩)
      unfold boxT at HA2 HN2
      dsimp only at HA2 HN2
      clear hE hA2
      gi_wp2_with (gi_at_call 117; refine (callsIn_wide.2 HEE.out).mono ?_; rintro e w1 ⟨rfl, hB1⟩; obtain ⟨y1, y2⟩ := HA2.out _ hB1; obtain ⟨fn, tmps, assign, body, hy, hR⟩ := HYK.out _ y1; have HNN := Lib.hid (HN2.out w1); have HY2 := Lib.hid y2; clear y1 y2)
      refine hR.mono ?_
      rintro e W3 (⟨rfl, hJ3, hk3⟩ | ⟨rfl, hJx3⟩)
      · have hb3 := HNN.out.keep hk3
        have HS3 := Lib.hid (HY2.out.keep hk3)
        obtain ⟨c0, c1, c2, c3⟩ := hb3.c
        dsimp only at c0 c1 c2 c3
        gi_wp2
        go_roundw
        case rel => exact ⟨k + 1, by omega, by rw [← HT.out], hJ3, HS3⟩
        case measure => have := HL.out; simp [intOf]; omega
      · gi_wp2
        refine bodyPost_ret (results_none rfl _ _ _) rfl ?_
        exact ⟨⟨_, rfl⟩, .inr ⟨k, hltk, hJx3⟩⟩
    · obtain rfl : k = P.length := by omega
      have hle := HR.out.le
      by_cases hlt : pos P P.length < s.size
      · obtain ⟨e1, e2⟩ := HR.out.end_ hlt
        have hE := HE.out (pos P P.length) wr (by omega)
        rw [e1, e2] at hE
        obtain ⟨p, hp⟩ : ∃ p, pos P P.length = p := ⟨_, rfl⟩
        rw [hp] at hE hlt ⊢
        have hlt2 : (p : Int) < (s.size : Int) := by omega
        have HEE := Lib.hid hE
        unfold Et.val Et.zero at HEE
        have HA2 : Hid (∀ w1 o, Below wr.heap.size wr w1 → J P.length (w1.alloc o)) := fun w1 o hB => HA.out _ _ _ (HA.out _ _ _ hJk hB) (below_new _ _)
        clear hE e1 e2 hle hp
        gi_wp2_with (gi_at_call 117; refine (callsIn_wide.2 HEE.out).mono ?_; rintro e w1 ⟨rfl, hB1⟩)
        refine bodyPost_ret (results_none rfl _ _ _) rfl ?_
        exact ⟨⟨_, rfl⟩, .inl (HA2.out _ _ hB1)⟩
      · have hge : ¬ ((pos P P.length : Nat) : Int) < (s.size : Int) := by omega
        obtain ⟨p, hp⟩ : ∃ p, pos P P.length = p := ⟨_, rfl⟩
        rw [hp] at hge ⊢
        gi_wp2
        go_end0
        exact ⟨⟨_, rfl⟩, .inl hJk⟩
theorem entries_in (n : Nat) (s : ByteArray) (w : World) :
    CallsIn Fence.wide n Tryz.prog 82 #[.string s] w fun e w' => e = .returned (.func (.func 116) #[] #[.pointer (some ⟨w.heap.size, 0, none⟩)]) ∧ w.alloc (.cells #[.string s] 9) = w' := by
  refine callsIn_of_wp Tryz.func82 rfl trivial ?_ rfl
  simp only [Tryz.ntmps82, List.size_toArray, List.length_cons, List.length_nil, Nat.reduceAdd, Nat.reduceSub, Array.replicate_succ, Array.replicate_zero, List.push_toArray, List.append_toArray, List.nil_append, List.cons_append]
  gi_wp2
  go_ret
  exact ⟨rfl, rfl⟩
theorem entries_steps (Bs : Nat) (s : ByteArray) (P : List N) (hR : Run s P) (hs : s.size ≤ 281474976710656) (w : World) (hS : AtS w Bs s) : SeqSteps Fence.wide 8 Tryz.prog 116 #[.pointer (some ⟨Bs, 0, none⟩)] (encT P) KeepE P.length w := by
  intro l J Jx W' hB' hJ _ hY h0
  exact entries1_in 8 (by decide) l Bs s P hR hs J Jx _ hJ hY W' (hS.th hB') h0
end
end Go.Proofs.YtkipkcmcolomcaaGreat.Dir
/- isTwice of the program. -/
namespace Go.Proofs.YtkipkcmcolomcaaGreat.Dir
open Go.RowKit
attribute [local go_sem] Oper.semAt_some
set_option linter.unusedVariables false
set_option linter.unusedSimpArgs false
/-- what isTwice answers -/
def TwicePost (M : List N) (w : World) (e : Ending) (w' : World) : Prop := ((e = .returned (.bool true) ∧ twiceP M) ∨ (e = .returned (.bool false) ∧ ¬ twiceP M)) ∧ Below w.heap.size w w'
section
set_option maxRecDepth 100000
set_option maxHeartbeats 4000000
theorem isTwice_any (v : Value) (M : List N) (w : World) (hM : Nms w v M) (hn3 : M.length ≤ 1000000) : Calls Tryz.prog 86 #[v] w (TwicePost M w) := by
  obtain ⟨a, cap, rfl, hcap1, hcap2⟩ := hM.parts
  have HY : Hid (∀ i W, i + 1 < M.length → (nm M (i + 1)).name = (nm M i).name → Below w.heap.size w W → TwicePost M w (.returned (.bool true)) W) := fun i W h1 h2 h3 => ⟨.inl ⟨rfl, i, h1, h2⟩, h3⟩
  have HN : Hid (∀ W, (∀ i, i + 1 < M.length → ¬ (nm M (i + 1)).name = (nm M i).name) → Below w.heap.size w W → TwicePost M w (.returned (.bool false)) W) := fun W h1 h2 => ⟨.inr ⟨rfl, fun ⟨i, h3, h4⟩ => h1 i h3 h4⟩, h2⟩
  have HL := Lib.hid hM
  obtain ⟨R, hR⟩ : ∃ R, TwicePost M w = R := ⟨_, rfl⟩
  rw [hR] at HY HN ⊢
  obtain ⟨n, hn⟩ : ∃ n, M.length = n := ⟨_, rfl⟩
  have HLN := Lib.hid hn
  rw [hn] at HL HY HN hcap1 hn3 ⊢
  clear hM hn hR
  obtain ⟨W0, rfl⟩ : ∃ W0 : World, W0 = w := ⟨_, rfl⟩
  go_enter Tryz.func86, Tryz.ntmps86
  go_wp2
  go_loopw [3] (fun i wr => ∃ q : Nat, 1 ≤ q ∧ i = .int .i64 (q : Int) ∧ (q ≤ n ∨ q = 1) ∧ Hid (∀ i, i + 1 < q → ¬ (nm M (i + 1)).name = (nm M i).name) ∧ Hid (Below W0.heap.size W0 wr)) (fun i _ => n - (intOf i).toNat)
  case atStart => exact ⟨1, by omega, rfl, .inr rfl, fun i h => by omega, Below.refl _ _⟩
  case round =>
    obtain ⟨q, hq1, rfl, hq2, HQ, HB⟩ := hrel
    by_cases hlt : q < n
    · obtain ⟨j, hj⟩ : ∃ j, j + 1 = q := ⟨q - 1, by omega⟩
      have hli : (q : Int) < (n : Int) := by omega
      have hNm := HL.out.below HB.out
      have h1 := hNm.at (k := q) (by rw [HLN.out]; exact hlt)
      rw [HLN.out] at h1
      obtain ⟨b, off, cap2, e2, c0, c1⟩ := h1
      cases e2
      obtain ⟨d0, d1⟩ := hNm.get HLN.out (k := j) (by omega)
      have hw1 : IntKind.i64.wrap ((q : Int) - 1) = (j : Int) := by rw [IntKind.wrap_i64]; omega
      have hj2 : (j : Int) < (n : Int) := by omega
      have HJ := Lib.hid hj
      by_cases hq : (nm M q).name = (nm M j).name
      · have hb := beq_yes hq
        have HR := Lib.hid (fun W (h : Below W0.heap.size W0 W) => HY.out j W (by omega) (by rw [hj]; exact hq) h)
        generalize (nm M q).name = x at *
        generalize (nm M j).name = y at *
        clear hq hj hNm
        go_wp2
        go_quiet (fail)
        go_wp2
        exact HR.out _ (below_drewN HB.out _)
      · have hb := beq_no hq
        have HM2 : Hid (∀ i, i + 1 < q + 1 → ¬ (nm M (i + 1)).name = (nm M i).name) := fun i h => by
          rcases Nat.lt_succ_iff_lt_or_eq.1 h with h | h
          · exact HQ.out i h
          · have hij : i = j := by omega
            rw [hij, hj]
            exact hq
        obtain ⟨x, hx⟩ : ∃ x, (nm M q).name = x := ⟨_, rfl⟩
        obtain ⟨y, hy⟩ : ∃ y, (nm M j).name = y := ⟨_, rfl⟩
        rw [hx] at c0 hb
        rw [hy] at d0 hb
        clear hq hx hy hj hNm
        go_wp2
        go_quiet (fail)
        go_wp2
        go_roundw
        case rel => exact ⟨q + 1, by omega, by go_num, .inl (by omega), HM2, below_drewN HB.out _⟩
        case measure => simp [intOf]; omega
    · have HR := Lib.hid (HN.out _ (fun i h => HQ.out i (by omega)) HB.out)
      have hli : ¬ (q : Int) < (n : Int) := by omega
      go_wp2
      exact HR.out
end
end Go.Proofs.YtkipkcmcolomcaaGreat.Dir
/- The library's SortFunc of names. -/
namespace Go.Proofs.YtkipkcmcolomcaaGreat.Dir
open Go.RowKit Go.Sort Go.Shelf
attribute [local go_sem] Oper.semAt_some
set_option linter.unusedVariables false
set_option linter.unusedSimpArgs false

instance : Inhabited N := ⟨N.zero⟩
/-- names are compared by their bytes -/
def cfN (x y : N) : Int := Lib.compareBytes x.name.data.toList y.name.data.toList
theorem compare_lt : ∀ a b : List UInt8, decide (Lib.compareBytes a b < 0) = Op.bytesLess a b
  | [], [] => rfl
  | [], _ :: _ => rfl
  | _ :: _, [] => rfl
  | a :: x, b :: y => by
    have ih := compare_lt x y
    rw [Lib.compareBytes, Op.bytesLess, ← ih]
    by_cases h : a < b
    · simp [h]
    · by_cases k : b < a
      · have hne : (a == b) = false := by
          rw [beq_eq_false_iff_ne]
          rintro rfl
          exact h k
        simp [h, k, hne]
      · have he : a = b := by
          rw [UInt8.lt_iff_toNat_lt] at h k
          exact UInt8.toNat_inj.1 (by omega)
        subst he
        simp
theorem lt_cfN (x y : N) : ltOf cfN x y = ltB x.name y.name := by
  unfold ltOf cfN ltB
  rw [compare_lt, Lib.toList_data, Lib.toList_data]
theorem swoN : SWO (ltOf cfN) where
  irrefl x := by rw [lt_cfN]; exact ltB_irr _
  trans x y z h1 h2 := by rw [lt_cfN] at *; exact ltB_trans h1 h2
  ntrans x y z h1 h2 := by
    rw [lt_cfN] at *
    rw [Bool.eq_false_iff]
    intro h
    rcases ltB_total x.name y.name with k | k | k
    · rw [h1] at k; cases k
    · rw [k] at h; rw [h2] at h; cases h
    · have := ltB_trans k h
      rw [h2] at this
      cases this
section
set_option maxRecDepth 100000
set_option maxHeartbeats 4000000
theorem cmp_any (x y : N) (W : World) : Calls Tryz.prog 84 #[x.val, y.val] W fun e w' => e = .returned (.int .i64 (cfN x y)) ∧ ∃ q os', w' = Sort.grow (W.drewN q) os' := by
  have hcon := fun W' => Shf.Tryz.strings_Compare x.name y.name W'
  unfold cfN N.val
  generalize Lib.compareBytes x.name.data.toList y.name.data.toList = r at hcon ⊢
  go_enter Tryz.func84, Tryz.ntmps84
  go_wp2_with (go_at_call 85; (with_reducible refine Calls.mono (hcon _) ?_); rintro e w' ⟨rfl, rfl⟩)
  go_ret
  exact ⟨rfl, 0, _, by rw [alloc_eq_grow, alloc_eq_grow, grow_grow]; rfl⟩
theorem cmpLays (blk off size : Nat) (w : World) : CmpLays Tryz.prog 84 #[] N.cells 2 cfN blk off size w := fun _ _ _ _ x y => cmp_any x y _
theorem only_sorted {w : World} {g n cap k : Nat} {os : Array Obj} (d : Array N) : Only (fun i => (Value.slice (some ⟨g, 0, none⟩) k cap).ownBlock = some i) w (sortWorldK N.cells 2 w g 0 n d os) := by
  refine ⟨rfl, rfl, rfl, ?_, fun j hj hne => ?_⟩
  · unfold sortWorldK putRowK
    simp
  · unfold sortWorldK putRowK
    rw [heap_grow_old _ _ (by simpa using hj)]
    have : g ≠ j := fun e => hne (by simp [Value.ownBlock, e])
    simp [putRow, mapBlock, Sort.ahead, Array.getElem?_modify, this]
theorem sort_any (v : Value) (L : List N) (base : Nat) (w : World) (hO : w.ownsRow base 52 2 v L.length (cellsL L)) (hn : L.length ≤ 1000000) :
    Calls Tryz.prog 83 #[v, .func (.func 84) #[] #[]] w fun e w' => e = .returned (.tuple #[]) ∧ ∃ M, M.Perm L ∧ Rises M ∧ Nms w' v M ∧ Only (fun i => v.ownBlock = some i) w w' := by
  have hNm := Nms.own hO
  rcases hO.2 with ⟨rfl, h0⟩ | ⟨g, cap, cur, rfl, hb, hg, hnc, hm, hcs, ht⟩
  · obtain rfl : L = [] := List.eq_nil_of_length_eq_zero h0
    refine (AnyF.slices_SortFunc_none (P := Tryz.prog) { Shf.Tryz.sortF83 with } none 0 _ w).mono ?_
    rintro e w' ⟨rfl, rfl⟩
    exact ⟨rfl, [], List.Perm.refl _, fun i j _ h => absurd h (Nat.not_lt_zero _), hNm, Only.refl _ _⟩
  · have hgl := (Array.getElem?_eq_some_iff.1 hg).1
    have hH : HoldsK N.cells 2 w g 0 L.toArray := by
      intro j hj
      rw [size_flatK] at hj
      have hj2 : j < L.length * 2 := by simpa using hj
      have hk : j / 2 < L.length := by omega
      have hl := cellsL_length L
      refine ⟨?_, by simp [World.frozen?, hg]⟩
      have h1 := hO.cellAt j (by omega)
      rw [Nat.zero_add]
      refine h1.trans ?_
      show _ = some (flatK N.cells 2 L.toArray)[j]!
      rw [get_flatK _ _ _ _ hj]
      have h2 := flat_at N.cells 2 L (fun _ _ => rfl) (j / 2) (j % 2) (nm L (j / 2)) (nm_get hk) (by omega)
      rw [show j / 2 * 2 + j % 2 = j by omega] at h2
      refine h2.trans ?_
      have h3 : L.toArray[j / 2]! = nm L (j / 2) := by
        rw [getElem!_pos _ _ (by simpa using hk)]
        show L[j / 2] = _
        exact nm_elem hk
      rw [h3]
      have h4 : j % 2 < 2 := by omega
      match j % 2, h4 with
      | 0, _ => rfl
      | 1, _ => rfl
    have eg : ∀ args w, (callFunc 84 args).run Tryz.prog w = .ok (.enter 84 args) w := enters_of Tryz.func84 (by kernel_rfl) rfl
    have hcon := AnyQ.slices_SortFunc Shf.Tryz.sortF83 2 Tryz.isAgg52 Tryz.sizeOf52 N.cells (fun _ => rfl) (fun x u hu => by simp [N.cells] at hu; rcases hu with rfl | rfl <;> rfl) cfN swoN 84 #[] g 0 cap L.toArray w eg (cmpLays g 0 _ w) hH hgl (by simp; omega)
    have hsz : L.toArray.size = L.length := by simp
    rw [hsz] at hcon
    refine Calls.mono hcon ?_
    rintro e w' ⟨rfl, d', n, os, hp, hsd, rfl⟩
    obtain ⟨p1, p2, p3⟩ := hp
    rw [hsz] at p1
    have hH2 : HoldsK N.cells 2 (sortWorldK N.cells 2 w g 0 n d' os) g 0 d' := by
      unfold sortWorldK
      exact holdsK_grow _ _ _ _ _ _ _ (by unfold putRowK; simpa using hgl) (holdsK_putRowK _ _ _ _ _ _ _ (holdsK_ahead _ _ w n g 0 _ hH) (by rw [p1, hsz]))
    have hnmd : ∀ i, i < L.length → nm d'.toList i = d'[i]! := fun i hi => by
      rw [getElem!_pos d' i (by omega), ← nm_elem (by simpa using (by omega : i < d'.size))]
      simp
    refine ⟨rfl, d'.toList, ?_, ?_, ?_, only_sorted d'⟩
    · rw [show d'.extract 0 L.length = d' by rw [← p1]; simp, show L.toArray.extract 0 L.length = L.toArray by rw [← hsz]; simp] at p3
      simpa using p3
    · intro i j hij hj
      have hj2 : j < L.length := by simpa [p1] using hj
      have := hsd i j (Nat.zero_le _) hij hj2
      rw [lt_cfN] at this
      rw [hnmd i (by omega), hnmd j hj2]
      exact this
    · obtain ⟨a2, cap2, e2, h2, h3, h4, h5⟩ := hNm
      have hl2 : d'.toList.length = L.length := by simpa using p1
      refine ⟨a2, cap2, by rw [hl2]; exact e2, by rw [hl2]; exact h2, h3, by rw [flat_length N.cells 2 d'.toList (fun _ _ => rfl)], fun hp0 => ?_⟩
      cases e2
      refine ⟨g, 0, rfl, fun j u hju => ?_⟩
      have hjl := (List.getElem?_eq_some_iff.1 hju).1
      rw [flat_length N.cells 2 d'.toList (fun _ _ => rfl)] at hjl
      have hk : j / 2 < L.length := by omega
      have hc := (hH2.cell (i := j / 2) (c := j % 2) (by omega) (by omega)).1
      rw [Nat.zero_add, show j / 2 * 2 + j % 2 = j by omega] at hc
      rw [Nat.zero_add]
      refine hc.trans ?_
      have h6 := flat_at N.cells 2 d'.toList (fun _ _ => rfl) (j / 2) (j % 2) (nm d'.toList (j / 2)) (nm_get (by omega)) (by omega)
      rw [show j / 2 * 2 + j % 2 = j by omega, hju, hnmd _ hk] at h6
      rw [h6]
      have h7 : j % 2 < 2 := by omega
      match j % 2, h7 with
      | 0, _ => rfl
      | 1, _ => rfl
end
end Go.Proofs.YtkipkcmcolomcaaGreat.Dir
/- The document's Add, Set, Drop. -/
namespace Go.Proofs.YtkipkcmcolomcaaGreat.Dir.R
open Go.RowKit
attribute [local go_sem] Oper.semAt_some
set_option linter.unusedVariables false
set_option linter.unusedSimpArgs false
theorem addV_zero {L : List N} {s : ByteArray} {i : Nat} (h : addE L s i = 0) : addV L s i = bytesL (L ++ [⟨s, i⟩]) := if_pos h
theorem addVo_not {D : Option (List N)} {s : ByteArray} {i : Nat} (h : ¬ addEo D s i = 0) : addVo D s i = ⟨#[]⟩ := by
  cases D with
  | none => rfl
  | some L => exact if_neg h
theorem setVo_not {D : Option (List N)} {s : ByteArray} {i : Nat} (h : ¬ setEo D s i = 0) : setVo D s i = ⟨#[]⟩ := by
  cases D with
  | none => rfl
  | some L => exact if_neg h
theorem dropVo_not {D : Option (List N)} {s : ByteArray} (h : ¬ findEo D s = 0) : dropVo D s = ⟨#[]⟩ := by
  cases D with
  | none => rfl
  | some L => exact if_neg h
section
set_option maxRecDepth 100000
set_option maxHeartbeats 8000000
theorem add_any (s name : ByteArray) (ino : Nat) (D : Option (List N)) (w : World) (hs : s.size ≤ 281474976710656) (hn : name.size ≤ 281474976710656) (hi : ino < 4294967296) (h : DirO s D) :
    Calls Tryz.prog 73 #[.string s, .string name, .int .u32 ino] w (Ans w (.tuple #[.string (addVo D name ino), .int .i64 (addEo D name ino)])) := by
  by_cases hE : findEo D name = 0
  · -- it is there
    cases D with
    | none => exact absurd hE (by show ¬ (110 : Int) = 0; decide)
    | some L =>
      obtain ⟨h1, h2⟩ := find_zero.1 hE
      have hF := Lib.hid (fun W => found_good s name L W hs h h1 h2)
      have HE : Hid (addEo (some L) name ino = 113) := by unfold Hid addEo addE; simp [h1, h2]
      have HV := Lib.hid (addVo_not (D := some L) (s := name) (i := ino) (by rw [HE.out]; decide))
      rw [HV.out, HE.out]
      unfold FoundPost at hF
      generalize idx L name = ii at hF h2
      clear h hs hn hE h1 h2 hi
      go_enter Tryz.func73, Tryz.ntmps73
      go_wp2_with (go_at_call 106; (with_reducible refine Calls.mono (hF.out _) ?_); rintro e w1 ⟨v, rfl, hO, hB⟩; clear hO)
      go_returns
      exact ⟨rfl, hB⟩
  · have hF := Lib.hid (fun W => found_bad s name D W hs hn h hE)
    by_cases hE2 : findEo D name = 112
    · cases D with
      | none => exact absurd hE2 (by show ¬ (110 : Int) = 112; decide)
      | some L =>
        have h1 : nameP name := by
          by_cases h1 : nameP name
          · exact h1
          · exact absurd hE2 (by show ¬ findE L name = 112; unfold findE; simp [h1])
        have h2 : ¬ idx L name < L.length := fun h2 => hE (find_zero.2 ⟨h1, h2⟩)
        rw [hE2] at hF
        by_cases h0 : ino = 0
        · have HE : Hid (addEo (some L) name ino = 110) := by unfold Hid addEo addE; simp [h1, h2, h0]
          have HV := Lib.hid (addVo_not (D := some L) (s := name) (i := ino) (by rw [HE.out]; decide))
          rw [HV.out, HE.out]
          have q0 : ((ino : Int) == 0) = true := by simp [h0]
          clear h hs hn hE hE2 h1 h2 hi h0
          go_enter Tryz.func73, Tryz.ntmps73
          go_wp2_with (go_at_call 106; (with_reducible refine Calls.mono (hF.out _) ?_); rintro e w1 ⟨⟨v, rfl⟩, hB⟩)
          go_returns
          exact ⟨rfl, hB⟩
        · have q0 : ((ino : Int) == 0) = false := beq_eq_false_iff_ne.2 (by omega)
          have hnz := h1.2.1
          have hsz := h.2.2
          have hes : (bytesL [(⟨name, ino⟩ : N)]).size = 6 + name.size := by rw [bytesL_one, ent_size]
          have hBy := Lib.hid (fun W v (hh : Nms W v [(⟨name, ino⟩ : N)]) => bytes_any v [⟨name, ino⟩] W hh (by rw [hes]; omega) (fun i hi2 => by
            obtain rfl : i = 0 := by simpa using hi2
            exact hi))
          have hap : bytesL (L ++ [(⟨name, ino⟩ : N)]) = s ++ bytesL [(⟨name, ino⟩ : N)] := by rw [bytesL_app, h.2.1]
          obtain ⟨B, hB0⟩ : ∃ B, bytesL [(⟨name, ino⟩ : N)] = B := ⟨_, rfl⟩
          rw [hB0] at hBy hap hes
          have hadd := fun W => run_string_add_sum (P := Tryz.prog) (w := W) s B (by omega)
          have hsz2 : (s ++ B).size = s.size + 6 + name.size := by rw [ByteArray.size_append]; omega
          have HO : Hid (∀ W : World, Nms (W.alloc (.cells #[.string name, .int .u32 (ino : Int)] 52)) (.slice (some ⟨W.heap.size, 0, none⟩) 1 1) [(⟨name, ino⟩ : N)]) := fun W => Nms.one (e := ⟨name, ino⟩) (World.alloc_heap_new W _)
          by_cases h4 : 20000 < s.size + 6 + name.size
          · have HE : Hid (addEo (some L) name ino = 114) := by
              have hbs : bytesL L = s := h.2.1
              show addE L name ino = 114
              unfold addE
              rw [hbs]
              simp [h1, h2, h0, h4]
            have HV := Lib.hid (addVo_not (D := some L) (s := name) (i := ino) (by rw [HE.out]; decide))
            rw [HV.out, HE.out]
            have q4 : (20000 : Int) < ((s ++ B).size : Int) := by omega
            obtain ⟨SB, hSB⟩ : ∃ SB, s ++ B = SB := ⟨_, rfl⟩
            simp only [hSB] at hadd q4
            clear h hs hn hE hE2 h1 h2 hi h0 h4 hsz hnz hes hap hB0 hsz2 hSB
            go_enter Tryz.func73, Tryz.ntmps73
            go_wp2_with (first
              | (go_at_call 106; (with_reducible refine Calls.mono (hF.out _) ?_); rintro e w1 ⟨⟨v, rfl⟩, hB⟩)
              | (go_at_call 107; (with_reducible refine Calls.mono (hBy.out _ _ (HO.out _)) ?_); rintro e w2 ⟨rfl, hB2⟩))
            go_returns
            exact ⟨rfl, below_th (below_al hB _) hB2⟩
          · have hz : addE L name ino = 0 := add_zero.2 ⟨h1, by have := idx_le L name; omega, h0, by rw [h.2.1]; omega⟩
            have HV : Hid (addVo (some L) name ino = s ++ B) := by unfold Hid; rw [← hap]; exact addV_zero hz
            have HE : Hid (addEo (some L) name ino = 0) := hz
            rw [HV.out, HE.out]
            have q4 : ¬ (20000 : Int) < ((s ++ B).size : Int) := by omega
            obtain ⟨SB, hSB⟩ : ∃ SB, s ++ B = SB := ⟨_, rfl⟩
            simp only [hSB] at hadd q4
            rw [hSB]
            clear h hs hn hE hE2 h1 h2 hi h0 h4 hsz hnz hes hap hB0 hsz2 hSB hz
            go_enter Tryz.func73, Tryz.ntmps73
            go_wp2_with (first
              | (go_at_call 106; (with_reducible refine Calls.mono (hF.out _) ?_); rintro e w1 ⟨⟨v, rfl⟩, hB⟩)
              | (go_at_call 107; (with_reducible refine Calls.mono (hBy.out _ _ (HO.out _)) ?_); rintro e w2 ⟨rfl, hB2⟩))
            go_returns
            exact ⟨rfl, below_th (below_al hB _) hB2⟩
    · have HE : Hid (addEo D name ino = findEo D name) := by
        unfold Hid
        cases D with
        | none => rfl
        | some L =>
          show addE L name ino = findE L name
          have k1 : ¬ findE L name = 0 := hE
          have k2 : ¬ findE L name = 112 := hE2
          unfold findE at k1 k2 ⊢
          unfold addE
          by_cases h1 : nameP name
          · by_cases h2 : idx L name < L.length
            · simp [h1, h2] at k1
            · simp [h1, h2] at k2
          · simp [h1]
      have HV := Lib.hid (addVo_not (D := D) (s := name) (i := ino) (by rw [HE.out]; exact hE))
      rw [HV.out, HE.out]
      obtain ⟨E, hEE⟩ : ∃ E, findEo D name = E := ⟨_, rfl⟩
      rw [hEE] at hE hE2 hF ⊢
      have hne : (E == 0) = false := beq_eq_false_iff_ne.2 hE
      have hne2 : (E != 112) = true := bne_iff_ne.2 hE2
      clear h hs hn hE hE2 hEE hi
      go_enter Tryz.func73, Tryz.ntmps73
      go_wp2_with (go_at_call 106; (with_reducible refine Calls.mono (hF.out _) ?_); rintro e w1 ⟨⟨v, rfl⟩, hB⟩)
      go_returns
      exact ⟨rfl, hB⟩
end
end Go.Proofs.YtkipkcmcolomcaaGreat.Dir.R
