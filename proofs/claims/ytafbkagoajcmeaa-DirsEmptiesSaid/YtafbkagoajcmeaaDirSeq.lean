/- The iterator of the program's package dirs hands out the names that are read, one behind the other. -/
import Derived.RangeFuncBound
import Derived.RangeFuncCalls
import Derived.RangeFuncLeaves
import Derived.OwnWalkIn
import Derived.TacticsInMore
import Derived.LoopNIn
import Derived.LoopIn
import Derived.Test.YtafbkagoajcmeaaBagSeq
import Derived.Test.YtafbkagoajcmeaaDirEnt
namespace Go.Proofs.Ytafbkagoajcmeaa.Dir
open Go.RowKit
attribute [local go_sem] Oper.semAt_some
set_option linter.unusedVariables false
set_option linter.unusedSimpArgs false

theorem grown_of_below {W W' : World} (h : Below W.heap.size W W') : W.grownBy W' none := ⟨h.1, h.2, h.3, h.4, fun k hk _ => h.5 k hk⟩
/-- entries and texts that lie somewhere stay as they are -/
def KeepE (W W' : World) : Prop := W.heap.size ≤ W'.heap.size ∧ ∀ (b : Nat) (c : Array Value) (t : TypeId) (f : Nat × Nat), (t = 46 ∨ t = 9) → W.heap[b]? = some (.cells c t f) → W'.heap[b]? = some (.cells c t f)
theorem KeepE.refl (W : World) : KeepE W W := ⟨Nat.le_refl _, fun _ _ _ _ _ h => h⟩
theorem keepE_t {A B C : World} (h : KeepE A B) (k : KeepE B C) : KeepE A C := ⟨Nat.le_trans h.1 k.1, fun b c t f ht hb => k.2 b c t f ht (h.2 b c t f ht hb)⟩
theorem KeepE.of_below {W W' : World} (h : Below W.heap.size W W') : KeepE W W' := ⟨h.size, fun b c t f _ hb => (h.block b (Array.getElem?_eq_some_iff.1 hb).1).trans hb⟩
theorem keepE_b {w : World} (W : World) (l : Nat) (o o' : Obj) (_ : w.heap.size ≤ l) (hl : W.heap[l]? = some o) (hc : o.isCells = false) (_ : o.isWalk = false) : KeepE W (W.putObj l o') :=
  ⟨by simp [World.putObj], fun b c t f _ hb => by
    by_cases h : b = l
    · subst h
      rw [hl] at hb
      cases hb
      cases hc
    · exact (World.putObj_heap_other h).trans hb⟩
theorem AtT.keep {W W' : World} {b : Nat} {t : Et} (h : AtT W b t) (hk : KeepE W W') : AtT W' b t := hk.2 _ _ _ _ (.inl rfl) h
/-- a text's box -/
def AtS (W : World) (b : Nat) (s : ByteArray) : Prop := W.heap[b]? = some (.cells #[.string s] 9 (0, 0))
theorem AtS.new (w : World) (s : ByteArray) : AtS (w.alloc (.cells #[.string s] 9)) w.heap.size s := World.alloc_heap_new w _
theorem AtS.c {W : World} {b : Nat} {s : ByteArray} (h : AtS W b s) : W.cell? ⟨b, 0, none⟩ = some (.string s) := by
  unfold AtS at h
  simp only [World.cell?, h]
  rfl
theorem AtS.keep {W W' : World} {b : Nat} {s : ByteArray} (h : AtS W b s) (hk : KeepE W W') : AtS W' b s := hk.2 _ _ _ _ (.inr rfl) h
theorem AtS.lt {W : World} {b : Nat} {s : ByteArray} (h : AtS W b s) : b < W.heap.size := (Array.getElem?_eq_some_iff.1 h).1
theorem AtS.th {W W' : World} {b : Nat} {s : ByteArray} (h : AtS W b s) (hB : Below W.heap.size W W') : AtS W' b s := (hB.block b h.lt).trans h
/-- what the k-th round is handed -/
def etAt (P : List N) (k : Nat) : Et := ⟨(nm P k).name, (nm P k).ino, pos P k, pos P (k + 1)⟩
def encT (P : List N) (k : Nat) : Array Value := #[(etAt P k).val]
theorem Run.et {s : ByteArray} {P : List N} (h : Run s P) {k : Nat} (hk : k < P.length) : etV s (pos P k) = etAt P k ∧ decide (good s (pos P k)) = true := by
  obtain ⟨h1, h2⟩ := h.at_ k hk
  refine ⟨?_, decide_eq_true h1⟩
  rw [etV_yes h1, h2]
  unfold etOf etAt
  rw [pos_succ hk]
theorem Run.end_ {s : ByteArray} {P : List N} (h : Run s P) (hlt : pos P P.length < s.size) : etV s (pos P P.length) = Et.zero ∧ decide (good s (pos P P.length)) = false :=
  ⟨etV_no (h.stop hlt), decide_eq_false (h.stop hlt)⟩
section
set_option maxRecDepth 100000
set_option maxHeartbeats 4000000
theorem entries1_in (n : Nat) (hn : 1 ≤ n) (l Bs : Nat) (s : ByteArray) (P : List N) (hR : Run s P) (hs : s.size ≤ 281474976710656) (J Jx : Nat → World → Prop) (B0 : Nat) (hJ : AbidesFrom B0 J)
    (hY : ∀ k W, J k W → k < P.length → YieldAt Fence.wide (n - 1) Try.prog l (encT P k) W fun e W' => (e = .returned (.bool true) ∧ J (k + 1) W' ∧ KeepE W W') ∨ (e = .returned (.bool false) ∧ Jx k W'))
    (W : World) (hS : AtS W Bs s) (h0 : J 0 W) :
    CallsIn Fence.wide n Try.prog 40 #[.func (.yield l) #[] #[], .pointer (some ⟨Bs, 0, none⟩)] W fun e W' => (∃ v, e = .returned v) ∧ (J P.length W' ∨ ∃ k, k < P.length ∧ Jx k W') := by
  have hfn : ∀ f, Fence.wide.fn f := fun _ => trivial
  have hJa : ∀ k W1 W2, J k W1 → Below W1.heap.size W1 W2 → J k W2 := fun k W1 W2 h hB => hJ _ _ _ none h (grown_of_below hB) (fun r e => by cases e)
  have HA := Lib.hid hJa
  have HY := Lib.hid hY
  have HR := Lib.hid hR
  have HE := Lib.hid (fun (a : Nat) W (ha : a ≤ s.size) => entryAt_any s a W hs ha)
  unfold Ans at HE
  clear hJa hY hJ hR
  refine callsIn_of_wp Try.func40 rfl trivial ?_ rfl
  simp only [Try.ntmps40, List.size_toArray, List.length_cons, List.length_nil, Nat.reduceAdd, Nat.reduceSub, Array.replicate_succ, Array.replicate_zero, List.push_toArray, List.append_toArray, List.nil_append, List.cons_append]
  gi_wp2
  gi_loopw [3, 4, 5] (fun i _ _ wr => ∃ k : Nat, k ≤ P.length ∧ i = .int .i64 (pos P k : Nat) ∧ J k wr ∧ Hid (AtS wr Bs s)) (fun i _ _ _ => s.size - (intOf i).toNat)
  case atStart => exact ⟨0, by omega, rfl, h0, hS⟩
  case round =>
    obtain ⟨k, hkN, rfl, hJk, HS⟩ := hrel
    have hbx := HS.out.c
    by_cases hltk : k < P.length
    · obtain ⟨l1, l2⟩ := HR.out.lt hltk
      obtain ⟨e1, e2⟩ := HR.out.et hltk
      have hp2 := pos_succ hltk
      have hE := HE.out (pos P k) wr (by omega)
      rw [e1, e2] at hE
      have hYk := fun W h => HY.out k W h hltk
      unfold encT at hYk
      obtain ⟨t, ht⟩ : ∃ t, etAt P k = t := ⟨_, rfl⟩
      have ht3 : t.b = pos P (k + 1) := by rw [← ht]; rfl
      simp only [ht] at hYk hE
      have HYK := Lib.hid hYk
      obtain ⟨p, hp⟩ : ∃ p, pos P k = p := ⟨_, rfl⟩
      rw [hp] at hE l1 hp2 ⊢
      have hlt2 : (p : Int) < (s.size : Int) := by omega
      have HL : Hid (p < t.b ∧ t.b ≤ s.size) := by
        unfold Hid
        rw [ht3]
        omega
      have HT := Lib.hid ht3
      clear e1 e2 hp2 ht hYk l2 ht3
      obtain ⟨x0, x1, x2, x3⟩ := t
      unfold Et.val at hE HYK
      dsimp only at hE HYK HL HT
      have HEE := Lib.hid hE
      have hA2 : ∀ w1, Below wr.heap.size wr w1 → J k (w1.alloc (boxT ⟨x0, x1, x2, x3⟩)) ∧ AtS (w1.alloc (boxT ⟨x0, x1, x2, x3⟩)) Bs s := fun w1 hB => ⟨HA.out _ _ _ (HA.out _ _ _ hJk hB) (below_new _ _), (HS.out.th hB).th (below_new _ _)⟩
      have HA2 := Lib.hid hA2
      have HN2 := Lib.hid (fun w1 => AtT.new w1 ⟨x0, x1, x2, x3⟩)
      unfold boxT at HA2 HN2
      dsimp only at HA2 HN2
      clear hE hA2
      gi_wp2_with (gi_at_call 41; refine (callsIn_wide.2 HEE.out).mono ?_; rintro e w1 ⟨rfl, hB1⟩; obtain ⟨y1, y2⟩ := HA2.out _ hB1; obtain ⟨fn, tmps, assign, body, hy, hR⟩ := HYK.out _ y1; have HNN := Lib.hid (HN2.out w1); have HY2 := Lib.hid y2; clear y1 y2)
      refine hR.mono ?_
      rintro e W3 (⟨rfl, hJ3, hk3⟩ | ⟨rfl, hJx3⟩)
      · have hb3 := HNN.out.keep hk3
        have HS3 := Lib.hid (HY2.out.keep hk3)
        obtain ⟨c0, c1, c2, c3⟩ := hb3.c
        dsimp only at c0 c1 c2 c3
        gi_wp2
        go_roundw
        case rel => exact ⟨k + 1, by omega, by rw [← HT.out], hJ3, HS3⟩
        case measure => have := HL.out; simp [intOf]; omega
      · gi_wp2
        refine bodyPost_ret (results_none rfl _ _ _) rfl ?_
        exact ⟨⟨_, rfl⟩, .inr ⟨k, hltk, hJx3⟩⟩
    · obtain rfl : k = P.length := by omega
      have hle := HR.out.le
      by_cases hlt : pos P P.length < s.size
      · obtain ⟨e1, e2⟩ := HR.out.end_ hlt
        have hE := HE.out (pos P P.length) wr (by omega)
        rw [e1, e2] at hE
        obtain ⟨p, hp⟩ : ∃ p, pos P P.length = p := ⟨_, rfl⟩
        rw [hp] at hE hlt ⊢
        have hlt2 : (p : Int) < (s.size : Int) := by omega
        have HEE := Lib.hid hE
        unfold Et.val Et.zero at HEE
        have HA2 : Hid (∀ w1 o, Below wr.heap.size wr w1 → J P.length (w1.alloc o)) := fun w1 o hB => HA.out _ _ _ (HA.out _ _ _ hJk hB) (below_new _ _)
        clear hE e1 e2 hle hp
        gi_wp2_with (gi_at_call 41; refine (callsIn_wide.2 HEE.out).mono ?_; rintro e w1 ⟨rfl, hB1⟩)
        refine bodyPost_ret (results_none rfl _ _ _) rfl ?_
        exact ⟨⟨_, rfl⟩, .inl (HA2.out _ _ hB1)⟩
      · have hge : ¬ ((pos P P.length : Nat) : Int) < (s.size : Int) := by omega
        obtain ⟨p, hp⟩ : ∃ p, pos P P.length = p := ⟨_, rfl⟩
        rw [hp] at hge ⊢
        gi_wp2
        go_end0
        exact ⟨⟨_, rfl⟩, .inl hJk⟩
theorem entries_in (n : Nat) (s : ByteArray) (w : World) :
    CallsIn Fence.wide n Try.prog 26 #[.string s] w fun e w' => e = .returned (.func (.func 40) #[] #[.pointer (some ⟨w.heap.size, 0, none⟩)]) ∧ w.alloc (.cells #[.string s] 9) = w' := by
  refine callsIn_of_wp Try.func26 rfl trivial ?_ rfl
  simp only [Try.ntmps26, List.size_toArray, List.length_cons, List.length_nil, Nat.reduceAdd, Nat.reduceSub, Array.replicate_succ, Array.replicate_zero, List.push_toArray, List.append_toArray, List.nil_append, List.cons_append]
  gi_wp2
  go_ret
  exact ⟨rfl, rfl⟩
theorem entries_steps (Bs : Nat) (s : ByteArray) (P : List N) (hR : Run s P) (hs : s.size ≤ 281474976710656) (w : World) (hS : AtS w Bs s) : SeqSteps Fence.wide 8 Try.prog 40 #[.pointer (some ⟨Bs, 0, none⟩)] (encT P) KeepE P.length w := by
  intro l J Jx W' hB' hJ _ hY h0
  exact entries1_in 8 (by decide) l Bs s P hR hs J Jx _ hJ hY W' (hS.th hB') h0
end
end Go.Proofs.Ytafbkagoajcmeaa.Dir
