/- A table without those that have a number, of the program: the iterator, and what it leaves. -/
import Derived.Test.YtoedjemelblpaaaCpsDrop
namespace Go.Proofs.Ytoedjemelblpaaa.Cps
open Go.RowKit Go.Shelf
attribute [local go_sem] Oper.semAt_some
set_option linter.unusedVariables false
set_option linter.unusedSimpArgs false

section
set_option maxRecDepth 100000
set_option maxHeartbeats 4000000
theorem delout1_in (n : Nat) (hn : 1 ≤ n) (l Bl Bd q1 : Nat) (D : C → Bool) (v : Value) (L : List C) (w : World) (J Jx : Nat → World → Prop) (B0 : Nat) (hJ : AbidesFrom B0 J)
    (hY : ∀ k W, J k W → k < (L.filter (fun c => !D c)).length → YieldAt Fence.wide (n - 1) Try.prog l (encL (L.filter (fun c => !D c)) k) W fun e W' => (e = .returned (.bool true) ∧ J (k + 1) W' ∧ Kept w.heap.size W W') ∨ (e = .returned (.bool false) ∧ Jx k W'))
    (hD : ∀ c W, Kept w.heap.size w W → Calls Try.prog 43 #[c.val, .pointer (some ⟨q1, 0, none⟩)] W (Ans W (.bool (D c))))
    (W : World) (hk : Kept w.heap.size w W) (hbl : w.cell? ⟨Bl, 0, none⟩ = some v) (hbd : w.cell? ⟨Bd, 0, none⟩ = some (.func (.func 43) #[] #[.pointer (some ⟨q1, 0, none⟩)])) (hL : Chs w v L) (h0 : J 0 W) :
    CallsIn Fence.wide n Try.prog 61 #[.func (.yield l) #[] #[], .pointer (some ⟨Bl, 0, none⟩), .pointer (some ⟨Bd, 0, none⟩)] W fun e W' => (∃ v, e = .returned v) ∧ (J (L.filter (fun c => !D c)).length W' ∨ ∃ k, k < (L.filter (fun c => !D c)).length ∧ Jx k W') := by
  have hfn : ∀ f, Fence.wide.fn f := fun _ => trivial
  have hJa : ∀ k W1 W2, J k W1 → Below W1.heap.size W1 W2 → J k W2 := fun k W1 W2 h hB => hJ _ _ _ none h (grown_of_below hB) (fun r e => by cases e)
  have HA := Lib.hid hJa
  have HD := Lib.hid hD
  have HL := Lib.hid (fun W' (h : Kept w.heap.size w W') => hL.kept h)
  have HBD := Lib.hid (fun W' (h : Kept w.heap.size w W') => h.cell_some hbd)
  have hbW := hk.cell_some hbl
  have HY := Lib.hid hY
  have HSU := Lib.hid (fun k (h : k < L.length) => filt_snoc (fun c => !D c) h)
  have HAT := Lib.hid (fun k (h : k < L.length) (hp : (!D (ck L k)) = true) => filt_at (fun c => !D c) h hp)
  have HALL : Hid ((L.take L.length).filter (fun c => !D c) = L.filter (fun c => !D c)) := filt_all _ (Nat.le_refl _)
  obtain ⟨a, cap, rfl, hcap1, hcap2⟩ := hL.parts
  obtain ⟨N, hN⟩ : ∃ N, L.length = N := ⟨_, rfl⟩
  obtain ⟨M, hM⟩ : ∃ M, L.filter (fun c => !D c) = M := ⟨_, rfl⟩
  obtain ⟨F, hF⟩ : ∃ F : Nat → List C, (fun k => (L.take k).filter (fun c => !D c)) = F := ⟨_, rfl⟩
  have hF' : ∀ k, (L.take k).filter (fun c => !D c) = F k := fun k => congrFun hF k
  have HF0 : Hid (F 0 = []) := by unfold Hid; rw [← hF']; rfl
  simp only [hN, hM, hF'] at HY HL HSU HAT HALL hcap1 hbW ⊢
  have HN := Lib.hid hN
  clear hJa hY hJ hL hbl hbd hD hN hM hF hF'
  refine callsIn_of_wp Try.func61 rfl trivial ?_ rfl
  simp only [Try.ntmps61, List.size_toArray, List.length_cons, List.length_nil, Nat.reduceAdd, Nat.reduceSub, Array.replicate_succ, Array.replicate_zero, List.push_toArray, List.append_toArray, List.nil_append, List.cons_append]
  gi_wp2
  gi_loopw [5, 8] (fun _ i wr => ∃ k : Nat, k ≤ N ∧ i = .int .i64 (k : Int) ∧ J (F k).length wr ∧ Kept w.heap.size w wr) (fun _ i _ => N - (intOf i).toNat)
  case atStart => exact ⟨0, by omega, rfl, by rw [HF0.out]; exact h0, hk⟩
  case round =>
    obtain ⟨k, hkN, rfl, hJk, hS⟩ := hrel
    by_cases hltk : k < N
    · obtain ⟨b, off, cap2, e2, c0, c1, c2, c3⟩ := (HL.out _ hS).at (k := k) (by rw [HN.out]; exact hltk)
      rw [HN.out] at e2
      cases e2
      have hAt := At.new wr (ck L k)
      have hB1 := below_new wr (boxO (ck L k))
      have hJ1 : ∀ W', Below (wr.alloc (boxO (ck L k))).heap.size (wr.alloc (boxO (ck L k))) W' → J (F k).length W' := fun W' h => HA.out _ _ _ hJk (below_th hB1 h)
      have hS1 : ∀ W', Below (wr.alloc (boxO (ck L k))).heap.size (wr.alloc (boxO (ck L k))) W' → Kept w.heap.size w W' := fun W' h => hS.trans (Kept.below (below_th hB1 h) hS.2)
      have hX : ∀ W', Below (wr.alloc (boxO (ck L k))).heap.size (wr.alloc (boxO (ck L k))) W' → _ := fun W' h => (hAt.th h).c
      have hd := HD.out (ck L k) _ (hS1 _ (Below.refl _ _))
      have q0 := HBD.out _ (hS1 _ (Below.refl _ _))
      have hsu := HSU.out k hltk
      have hat := HAT.out k hltk
      have hyy := fun W' h hlt => HY.out (F k).length W' (hJ1 W' h) hlt
      unfold encL at hyy
      obtain ⟨d0, d1, d2, d3⟩ := hAt.c
      obtain ⟨s, hs⟩ : ∃ s, ck L k = s := ⟨_, rfl⟩
      rw [hs] at c0 c1 c2 c3 d0 d1 d2 d3 hd q0 hsu hJ1 hS1 hX hyy
      rw [hs] at hat
      have HJ1 := Lib.hid hJ1
      have HS1 := Lib.hid hS1
      have HX := Lib.hid hX
      cases hds : D s with
      | true =>
        rw [hds] at hd hsu
        simp only [Bool.not_true, Bool.false_eq_true, if_false, List.append_nil] at hsu
        have HSU1 := Lib.hid hsu
        have HDD := Lib.hid hd
        clear hd hsu hat hs hAt hJk hS hB1 hJ1 hS1 hX hyy hds
        obtain ⟨ncp, ti, sn, ro⟩ := s
        unfold boxO at HJ1 HS1 HX HDD d0 d1 d2 d3 q0
        unfold C.val at HDD
        dsimp only at c0 c1 c2 c3 HJ1 HS1 HX HDD d0 d1 d2 d3 q0
        gi_wp2_with (gi_at_call 43; refine (callsIn_wide.2 HDD.out).mono ?_; rintro e w1 ⟨rfl, hB1⟩)
        go_roundw
        case rel => exact ⟨k + 1, by omega, by go_num, by rw [HSU1.out]; exact HJ1.out _ hB1, HS1.out _ hB1⟩
        case measure => simp [intOf]; omega
      | false =>
        rw [hds] at hd hsu hat
        simp only [Bool.not_false, if_true] at hsu
        obtain ⟨hat1, hat2⟩ := hat rfl
        simp only [hat1] at hyy
        have hyy2 := fun W' h => hyy W' h hat2
        have HYY := Lib.hid hyy2
        have HLEN : Hid ((F (k + 1)).length = (F k).length + 1) := by unfold Hid; rw [hsu]; simp
        have HDD := Lib.hid hd
        have HAT2 := Lib.hid hat2
        clear hd hsu hat hat1 hat2 hs hAt hJk hS hB1 hJ1 hS1 hX hyy hyy2 hds
        obtain ⟨ncp, ti, sn, ro⟩ := s
        unfold boxO at HJ1 HS1 HX HDD HYY d0 d1 d2 d3 q0
        unfold C.val at HDD HYY
        dsimp only at c0 c1 c2 c3 HJ1 HS1 HX HDD HYY d0 d1 d2 d3 q0
        gi_wp2_with (gi_at_call 43; refine (callsIn_wide.2 HDD.out).mono ?_; rintro e w1 ⟨rfl, hB1⟩; obtain ⟨e0, e1, e2, e3⟩ := HX.out _ hB1; obtain ⟨fn, tmps, assign, body, hy, hR⟩ := HYY.out _ hB1)
        refine hR.mono ?_
        rintro e W3 (⟨rfl, hJ3, hk3⟩ | ⟨rfl, hJx3⟩)
        · gi_wp2
          go_roundw
          case rel => exact ⟨k + 1, by omega, by go_num, by rw [HLEN.out]; exact hJ3, (HS1.out _ hB1).trans hk3⟩
          case measure => simp [intOf]; omega
        · gi_wp2
          refine bodyPost_ret (results_none rfl _ _ _) rfl ?_
          exact ⟨⟨_, rfl⟩, .inr ⟨_, HAT2.out, hJx3⟩⟩
    · obtain rfl : N = k := by omega
      rw [HALL.out] at hJk
      gi_wp2
      go_end0
      exact ⟨⟨_, rfl⟩, .inl hJk⟩
theorem delout_any (v : Value) (L : List C) (D : C → Bool) (q1 : Nat) (w : World) (hL : Chs w v L) (h8 : L.length ≤ 1000) (hr : ∀ c ∈ L, c.root.size ≤ 281474976710656)
    (hD : ∀ c W, Kept w.heap.size w W → Calls Try.prog 43 #[c.val, .pointer (some ⟨q1, 0, none⟩)] W (Ans W (.bool (D c)))) :
    Calls Try.prog 42 #[v, .func (.func 43) #[] #[.pointer (some ⟨q1, 0, none⟩)]] w fun e w' => ∃ v', e = .returned v' ∧ Chs w' v' (L.filter (fun c => !D c)) ∧ Below w.heap.size w w' := by
  obtain ⟨a, cap, rfl, hn, hm⟩ := hL.parts
  obtain ⟨W1, hW1⟩ : ∃ W1, (w.alloc (.cells #[.slice a L.length cap] 22)).alloc (.cells #[.func (.func 43) #[] #[.pointer (some ⟨q1, 0, none⟩)]] 63) = W1 := ⟨_, rfl⟩
  have hB1 : Below w.heap.size w W1 := by rw [← hW1]; exact below_al (below_new _ _) _
  have b1 : CellAt W1 w.heap.size 22 (.slice a L.length cap) := by
    rw [← hW1]
    exact (CellAt.new w _ _).of_heap (Below.heap_alloc _ _ _ (by simp))
  have b2 : CellAt W1 (w.heap.size + 1) 63 (.func (.func 43) #[] #[.pointer (some ⟨q1, 0, none⟩)]) := by
    rw [← hW1]
    have := CellAt.new (w.alloc (.cells #[.slice a L.length cap] 22)) 63 (.func (.func 43) #[] #[.pointer (some ⟨q1, 0, none⟩)])
    rwa [World.size_alloc] at this
  have hD1 : ∀ c W, Kept W1.heap.size W1 W → Calls Try.prog 43 #[c.val, .pointer (some ⟨q1, 0, none⟩)] W (Ans W (.bool (D c))) := fun c W hk => hD c W ((Kept.below hB1 (Nat.le_refl _)).trans ⟨fun b hb => hk.1 b (by have := hB1.size; omega), hk.2⟩)
  have hT := tableOf_any 61 #[.pointer (some ⟨w.heap.size, 0, none⟩), .pointer (some ⟨w.heap.size + 1, 0, none⟩)] (L.filter (fun c => !D c)) W1 (Nat.le_trans (filt_le _ _) h8) (fun c hc => hr c ((List.mem_filter.1 hc).1)) (enters_of Try.func61 (by kernel_rfl) rfl)
    (fun W0 hB l J Jx W' hB' hJ _ hY h0 => delout1_in 8 (by decide) l w.heap.size (w.heap.size + 1) q1 D _ L W1 J Jx _ hJ hY hD1 W' (Kept.below (below_th hB hB') (Nat.le_refl _)) b1.c b2.c (hL.below hB1) h0)
  have HT := Lib.hid hT
  have HB1 := Lib.hid hB1
  obtain ⟨M, hM⟩ : ∃ M, L.filter (fun c => !D c) = M := ⟨_, rfl⟩
  rw [hM] at HT ⊢
  obtain ⟨N, hN⟩ : ∃ N, L.length = N := ⟨_, rfl⟩
  rw [hN] at hW1 hn ⊢
  subst hW1
  clear hT hB1 b1 b2 hD1 hD hL hr h8 hN hM
  go_enter Try.func42, Try.ntmps42
  go_wp2_with (go_at_call 36; (with_reducible refine Calls.mono HT.out ?_); rintro e w2 ⟨v2, rfl, hown, hB2⟩; have HO := Lib.hid (Chs.own hown); clear hown)
  go_ret
  exact ⟨_, rfl, HO.out, below_th HB1.out hB2⟩
end
end Go.Proofs.Ytoedjemelblpaaa.Cps
