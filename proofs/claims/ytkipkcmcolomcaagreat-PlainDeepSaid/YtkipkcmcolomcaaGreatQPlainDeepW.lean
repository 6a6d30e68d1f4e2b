/- PlainDeep, walked. -/
import Derived.BigQuiet
import Derived.Lib.Strings
import Derived.Deep.DeepCutAuto
import Derived.Test.YtkipkcmcolomcaaGreatPk36
namespace Go.Proofs.YtkipkcmcolomcaaGreat.Pln
open Go.RowKit
open Pth (slash)
attribute [local go_sem] Oper.semAt_some
set_option linter.unusedVariables false
set_option linter.unusedSimpArgs false
/-- texts -/
def Txts (w : World) (v : Value) (L : List ByteArray) : Prop := Lies w v L.length 1 (L.map .string)
theorem Txts.below {w w' : World} {v : Value} {L : List ByteArray} (h : Txts w v L) (hB : Below w.heap.size w w') : Txts w' v L := Lies.below h hB
theorem Txts.parts {w : World} {v : Value} {L : List ByteArray} (h : Txts w v L) : ∃ a cap, v = .slice a L.length cap ∧ L.length ≤ cap ∧ cap ≤ 9223372036854775807 := by
  obtain ⟨a, cap, e, _, h1, h2⟩ := Lies.parts h
  exact ⟨a, cap, e, h1, h2⟩
theorem Txts.at {w : World} {v : Value} {L : List ByteArray} (h : Txts w v L) {k : Nat} (hk : k < L.length) :
    ∃ b off cap, v = .slice (some ⟨b, off, none⟩) L.length cap ∧ w.cell? ⟨b, off + k, none⟩ = some (.string (L.getD k ⟨#[]⟩)) := by
  obtain ⟨a, cap, rfl, _, _, _, h5⟩ := h
  obtain ⟨b, off, rfl, hc⟩ := h5 (by omega)
  refine ⟨b, off, cap, rfl, hc k _ ?_⟩
  rw [List.getElem?_map, List.getD_eq_getElem?_getD, List.getElem?_eq_getElem hk]
  rfl
theorem Txts.get {w : World} {b off n cap : Nat} {L : List ByteArray} (hn : L.length = n) (h : Txts w (.slice (some ⟨b, off, none⟩) n cap) L) {k : Nat} (hk : k < n) : w.cell? ⟨b, off + k, none⟩ = some (.string (L.getD k ⟨#[]⟩)) := by
  obtain ⟨b2, off2, cap2, e, h1⟩ := h.at (hn ▸ hk)
  cases e
  exact h1
theorem Txts.cut {w : World} {a : Option Addr} {n cap : Nat} {L : List ByteArray} (h : Txts w (.slice a n cap) L) (m : Nat) (hm : m ≤ L.length) : Txts w (.slice a m cap) (L.take m) := by
  obtain ⟨a1, cap1, e, h2, h3, h4, h5⟩ := h
  cases e
  have hl : (L.take m).length = m := by rw [List.length_take]; omega
  refine ⟨a, cap, by rw [hl], by omega, h3, by rw [List.length_map]; omega, fun hn => ?_⟩
  obtain ⟨b, off, e2, hc⟩ := h5 (by omega)
  refine ⟨b, off, e2, fun j u hj => hc j u ?_⟩
  rw [List.map_take, List.getElem?_take] at hj
  split at hj
  · exact hj
  · cases hj
/-- the path of what was made is short -/
theorem mk_size {l : List Nd} {p : ByteArray} {now : Nat} (h : (doR l (mkC p 0) now).code = 0) : p.size ≤ 1000 := by
  refine Classical.byContradiction fun hp => ?_
  by_cases hr : RightL l
  · obtain ⟨D, hD⟩ := hr
    rw [doR_right hD] at h
    by_cases hn : 281474976710656 ≤ now
    · rw [show outD l D (mkC p 0) now = asIs l D 2 from do_late hn] at h
      exact absurd h (by show ¬ (2 : Int) = 0; decide)
    · have hs : Pth.splitD p = none := if_neg (fun e => hp e.1)
      have hg : goD l D (mkC p 0).path (folB (mkC p 0)) = .error 120 := by
        unfold goD
        show (match Pth.splitD p with | none => _ | some x => _) = _
        rw [hs]
      rw [show outD l D (mkC p 0) now = asIs l D 120 from do_lost (by omega) (by unfold fitsP mkC; simp) hg] at h
      exact absurd h (by show ¬ (120 : Int) = 0; decide)
  · rw [doR_wrong hr] at h
    exact absurd h (by show ¬ (139 : Int) = 0; decide)
theorem deep_small {L : List ByteArray} {now k : Nat} (h : deepOk L now k) : (deepP L k).size ≤ 1000 := by
  cases k with
  | zero => exact Nat.zero_le _
  | succ k => exact mk_size (h k (by omega))
section
set_option maxRecDepth 100000
set_option maxHeartbeats 8000000
theorem deep_nat (v : Value) (L0 : List ByteArray) (now : Nat) (w : World) (hL : Txts w v L0) (hz : ∀ s ∈ L0, s.size ≤ 140737488351232) (wn : now < 18446744073709551616) :
    Calls Tryz.prog 10 #[v, .int .u64 now] w (Ans w (.bool true)) := by
  obtain ⟨a0, c0, rfl, hcap1, hcap2⟩ := hL.parts
  obtain ⟨NM, hNM⟩ : ∃ n, min L0.length 12 = n := ⟨_, rfl⟩
  obtain ⟨L, hM⟩ : ∃ M, L0.take NM = M := ⟨_, rfl⟩
  have hlen : L.length = NM := by rw [← hM, List.length_take]; omega
  have hC := hL.cut NM (by omega)
  rw [hM] at hC
  have hzM : ∀ s ∈ L, s.size ≤ 140737488351232 := fun s hs => hz s (by rw [← hM] at hs; exact List.mem_of_mem_take hs)
  have hmin : min (L0.length : Int) 12 = (NM : Int) := by omega
  have h12 : NM ≤ 12 := by omega
  have hNc : NM ≤ c0 := by omega
  have HL := Lib.hid hC
  have HLN := Lib.hid hlen
  have HP : Hid (∀ k, k ≤ 12 → (deepP L k).size ≤ 1688849860263936) := fun k hk => Nat.le_trans (deepP_size L hzM k) (by have := Nat.mul_le_mul_right 140737488351233 hk; omega)
  have HG : Hid (∀ k, k < NM → (L.getD k ⟨#[]⟩).size ≤ 140737488351232) := fun k hk => by
    rw [List.getD_eq_getElem?_getD, List.getElem?_eq_getElem (by omega)]
    exact hzM _ (List.getElem_mem _)
  have HPS : Hid (∀ k, k < NM → deepOk L now k → (deepP L (k + 1)).size ≤ 281474976710656) := fun k hk hok => by
    have hg := HG.out k hk
    have hd := deep_small hok
    have hs1 : slash.size = 1 := rfl
    unfold deepP
    rw [ByteArray.size_append, ByteArray.size_append]
    omega
  have HMk : Hid (∀ k, k < NM → deepOk L now k → ∀ u W (h : Nodes W u (deepL L now k)), Calls Tryz.prog 14 #[u, (mkC (deepP L (k + 1)) 0).val, .int .u64 now] W (DoPost W (deepL L now (k + 1)) (doR (deepL L now k) (mkC (deepP L (k + 1)) 0) now))) := fun k hk hok u W h =>
    do_anyS u _ (mkC (deepP L (k + 1)) 0) now W h (ableS_right (deepL_right L now k)) (by have hz0 : none0.size = 0 := rfl; have hps := HPS.out k hk hok; unfold Cl.OkS Cl.Ok mkC; dsimp only; omega) (by show (0 : Nat) ≤ _; omega) wn
  have HSt : Hid (∀ k, k < NM → deepOk L now k → ∀ u W (h : Nodes W u (deepL L now (k + 1))), Calls Tryz.prog 14 #[u, (stC (deepP L (k + 1))).val, .int .u64 now] W (DoPost W (deepL L now (k + 1)) (doR (deepL L now (k + 1)) (stC (deepP L (k + 1))) now))) := fun k hk hok u W h => by
    have := do_anyS u _ (stC (deepP L (k + 1))) now W h (ableS_right (deepL_right L now (k + 1))) (by have hz0 : none0.size = 0 := rfl; have hps := HPS.out k hk hok; unfold Cl.OkS Cl.Ok stC; dsimp only; omega) (by show (0 : Nat) ≤ _; omega) wn
    rwa [do_asksV (c := stC (deepP L (k + 1))) (.inr (.inr (.inl rfl)))] at this
  have HRm : Hid (∀ p : ByteArray, p.size ≤ 1000 → ∀ m, RightL m → ∀ u W (h : Nodes W u m), Calls Tryz.prog 14 #[u, (rmC p).val, .int .u64 now] W (DoPost W (doV m (rmC p) now) (doR m (rmC p) now))) := fun p hps m hm u W h =>
    do_anyS u _ (rmC p) now W h (ableS_right hm) (by have hz0 : none0.size = 0 := rfl; unfold Cl.OkS Cl.Ok rmC; dsimp only; omega) (by show (0 : Nat) ≤ _; omega) wn
  have HLs : Hid (∀ m, RightL m → ∀ u W (h : Nodes W u m), Calls Tryz.prog 14 #[u, (lsC ⟨#[47]⟩).val, .int .u64 0] W (DoPost W m (doR m (lsC ⟨#[47]⟩) 0))) := fun m hm u W h => by
    have := do_anyS u _ (lsC ⟨#[47]⟩) 0 W h (ableS_right hm) (by have hz0 : none0.size = 0 := rfl; have h47 : (⟨#[47]⟩ : ByteArray).size = 1 := rfl; unfold Cl.OkS Cl.Ok lsC; dsimp only; omega) (by show (0 : Nat) ≤ _; omega) (by omega)
    rwa [do_asksV (c := lsC ⟨#[47]⟩) (.inr (.inr (.inr rfl)))] at this
  obtain ⟨n0, hn0⟩ : ∃ n, L0.length = n := ⟨_, rfl⟩
  rw [hn0] at hmin hcap1 hNM ⊢
  clear hL hz hC hzM hM hlen hn0
  go_enter Tryz.func10, Tryz.ntmps10
  go_upto_region 5 with (first
    | (go_at_call 11; (with_reducible refine Calls.mono (shown_any _) ?_); rintro e w1 ⟨rfl, hB1⟩; have HL1 := Lib.hid (HL.out.below hB1); have HB1 := Lib.hid hB1; clear hB1 HL)
    | (go_at_call 12; (with_reducible refine Calls.mono (new_any _) ?_); rintro e w2 ⟨v2, rfl, hN, hB2⟩; have HL1 := Lib.hid (HL1.out.below hB2); have HB1 := Lib.hid (below_th HB1.out hB2); have HN := Lib.hid hN; clear hB2 hN))
  have HK : Hid (∀ W', Below w2.heap.size w2 W' → Txts W' (.slice a0 NM c0) L ∧ Below w.heap.size w W') := fun W' h => ⟨HL1.out.below h, below_th HB1.out h⟩
  have hself : Below w2.heap.size w2 w2 := Below.refl _ _
  clear HL1 HB1 hmin hNM hcap1
  go_cut [8] (fun i wx => i = .int .i64 0 ∧ wx = w2)
  case first =>
    go_wp2
    go_meet
    exact ⟨rfl, rfl⟩
  case rest =>
    obtain ⟨rfl, hw⟩ := hcut
    have hw2 := hw.symm
    clear hw
    subst hw2
    go_step
    go_step
    go_cut [6, 7, 8, 9] (fun l p n i wx => ∃ k : Nat, k ≤ NM ∧ p = .string (deepP L k) ∧ n = .int .i64 (k : Int) ∧ Hid (deepOk L now k) ∧ Hid (Nodes wx l (deepL L now k)) ∧ Hid (Below w2.heap.size w2 wx))
    case first =>
      go_wp2
      go_loopw [6, 7, 8, 9] (fun l p n i wr => ∃ k : Nat, k ≤ NM ∧ i = .int .i64 (k : Int) ∧ n = .int .i64 (k : Int) ∧ p = .string (deepP L k) ∧ Hid (deepOk L now k) ∧ Hid (Nodes wr l (deepL L now k)) ∧ Hid (Below w2.heap.size w2 wr)) (fun _ _ _ i _ => NM - (intOf i).toNat)
      case atStart => exact ⟨0, by omega, rfl, rfl, rfl, fun j hj => absurd hj (by omega), HN.out, hself⟩
      case round =>
        obtain ⟨k, hk, rfl, rfl, rfl, HOk, HLk, HBw⟩ := hrel
        clear hself HN
        by_cases hlt : k < NM
        · obtain ⟨tb, tf, cp, e1, y0⟩ := (HK.out _ HBw.out).1.at (k := k) (by rw [HLN.out]; exact hlt)
          rw [HLN.out] at e1
          cases e1
          have hs1 := HP.out k (by omega)
          have hs2 := HG.out k hlt
          have HD1 := Lib.hid (HMk.out k hlt HOk.out)
          have HD2 := Lib.hid (HSt.out k hlt HOk.out)
          have e1 : deepP L (k + 1) = deepP L k ++ ⟨#[47]⟩ ++ L.getD k ⟨#[]⟩ := rfl
          have hfl := fun h => found_law (l := deepL L now k) (path := deepP L (k + 1)) (mode := 0) (now := now) h
          have hstep : (doR (deepL L now k) (mkC (deepP L (k + 1)) 0) now).code = 0 → deepOk L now (k + 1) := fun h j hj => by
            rcases Nat.lt_or_ge j k with hh | hh
            · exact HOk.out j hh
            · obtain rfl : j = k := by omega
              exact h
          rw [show doV (deepL L now k) (mkC (deepP L (k + 1)) 0) now = deepL L now (k + 1) from rfl] at hfl
          obtain ⟨q1, hq1⟩ : ∃ q, deepP L (k + 1) = q := ⟨_, rfl⟩
          have HQ := Lib.hid hq1
          rw [hq1] at HD1 HD2 hfl hstep e1
          obtain ⟨pk, hpk⟩ : ∃ q, deepP L k = q := ⟨_, rfl⟩
          have HPK := Lib.hid hpk
          rw [hpk] at e1 hs1 ⊢
          obtain ⟨xn, hx⟩ : ∃ x, L.getD k ⟨#[]⟩ = x := ⟨_, rfl⟩
          rw [hx] at e1 hs2 y0
          subst e1
          have hz1 : (pk ++ (⟨#[47]⟩ : ByteArray)).size = pk.size + 1 := ByteArray.size_append
          have ha1 := fun W => run_string_add_sum (P := Tryz.prog) (w := W) pk (⟨#[47]⟩ : ByteArray) (by show _ + (1 : Nat) ≤ _; omega)
          have ha2 := fun W => run_string_add_sum (P := Tryz.prog) (w := W) (pk ++ (⟨#[47]⟩ : ByteArray)) xn (by omega)
          generalize hr1 : doR (deepL L now k) (mkC (pk ++ ⟨#[47]⟩ ++ xn) 0) now = r1 at HD1 hfl hstep
          generalize hr2 : doR (deepL L now (k + 1)) (stC (pk ++ ⟨#[47]⟩ ++ xn)) now = r2 at HD2 hfl
          unfold Cl.val mkC none0 at HD1
          unfold Cl.val stC none0 at HD2
          dsimp only at HD1 HD2
          clear hr1 hr2 hq1 hpk
          by_cases hc : r1.code = 0
          · obtain ⟨s, g1, g2, rfl⟩ := hfl hc
            obtain ⟨sk, sm, sl, sz, stt⟩ := s
            dsimp only at g1 g2
            subst g1
            have q3 : ((sz : Int) != 0) = false := by simp [g2]
            have HG2 := Lib.hid g2
            clear g2
            have HO2 := Lib.hid (hstep hc)
            have q2 : (r1.code != 0) = false := by simp [hc]
            clear hfl hstep hc
            go_wp2_with (first
          | (go_at_call 14; (with_reducible refine Calls.mono (HD1.out _ _ HLk.out) ?_); intro e w3 hp; obtain ⟨v1, a1, n1, rfl, hN1, _, hB⟩ := hp.open; have HB3 := Lib.hid (below_al (below_th HBw.out hB) (rpBox r1 (.slice a1 r1.names.length n1))); have HN1 := Lib.hid (hN1.below (below_new w3 (rpBox r1 (.slice a1 r1.names.length n1)))); have HLs1 := Lib.hid ((HLk.out.below hB).below (below_new w3 (rpBox r1 (.slice a1 r1.names.length n1)))); have HQ1 := Lib.hid (RpAt.new w3 r1 (.slice a1 r1.names.length n1)); have x0 := (HK.out _ HB3.out).1.get HLN.out hlt; rw [hx] at x0; unfold rpBox at HB3 HN1 HQ1 x0; (try dsimp only at HB3 HN1 HQ1 x0); clear hp hB hN1)
          | (go_at_call 14; (with_reducible refine Calls.mono (HD2.out _ _ HN1.out) ?_); intro e w4 hp; obtain ⟨v3, a2, n2, rfl, hN2, _, hB⟩ := hp.open; dsimp only; have HB4 := Lib.hid (below_al (below_th HB3.out hB) (rpBox (⟨0, ⟨#[]⟩, [], ⟨2, sm, sl, sz, stt⟩⟩ : Rp) (.slice a2 0 n2))); have HN4 := Lib.hid ((HN1.out.below hB).below (below_new w4 (rpBox (⟨0, ⟨#[]⟩, [], ⟨2, sm, sl, sz, stt⟩⟩ : Rp) (.slice a2 0 n2)))); have HLs2 := Lib.hid ((HLs1.out.below hB).below (below_new w4 (rpBox (⟨0, ⟨#[]⟩, [], ⟨2, sm, sl, sz, stt⟩⟩ : Rp) (.slice a2 0 n2)))); have hq1 := ((HQ1.out.th hB).th (below_new w4 (rpBox (⟨0, ⟨#[]⟩, [], ⟨2, sm, sl, sz, stt⟩⟩ : Rp) (.slice a2 0 n2)))).c.1; have hq2 := (RpAt.new w4 (⟨0, ⟨#[]⟩, [], ⟨2, sm, sl, sz, stt⟩⟩ : Rp) (.slice a2 0 n2)).c; have x1 := (HK.out _ HB4.out).1.get HLN.out hlt; rw [hx] at x1; obtain ⟨z0, _, _, z3, _, _, z6, _⟩ := hq2; unfold rpBox at HB4 HN4 hq1 x1 z0 z3 z6; (try dsimp only at HB4 HN4 hq1 x1 z0 z3 z6); clear hp hB hN2))
            go_roundw
            case rel => exact ⟨k + 1, by omega, by go_num, by go_num, by rw [HQ.out], HO2.out, HN4.out, HB4.out⟩
            case measure => simp [intOf]; omega
          · have q2 : (r1.code != 0) = true := by simp [hc]
            clear hfl hstep hc
            go_wp2_with (first
          | (go_at_call 14; (with_reducible refine Calls.mono (HD1.out _ _ HLk.out) ?_); intro e w3 hp; obtain ⟨v1, a1, n1, rfl, hN1, _, hB⟩ := hp.open; have HB3 := Lib.hid (below_al (below_th HBw.out hB) (rpBox r1 (.slice a1 r1.names.length n1))); have HN1 := Lib.hid (hN1.below (below_new w3 (rpBox r1 (.slice a1 r1.names.length n1)))); have HLs1 := Lib.hid ((HLk.out.below hB).below (below_new w3 (rpBox r1 (.slice a1 r1.names.length n1)))); have HQ1 := Lib.hid (RpAt.new w3 r1 (.slice a1 r1.names.length n1)); have x0 := (HK.out _ HB3.out).1.get HLN.out hlt; rw [hx] at x0; unfold rpBox at HB3 HN1 HQ1 x0; (try dsimp only at HB3 HN1 HQ1 x0); clear hp hB hN1)
          | (go_at_call 14; (with_reducible refine Calls.mono (HD2.out _ _ HN1.out) ?_); intro e w4 hp; obtain ⟨v3, a2, n2, rfl, hN2, _, hB⟩ := hp.open; have HB4 := Lib.hid (below_al (below_th HB3.out hB) (rpBox r2 (.slice a2 r2.names.length n2))); have HN4 := Lib.hid ((HN1.out.below hB).below (below_new w4 (rpBox r2 (.slice a2 r2.names.length n2)))); have HLs2 := Lib.hid ((HLs1.out.below hB).below (below_new w4 (rpBox r2 (.slice a2 r2.names.length n2)))); have hq1 := ((HQ1.out.th hB).th (below_new w4 (rpBox r2 (.slice a2 r2.names.length n2)))).c.1; have hq2 := (RpAt.new w4 r2 (.slice a2 r2.names.length n2)).c; have x1 := (HK.out _ HB4.out).1.get HLN.out hlt; rw [hx] at x1; obtain ⟨z0, _, _, z3, _, _, z6, _⟩ := hq2; unfold rpBox at HB4 HN4 hq1 x1 z0 z3 z6; (try dsimp only at HB4 HN4 hq1 x1 z0 z3 z6); clear hp hB hN2))
            go_meet
            exact ⟨k, by omega, by rw [HPK.out], rfl, HOk, HLs2, HB4⟩
        · obtain rfl : k = NM := by omega
          go_wp2
          go_meet
          exact ⟨k, by omega, rfl, rfl, HOk, HLk, HBw⟩
    case rest =>
      obtain ⟨k0, hk0, rfl, rfl, HOk, HNk, HBc⟩ := hcut
      have hwi : IntKind.i64.wrap ((k0 : Int) - 1) = (k0 : Int) - 1 := by rw [IntKind.wrap_i64] <;> omega
      clear hself HN HMk HSt
      go_wp2
      go_loopw [6, 7, 14] (fun l p i wr => ∃ k : Nat, k ≤ k0 ∧ i = .int .i64 ((k : Int) - 1) ∧ p = .string (deepP L k) ∧ Hid (∃ m, Nodes wr l m ∧ SimL (deepL L now k) m) ∧ Hid (Below w2.heap.size w2 wr)) (fun _ _ i _ => (intOf i + 1).toNat)
      case atStart => exact ⟨k0, by omega, rfl, rfl, ⟨_, HNk.out, SimL.refl (deepL_right L now k0)⟩, HBc⟩
      case round =>
        obtain ⟨k, hk, rfl, rfl, HS, HBw⟩ := hrel
        clear HNk HBc hwi
        by_cases hz : k = 0
        · subst hz
          obtain ⟨m, hm, hs⟩ := HS.out
          have HM := Lib.hid hm
          have HLk := Lib.hid (HLs.out m hs.right)
          rw [end_law hs] at HLk
          unfold Cl.val lsC none0 at HLk
          dsimp only at HLk
          have e0 : deepP L 0 = ⟨#[]⟩ := rfl
          have e1 : (((0 : Nat) : Int) - 1) = -1 := rfl
          rw [e0, e1]
          clear hs hm e0 e1 HS
          go_wp2_with (go_at_call 14; (with_reducible refine Calls.mono (HLk.out _ _ HM.out) ?_); intro e w5 hp; obtain ⟨v5, a5, n5, rfl, _, _, hB⟩ := hp.open; dsimp only; have HB5 := Lib.hid (below_al (below_th HBw.out hB) (rpBox (⟨0, ⟨#[]⟩, [], St.zero⟩ : Rp) (.slice a5 0 n5))); obtain ⟨z0, _, z2, _⟩ := (RpAt.new w5 (⟨0, ⟨#[]⟩, [], St.zero⟩ : Rp) (.slice a5 0 n5)).c; unfold rpBox at HB5 z0 z2; (try dsimp only at HB5 z0 z2); clear hp hB)
          go_ret
          exact ⟨rfl, (HK.out _ HB5.out).2⟩
        · obtain ⟨j, rfl⟩ : ∃ j, k = j + 1 := ⟨k - 1, by omega⟩
          obtain ⟨m, hm, hs⟩ := HS.out
          have HM := Lib.hid hm
          obtain ⟨g1, g2⟩ := deep_law (HOk.out j (by omega)) hs
          have HR := Lib.hid (HRm.out (deepP L (j + 1)) (mk_size (HOk.out j (by omega))) m hs.right)
          have hjn : j < NM := by omega
          obtain ⟨tb, tf, cp, e1, y0⟩ := (HK.out _ HBw.out).1.at (k := j) (by rw [HLN.out]; exact hjn)
          rw [HLN.out] at e1
          cases e1
          have e1 : (((j + 1 : Nat) : Int) - 1) = (j : Int) := by omega
          rw [e1]
          have hct := deepP_cut L j
          have hs1 := HP.out (j + 1) (by omega)
          have hsz : (deepP L (j + 1)).size = (deepP L j).size + 1 + (L.getD j ⟨#[]⟩).size := by
            rw [show deepP L (j + 1) = deepP L j ++ ⟨#[47]⟩ ++ L.getD j ⟨#[]⟩ from rfl, ByteArray.size_append, ByteArray.size_append]
            rfl
          obtain ⟨xn, hx⟩ : ∃ x, L.getD j ⟨#[]⟩ = x := ⟨_, rfl⟩
          obtain ⟨pk, hpk⟩ : ∃ x, deepP L j = x := ⟨_, rfl⟩
          obtain ⟨q1, hq1⟩ : ∃ q, deepP L (j + 1) = q := ⟨_, rfl⟩
          rw [hx, hpk, hq1] at hct hsz
          rw [hq1] at HR hs1 g1 g2 ⊢
          rw [hx] at y0
          have hw1 : IntKind.i64.wrap ((q1.size : Int) - 1) = ((q1.size - 1 : Nat) : Int) := by rw [IntKind.wrap_i64] <;> omega
          have hw2 : IntKind.i64.wrap (((q1.size - 1 : Nat) : Int) - (xn.size : Int)) = ((q1.size - 1 - xn.size : Nat) : Int) := by rw [IntKind.wrap_i64] <;> omega
          have hw3 : IntKind.i64.wrap ((j : Int) - 1) = (j : Int) - 1 := by rw [IntKind.wrap_i64] <;> omega
          have hle : q1.size - 1 - xn.size ≤ q1.size := by omega
          have HG2 := Lib.hid g2
          generalize doV m (rmC q1) now = m2 at HR HG2 g2
          generalize doR m (rmC q1) now = r at HR g1
          have q2 : (r.code != 0) = false := by simp [g1]
          have HPK := Lib.hid hpk
          have HCT := Lib.hid hct
          unfold Cl.val rmC none0 at HR
          dsimp only at HR
          have hjk : ((j : Int)) < (NM : Int) := by omega
          clear g1 g2 hs hm HS e1 hpk hq1 hct hsz
          go_wp2_with (go_at_call 14; (with_reducible refine Calls.mono (HR.out _ _ HM.out) ?_); intro e w5 hp; obtain ⟨v5, a5, n5, rfl, hN5, _, hB⟩ := hp.open; have HB5 := Lib.hid (below_al (below_th HBw.out hB) (rpBox r (.slice a5 r.names.length n5))); have HN5 := Lib.hid (hN5.below (below_new w5 (rpBox r (.slice a5 r.names.length n5)))); have x0 := (HK.out _ HB5.out).1.get HLN.out hjn; rw [hx] at x0; obtain ⟨z0, _⟩ := (RpAt.new w5 r (.slice a5 r.names.length n5)).c; unfold rpBox at HB5 HN5 x0 z0; (try dsimp only at HB5 HN5 x0 z0); clear hp hB hN5)
          go_roundw
          case rel => exact ⟨j, by omega, by go_num, by rw [HPK.out, ← HCT.out], ⟨m2, HN5.out, HG2.out⟩, HB5.out⟩
          case measure => simp [intOf]
theorem PlainDeep_walk (v : Value) (L : List ByteArray) (now : Int) (w : World) (hL : Txts w v L) (hz : ∀ s ∈ L, s.size ≤ 140737488351232) (wn : (Lit.int .u64 now).wf = true) :
    Calls Tryz.prog 10 #[v, .int .u64 now] w (Ans w (.bool true)) := by
  have b2 := boundsU wn
  obtain ⟨k, rfl⟩ := Int.eq_ofNat_of_zero_le b2.1
  exact deep_nat v L k w hL hz (by omega)
end
end Go.Proofs.YtkipkcmcolomcaaGreat.Pln
