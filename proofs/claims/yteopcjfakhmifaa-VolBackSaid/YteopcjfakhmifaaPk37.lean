/- Several texts in one, each under its own heading. -/
import Derived.Test.YteopcjfakhmifaaPk36
import Derived.Test.YteopcjfakhmifaaPk22
import Derived.Test.YteopcjfakhmifaaPk26
import Derived.Test.YteopcjfakhmifaaPk28
import Derived.Test.YteopcjfakhmifaaPk30
import Derived.Test.YteopcjfakhmifaaPk32
import Derived.Test.YteopcjfakhmifaaPk33
import Derived.Test.YteopcjfakhmifaaPk35
/- Trim of the program. -/
namespace Go.Proofs.Yteopcjfakhmifaa.Vol
open Go.RowKit
open Pln (Nd nd Nodes cellsL)
attribute [local go_sem] Oper.semAt_some
set_option linter.unusedVariables false
set_option linter.unusedSimpArgs false
section
set_option maxRecDepth 100000
set_option maxHeartbeats 4000000
theorem trim_any (v : Value) (l : List Nd) (w : World) (hL : Nodes w v l) (hl : l.length ≤ 4096) (hs : ∀ x ∈ l, x.data.size ≤ 281474976710656) : Calls Try.prog 25 #[v] w (TrimPost l w) := by
  obtain ⟨a, cap, rfl, m1, m2⟩ := hL.parts
  obtain ⟨N, hN⟩ : ∃ N, l.length = N := ⟨_, rfl⟩
  obtain ⟨T, hT⟩ : ∃ T, trimN l N = T := ⟨_, rfl⟩
  have hTN : T ≤ N := by rw [← hT]; exact trimN_le _ _
  have HTR : Hid (trm l = l.take T) := by unfold Hid trm; rw [hN, hT]
  have htl : (trm l).length = T := by rw [trm_len, hN, hT]
  have HST := Lib.hid (fun k (hk : k < (trm l).length) W => clone_any (nd (trm l) k).data W (hs _ (List.mem_of_mem_take (List.mem_of_getElem? (Pln.nd_get hk)))))
  rw [hN] at hL m1 hl ⊢
  have HL := Lib.hid hL
  have HN := Lib.hid hN
  have HCL : Hid (∀ W, Below w.heap.size w W → Calls Try.prog 48 #[.slice a T cap] W fun e w' => ∃ v', e = .returned v' ∧ w'.ownsRow W.heap.size 38 5 v' T (cellsL (trm l)) ∧ Below W.heap.size W w') := fun W hB => by
    have h := cloneN_any (.slice a T cap) (trm l) W (by rw [HTR.out]; exact (hL.below hB).cut T (by omega)) (by omega)
    rw [htl] at h
    exact h
  have HOO := Lib.hid (fun (W : World) b g cap (h : W.ownsRow b 38 5 (.slice (some ⟨g, 0, none⟩) T cap) T (cellsL (trm l))) k (hk : k < T) => own_one htl h hk)
  have HFIN : Hid (∀ b v' W, W.ownsRow b 38 5 v' T (cellsL (trm l)) → Below w.heap.size w W → TrimPost l w (.returned v') W) := fun b v' W h1 h2 => ⟨v', rfl, Pln.Nodes.own (by rw [htl]; exact h1), h2⟩
  rw [htl] at HST
  have HT := Lib.hid hT
  clear hL hN hT htl hs
  go_enter Try.func25, Try.ntmps25
  go_wp2
  obtain ⟨W0, hW0⟩ : ∃ W0, w.alloc (.cells #[.int .i64 0, .int .u16 0, .int .u16 0, .int .u64 0, .string ⟨#[]⟩] 38) = W0 := ⟨_, rfl⟩
  have hZ : Pln.At W0 w.heap.size Nd.zero := by rw [← hW0]; exact Pln.At.new w Nd.zero
  have hB0 : Below w.heap.size w W0 := by rw [← hW0]; exact below_new _ _
  have hz0 : W0.heap.size = w.heap.size + 1 := by rw [← hW0]; simp
  have HZ := Lib.hid hZ
  have HB0 := Lib.hid hB0
  have HZ0 := Lib.hid hz0
  rw [hW0]
  clear hZ hB0 hz0 hW0
  go_loopw [4] (fun i wr => ∃ k : Nat, i = .int .i64 (k : Int) ∧ k ≤ N ∧ Hid (trimN l k = trimN l N) ∧ Hid (Below W0.heap.size W0 wr)) (fun i _ => (intOf i).toNat)
  case atStart => exact ⟨N, rfl, Nat.le_refl _, rfl, Below.refl _ _⟩
  case round =>
    obtain ⟨k, rfl, hk, HK, HB⟩ := hrel
    by_cases h3 : 3 < k
    · have d3 : decide ((k : Int) > 3) = true := decide_eq_true (by omega)
      have h3I : (3 : Int) < (k : Int) := by omega
      have hj0 : (0 : Int) ≤ (k : Int) - 1 := by omega
      have hw : IntKind.i64.wrap ((k : Int) - 1) = (k : Int) - 1 := by rw [IntKind.wrap_i64]; omega
      obtain ⟨j, hj⟩ : ∃ j, k = j + 1 := ⟨k - 1, by omega⟩
      have hkj : (k : Int) - 1 = (j : Int) := by omega
      have hjN : (j : Int) < (N : Int) := by omega
      have hjn : j < N := by omega
      rw [hkj] at hw
      obtain ⟨b, off, cap2, ea, c0, c1, c2, c3, c4⟩ := (HL.out.below (below_th HB0.out HB.out)).at (k := j) (by rw [HN.out]; omega)
      rw [HN.out] at ea
      cases ea
      have hq : ∀ W, (binOp .eql 38 (.agg #[.int .i64 (nd l j).kind, .int .u16 (nd l j).mode, .int .u16 (nd l j).links, .int .u64 (nd l j).time, .string (nd l j).data]) (.agg #[.int .i64 0, .int .u16 0, .int .u16 0, .int .u64 0, .string ⟨#[]⟩])).run Try.prog W = .ok (.bool (decide (nd l j = Nd.zero))) W := fun W => Pln.eqlN (nd l j) Nd.zero W
      obtain ⟨z0, z1, z2, z3, z4⟩ := zcN (HZ.out.th HB.out)
      by_cases hz : nd l j = Nd.zero
      · rw [decide_eq_true hz] at hq
        have HT2 : Hid (trimN l j = trimN l N) := (trimN_go (by omega) hz).symm.trans (by rw [← hj]; exact HK.out)
        clear hz
        obtain ⟨x, hx⟩ : ∃ x, nd l j = x := ⟨_, rfl⟩
        rw [hx] at hq c0 c1 c2 c3 c4
        have HJK := Lib.hid hj
        clear hx hj
        go_wp2
        go_quiet (fail)
        go_wp2
        go_roundw
        case rel => exact ⟨j, by go_num, by omega, HT2.out, below_drewN HB.out _⟩
        case measure => (have := HJK.out; simp [intOf]; try omega)
      · rw [decide_eq_false hz] at hq
        have HT2 : Hid (k = trimN l N) := by
          have h1 := trimN_stop (l := l) (n := j) (fun h => hz h.2)
          rw [← hj] at h1
          exact h1.symm.trans HK.out
        clear hz
        obtain ⟨x, hx⟩ : ∃ x, nd l j = x := ⟨_, rfl⟩
        rw [hx] at hq c0 c1 c2 c3 c4
        clear hx hj
        go_wp2
        go_quiet (fail)
        obtain ⟨V, hV⟩ : ∃ V, wr.drewN nq = V := ⟨_, rfl⟩
        have hBV : Below w.heap.size w V := by rw [← hV]; exact below_drewN (below_th HB0.out HB.out) _
        rw [hV]
        obtain rfl : k = T := by have h1 := HT2.out; rw [HT.out] at h1; exact h1
        have HCK := Lib.hid (HCL.out V hBV)
        have HBV := Lib.hid hBV
        have hkNI : (k : Int) ≤ (N : Int) := by omega
        have hkcI : (k : Int) ≤ (cap : Int) := by omega
        have hkc : k ≤ cap := by omega
        clear hV hBV HL HK HT HT2 HTR HCL
        go_wp2_with (go_at_call 48; (with_reducible refine Calls.mono HCK.out ?_); rintro e w1 ⟨v1, rfl, hown, hB1⟩; obtain ⟨a1, cp1, rfl, hlc⟩ := lies_own hown; have HOW := Lib.hid hown; have HB1 := Lib.hid (below_th HBV.out hB1); have HBQ := Lib.hid hB1.size; clear hown hB1 hlc)
        obtain ⟨xs, hxs⟩ : ∃ xs, cellsL (trm l) = xs := ⟨_, rfl⟩
        simp only [hxs] at HOW HOO HFIN
        clear hxs
        go_loopw [29] (fun i wq => ∃ n : Nat, n ≤ k ∧ i = .int .i64 (n : Int) ∧ Hid (wq.ownsRow V.heap.size 38 5 (.slice a1 k cp1) k xs) ∧ Hid (Below w.heap.size w wq)) (fun i _ => k - (intOf i).toNat)
        case atStart => exact ⟨0, by omega, rfl, HOW, HB1⟩
        case round =>
          obtain ⟨n, hn, rfl, HR, HBn⟩ := hrel
          by_cases hlt : n < k
          · obtain ⟨g, cp2, hv, hg, _, _⟩ := Pln.own_open HR.out (by omega)
            injection hv with e1 _ e3
            subst e1
            subst e3
            obtain ⟨hc, hbg, hst⟩ := HOO.out wr V.heap.size g cp1 HR.out n hlt
            have HS := Lib.hid hst
            have HSk := Lib.hid (fun W => HST.out n hlt W)
            have hgw : w.heap.size ≤ g := by have := HBV.out.size; omega
            clear hst
            generalize (nd (trm l) n).data = sd at *
            go_wp2_with (go_at_call 40; (with_reducible refine Calls.mono (HSk.out _) ?_); rintro e w2 ⟨rfl, hB2⟩; obtain ⟨f2, c2, ho2⟩ := HS.out _ hB2; have HO2 := Lib.hid ho2; have HB2 := Lib.hid (below_th HBn.out hB2); clear ho2 hB2)
            go_roundw
            case rel => exact ⟨n + 1, by omega, by go_num, HO2, HB2.out.setCell (p := ⟨g, n * 5 + 4, none⟩) hgw _⟩
            case measure => simp [intOf]; omega
          · obtain rfl : n = k := by omega
            have HF := Lib.hid (HFIN.out _ _ _ HR.out HBn.out)
            go_wp2
            go_ret
            exact HF.out
    · have d3 : decide ((k : Int) > 3) = false := decide_eq_false (by omega)
      have HT2 : Hid (k = trimN l N) := (trimN_small (by omega)).symm.trans HK.out
      go_wp2
      go_quiet (fail)
      obtain ⟨V, hV⟩ : ∃ V, wr.drewN nq = V := ⟨_, rfl⟩
      have hBV : Below w.heap.size w V := by rw [← hV]; exact below_drewN (below_th HB0.out HB.out) _
      rw [hV]
      obtain rfl : k = T := by have h1 := HT2.out; rw [HT.out] at h1; exact h1
      have HCK := Lib.hid (HCL.out V hBV)
      have HBV := Lib.hid hBV
      have hkNI : (k : Int) ≤ (N : Int) := by omega
      have hkcI : (k : Int) ≤ (cap : Int) := by omega
      have hkc : k ≤ cap := by omega
      clear hV hBV HL HK HT HT2 HTR HCL
      go_wp2_with (go_at_call 48; (with_reducible refine Calls.mono HCK.out ?_); rintro e w1 ⟨v1, rfl, hown, hB1⟩; obtain ⟨a1, cp1, rfl, hlc⟩ := lies_own hown; have HOW := Lib.hid hown; have HB1 := Lib.hid (below_th HBV.out hB1); have HBQ := Lib.hid hB1.size; clear hown hB1 hlc)
      obtain ⟨xs, hxs⟩ : ∃ xs, cellsL (trm l) = xs := ⟨_, rfl⟩
      simp only [hxs] at HOW HOO HFIN
      clear hxs
      go_loopw [29] (fun i wq => ∃ n : Nat, n ≤ k ∧ i = .int .i64 (n : Int) ∧ Hid (wq.ownsRow V.heap.size 38 5 (.slice a1 k cp1) k xs) ∧ Hid (Below w.heap.size w wq)) (fun i _ => k - (intOf i).toNat)
      case atStart => exact ⟨0, by omega, rfl, HOW, HB1⟩
      case round =>
        obtain ⟨n, hn, rfl, HR, HBn⟩ := hrel
        by_cases hlt : n < k
        · obtain ⟨g, cp2, hv, hg, _, _⟩ := Pln.own_open HR.out (by omega)
          injection hv with e1 _ e3
          subst e1
          subst e3
          obtain ⟨hc, hbg, hst⟩ := HOO.out wr V.heap.size g cp1 HR.out n hlt
          have HS := Lib.hid hst
          have HSk := Lib.hid (fun W => HST.out n hlt W)
          have hgw : w.heap.size ≤ g := by have := HBV.out.size; omega
          clear hst
          generalize (nd (trm l) n).data = sd at *
          go_wp2_with (go_at_call 40; (with_reducible refine Calls.mono (HSk.out _) ?_); rintro e w2 ⟨rfl, hB2⟩; obtain ⟨f2, c2, ho2⟩ := HS.out _ hB2; have HO2 := Lib.hid ho2; have HB2 := Lib.hid (below_th HBn.out hB2); clear ho2 hB2)
          go_roundw
          case rel => exact ⟨n + 1, by omega, by go_num, HO2, HB2.out.setCell (p := ⟨g, n * 5 + 4, none⟩) hgw _⟩
          case measure => simp [intOf]; omega
        · obtain rfl : n = k := by omega
          have HF := Lib.hid (HFIN.out _ _ _ HR.out HBn.out)
          go_wp2
          go_ret
          exact HF.out
end
end Go.Proofs.Yteopcjfakhmifaa.Vol
/- What the program answers, of all eight. -/
namespace Go.Proofs.Yteopcjfakhmifaa.Vol
open Go.RowKit
theorem given : Given where
  cut := cut_any
  paste := fun v L n w h hn hl hs => paste_any v L n w h hn hl hs
  changed := changed_any
  inode := fun n m w hn hm hd => inode_any n m hn hm hd w
  node := fun x d w hx hd => node_any x d w hx hd
  table := fun v L w h ho _ => table_any v L w h ho
  inos := fun v C w h _ hs => inodes_any v C w h hs
  trim := fun v l w h hl hs => trim_any v l w h hl hs
end Go.Proofs.Yteopcjfakhmifaa.Vol
