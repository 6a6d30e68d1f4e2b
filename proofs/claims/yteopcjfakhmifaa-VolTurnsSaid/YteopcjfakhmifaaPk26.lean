/- Several texts in one, each under its own heading. -/
import Derived.Deep.Cut
import Derived.Deep.DeepCutAuto
import Derived.Test.YteopcjfakhmifaaPk23
import Derived.Test.YteopcjfakhmifaaPk10
import Derived.Test.YteopcjfakhmifaaPk24
import Derived.Test.YteopcjfakhmifaaPk11
import Derived.Test.YteopcjfakhmifaaPk12
import Derived.Test.YteopcjfakhmifaaPk21
import Derived.Test.YteopcjfakhmifaaPk22
import Derived.Test.YteopcjfakhmifaaPk25
/- The document's Inodes. -/
namespace Go.Proofs.Yteopcjfakhmifaa.Vol
open Go.RowKit
open Ino (I M RightP IOk getV getE)
attribute [local go_sem] Oper.semAt_some
set_option linter.unusedVariables false
set_option linter.unusedSimpArgs false
/-- inodes are answered, or an error -/
def InosPost (C : List ByteArray) (w : World) (e : Ending) (w' : World) : Prop := ∃ v, e = .returned (.tuple #[v, .int .i64 (inosE C)]) ∧ Inos w' v (inosV C) ∧ Below w.heap.size w w'
namespace R
section
set_option maxRecDepth 100000
set_option maxHeartbeats 4000000
theorem inos_any (v : Value) (C : List ByteArray) (w : World) (hL : Strs w v C) (hl : C.length ≤ 100000) (hs : ∀ i, i < C.length → (tx C i).size ≤ 9223372036854775807) : Calls Try.prog 30 #[v] w (InosPost C w) := by
  obtain ⟨i0, hin, hz0, hz1, hz2⟩ := info_parts infoInos
  have HNO : Hid (¬ inosP C → ∀ w', Below w.heap.size w w' → InosPost C w (.returned (.tuple #[.slice none 0 0, .int .i64 154])) w') := fun h w' hB => by
    obtain ⟨e1, e2⟩ := inos_no h
    exact ⟨_, by rw [e2], by rw [e1]; exact Inos.nil _, hB⟩
  have HYES : Hid (inosP C → ∀ v w', w'.ownsRow w.heap.size 41 12 v (12 * C.length) (cellsIs (inosC C (12 * C.length))) → Below w.heap.size w w' → InosPost C w (.returned (.tuple #[v, .int .i64 0])) w') := fun h v w' hv hB => by
    obtain ⟨e1, e2⟩ := inos_yes h
    exact ⟨v, by rw [e2], by rw [e1]; exact Inos.own (base := w.heap.size) (by rw [inosC_len]; exact hv), hB⟩
  obtain ⟨a, cap, rfl, m1, m2⟩ := hL.parts
  obtain ⟨N, hN⟩ : ∃ N, C.length = N := ⟨_, rfl⟩
  have HP1 : Hid (inosP C ↔ N ≤ 20 ∧ ∀ j, j < N → conP (tx C j)) := by unfold Hid inosP; rw [hN]
  rw [hN] at hL m1 hl hs HYES ⊢
  have HL := Lib.hid hL
  have HN := Lib.hid hN
  clear hL hN
  by_cases h1 : N ≤ 20
  case neg =>
    have g1 : (20 : Int) < (N : Int) := by omega
    have HFIN := Lib.hid (HNO.out (fun h => h1 (HP1.out.1 h).1) w (Below.refl _ _))
    clear h1
    go_enter Try.func30, Try.ntmps30
    go_wp2
    go_returns
    exact HFIN.out
  case pos =>
    have g1 : ¬ (20 : Int) < (N : Int) := by omega
    go_enter Try.func30, Try.ntmps30
    go_wp2
    go_loopw [4, 5] (fun vo i wr => ∃ k : Nat, i = .int .i64 (k : Int) ∧ k ≤ N ∧ Hid (wr.ownsRow w.heap.size 41 12 vo (12 * k) (cellsIs (inosC C (12 * k)))) ∧ Hid (∀ j, j < k → conP (tx C j)) ∧ Hid (Below w.heap.size w wr)) (fun _ i _ => N - (intOf i).toNat)
    case atStart => exact ⟨0, rfl, by omega, World.ownsRow_nil _ _ _ _, fun j hj => by omega, Below.refl _ _⟩
    case round =>
      obtain ⟨k, rfl, hk, HOW, HRI, HB⟩ := hrel
      by_cases hlt : k < N
      · have hkI : (k : Int) < (N : Int) := by omega
        have hcz := hs k hlt
        obtain ⟨b, off, ea, hc0⟩ := (HL.out.below HB.out).at HN.out hlt
        cases ea
        obtain ⟨c, hc⟩ : ∃ c, tx C k = c := ⟨_, rfl⟩
        have c0 := hc0 c hc.symm
        rw [hc] at hcz
        have HCW : Hid (∀ W, Below w.heap.size w W → W.cell? ⟨b, off + k, none⟩ = some (.string c)) := fun W h => (HL.out.below h).get HN.out hlt hc.symm
        have HBAD : Hid (¬ conP c → ∀ w', Below w.heap.size w w' → InosPost C w (.returned (.tuple #[.slice none 0 0, .int .i64 154])) w') := fun h => HNO.out (fun hp => h (by rw [← hc]; exact (HP1.out.1 hp).2 k hlt))
        have HTX := Lib.hid hc
        clear hc0 hc
        by_cases hsz : c.size = 508
        case neg =>
          have q1 : ((c.size : Int) != 508) = true := bne_iff_ne.2 (by omega)
          have HFIN := Lib.hid (HBAD.out (fun h => hsz h.1) wr HB.out)
          clear hsz
          go_wp2
          go_returns
          exact HFIN.out
        case pos =>
          have q1 : ((c.size : Int) != 508) = false := bne_eq_false_iff_eq.2 (by omega)
          have hcz : c.size ≤ 281474976710656 := by omega
          have hbr := fun W => bare_ref c 504 W hcz
          rw [show (504 : Int).toNat = 504 from rfl] at hbr
          cases hb : bareB c 504 with
          | false =>
            rw [hb] at hbr
            have HFIN := Lib.hid (HBAD.out (fun h => by have := h.2.1; rw [hb] at this; cases this) wr HB.out)
            go_wp2_with (go_at_call 38; refine (hbr _).mono ?_; rintro e w1 ⟨rfl, rfl⟩)
            go_returns
            exact HFIN.out
          | true =>
            rw [hb] at hbr
            have HGET := Lib.hid (fun (j : Nat) W => Ino.R.get_any c (j : Int) W hcz)
            have HCON : Hid ((∀ t, t < 12 → getE c ((t : Nat) : Int) = 0) → conP c) := fun h => ⟨hsz, hb, h⟩
            have HSUC : Hid (∀ j, j < 12 → inosC C (12 * k + j + 1) = inosC C (12 * k + j) ++ [getV c ((j : Nat) : Int)]) := fun j hj => by
              rw [inosC_succ, show (12 * k + j) / 12 = k by omega, show (12 * k + j) % 12 = j by omega, HTX.out]
            go_upto_region 9 with (go_at_call 38; refine (hbr _).mono ?_; rintro e w1 ⟨rfl, rfl⟩)
            go_wp2_with fail
            go_loopw [4, 6] (fun vo i wi => ∃ j : Nat, i = .int .i64 (j : Int) ∧ j ≤ 12 ∧ Hid (wi.ownsRow w.heap.size 41 12 vo (12 * k + j) (cellsIs (inosC C (12 * k + j)))) ∧ Hid (∀ t, t < j → getE c ((t : Nat) : Int) = 0) ∧ Hid (Below w.heap.size w wi)) (fun _ i _ => 12 - (intOf i).toNat)
            case atStart => exact ⟨0, rfl, by omega, HOW.out, fun t ht => by omega, HB.out⟩
            case round =>
              obtain ⟨j, rfl, hj, HOJ, HGJ, HBJ⟩ := hrel
              by_cases hj12 : j < 12
              · have hjI : (j : Int) < 12 := by omega
                have c1 := HCW.out _ HBJ.out
                have hG := HGET.out j
                have hsuc := HSUC.out j hj12
                obtain ⟨X, hX⟩ : ∃ X, getV c ((j : Nat) : Int) = X := ⟨_, rfl⟩
                obtain ⟨e0, he0⟩ : ∃ e0, getE c ((j : Nat) : Int) = e0 := ⟨_, rfl⟩
                rw [hX, he0] at hG
                rw [hX] at hsuc
                unfold Ino.I.val at hG
                have HG := Lib.hid hG
                clear hG hX
                by_cases he : e0 = 0
                · have HGJ2 : Hid (∀ t, t < j + 1 → getE c ((t : Nat) : Int) = 0) := fun t ht => by
                    rcases Nat.lt_succ_iff_lt_or_eq.1 ht with h | h
                    · exact HGJ.out t h
                    · rw [h, he0, he]
                  subst he
                  have HSJ := Lib.hid hsuc
                  clear hsuc he0
                  go_wp2_with (first
                    | (go_at_call 54; (with_reducible refine Calls.mono (HG.out _) ?_); rintro e w2 ⟨rfl, hb2⟩; have hX2 := Ino.At.new w2 X; unfold Ino.boxO at hX2; obtain ⟨x0, x1, x2, x3, x4, x5, x6, x7, x8, x9, x10, x11⟩ := hX2.c; have HNEW : Hid (Inos ((w2.alloc (.cells #[.int .i64 X.kind, .int .u16 X.mode, .int .u16 X.links, .int .u32 X.size, .int .u64 X.time, .int .i64 X.depth, .int .u32 X.m.a, .int .u32 X.m.b, .int .u32 X.m.c, .int .u32 X.m.d, .int .u32 X.m.e, .int .u32 X.m.f] 41)).alloc (.cells #[.int .i64 X.kind, .int .u16 X.mode, .int .u16 X.links, .int .u32 X.size, .int .u64 X.time, .int .i64 X.depth, .int .u32 X.m.a, .int .u32 X.m.b, .int .u32 X.m.c, .int .u32 X.m.d, .int .u32 X.m.e, .int .u32 X.m.f] 41)) (.slice (some ⟨w2.heap.size + 1, 0, none⟩) 1 1) [X]) := Inos.one (by rw [← World.size_alloc w2 (.cells #[.int .i64 X.kind, .int .u16 X.mode, .int .u16 X.links, .int .u32 X.size, .int .u64 X.time, .int .i64 X.depth, .int .u32 X.m.a, .int .u32 X.m.b, .int .u32 X.m.c, .int .u32 X.m.d, .int .u32 X.m.e, .int .u32 X.m.f] 41)]; exact World.alloc_heap_new (w2.alloc _) (.cells #[.int .i64 X.kind, .int .u16 X.mode, .int .u16 X.links, .int .u32 X.size, .int .u64 X.time, .int .i64 X.depth, .int .u32 X.m.a, .int .u32 X.m.b, .int .u32 X.m.c, .int .u32 X.m.d, .int .u32 X.m.e, .int .u32 X.m.f] 41)); have hB4 : Below wr.heap.size wr ((w2.alloc (.cells #[.int .i64 X.kind, .int .u16 X.mode, .int .u16 X.links, .int .u32 X.size, .int .u64 X.time, .int .i64 X.depth, .int .u32 X.m.a, .int .u32 X.m.b, .int .u32 X.m.c, .int .u32 X.m.d, .int .u32 X.m.e, .int .u32 X.m.f] 41)).alloc (.cells #[.int .i64 X.kind, .int .u16 X.mode, .int .u16 X.links, .int .u32 X.size, .int .u64 X.time, .int .i64 X.depth, .int .u32 X.m.a, .int .u32 X.m.b, .int .u32 X.m.c, .int .u32 X.m.d, .int .u32 X.m.e, .int .u32 X.m.f] 41)) := below_al (below_al hb2 _) _; have HOWN := Lib.hid (own_below2 HOJ.out hB4); have HBW := Lib.hid (below_th HBJ.out hB4); clear hb2 hX2 hB4)
                    | (at_builtin; (refine wpList_append_inos rfl _ _ rfl rfl w.heap.size _ (12 * k + j) _ rfl HOWN.out _ [X] rfl HNEW.out (by show 12 * k + j + 1 ≤ _; omega) HBW.out.size ?_; intro v3 w3 hown3 hgrow3; have HO3 := Lib.hid hown3; have HB3 := Lib.hid (HBW.out.grown hgrow3 HBW.out.size (fun r e => ((HOWN.out).lt r e).1)); clear hown3 hgrow3)))
                  go_roundw
                  case rel => exact ⟨j + 1, by go_num, hj12, by rw [← Nat.add_assoc, HSJ.out, cellsIs_snoc]; exact HO3.out, HGJ2.out, HB3.out⟩
                  case measure => simp [intOf]; omega
                · have HFIN := Lib.hid (HBAD.out (fun h => he (he0.symm.trans (h.2.2 j hj12))))
                  have hne : (e0 != 0) = true := bne_iff_ne.2 he
                  clear hsuc he0
                  go_wp2_with (first
                    | (go_at_call 54; (with_reducible refine Calls.mono (HG.out _) ?_); rintro e w2 ⟨rfl, hb2⟩; have HBW := Lib.hid (below_th HBJ.out (below_al hb2 (.cells #[.int .i64 X.kind, .int .u16 X.mode, .int .u16 X.links, .int .u32 X.size, .int .u64 X.time, .int .i64 X.depth, .int .u32 X.m.a, .int .u32 X.m.b, .int .u32 X.m.c, .int .u32 X.m.d, .int .u32 X.m.e, .int .u32 X.m.f] 41))); clear hb2))
                  go_returns
                  exact HFIN.out _ HBW.out
              · have hje : j = 12 := by omega
                subst hje
                have HRI2 : Hid (∀ i, i < k + 1 → conP (tx C i)) := fun i hi => by
                  rcases Nat.lt_succ_iff_lt_or_eq.1 hi with h | h
                  · exact HRI.out i h
                  · rw [h, HTX.out]; exact HCON.out HGJ.out
                go_wp2
                go_roundw
                case rel => exact ⟨k + 1, by go_num, hlt, HOJ.out, HRI2.out, HBJ.out⟩
                case measure => simp [intOf]; omega
      · have hkN : k = N := by omega
        subst hkN
        have HFIN := Lib.hid (HYES.out (HP1.out.2 ⟨h1, HRI.out⟩) _ wr HOW.out HB.out)
        go_wp2
        go_returns
        exact HFIN.out
end
end R
end Go.Proofs.Yteopcjfakhmifaa.Vol
/- What the laws on volumes' contents ask first; what is asked of the program, in one word. -/
namespace Go.Proofs.Yteopcjfakhmifaa.Vol
open Go.RowKit
open Ino (I M IOk MOk)
open Pln (Nd nd Nodes)
attribute [local go_sem] Oper.semAt_some
set_option linter.unusedVariables false
set_option linter.unusedSimpArgs false
/-- what the program answers -/
structure Given : Prop where
  cut : ∀ (s : ByteArray) (w : World), s.size ≤ 100000 → Calls Try.prog 15 #[.string s] w (CutPost s w)
  paste : ∀ (v : Value) (L : List ByteArray) (n : Nat) (w : World), Strs w v L → n < 4294967296 → L.length ≤ 100 → (∀ i, i < L.length → (tx L i).size ≤ 9223372036854775807) → Calls Try.prog 12 #[v, .int .u32 (n : Int)] w (Ans w (.tuple #[.string (pasteV L n), .int .i64 (pasteE L n)]))
  changed : ∀ (was is : ByteArray) (w : World), was.size ≤ 100000 → is.size ≤ 100000 → Calls Try.prog 18 #[.string was, .string is] w (ChgPost was is w)
  inode : ∀ (n : Nd) (m : M) (w : World), NdOk n → MOk m → n.data.size ≤ 100000 → Calls Try.prog 20 #[n.val, m.val] w (Ans w (.tuple #[(inV n m).val, .int .i64 (inE n m)]))
  node : ∀ (x : I) (d : ByteArray) (w : World), IOk x → d.size ≤ 281474976710656 → Calls Try.prog 22 #[x.val, .string d] w (Ans w (.tuple #[(ndV x d).val, .int .i64 (ndE x d)]))
  table : ∀ (v : Value) (L : List I) (w : World), Inos w v L → (∀ i, IOk (ino L i)) → L.length ≤ 100000 → Calls Try.prog 27 #[v] w (TabPost L w)
  inos : ∀ (v : Value) (C : List ByteArray) (w : World), Strs w v C → C.length ≤ 100000 → (∀ i, i < C.length → (tx C i).size ≤ 9223372036854775807) → Calls Try.prog 29 #[v] w (InosPost C w)
  trim : ∀ (v : Value) (l : List Nd) (w : World), Nodes w v l → l.length ≤ 4096 → (∀ x ∈ l, x.data.size ≤ 281474976710656) → Calls Try.prog 25 #[v] w (TrimPost l w)
/-- the first ten thousand bytes -/
def hd (s : ByteArray) : ByteArray := s.extract 0 (min s.size 10000)
theorem hd_size (s : ByteArray) : (hd s).size ≤ 10000 := by unfold hd; rw [ByteArray.size_extract]; omega
theorem chg_ab : chg ⟨#[97, 98]⟩ ⟨#[97, 99]⟩ = [0] := by decide +kernel
theorem chg_a0 : chg ⟨#[97]⟩ ⟨#[97, 0]⟩ = [] := by decide +kernel
theorem cuts_600 (s : ByteArray) (h : s.size = 600) : (cuts s).length = 2 ∧ (tx (cuts s) 0).size = 508 ∧ (tx (cuts s) 1).size = 92 := by
  have hn : nb s.size = 2 := by rw [h]; rfl
  refine ⟨by rw [cuts_len, hn], ?_, ?_⟩
  · rw [tx_cuts (by omega), ch_size, h]; rfl
  · rw [tx_cuts (by omega), ch_size, h]; rfl
section
set_option maxRecDepth 100000
set_option maxHeartbeats 2000000
theorem cutl_any (s : ByteArray) (w : World) (hs : s.size ≤ 281474976710656) : Calls Try.prog 11 #[.string s] w fun e w' => e = .returned (.string (hd s)) ∧ w = w' := by
  obtain ⟨m, hm⟩ : ∃ m, min s.size 10000 = m := ⟨_, rfl⟩
  have hmI : min (s.size : Int) 10000 = (m : Int) := by omega
  have hms : (m : Int) ≤ (s.size : Int) := by omega
  have HH : Hid (hd s = s.extract 0 m) := by unfold Hid hd; rw [hm]
  rw [HH.out]
  clear hm
  go_enter Try.func11, Try.ntmps11
  go_wp2
  go_ret
  exact ⟨rfl, rfl⟩
theorem shown_any (G : Given) (w : World) : Calls Try.prog 10 #[] w (Ans w (.bool true)) := by
  obtain ⟨i0, hin, hz0, hz1, hz2⟩ := info_parts infoInts
  obtain ⟨z, hz⟩ : ∃ z, zeros 600 = z := ⟨_, rfl⟩
  have hzs : z.size = 600 := by rw [← hz]; exact zeros_size 600
  obtain ⟨O, hO⟩ : ∃ O, Obj.cells (madeCells #[Value.int .u8 0] 600) 5 = O := ⟨_, rfl⟩
  have hmk : ∀ W : World, (Instr.makeSlice 57 (.int .i64 600) (.int .i64 600)).run Try.prog W = .ok (.slice (some ⟨W.heap.size, 0, none⟩) 600 600) (W.alloc O) := fun W => by rw [← hO]; exact mk_bytes 600 (by omega) W
  have hcv : (convert 57 9 (.slice (some ⟨w.heap.size, 0, none⟩) 600 600)).run Try.prog (w.alloc O) = .ok (.string z) (w.alloc O) := by rw [← hO, ← hz]; exact cv_bytes 600 w
  obtain ⟨l0, l1, l2⟩ := cuts_600 z hzs
  have HC := Lib.hid (fun W => G.cut z W (by omega))
  have HA := Lib.hid (fun W => G.changed ⟨#[97, 98]⟩ ⟨#[97, 99]⟩ W (by decide) (by decide))
  have HA0 := Lib.hid (fun W => G.changed ⟨#[97]⟩ ⟨#[97, 0]⟩ W (by decide) (by decide))
  have HB0 := Lib.hid (below_new w O)
  obtain ⟨x0, hx0⟩ : ∃ x, tx (cuts z) 0 = x := ⟨_, rfl⟩
  obtain ⟨x1, hx1⟩ : ∃ x, tx (cuts z) 1 = x := ⟨_, rfl⟩
  rw [hx0] at l1
  rw [hx1] at l2
  have k1 : ((x0.size : Int) == 508) = true := by simp; omega
  have k2 : ((x1.size : Int) == 92) = true := by simp; omega
  have HL := Lib.hid l0
  have HX0 := Lib.hid hx0
  have HX1 := Lib.hid hx1
  have HSI : Hid (∀ (u v : Value) (W : World), Ints W u [0] → Ints W v [0] → Calls Try.prog 17 #[u, v] W (Ans W (.bool true))) := fun u v W h1 h2 => by
    have h := R.ints_any u v [0] [0] W h1 h2
    rw [decide_eq_true rfl] at h
    exact h
  clear hO hz hzs l0 hx0 hx1 l1 l2
  go_enter Try.func10, Try.ntmps10
  go_wp2_with (first
    | (go_at_call 15; (with_reducible refine Calls.mono (HC.out _) ?_); rintro e w1 ⟨v1, rfl, hS1, hB1⟩; obtain ⟨a1, cap1, rfl, m1, m2⟩ := hS1.parts; rw [HL.out] at hS1 m1 ⊢; obtain ⟨b1, off1, e1, r0⟩ := hS1.at HL.out (k := 0) (by omega); cases e1; have c0 : w1.cell? ⟨b1, off1, none⟩ = some (.string x0) := r0 x0 HX0.out.symm; have c1 := hS1.get HL.out (k := 1) (by omega) HX1.out.symm; have HS1 := Lib.hid hS1; have HB1 := Lib.hid (below_th HB0.out hB1); clear hS1 hB1 r0)
    | (go_at_call 18; (with_reducible refine Calls.mono (HA.out _) ?_); rintro e w2 ⟨v2, rfl, hS2, hB2⟩; rw [chg_ab] at hS2; have HS2 := Lib.hid (hS2.below (below_new w2 (.cells #[.int .i64 0] 3))); have HN2 : Hid (Ints (w2.alloc (.cells #[.int .i64 0] 3)) (.slice (some ⟨w2.heap.size, 0, none⟩) 1 1) [0]) := Ints.one (x := 0) (World.alloc_heap_new w2 _); have HB2 := Lib.hid (below_al (below_th HB1.out hB2) (.cells #[.int .i64 0] 3)); clear hS2 hB2)
    | (go_at_call 17; (with_reducible refine Calls.mono (HSI.out _ _ _ HS2.out HN2.out) ?_); rintro e w3 ⟨rfl, hb3⟩; have HB3 := Lib.hid (below_th HB2.out hb3); clear hb3)
    | (go_at_call 18; (with_reducible refine Calls.mono (HA0.out _) ?_); rintro e w4 ⟨v4, rfl, hS4, hB4⟩; rw [chg_a0] at hS4; obtain ⟨a4, cap4, rfl, m3, m4⟩ := hS4.parts; have HB4 := Lib.hid (below_th HB3.out hB4); clear hS4 hB4))
  go_ret
  exact ⟨rfl, HB4.out⟩
end
end Go.Proofs.Yteopcjfakhmifaa.Vol
