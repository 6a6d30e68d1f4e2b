/- The document's Read. -/
import Derived.Test.YtafbkagoajcmeaaDirParse
import Derived.Test.YtafbkagoajcmeaaDirRefN
namespace Go.Proofs.Ytafbkagoajcmeaa.Dir.R
open Go.RowKit
attribute [local go_sem] Oper.semAt_some
set_option linter.unusedVariables false
set_option linter.unusedSimpArgs false
/-- what Read answers: the names, in a row of one's own; or none -/
def ReadPost (s : ByteArray) (w : World) (e : Ending) (w' : World) : Prop :=
  (∃ L v, DirP s L ∧ e = .returned (.tuple #[v, .bool true]) ∧ w'.ownsRow w.heap.size 40 2 v L.length (cellsL L) ∧ Below w.heap.size w w') ∨
  ((¬ ∃ L, DirP s L) ∧ e = .returned (.tuple #[.slice none 0 0, .bool false]) ∧ Below w.heap.size w w')
section
set_option maxRecDepth 100000
set_option maxHeartbeats 8000000
theorem read_any (s : ByteArray) (w : World) (hs : s.size ≤ 281474976710656) : Calls Try.prog 31 #[.string s] w (ReadPost s w) := by
  obtain ⟨i0, hi, hz0, hz1, hz2⟩ := info_parts infoNm
  have HNO : Hid ((¬ ∃ L, DirP s L) → ∀ w', Below w.heap.size w w' → ReadPost s w (.returned (.tuple #[.slice none 0 0, .bool false])) w') := fun h w' hB => .inr ⟨h, rfl, hB⟩
  by_cases hbig : 20000 < s.size
  · have g1 : (20000 : Int) < (s.size : Int) := by omega
    have HN := Lib.hid (HNO.out (fun ⟨L, hL⟩ => by have := hL.2.2; omega) w (Below.refl _ _))
    clear hbig HNO
    go_enter Try.func31, Try.ntmps31
    go_wp2
    go_returns
    exact HN.out
  have g1 : ¬ (20000 : Int) < (s.size : Int) := by omega
  have g2 : s.size ≤ 20000 := by omega
  have HYES : Hid (∀ P v w', Fine P → bytesL P = s.extract 0 s.size → w'.ownsRow w.heap.size 40 2 v P.length (cellsL P) → Below w.heap.size w w' → ReadPost s w (.returned (.tuple #[v, .bool true])) w') := fun P v w' h1 h2 h3 h4 => .inl ⟨P, v, read_all h1 h2 g2, rfl, h3, h4⟩
  have HIS : Hid (∀ P a, Fine P → bytesL P = s.extract 0 a → a < s.size → ¬ (hereOk s a ∧ fineE (here s a) ∧ idx P (here s a).name = P.length) → ¬ ∃ L, DirP s L) := fun P a h1 h2 h3 h4 ⟨L, hL⟩ => h4 (step_is hL h1 h2 h3)
  have e0 : bytesL [] = s.extract 0 0 := by
    apply ba_ext
    rw [Lib.extract_data]
    simp [bytesL]
  clear hbig
  go_enter Try.func31, Try.ntmps31
  go_wp2
  go_loopw [4, 5, 6, 7, 8, 9, 10, 11] (fun v i _ _ _ _ _ _ wr => ∃ (P : List N) (a : Nat), i = .int .i64 (a : Int) ∧ a ≤ s.size ∧ Hid (Fine P) ∧ Hid (bytesL P = s.extract 0 a) ∧ Hid (wr.ownsRow w.heap.size 40 2 v P.length (cellsL P)) ∧ Hid (Below w.heap.size w wr)) (fun _ i _ _ _ _ _ _ _ => s.size - (intOf i).toNat)
  case atStart => exact ⟨[], 0, rfl, by omega, Fine.nil, e0, World.ownsRow_nil _ _ _ _, Below.refl _ _⟩
  case round =>
    obtain ⟨P, a, rfl, ha, HF, HP, HO, HB⟩ := hrel
    clear e0
    by_cases hlt : a < s.size
    · have hli : (a : Int) < (s.size : Int) := by omega
      have HI := HIS.out P a HF.out HP.out hlt
      have HBAD : Hid (¬ (hereOk s a ∧ fineE (here s a) ∧ idx P (here s a).name = P.length) → ReadPost s w (.returned (.tuple #[.slice none 0 0, .bool false])) wr) := fun h => HNO.out (HI h) _ HB.out
      have hNm : Nms wr u4 P := Nms.own HO.out
      have hPl : 6 * P.length ≤ a := by
        have := bytesL_many P
        rw [HP.out, ByteArray.size_extract] at this
        omega
      have hT := Lib.hid (fun W => take_ref s (a : Int) 4 W hs (by omega))
      have hK := Lib.hid (fun W => tok_ref s ((a : Int) + 4) W hs (by omega) (by omega))
      have hpp : (a : Int) + 4 = ((a + 4 : Nat) : Int) := by omega
      have hw1 : IntKind.i64.wrap ((a : Int) + 4) = (a : Int) + 4 := by rw [IntKind.wrap_i64]; omega
      have hts : (tokS s ((a : Int) + 4)).size ≤ 281474976710656 := by
        by_cases h : tokOk s ((a : Int) + 4)
        · rw [hpp] at h ⊢
          rw [tokS_yes h, ByteArray.size_extract]
          omega
        · rw [tokS_no h]
          decide
      have hNB := Lib.hid (fun W => isName_any (tokS s ((a : Int) + 4)) W hts)
      have hPL := Lib.hid (fun W (h : Nms W u4 P) => place_any u4 P (tokS s ((a : Int) + 4)) W h)
      by_cases k1 : takeOk s (a : Int) 4
      · have hv : takeV s (a : Int) 4 = ((takeN s a 4 : Nat) : Int) := by rw [takeV_yes k1, Int.toNat_natCast]; rfl
        rw [hv, takeE_yes k1] at hT
        by_cases k2 : tokOk s ((a + 4 : Nat) : Int)
        · have hgd : hereOk s a := ⟨k1, k2⟩
          obtain ⟨z1, z2, z3⟩ := here_size hgd
          have hname : (here s a).name = tokS s ((a : Int) + 4) := by unfold here; rw [hpp]
          have hino : (here s a).ino = takeN s a 4 := rfl
          have hil := takeN_lt s a 4
          rw [show (256 : Nat) ^ 4 = 4294967296 by decide] at hil
          have HG := Lib.hid (step_good HP.out hgd)
          obtain ⟨X, hX⟩ : ∃ X, here s a = X := ⟨_, rfl⟩
          rw [hX] at z1 z2 z3 hname hino HG HBAD
          rw [← hpp] at z3
          rw [z3, tokE_yes (by rw [hpp]; exact k2), ← hname] at hK
          rw [← hname] at hNB hPL
          rw [← hino] at hT hil
          obtain ⟨xn, xi⟩ := X
          dsimp only at z1 z2 hname hino hil hK hNB hPL hT HG HBAD
          have HLX := Lib.hid z2
          clear z1 z3 hname hino hX hv hts HI k1 k2 hgd hpp
          by_cases k3 : nameP xn
          · rw [nameB_yes k3] at hNB
            by_cases k4 : xi = 0
            · have q4 : ((xi : Int) == 0) = true := by simp [k4]
              have HN := Lib.hid (HBAD.out (fun h => h.2.1.2.1 k4))
              clear k3 k4 z2 hil
              go_wp2_with (first
                | (go_at_call 45; (with_reducible refine Calls.mono (hT.out _) ?_); rintro e w1 ⟨rfl, rfl⟩)
                | (go_at_call 46; (with_reducible refine Calls.mono (hK.out _) ?_); rintro e w1 ⟨rfl, rfl⟩)
                | (go_at_call 14; (with_reducible refine Calls.mono (hNB.out _) ?_); rintro e w1 ⟨rfl, rfl⟩))
              go_returns
              exact HN.out
            · have q4 : ((xi : Int) == 0) = false := beq_eq_false_iff_ne.2 (by omega)
              by_cases k5 : idx P xn < P.length
              · have HN := Lib.hid (HBAD.out (fun h => by have := h.2.2; omega))
                have hpl : placeV P xn = ((idx P xn : Nat) : Int) := if_pos k5
                rw [hpl] at hPL
                generalize idx P xn = ii at hPL
                have q5 : ((ii : Int) ≥ 0) := by omega
                clear k3 k4 z2 hil hpl k5
                go_wp2_with (first
                  | (go_at_call 45; (with_reducible refine Calls.mono (hT.out _) ?_); rintro e w1 ⟨rfl, rfl⟩)
                  | (go_at_call 46; (with_reducible refine Calls.mono (hK.out _) ?_); rintro e w1 ⟨rfl, rfl⟩)
                  | (go_at_call 14; (with_reducible refine Calls.mono (hNB.out _) ?_); rintro e w1 ⟨rfl, rfl⟩)
                  | (go_at_call 47; (with_reducible refine Calls.mono (hPL.out _ hNm) ?_); rintro e w1 ⟨rfl, rfl⟩))
                go_returns
                exact HN.out
              · have hpl : placeV P xn = -1 := if_neg k5
                rw [hpl] at hPL
                have HFN : Hid (Fine (P ++ [⟨xn, xi⟩])) := HF.out.add ⟨k3, k4, hil⟩ (by have := idx_le P xn; show idx P xn = P.length; omega)
                have hwx : IntKind.u32.wrap (xi : Int) = (xi : Int) := by rw [IntKind.wrap_u32]; omega
                obtain ⟨n, hn⟩ : ∃ n, P.length = n := ⟨_, rfl⟩
                have HNN := Lib.hid hn
                rw [hn] at hPl HO
                clear k3 k4 hil hpl k5 hn
                go_wp2_with (first
                  | (go_at_call 45; (with_reducible refine Calls.mono (hT.out _) ?_); rintro e w1 ⟨rfl, rfl⟩)
                  | (go_at_call 46; (with_reducible refine Calls.mono (hK.out _) ?_); rintro e w1 ⟨rfl, rfl⟩)
                  | (go_at_call 14; (with_reducible refine Calls.mono (hNB.out _) ?_); rintro e w1 ⟨rfl, rfl⟩)
                  | (go_at_call 47; (with_reducible refine Calls.mono (hPL.out _ hNm) ?_); rintro e w1 ⟨rfl, rfl⟩)
                  | (at_builtin; go_must (refine wpList_append_own _ rfl _ _ 24 rfl w.heap.size 40 i0 (.agg #[.string ⟨#[]⟩, .int .u32 0]) 2 24 Try.underlying24 hi hz0 hz1 hz2 rfl (by decide) _ _ _ rfl (HO.out.alloc _) ⟨wr.heap.size, 0, none⟩ 1 1 [.string xn, .int .u32 (xi : Int)] rfl rfl (World.news_of_block (World.alloc_heap_new wr _)) (by simp [Value.oneCell']) (by unfold maxLen; omega) (by omega) (by have := HB.out.size; simp; omega) ?_; intro v' w1 hown' hgrow _)))
                have hs1 := HB.out.size
                have HB2 : Hid (Below w.heap.size w w1) := (HB.out.alloc hs1 _).grown hgrow (by simp; omega) (fun r e => (HO.out.lt r e).1)
                have HO2 : Hid (w1.ownsRow w.heap.size 40 2 v' (P ++ [(⟨xn, xi⟩ : N)]).length (cellsL (P ++ [(⟨xn, xi⟩ : N)]))) := by
                  rw [List.length_append, cellsL_snoc, HNN.out]
                  exact hown'
                clear hown' hgrow HO
                go_roundw
                case rel => exact ⟨P ++ [⟨xn, xi⟩], a + 6 + xn.size, rfl, HLX.out, HFN, HG, HO2, HB2⟩
                case measure => simp [intOf]; omega
          · rw [nameB_no k3] at hNB
            have HN := Lib.hid (HBAD.out (fun h => k3 h.2.1.1))
            clear k3 z2 hil
            go_wp2_with (first
              | (go_at_call 45; (with_reducible refine Calls.mono (hT.out _) ?_); rintro e w1 ⟨rfl, rfl⟩)
              | (go_at_call 46; (with_reducible refine Calls.mono (hK.out _) ?_); rintro e w1 ⟨rfl, rfl⟩)
              | (go_at_call 14; (with_reducible refine Calls.mono (hNB.out _) ?_); rintro e w1 ⟨rfl, rfl⟩))
            go_returns
            exact HN.out
        · have HN := Lib.hid (HBAD.out (fun h => k2 h.1.2))
          rw [tokE_no (by rw [hpp]; exact k2)] at hK
          generalize tokS s ((a : Int) + 4) = xn at hK hNB hts
          generalize tokI s ((a : Int) + 4) = xj at hK
          generalize takeN s a 4 = xi at hT
          generalize nameB xn = xb at hNB
          clear k1 k2 hv HI hts hPL hpp
          go_wp2_with (first
            | (go_at_call 45; (with_reducible refine Calls.mono (hT.out _) ?_); rintro e w1 ⟨rfl, rfl⟩)
            | (go_at_call 46; (with_reducible refine Calls.mono (hK.out _) ?_); rintro e w1 ⟨rfl, rfl⟩)
            | (go_at_call 14; (with_reducible refine Calls.mono (hNB.out _) ?_); rintro e w1 ⟨rfl, rfl⟩))
          go_returns
          exact HN.out
      · have HN := Lib.hid (HBAD.out (fun h => k1 h.1.1))
        rw [takeE_no k1] at hT
        generalize takeV s (a : Int) 4 = xi at hT
        generalize tokS s ((a : Int) + 4) = xn at hK hNB hts
        generalize tokI s ((a : Int) + 4) = xj at hK
        generalize tokE s ((a : Int) + 4) = xe at hK
        generalize nameB xn = xb at hNB
        clear k1 HI hts hPL hpp
        go_wp2_with (first
          | (go_at_call 45; (with_reducible refine Calls.mono (hT.out _) ?_); rintro e w1 ⟨rfl, rfl⟩)
          | (go_at_call 46; (with_reducible refine Calls.mono (hK.out _) ?_); rintro e w1 ⟨rfl, rfl⟩)
          | (go_at_call 14; (with_reducible refine Calls.mono (hNB.out _) ?_); rintro e w1 ⟨rfl, rfl⟩))
        go_returns
        exact HN.out
    · obtain rfl : a = s.size := by omega
      have HR := Lib.hid (HYES.out P _ _ HF.out HP.out HO.out HB.out)
      go_wp2
      go_returns
      exact HR.out
end
end Go.Proofs.Ytafbkagoajcmeaa.Dir.R
