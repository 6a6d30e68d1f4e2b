/- Several texts in one, each under its own heading. -/
import Derived.Test.YteopcjfakhmifaaPk24
import Derived.Deep.Cut
import Derived.Deep.DeepCutAuto
import Derived.Test.YteopcjfakhmifaaPk23
import Derived.Test.YteopcjfakhmifaaPk10
/- Inodes of a block: what is put. -/
namespace Go.Proofs.Yteopcjfakhmifaa.Ino
open Go.RowKit Go.Shelf
attribute [local go_sem] Oper.semAt_some
set_option linter.unusedVariables false
set_option linter.unusedSimpArgs false
section
set_option maxRecDepth 100000
set_option maxHeartbeats 8000000
theorem put_no (c : ByteArray) (k : Int) (n : I) (w : World) (hc : c.size ≤ 281474976710656) (h : ¬ hasP c k) : Calls Try.prog 65 #[.string c, .int .i64 k, n.val] w (Ans w (.tuple #[.string (putV c k n), .int .i64 (putEr c k n)])) := by
  have HV : Hid (putV c k n = ⟨#[]⟩ ∧ putEr c k n = 2) := ⟨putV_no (.inl h), putEr_no h⟩
  have HB := Lib.hid (below_new w (boxO n))
  unfold boxO at HB
  unfold I.val
  have hH := fun W => has_any c k W hc
  rw [decide_eq_false h] at hH
  clear h hc
  go_enter Try.func65, Try.ntmps65
  go_wp2_with (go_at_call 73; refine (hH _).mono ?_; rintro e w1 ⟨rfl, rfl⟩)
  go_ret2
  exact ⟨by rw [HV.out.1, HV.out.2]; rfl, HB.out⟩
theorem put_wrong (c : ByteArray) (k : Nat) (n : I) (hn : IOk n) (w : World) (h : hasP c k) (hr : ¬ RightP n) : Calls Try.prog 65 #[.string c, .int .i64 k, n.val] w (Ans w (.tuple #[.string (putV c k n), .int .i64 (putEr c k n)])) := by
  have hc : c.size ≤ 281474976710656 := by have := h.1; omega
  have HV : Hid (putV c k n = ⟨#[]⟩ ∧ putEr c k n = 100) := ⟨putV_no (.inr hr), by rw [putEr_yes h, encE_no hr]⟩
  have hH := fun W => has_any c k W hc
  rw [decide_eq_true h] at hH
  have hE := fun W => encode_any n hn W
  rw [encS_no hr, encE_no hr] at hE
  have HB := Lib.hid (below_new w (boxO n))
  obtain ⟨h1, _, h3⟩ := h
  have q1 : ((c.size : Int) != 508) = false := by simp; omega
  have q2 : ¬ (k : Int) < 0 := by omega
  have q3 : ¬ (12 : Int) ≤ (k : Int) := by omega
  unfold boxO at HB
  unfold I.val at hE ⊢
  have HE := Lib.hid hE
  clear hE h1 h3 hc hr hn
  go_enter Try.func65, Try.ntmps65
  go_wp2_with (first
    | (go_at_call 73; refine (hH _).mono ?_; rintro e w1 ⟨rfl, rfl⟩)
    | (go_at_call 74; (with_reducible refine Calls.mono (HE.out _) ?_); rintro e w2 ⟨rfl, hB2⟩))
  go_ret2
  exact ⟨by rw [HV.out.1, HV.out.2]; rfl, below_th HB.out hB2⟩
theorem put_yes (c : ByteArray) (k : Nat) (n : I) (hn : IOk n) (w : World) (h : hasP c k) (hr : RightP n) : Calls Try.prog 65 #[.string c, .int .i64 k, n.val] w (Ans w (.tuple #[.string (putV c k n), .int .i64 (putEr c k n)])) := by
  have hc : c.size ≤ 281474976710656 := by have := h.1; omega
  have HV : Hid (putV c k n = c.extract 0 (k * 42) ++ bytes n ++ c.extract (k * 42 + 42) c.size ∧ putEr c k n = 0) := ⟨by rw [putV_yes h hr, Int.toNat_natCast]; rfl, by rw [putEr_yes h, encE_yes hr]⟩
  have hH := fun W => has_any c k W hc
  rw [decide_eq_true h] at hH
  have hE := fun W => encode_any n hn W
  rw [encS_yes hr, encE_yes hr] at hE
  have HB := Lib.hid (below_new w (boxO n))
  obtain ⟨h1, _, h3⟩ := h
  have hk : k < 12 := by omega
  have w1 : IntKind.i64.wrap ((k : Int) * 42) = (k : Int) * 42 := by rw [IntKind.wrap_i64]; omega
  obtain ⟨p, hp⟩ : ∃ p, k * 42 = p := ⟨_, rfl⟩
  have hpp : (k : Int) * 42 = (p : Int) := by omega
  have w2 : IntKind.i64.wrap ((p : Int) + 42) = (p : Int) + 42 := by rw [IntKind.wrap_i64]; omega
  have r1 : (p : Int) + 42 ≤ (c.size : Int) := by omega
  have r2 : p + 42 ≤ c.size := by omega
  have r3 : (p : Int) ≤ (c.size : Int) := by omega
  have r4 : p ≤ c.size := by omega
  have q1 : ((c.size : Int) != 508) = false := by simp; omega
  have q2 : ¬ (k : Int) < 0 := by omega
  have q3 : ¬ (12 : Int) ≤ (k : Int) := by omega
  obtain ⟨E, hEe⟩ : ∃ E, bytes n = E := ⟨_, rfl⟩
  have hz : E.size = 42 := by rw [← hEe, bytes_size]
  rw [hp, hEe] at HV
  rw [hEe] at hE
  have hadd1 := fun W => run_string_add_sum (P := Try.prog) (w := W) (c.extract 0 p) E (by rw [ByteArray.size_extract]; omega)
  have hadd2 := fun W => run_string_add_sum (P := Try.prog) (w := W) (c.extract 0 p ++ E) (c.extract (p + 42) c.size) (by simp only [ByteArray.size_append, ByteArray.size_extract]; omega)
  unfold boxO at HB
  unfold I.val at hE ⊢
  have HE := Lib.hid hE
  clear hE h1 h3 hc hr hn hp hEe hk hz
  go_enter Try.func65, Try.ntmps65
  go_wp2_with (first
    | (go_at_call 73; refine (hH _).mono ?_; rintro e w1 ⟨rfl, rfl⟩)
    | (go_at_call 74; (with_reducible refine Calls.mono (HE.out _) ?_); rintro e w2 ⟨rfl, hB2⟩))
  go_region
  go_wp2
  all_goals
    go_ret2
    exact ⟨by rw [HV.out.1, HV.out.2]; rfl, (below_th HB.out hB2).drew⟩
theorem put_any (c : ByteArray) (k : Int) (n : I) (hn : IOk n) (w : World) (hc : c.size ≤ 281474976710656) : Calls Try.prog 65 #[.string c, .int .i64 k, n.val] w (Ans w (.tuple #[.string (putV c k n), .int .i64 (putEr c k n)])) := by
  by_cases h : hasP c k
  · obtain ⟨j, rfl⟩ := Int.eq_ofNat_of_zero_le h.2.1
    by_cases hr : RightP n
    · exact put_yes c j n hn w h hr
    · exact put_wrong c j n hn w h hr
  · exact put_no c k n w hc h
theorem R.put_no (c : ByteArray) (k : Int) (n : I) (w : World) (hc : c.size ≤ 281474976710656) (h : ¬ hasP c k) : Calls Try.prog 51 #[.string c, .int .i64 k, n.val] w (Ans w (.tuple #[.string (putV c k n), .int .i64 (putEr c k n)])) := by
  have HV : Hid (putV c k n = ⟨#[]⟩ ∧ putEr c k n = 2) := ⟨putV_no (.inl h), putEr_no h⟩
  have HB := Lib.hid (below_new w (boxO n))
  unfold boxO at HB
  unfold I.val
  by_cases h1 : c.size = 508
  · have q1 : ((c.size : Int) != 508) = false := by simp; omega
    by_cases h2 : k < 0
    · clear h hc h1
      go_enter Try.func51, Try.ntmps51
      go_wp2
      go_ret2
      exact ⟨by rw [HV.out.1, HV.out.2]; rfl, HB.out⟩
    · have h3 : 12 ≤ k := Int.not_lt.1 (fun hh => h ⟨h1, by omega, hh⟩)
      clear h hc h1
      go_enter Try.func51, Try.ntmps51
      go_wp2
      go_ret2
      exact ⟨by rw [HV.out.1, HV.out.2]; rfl, HB.out⟩
  · have q1 : ((c.size : Int) != 508) = true := by simp; omega
    clear h hc h1
    go_enter Try.func51, Try.ntmps51
    go_wp2
    go_ret2
    exact ⟨by rw [HV.out.1, HV.out.2]; rfl, HB.out⟩
theorem R.put_wrong (c : ByteArray) (k : Nat) (n : I) (hn : IOk n) (w : World) (h : hasP c k) (hr : ¬ RightP n) : Calls Try.prog 51 #[.string c, .int .i64 k, n.val] w (Ans w (.tuple #[.string (putV c k n), .int .i64 (putEr c k n)])) := by
  have hc : c.size ≤ 281474976710656 := by have := h.1; omega
  have HV : Hid (putV c k n = ⟨#[]⟩ ∧ putEr c k n = 100) := ⟨putV_no (.inr hr), by rw [putEr_yes h, encE_no hr]⟩
  have hE := fun W => R.encode_any n hn W
  rw [encS_no hr, encE_no hr] at hE
  have HB := Lib.hid (below_new w (boxO n))
  obtain ⟨h1, _, h3⟩ := h
  have q1 : ((c.size : Int) != 508) = false := by simp; omega
  have q2 : ¬ (k : Int) < 0 := by omega
  have q3 : ¬ (12 : Int) ≤ (k : Int) := by omega
  unfold boxO at HB
  unfold I.val at hE ⊢
  have HE := Lib.hid hE
  clear hE h1 h3 hc hr hn
  go_enter Try.func51, Try.ntmps51
  go_wp2_with (first
    | fail
    | (go_at_call 66; (with_reducible refine Calls.mono (HE.out _) ?_); rintro e w2 ⟨rfl, hB2⟩))
  go_ret2
  exact ⟨by rw [HV.out.1, HV.out.2]; rfl, below_th HB.out hB2⟩
theorem R.put_yes (c : ByteArray) (k : Nat) (n : I) (hn : IOk n) (w : World) (h : hasP c k) (hr : RightP n) : Calls Try.prog 51 #[.string c, .int .i64 k, n.val] w (Ans w (.tuple #[.string (putV c k n), .int .i64 (putEr c k n)])) := by
  have hc : c.size ≤ 281474976710656 := by have := h.1; omega
  have HV : Hid (putV c k n = c.extract 0 (k * 42) ++ bytes n ++ c.extract (k * 42 + 42) c.size ∧ putEr c k n = 0) := ⟨by rw [putV_yes h hr, Int.toNat_natCast]; rfl, by rw [putEr_yes h, encE_yes hr]⟩
  have hE := fun W => R.encode_any n hn W
  rw [encS_yes hr, encE_yes hr] at hE
  have HB := Lib.hid (below_new w (boxO n))
  obtain ⟨h1, _, h3⟩ := h
  have hk : k < 12 := by omega
  have w1 : IntKind.i64.wrap ((k : Int) * 42) = (k : Int) * 42 := by rw [IntKind.wrap_i64]; omega
  obtain ⟨p, hp⟩ : ∃ p, k * 42 = p := ⟨_, rfl⟩
  have hpp : (k : Int) * 42 = (p : Int) := by omega
  have w2 : IntKind.i64.wrap ((p : Int) + 42) = (p : Int) + 42 := by rw [IntKind.wrap_i64]; omega
  have r1 : (p : Int) + 42 ≤ (c.size : Int) := by omega
  have r2 : p + 42 ≤ c.size := by omega
  have r3 : (p : Int) ≤ (c.size : Int) := by omega
  have r4 : p ≤ c.size := by omega
  have q1 : ((c.size : Int) != 508) = false := by simp; omega
  have q2 : ¬ (k : Int) < 0 := by omega
  have q3 : ¬ (12 : Int) ≤ (k : Int) := by omega
  obtain ⟨E, hEe⟩ : ∃ E, bytes n = E := ⟨_, rfl⟩
  have hz : E.size = 42 := by rw [← hEe, bytes_size]
  rw [hp, hEe] at HV
  rw [hEe] at hE
  have hadd1 := fun W => run_string_add_sum (P := Try.prog) (w := W) (c.extract 0 p) E (by rw [ByteArray.size_extract]; omega)
  have hadd2 := fun W => run_string_add_sum (P := Try.prog) (w := W) (c.extract 0 p ++ E) (c.extract (p + 42) c.size) (by simp only [ByteArray.size_append, ByteArray.size_extract]; omega)
  unfold boxO at HB
  unfold I.val at hE ⊢
  have HE := Lib.hid hE
  clear hE h1 h3 hc hr hn hp hEe hk hz
  go_enter Try.func51, Try.ntmps51
  go_wp2_with (first
    | fail
    | (go_at_call 66; (with_reducible refine Calls.mono (HE.out _) ?_); rintro e w2 ⟨rfl, hB2⟩))
  go_region
  go_wp2
  all_goals
    go_ret2
    exact ⟨by rw [HV.out.1, HV.out.2]; rfl, (below_th HB.out hB2).drew⟩
theorem R.put_any (c : ByteArray) (k : Int) (n : I) (hn : IOk n) (w : World) (hc : c.size ≤ 281474976710656) : Calls Try.prog 51 #[.string c, .int .i64 k, n.val] w (Ans w (.tuple #[.string (putV c k n), .int .i64 (putEr c k n)])) := by
  by_cases h : hasP c k
  · obtain ⟨j, rfl⟩ := Int.eq_ofNat_of_zero_le h.2.1
    by_cases hr : RightP n
    · exact R.put_yes c j n hn w h hr
    · exact R.put_wrong c j n hn w h hr
  · exact R.put_no c k n w hc h
end
end Go.Proofs.Yteopcjfakhmifaa.Ino
/- The document's Table. -/
namespace Go.Proofs.Yteopcjfakhmifaa.Vol
open Go.RowKit
open Ino (I M RightP IOk laid putV putEr)
attribute [local go_sem] Oper.semAt_some
set_option linter.unusedVariables false
set_option linter.unusedSimpArgs false
/-- contents are answered, or an error -/
def TabPost (L : List I) (w : World) (e : Ending) (w' : World) : Prop := ∃ v, e = .returned (.tuple #[v, .int .i64 (tabE L)]) ∧ Strs w' v (tabV L) ∧ Below w.heap.size w w'
theorem own_open {w : World} {base n : Nat} {v : Value} {xs : List Value} (h : w.ownsRow base 9 1 v n xs) (hn : 0 < n) : ∃ g cap, v = .slice (some ⟨g, 0, none⟩) n cap ∧ base ≤ g ∧ n ≤ cap ∧ cap ≤ 9223372036854775807 := by
  rcases h.2 with ⟨rfl, rfl⟩ | ⟨g, cap, cur, rfl, hb, hg, hn, hm, hs, ht⟩
  · omega
  · exact ⟨g, cap, rfl, hb, hn, by unfold maxLen at hm; omega⟩
/-- a text is laid into a row of one's own -/
theorem own_text {w : World} {base n cap g k : Nat} {X : List ByteArray} (hn : X.length = n) (h : w.ownsRow base 9 1 (.slice (some ⟨g, 0, none⟩) n cap) n (X.map fun x => .string x)) (hk : k < n) (y : ByteArray) :
    w.cell? ⟨g, k, none⟩ = some (.string (tx X k)) ∧ w.frozen? ⟨g, k, none⟩ = false ∧
    (w.setCell ⟨g, k, none⟩ (.string y)).ownsRow base 9 1 (.slice (some ⟨g, 0, none⟩) n cap) n ((X.set k y).map fun x => .string x) := by
  refine ⟨?_, h.frozenAt _, ?_⟩
  · rw [h.cellAt k (by omega), List.getElem?_map, tx_get (by omega)]
    rfl
  · have h1 := (h.stored k (.string y)).1
    rw [List.map_set]
    exact h1
namespace R
section
set_option maxRecDepth 100000
set_option maxHeartbeats 4000000
theorem table_any (v : Value) (L : List I) (w : World) (hL : Inos w v L) (ho : ∀ i, IOk (ino L i)) (hl : L.length ≤ 100000) : Calls Try.prog 28 #[v] w (TabPost L w) := by
  obtain ⟨i0, hin, hz0, hz1, hz2⟩ := info_parts infoStrs
  have HNO : Hid (¬ tabP L → ∀ w', Below w.heap.size w w' → TabPost L w (.returned (.tuple #[.slice none 0 0, .int .i64 154])) w') := fun h w' hB => by
    obtain ⟨e1, e2⟩ := tab_no h
    exact ⟨_, by rw [e2], by rw [e1]; exact Strs.nil _, hB⟩
  have HYES : Hid (tabP L → ∀ v w', Strs w' v (tabC L L.length) → Below w.heap.size w w' → TabPost L w (.returned (.tuple #[v, .int .i64 0])) w') := fun h v w' hv hB => by
    obtain ⟨e1, e2⟩ := tab_yes h
    exact ⟨v, by rw [e2], by rw [e1]; exact hv, hB⟩
  obtain ⟨a, cap, rfl, m1, m2⟩ := hL.parts
  obtain ⟨N, hN⟩ : ∃ N, L.length = N := ⟨_, rfl⟩
  have HP1 : Hid (tabP L ↔ N ≤ 240 ∧ ∀ j, j < N → RightP (ino L j)) := by unfold Hid tabP; rw [hN]
  rw [hN] at hL m1 hl HYES ⊢
  have HL := Lib.hid hL
  have HN := Lib.hid hN
  have HO := Lib.hid ho
  clear hL hN ho
  by_cases h1 : N ≤ 240
  case neg =>
    have g1 : (240 : Int) < (N : Int) := by omega
    have HFIN := Lib.hid (HNO.out (fun h => h1 (HP1.out.1 h).1) w (Below.refl _ _))
    clear h1
    go_enter Try.func28, Try.ntmps28
    go_wp2
    go_returns
    exact HFIN.out
  case pos =>
    have g1 : ¬ (240 : Int) < (N : Int) := by omega
    go_enter Try.func28, Try.ntmps28
    go_wp2
    go_loopw [4, 5] (fun vo i wr => ∃ k : Nat, i = .int .i64 (k : Int) ∧ k ≤ N ∧ Hid (wr.ownsRow w.heap.size 9 1 vo ((k + 11) / 12) ((tabC L k).map fun x => .string x)) ∧ Hid (∀ j, j < k → RightP (ino L j)) ∧ Hid (Below w.heap.size w wr)) (fun _ i _ => N - (intOf i).toNat)
    case atStart => exact ⟨0, rfl, by omega, World.ownsRow_nil _ _ _ _, fun j hj => by omega, Below.refl _ _⟩
    case round =>
      obtain ⟨k, rfl, hk, HOW, HRI, HB⟩ := hrel
      by_cases hlt : k < N
      · have hkI : (k : Int) < (N : Int) := by omega
        obtain ⟨b, off, ea, hc0⟩ := (HL.out.below HB.out).at HN.out hlt
        cases ea
        obtain ⟨x, hx⟩ : ∃ x, ino L k = x := ⟨_, rfl⟩
        have HCI := Lib.hid (fun W (h : Below w.heap.size w W) => (HL.out.below h).get HN.out hlt hx.symm)
        have hxo : IOk x := by rw [← hx]; exact HO.out k
        obtain ⟨r, hr⟩ : ∃ r, k % 12 = r := ⟨_, rfl⟩
        have hr12 : r < 12 := by omega
        have hre : (k : Int) % 12 = (r : Int) := by omega
        have hrt : (k : Int).tmod 12 = (r : Int) := by rw [Int.tmod_eq_emod_of_nonneg (by omega)]; exact hre
        have hwr : IntKind.i64.wrap (r : Int) = (r : Int) := by rw [IntKind.wrap_i64]; omega
        have HX := Lib.hid hx
        have HRK := Lib.hid hr
        clear hc0 hx
        by_cases hr0 : r = 0
        · subst hr0
          have HTN := Lib.hid (tab_new L hr)
          obtain ⟨q, hq⟩ : ∃ q, (k + 11) / 12 = q := ⟨_, rfl⟩
          have hq1 : (k + 1 + 11) / 12 = q + 1 := by omega
          have hq9 : q ≤ 20 := by omega
          rw [hq] at HOW
          obtain ⟨X, hX⟩ : ∃ X, tabC L k = X := ⟨_, rfl⟩
          have hXl : X.length = q := by rw [← hX, tabC_len, hq]
          rw [hX] at HOW HTN
          obtain ⟨z, hz⟩ : ∃ z, zeros 508 = z := ⟨_, rfl⟩
          have hzs : z.size = 508 := by rw [← hz]; exact zeros_size 508
          rw [hz] at HTN
          obtain ⟨O, hO⟩ : ∃ O, Obj.cells (madeCells #[Value.int .u8 0] 508) 5 = O := ⟨_, rfl⟩
          have hmk : ∀ W : World, (Instr.makeSlice 57 (.int .i64 508) (.int .i64 508)).run Try.prog W = .ok (.slice (some ⟨W.heap.size, 0, none⟩) 508 508) (W.alloc O) := fun W => by rw [← hO]; exact mk_bytes 508 (by omega) W
          have hcv : (convert 57 9 (.slice (some ⟨wr.heap.size, 0, none⟩) 508 508)).run Try.prog (wr.alloc O) = .ok (.string z) (wr.alloc O) := by rw [← hO, ← hz]; exact cv_bytes 508 wr
          have hBA : Below wr.heap.size wr ((wr.alloc O).alloc (.cells #[.string z] 9)) := below_al (below_new wr O) _
          have HNEW : Hid (Strs ((wr.alloc O).alloc (.cells #[.string z] 9)) (.slice (some ⟨wr.heap.size + 1, 0, none⟩) 1 1) [z]) := Strs.one (by rw [← World.size_alloc wr O]; exact World.alloc_heap_new (wr.alloc O) _)
          have HOWN := Lib.hid (own_below2 HOW.out hBA)
          have HBA := Lib.hid hBA
          have HBW := Lib.hid (below_th HB.out hBA)
          clear hX hz hO hBA
          go_upto_region 9 with (at_builtin; (refine wpList_append_strs rfl _ _ rfl rfl w.heap.size _ q _ rfl HOWN.out _ [z] rfl HNEW.out (by show q + 1 ≤ _; omega) HBW.out.size ?_; intro v3 w3 hown3 hgrow3; have HO3 := Lib.hid hown3; have HB3 := Lib.hid (HBW.out.grown hgrow3 HBW.out.size (fun r e => ((HOWN.out).lt r e).1)); clear hown3 hgrow3))
          obtain ⟨g, cap3, rfl, hgb, hg1, hg2⟩ := own_open HO3.out (by show 0 < q + 1; omega)
          obtain ⟨Y, hY⟩ : ∃ Y, Y = X ++ [z] := ⟨_, rfl⟩
          have hY1 : Y.length = q + 1 := by rw [hY, List.length_append, hXl]; rfl
          have hYc : tx Y q = z := by unfold tx; rw [hY, List.getD_eq_getElem?_getD, List.getElem?_append_right (by omega), hXl, Nat.sub_self]; rfl
          have HSET : Hid (tabC L (k + 1) = Y.set q (laid z 0 x)) := by
            unfold Hid
            rw [HTN.out, HX.out, hY, ← hXl, List.set_append_right _ _ (Nat.le_refl _), Nat.sub_self]
            rfl
          have HO3 : Hid (w3.ownsRow w.heap.size 9 1 (.slice (some ⟨g, 0, none⟩) (q + 1) cap3) (q + 1) (Y.map fun x => .string x)) := by
            unfold Hid
            rw [hY, List.map_append]
            exact HO3.out
          have HN3 : Hid ((k + 1 + 11) / 12 = q + 1) := hq1
          clear hY HTN hXl hmk hcv HNEW HOWN HBW HBA HOW hq1 hq
          have hP := fun W => Ino.R.put_any z 0 x hxo W (by omega)
          have hwp : IntKind.i64.wrap ((q : Int) + 1 - 1) = (q : Int) := by rw [IntKind.wrap_i64]; omega
          have hwp2 : IntKind.i64.wrap (q : Int) = (q : Int) := by rw [IntKind.wrap_i64]; omega
          have hwp3 : ((q + 1 : Nat) : Int) - 1 = (q : Int) := by omega
          have h0p : (0 : Int) ≤ (q : Int) := by omega
          have hpi : (q : Int) < (q : Int) + 1 := by omega
          have hpi2 : (q : Int) < ((q + 1 : Nat) : Int) := by omega
          have hhp : Ino.hasP z 0 := ⟨hzs, by omega, by omega⟩
          have hd1 : Below w3.heap.size w3 w3.drew := below_drew (Below.refl _ _)
          obtain ⟨hgc, _, _⟩ := own_text hY1 HO3.out (Nat.lt_succ_self q) z
          rw [hYc] at hgc
          have hglt := World.block_lt_of_cell? _ _ hgc
          have HC : Hid (∀ W, Below w3.heap.size w3 W → W.cell? ⟨g, q, none⟩ = some (.string z) ∧ W.cell? ⟨b, off + k * 12, none⟩ = some (.int .i64 x.kind) ∧ W.cell? ⟨b, off + k * 12 + 1, none⟩ = some (.int .u16 x.mode) ∧ W.cell? ⟨b, off + k * 12 + 2, none⟩ = some (.int .u16 x.links) ∧ W.cell? ⟨b, off + k * 12 + 3, none⟩ = some (.int .u32 x.size) ∧ W.cell? ⟨b, off + k * 12 + 4, none⟩ = some (.int .u64 x.time) ∧ W.cell? ⟨b, off + k * 12 + 5, none⟩ = some (.int .i64 x.depth) ∧ W.cell? ⟨b, off + k * 12 + 6, none⟩ = some (.int .u32 x.m.a) ∧ W.cell? ⟨b, off + k * 12 + 7, none⟩ = some (.int .u32 x.m.b) ∧ W.cell? ⟨b, off + k * 12 + 8, none⟩ = some (.int .u32 x.m.c) ∧ W.cell? ⟨b, off + k * 12 + 9, none⟩ = some (.int .u32 x.m.d) ∧ W.cell? ⟨b, off + k * 12 + 10, none⟩ = some (.int .u32 x.m.e) ∧ W.cell? ⟨b, off + k * 12 + 11, none⟩ = some (.int .u32 x.m.f)) := fun W h => by
            obtain ⟨c0, c1, c2, c3, c4, c5, c6, c7, c8, c9, c10, c11⟩ := HCI.out W (below_th HB3.out h)
            exact ⟨(World.cell?_of_block (w := w3) (h.block g hglt)).trans hgc, c0, c1, c2, c3, c4, c5, c6, c7, c8, c9, c10, c11⟩
          obtain ⟨t0, t1, t2, t3, t4, t5, t6, t7, t8, t9, t10, t11, t12⟩ := HC.out w3 (Below.refl _ _)
          by_cases hrp : RightP x
          · rw [Ino.putV_yes hhp hrp, Ino.putEr_yes hhp, Ino.encE_yes hrp, show (0 : Int).toNat = 0 from rfl] at hP
            obtain ⟨y, hy⟩ : ∃ y, laid z 0 x = y := ⟨_, rfl⟩
            rw [hy] at hP
            rw [hy] at HSET
            unfold Ino.I.val at hP
            have HPUT := Lib.hid hP
            have HRI2 : Hid (∀ j, j < k + 1 → RightP (ino L j)) := fun j hj => by
              rcases Nat.lt_succ_iff_lt_or_eq.1 hj with h | h
              · exact HRI.out j h
              · rw [h, HX.out]; exact hrp
            have HAFT : Hid (∀ W, Below w3.heap.size w3 W → W.cell? ⟨g, q, none⟩ = some (.string z) ∧ W.frozen? ⟨g, q, none⟩ = false ∧ (W.setCell ⟨g, q, none⟩ (.string y)).ownsRow w.heap.size 9 1 (.slice (some ⟨g, 0, none⟩) (q + 1) cap3) (q + 1) ((Y.set q y).map fun x => .string x) ∧ Below w.heap.size w (W.setCell ⟨g, q, none⟩ (.string y))) := fun W h => by
              obtain ⟨e1, e2, e3⟩ := own_text hY1 (own_below2 HO3.out h) (Nat.lt_succ_self q) y
              rw [hYc] at e1
              exact ⟨e1, e2, e3, (below_th HB3.out h).setCell (p := ⟨g, q, none⟩) hgb _⟩
            clear hrp hP hy hhp hYc hY1 hgc
            go_region_held3 (fun w' => w'.cell? ⟨g, q, none⟩ = some (.string z) ∧ w'.cell? ⟨b, off + k * 12, none⟩ = some (.int .i64 x.kind) ∧ w'.cell? ⟨b, off + k * 12 + 1, none⟩ = some (.int .u16 x.mode) ∧ w'.cell? ⟨b, off + k * 12 + 2, none⟩ = some (.int .u16 x.links) ∧ w'.cell? ⟨b, off + k * 12 + 3, none⟩ = some (.int .u32 x.size) ∧ w'.cell? ⟨b, off + k * 12 + 4, none⟩ = some (.int .u64 x.time) ∧ w'.cell? ⟨b, off + k * 12 + 5, none⟩ = some (.int .i64 x.depth) ∧ w'.cell? ⟨b, off + k * 12 + 6, none⟩ = some (.int .u32 x.m.a) ∧ w'.cell? ⟨b, off + k * 12 + 7, none⟩ = some (.int .u32 x.m.b) ∧ w'.cell? ⟨b, off + k * 12 + 8, none⟩ = some (.int .u32 x.m.c) ∧ w'.cell? ⟨b, off + k * 12 + 9, none⟩ = some (.int .u32 x.m.d) ∧ w'.cell? ⟨b, off + k * 12 + 10, none⟩ = some (.int .u32 x.m.e) ∧ w'.cell? ⟨b, off + k * 12 + 11, none⟩ = some (.int .u32 x.m.f)) (first | exact HC.out _ hd1 | exact HC.out _ (by assumption)) (first
              | (go_at_call 51; (with_reducible refine Calls.mono (HPUT.out _) ?_); rintro e w5 ⟨rfl, hb5⟩; have hb6 := below_th hd1 hb5; obtain ⟨s0, s1, s2, s3⟩ := HAFT.out _ hb6))
            have HS2 := Lib.hid s2
            have HS3 := Lib.hid s3
            clear s2 s3
            go_wp2
            go_roundw
            case rel => exact ⟨k + 1, by go_num, hlt, by rw [HN3.out, HSET.out]; exact HS2.out, HRI2.out, HS3.out⟩
            case measure => simp [intOf]; omega
          · rw [Ino.putV_no (.inr hrp), Ino.putEr_yes hhp, Ino.encE_no hrp] at hP
            unfold Ino.I.val at hP
            have HPUT := Lib.hid hP
            have HFIN := Lib.hid (fun w' => HNO.out (fun h => hrp (by rw [← HX.out]; exact (HP1.out.1 h).2 k hlt)) w')
            clear hrp hP hhp hYc hY1 hgc HSET
            go_region_held3 (fun w' => w'.cell? ⟨g, q, none⟩ = some (.string z) ∧ w'.cell? ⟨b, off + k * 12, none⟩ = some (.int .i64 x.kind) ∧ w'.cell? ⟨b, off + k * 12 + 1, none⟩ = some (.int .u16 x.mode) ∧ w'.cell? ⟨b, off + k * 12 + 2, none⟩ = some (.int .u16 x.links) ∧ w'.cell? ⟨b, off + k * 12 + 3, none⟩ = some (.int .u32 x.size) ∧ w'.cell? ⟨b, off + k * 12 + 4, none⟩ = some (.int .u64 x.time) ∧ w'.cell? ⟨b, off + k * 12 + 5, none⟩ = some (.int .i64 x.depth) ∧ w'.cell? ⟨b, off + k * 12 + 6, none⟩ = some (.int .u32 x.m.a) ∧ w'.cell? ⟨b, off + k * 12 + 7, none⟩ = some (.int .u32 x.m.b) ∧ w'.cell? ⟨b, off + k * 12 + 8, none⟩ = some (.int .u32 x.m.c) ∧ w'.cell? ⟨b, off + k * 12 + 9, none⟩ = some (.int .u32 x.m.d) ∧ w'.cell? ⟨b, off + k * 12 + 10, none⟩ = some (.int .u32 x.m.e) ∧ w'.cell? ⟨b, off + k * 12 + 11, none⟩ = some (.int .u32 x.m.f)) (first | exact HC.out _ hd1 | exact HC.out _ (by assumption)) (first
              | (go_at_call 51; (with_reducible refine Calls.mono (HPUT.out _) ?_); rintro e w5 ⟨rfl, hb5⟩; have hb6 := below_th hd1 hb5))
            have HB6 := Lib.hid (below_th HB3.out hb6)
            go_wp2
            go_returns
            exact HFIN.out _ HB6.out
        · obtain ⟨p, hp⟩ : ∃ p, (k + 11) / 12 = p + 1 := ⟨(k + 11) / 12 - 1, by omega⟩
          have hp1 : (k + 1 + 11) / 12 = p + 1 := by omega
          have hp9 : p ≤ 20 := by omega
          have HN3 : Hid ((k + 1 + 11) / 12 = p + 1) := hp1
          have htl := tab_last L (i := k) (by omega)
          have hto := tab_old L (i := k) (by omega)
          obtain ⟨Y, hY⟩ : ∃ Y, tabC L k = Y := ⟨_, rfl⟩
          have hY1 : Y.length = p + 1 := by rw [← hY, tabC_len, hp]
          rw [hp, hY] at HOW
          rw [hY, hY1, Nat.add_sub_cancel] at htl
          rw [hY, hY1, Nat.add_sub_cancel, htl, hr, HX.out] at hto
          obtain ⟨c, hc⟩ : ∃ c, blk L (k - k % 12) (k % 12) = c := ⟨_, rfl⟩
          have hcs : c.size = 508 := by rw [← hc]; exact blk_size _ _ _ (by omega)
          rw [hc] at htl
          rw [show blk L (k - r) r = c by rw [← hr]; exact hc] at hto
          have hYc := htl
          have HSET := Lib.hid hto
          obtain ⟨g, cap3, rfl, hgb, hg1, hg2⟩ := own_open HOW.out (Nat.succ_pos p)
          have hrI : ((r : Int) == 0) = false := beq_eq_false_iff_ne.2 (by omega)
          have hrJ : ¬ (r : Int) = 0 := by omega
          have HO3 := HOW
          have HB3 := HB
          obtain ⟨W3, hW3⟩ : ∃ W3, wr = W3 := ⟨_, rfl⟩
          subst hW3
          clear htl hto hY hc hp hp1
          go_upto_region 9 with fail
          have hP := fun W => Ino.R.put_any c (r : Int) x hxo W (by omega)
          have hwp : IntKind.i64.wrap ((p : Int) + 1 - 1) = (p : Int) := by rw [IntKind.wrap_i64]; omega
          have hwp2 : IntKind.i64.wrap (p : Int) = (p : Int) := by rw [IntKind.wrap_i64]; omega
          have hwp3 : ((p + 1 : Nat) : Int) - 1 = (p : Int) := by omega
          have h0p : (0 : Int) ≤ (p : Int) := by omega
          have hpi : (p : Int) < (p : Int) + 1 := by omega
          have hpi2 : (p : Int) < ((p + 1 : Nat) : Int) := by omega
          have hhp : Ino.hasP c (r : Int) := ⟨hcs, by omega, by omega⟩
          have hd1 : Below wr.heap.size wr wr.drew := below_drew (Below.refl _ _)
          obtain ⟨hgc, _, _⟩ := own_text hY1 HO3.out (Nat.lt_succ_self p) c
          rw [hYc] at hgc
          have hglt := World.block_lt_of_cell? _ _ hgc
          have HC : Hid (∀ W, Below wr.heap.size wr W → W.cell? ⟨g, p, none⟩ = some (.string c) ∧ W.cell? ⟨b, off + k * 12, none⟩ = some (.int .i64 x.kind) ∧ W.cell? ⟨b, off + k * 12 + 1, none⟩ = some (.int .u16 x.mode) ∧ W.cell? ⟨b, off + k * 12 + 2, none⟩ = some (.int .u16 x.links) ∧ W.cell? ⟨b, off + k * 12 + 3, none⟩ = some (.int .u32 x.size) ∧ W.cell? ⟨b, off + k * 12 + 4, none⟩ = some (.int .u64 x.time) ∧ W.cell? ⟨b, off + k * 12 + 5, none⟩ = some (.int .i64 x.depth) ∧ W.cell? ⟨b, off + k * 12 + 6, none⟩ = some (.int .u32 x.m.a) ∧ W.cell? ⟨b, off + k * 12 + 7, none⟩ = some (.int .u32 x.m.b) ∧ W.cell? ⟨b, off + k * 12 + 8, none⟩ = some (.int .u32 x.m.c) ∧ W.cell? ⟨b, off + k * 12 + 9, none⟩ = some (.int .u32 x.m.d) ∧ W.cell? ⟨b, off + k * 12 + 10, none⟩ = some (.int .u32 x.m.e) ∧ W.cell? ⟨b, off + k * 12 + 11, none⟩ = some (.int .u32 x.m.f)) := fun W h => by
            obtain ⟨c0, c1, c2, c3, c4, c5, c6, c7, c8, c9, c10, c11⟩ := HCI.out W (below_th HB3.out h)
            exact ⟨(World.cell?_of_block (w := wr) (h.block g hglt)).trans hgc, c0, c1, c2, c3, c4, c5, c6, c7, c8, c9, c10, c11⟩
          obtain ⟨t0, t1, t2, t3, t4, t5, t6, t7, t8, t9, t10, t11, t12⟩ := HC.out wr (Below.refl _ _)
          by_cases hrp : RightP x
          · rw [Ino.putV_yes hhp hrp, Ino.putEr_yes hhp, Ino.encE_yes hrp, Int.toNat_natCast] at hP
            obtain ⟨y, hy⟩ : ∃ y, laid c r x = y := ⟨_, rfl⟩
            rw [hy] at hP
            rw [hy] at HSET
            unfold Ino.I.val at hP
            have HPUT := Lib.hid hP
            have HRI2 : Hid (∀ j, j < k + 1 → RightP (ino L j)) := fun j hj => by
              rcases Nat.lt_succ_iff_lt_or_eq.1 hj with h | h
              · exact HRI.out j h
              · rw [h, HX.out]; exact hrp
            have HAFT : Hid (∀ W, Below wr.heap.size wr W → W.cell? ⟨g, p, none⟩ = some (.string c) ∧ W.frozen? ⟨g, p, none⟩ = false ∧ (W.setCell ⟨g, p, none⟩ (.string y)).ownsRow w.heap.size 9 1 (.slice (some ⟨g, 0, none⟩) (p + 1) cap3) (p + 1) ((Y.set p y).map fun x => .string x) ∧ Below w.heap.size w (W.setCell ⟨g, p, none⟩ (.string y))) := fun W h => by
              obtain ⟨e1, e2, e3⟩ := own_text hY1 (own_below2 HO3.out h) (Nat.lt_succ_self p) y
              rw [hYc] at e1
              exact ⟨e1, e2, e3, (below_th HB3.out h).setCell (p := ⟨g, p, none⟩) hgb _⟩
            clear hrp hP hy hhp hYc hY1 hgc
            go_region_held3 (fun w' => w'.cell? ⟨g, p, none⟩ = some (.string c) ∧ w'.cell? ⟨b, off + k * 12, none⟩ = some (.int .i64 x.kind) ∧ w'.cell? ⟨b, off + k * 12 + 1, none⟩ = some (.int .u16 x.mode) ∧ w'.cell? ⟨b, off + k * 12 + 2, none⟩ = some (.int .u16 x.links) ∧ w'.cell? ⟨b, off + k * 12 + 3, none⟩ = some (.int .u32 x.size) ∧ w'.cell? ⟨b, off + k * 12 + 4, none⟩ = some (.int .u64 x.time) ∧ w'.cell? ⟨b, off + k * 12 + 5, none⟩ = some (.int .i64 x.depth) ∧ w'.cell? ⟨b, off + k * 12 + 6, none⟩ = some (.int .u32 x.m.a) ∧ w'.cell? ⟨b, off + k * 12 + 7, none⟩ = some (.int .u32 x.m.b) ∧ w'.cell? ⟨b, off + k * 12 + 8, none⟩ = some (.int .u32 x.m.c) ∧ w'.cell? ⟨b, off + k * 12 + 9, none⟩ = some (.int .u32 x.m.d) ∧ w'.cell? ⟨b, off + k * 12 + 10, none⟩ = some (.int .u32 x.m.e) ∧ w'.cell? ⟨b, off + k * 12 + 11, none⟩ = some (.int .u32 x.m.f)) (first | exact HC.out _ hd1 | exact HC.out _ (by assumption)) (first
              | (go_at_call 51; (with_reducible refine Calls.mono (HPUT.out _) ?_); rintro e w5 ⟨rfl, hb5⟩; have hb6 := below_th hd1 hb5; obtain ⟨s0, s1, s2, s3⟩ := HAFT.out _ hb6))
            have HS2 := Lib.hid s2
            have HS3 := Lib.hid s3
            clear s2 s3
            go_wp2
            go_roundw
            case rel => exact ⟨k + 1, by go_num, hlt, by rw [HN3.out, HSET.out]; exact HS2.out, HRI2.out, HS3.out⟩
            case measure => simp [intOf]; omega
          · rw [Ino.putV_no (.inr hrp), Ino.putEr_yes hhp, Ino.encE_no hrp] at hP
            unfold Ino.I.val at hP
            have HPUT := Lib.hid hP
            have HFIN := Lib.hid (fun w' => HNO.out (fun h => hrp (by rw [← HX.out]; exact (HP1.out.1 h).2 k hlt)) w')
            clear hrp hP hhp hYc hY1 hgc HSET
            go_region_held3 (fun w' => w'.cell? ⟨g, p, none⟩ = some (.string c) ∧ w'.cell? ⟨b, off + k * 12, none⟩ = some (.int .i64 x.kind) ∧ w'.cell? ⟨b, off + k * 12 + 1, none⟩ = some (.int .u16 x.mode) ∧ w'.cell? ⟨b, off + k * 12 + 2, none⟩ = some (.int .u16 x.links) ∧ w'.cell? ⟨b, off + k * 12 + 3, none⟩ = some (.int .u32 x.size) ∧ w'.cell? ⟨b, off + k * 12 + 4, none⟩ = some (.int .u64 x.time) ∧ w'.cell? ⟨b, off + k * 12 + 5, none⟩ = some (.int .i64 x.depth) ∧ w'.cell? ⟨b, off + k * 12 + 6, none⟩ = some (.int .u32 x.m.a) ∧ w'.cell? ⟨b, off + k * 12 + 7, none⟩ = some (.int .u32 x.m.b) ∧ w'.cell? ⟨b, off + k * 12 + 8, none⟩ = some (.int .u32 x.m.c) ∧ w'.cell? ⟨b, off + k * 12 + 9, none⟩ = some (.int .u32 x.m.d) ∧ w'.cell? ⟨b, off + k * 12 + 10, none⟩ = some (.int .u32 x.m.e) ∧ w'.cell? ⟨b, off + k * 12 + 11, none⟩ = some (.int .u32 x.m.f)) (first | exact HC.out _ hd1 | exact HC.out _ (by assumption)) (first
              | (go_at_call 51; (with_reducible refine Calls.mono (HPUT.out _) ?_); rintro e w5 ⟨rfl, hb5⟩; have hb6 := below_th hd1 hb5))
            have HB6 := Lib.hid (below_th HB3.out hb6)
            go_wp2
            go_returns
            exact HFIN.out _ HB6.out
      · have hkN : k = N := by omega
        subst hkN
        have HSF := Lib.hid (Strs.own (base := w.heap.size) (L := tabC L k) (w := wr) (by rw [tabC_len]; exact HOW.out))
        have HFIN := Lib.hid (HYES.out (HP1.out.2 ⟨h1, HRI.out⟩) _ wr HSF.out HB.out)
        obtain ⟨va, vcap, rfl, hv1, hv2⟩ := HSF.out.parts
        go_wp2
        go_returns
        exact HFIN.out
end
end R
end Go.Proofs.Yteopcjfakhmifaa.Vol
