/- Several texts in one, each under its own heading. -/
import Derived.Test.YteopcjfakhmifaaPk08
import Derived.Test.YteopcjfakhmifaaPk06
/- The document's Cut. -/
namespace Go.Proofs.Yteopcjfakhmifaa.Vol
open Go.RowKit
attribute [local go_sem] Oper.semAt_some
set_option linter.unusedVariables false
set_option linter.unusedSimpArgs false
/-- contents are answered -/
def CutPost (s : ByteArray) (w : World) (e : Ending) (w' : World) : Prop := ∃ v, e = .returned v ∧ Strs w' v (cuts s) ∧ Below w.heap.size w w'
namespace R
section
set_option maxRecDepth 100000
set_option maxHeartbeats 8000000
theorem cut_any (s : ByteArray) (w : World) (hs : s.size ≤ 100000) : Calls Try.prog 16 #[.string s] w (CutPost s w) := by
  obtain ⟨i0, hin, hz0, hz1, hz2⟩ := info_parts infoStrs
  obtain ⟨N, hN⟩ : ∃ N, nb s.size = N := ⟨_, rfl⟩
  have hN9 : N ≤ 200 := by rw [← hN]; unfold nb; omega
  have HR : Hid (∀ v w', w'.ownsRow w.heap.size 9 1 v N ((cutsK s N).map fun x => .string x) → Below w.heap.size w w' → CutPost s w (.returned v) w') := fun v w' h1 h2 => by
    refine ⟨v, rfl, ?_, h2⟩
    have h3 : Strs w' v (cutsK s N) := Strs.own (base := w.heap.size) (by rw [cutsK_len]; exact h1)
    rw [← hN] at h3
    exact h3
  have HN : Hid (∀ k p, p = 508 * k → (k < N ↔ p < s.size)) := fun k p hp => by rw [← hN, hp]; exact nb_iff _ _
  have HC : Hid (∀ k p m, p = 508 * k → m = min s.size (p + 508) → s.extract p m = ch s k) := fun k p m h1 h2 => by rw [h2, h1]; rfl
  clear hN
  go_enter Try.func16, Try.ntmps16
  go_wp2
  go_loopw [3, 4] (fun v i wr => ∃ k p : Nat, i = .int .i64 (p : Int) ∧ Hid (p = 508 * k) ∧ k ≤ N ∧ p ≤ 100508 ∧ Hid (wr.ownsRow w.heap.size 9 1 v k ((cutsK s k).map fun x => .string x)) ∧ Hid (Below w.heap.size w wr)) (fun _ i _ => 101016 - (intOf i).toNat)
  case atStart => exact ⟨0, 0, rfl, rfl, by omega, by omega, World.ownsRow_nil _ _ _ _, Below.refl _ _⟩
  case round =>
    obtain ⟨k, p, rfl, HP, hk, hp9, HO, HB⟩ := hrel
    by_cases hlt : p < s.size
    · have hkN := (HN.out k p HP.out).2 hlt
      obtain ⟨m, hm⟩ : ∃ m, m = min s.size (p + 508) := ⟨_, rfl⟩
      have hX := HC.out k p m HP.out hm
      have hpm : p ≤ m := by omega
      have hms : m ≤ s.size := by omega
      have hmI : min (s.size : Int) ((p : Int) + 508) = (m : Int) := by omega
      have hmF : (if (p : Int) + 508 < (s.size : Int) then (p : Int) + 508 else (s.size : Int)) = (m : Int) := by split <;> omega
      have hpmI : (p : Int) ≤ (m : Int) := by omega
      have hmsI : (m : Int) ≤ (s.size : Int) := by omega
      have HP1 : Hid (p + 508 = 508 * (k + 1)) := by have := HP.out; unfold Hid; omega
      have HS := Lib.hid (cutsK_succ s k)
      obtain ⟨x, hx⟩ : ∃ x, ch s k = x := ⟨_, rfl⟩
      rw [hx] at hX
      have hnew : Strs (wr.alloc (.cells #[.string x] 9)) (.slice (some ⟨wr.heap.size, 0, none⟩) 1 1) [x] := Strs.one (World.alloc_heap_new wr _)
      have HNEW := Lib.hid hnew
      have HOWN := Lib.hid (own_below2 HO.out (below_new wr (.cells #[.string x] 9)))
      have HB2 := Lib.hid (below_al HB.out (.cells #[.string x] 9))
      have HXX := Lib.hid hx
      clear hnew hm hx
      go_wp2_with (at_builtin; (refine wpList_append_strs rfl _ _ rfl rfl w.heap.size _ k _ rfl HOWN.out _ [x] rfl HNEW.out (by show k + 1 ≤ _; omega) HB2.out.size ?_; intro v3 w3 hown3 hgrow3; have HO3 := Lib.hid hown3; have HB3 := Lib.hid (HB2.out.grown hgrow3 HB2.out.size (fun r e => ((HOWN.out).lt r e).1)); clear hown3 hgrow3))
      go_roundw
      case rel => exact ⟨k + 1, p + 508, by go_num, HP1.out, hkN, by omega, by rw [HS.out, List.map_append, HXX.out]; exact HO3.out, HB3.out⟩
      case measure => simp [intOf]; omega
    · have hkN : k = N := by
        have := HN.out k p HP.out
        omega
      subst hkN
      have HFIN := Lib.hid (HR.out _ wr HO.out HB.out)
      go_wp2
      go_ret
      exact HFIN.out
end
end R
end Go.Proofs.Yteopcjfakhmifaa.Vol
/- The document's full: a content with bytes 0 behind. -/
namespace Go.Proofs.Yteopcjfakhmifaa.Vol
open Go.RowKit
attribute [local go_sem] Oper.semAt_some
set_option linter.unusedVariables false
set_option linter.unusedSimpArgs false
/-- bytes 0, made -/
theorem mk_bytes (n : Nat) (hn : n ≤ 65536) (W : World) : (Instr.makeSlice 57 (.int .i64 (n : Int)) (.int .i64 (n : Int))).run Try.prog W = .ok (.slice (some ⟨W.heap.size, 0, none⟩) n n) (W.alloc (.cells (madeCells #[.int .u8 0] n) 5)) :=
  run_make_row' (P := Try.prog) 57 5 (.int .u8 0) 1 Try.underlying57 infoByte rfl .i64 .i64 n (by omega) (by omega) W
theorem cv_bytes (n : Nat) (W : World) : (convert 57 9 (.slice (some ⟨W.heap.size, 0, none⟩) n n)).run Try.prog (W.alloc (.cells (madeCells #[.int .u8 0] n) 5)) = .ok (.string (zeros n)) (W.alloc (.cells (madeCells #[.int .u8 0] n) 5)) :=
  conv_zeros _ _ _ (World.rowIs_made W (.int .u8 0) n 5) n
/-- what stands in place of a content that is none -/
def none4 : ByteArray := ⟨#[110, 111, 110, 101]⟩
/-- a content, bytes 0 behind; of none that word -/
def fullV (L : List ByteArray) (i : Nat) : ByteArray := if i < L.length then full (tx L i) else none4
namespace R
section
set_option maxRecDepth 100000
set_option maxHeartbeats 8000000
theorem full_no (v : Value) (L : List ByteArray) (i : Nat) (w : World) (hL : Strs w v L) (h : ¬ i < L.length) (hi : i ≤ 100000) : Calls Try.prog 43 #[v, .int .i64 (i : Int)] w (Ans w (.string (fullV L i))) := by
  obtain ⟨a, cap, rfl, h1, h2⟩ := hL.parts
  have HV : Hid (fullV L i = ⟨#[110, 111, 110, 101]⟩) := if_neg h
  rw [HV.out]
  obtain ⟨n, hn⟩ : ∃ n, L.length = n := ⟨_, rfl⟩
  rw [hn] at h h1 ⊢
  have hg : decide ((i : Int) ≥ (n : Int)) = true := decide_eq_true (by omega)
  have hg2 : (n : Int) ≤ (i : Int) := by omega
  clear hL hn h
  go_enter Try.func43, Try.ntmps43
  go_wp2
  go_ret
  exact ⟨rfl, Below.refl _ _⟩
theorem full_yes (v : Value) (L : List ByteArray) (i : Nat) (w : World) (hL : Strs w v L) (h : i < L.length) (hi : i ≤ 100000) (hx : (tx L i).size ≤ 508) : Calls Try.prog 43 #[v, .int .i64 (i : Int)] w (Ans w (.string (fullV L i))) := by
  obtain ⟨a, cap, rfl, h1, h2⟩ := hL.parts
  have hf : fullV L i = tx L i ++ zeros (508 - (tx L i).size) := if_pos h
  rw [hf]
  obtain ⟨n, hn⟩ : ∃ n, L.length = n := ⟨_, rfl⟩
  rw [hn] at h h1 ⊢
  rw [hn] at hL
  have hni : ¬ (n : Int) ≤ (i : Int) := by omega
  have hlt : (i : Int) < (n : Int) := by omega
  obtain ⟨b, off, rfl, hc0⟩ := hL.at hn h
  obtain ⟨x, hxe⟩ : ∃ x, tx L i = x := ⟨_, rfl⟩
  have c0 := hc0 x hxe.symm
  rw [hxe] at hx ⊢
  obtain ⟨m, hm⟩ : ∃ m, 508 - x.size = m := ⟨_, rfl⟩
  rw [hm]
  obtain ⟨O, hO⟩ : ∃ O, Obj.cells (madeCells #[Value.int .u8 0] m) 5 = O := ⟨_, rfl⟩
  have hmk : ∀ W : World, (Instr.makeSlice 57 (.int .i64 (508 - (x.size : Int))) (.int .i64 (508 - (x.size : Int)))).run Try.prog W = .ok (.slice (some ⟨W.heap.size, 0, none⟩) m m) (W.alloc O) := fun W => by
    rw [show (508 : Int) - (x.size : Int) = ((m : Nat) : Int) by omega, ← hO]
    exact mk_bytes m (by omega) W
  have hb : b < w.heap.size := World.block_lt_of_cell? _ _ c0
  have d0 : w.drew.cell? ⟨b, off + i, none⟩ = some (.string x) := c0
  have d1 : (w.alloc O).cell? ⟨b, off + i, none⟩ = some (.string x) := (World.cell?_of_block (w := w) ((below_new w _).block b hb)).trans c0
  have d2 : (w.alloc O).drew.cell? ⟨b, off + i, none⟩ = some (.string x) := d1
  have hcv : (convert 57 9 (.slice (some ⟨w.heap.size, 0, none⟩) m m)).run Try.prog (w.alloc O).drew = .ok (.string (zeros m)) (w.alloc O).drew := by rw [← hO]; exact conv_zeros _ _ _ (show (w.alloc _).drew.rowIs w.heap.size 5 m (fun _ => .int .u8 0) from World.rowIs_made w (.int .u8 0) m 5) m
  have hcat : x.size + (zeros m).size ≤ 9223372036854775807 := by rw [zeros_size]; omega
  have hadd := fun W => run_string_add_sum (P := Try.prog) (w := W) x (zeros m) hcat
  have HBF : Hid (Below w.heap.size w ((w.alloc O).drew)) := below_drew (below_new w _)
  clear hO hL hn hc0 hxe hf hm
  go_enter Try.func43, Try.ntmps43
  go_wp2
  go_region
  all_goals
    go_wp2
    go_ret
    exact ⟨rfl, HBF.out⟩
theorem full_any (v : Value) (L : List ByteArray) (i : Nat) (w : World) (hL : Strs w v L) (hi : i ≤ 100000) (hx : (tx L i).size ≤ 508) : Calls Try.prog 43 #[v, .int .i64 (i : Int)] w (Ans w (.string (fullV L i))) := by
  by_cases h : i < L.length
  · exact full_yes v L i w hL h hi hx
  · exact full_no v L i w hL h hi
end
end R
end Go.Proofs.Yteopcjfakhmifaa.Vol
