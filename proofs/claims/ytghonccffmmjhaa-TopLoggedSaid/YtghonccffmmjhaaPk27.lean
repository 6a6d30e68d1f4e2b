/- Several texts in one, each under its own heading. -/
import Derived.Test.YtghonccffmmjhaaPk26
import Derived.RangeFuncBound
import Derived.RangeFuncCalls
import Derived.RangeFuncLeaves
import Derived.OwnWalkIn
import Derived.TacticsInMore
import Derived.LoopNIn
import Derived.LoopIn
import Derived.Sort.LoopGhostIn
import Derived.Test.YtghonccffmmjhaaPk25
/- The record where a log goes on, walked through. -/
namespace Go.Proofs.Ytghonccffmmjhaa.Log
open Go.RowKit Go.Shelf
open Disk (D IsDisk)
open Record (E R RightP Ents AllOk EOk encB encS encE below_al below_new unwOk unwS unwE NewV decOk decR decV decE RAt boxR)
attribute [local go_sem] Oper.semAt_some
set_option linter.unusedVariables false

variable {w : World} {q p : Nat} {l : Lg} {F : Nat → Prop} {d : D}
theorem room_q (h : LAt w q p l) (hl : l.at_ < 4611686018427387904) (m : Nat) : Calls Try.prog 16 #[.pointer (some ⟨q, 0, none⟩)] (w.drewN m) fun e w' => e = .returned (.int .i64 ((15 - l.at_ % 16 : Nat) : Int)) ∧ w' = w.drewN m :=
  (room_l (w := w.drewN m) h hl).mono fun _ _ h => ⟨h.1, h.2.symm⟩
theorem come_q (n : Int) (h : IsDisk w p F d) (m : Nat) : Calls Try.prog 37 #[.pointer (some ⟨p, 0, none⟩), .int .i64 n] (w.drewN m) fun e w' => e = .returned (.bool (decide (segP d.B.length n))) ∧ w' = w.drewN m :=
  (mayComeNext_any (w := w.drewN m) n (h.same fun _ _ _ => rfl)).mono fun _ _ h => ⟨h.1, h.2.symm⟩
theorem drewN_below {B : Nat} {w w' : World} (h : Below B w w') (n : Nat) : Below B w (w'.drewN n) := ⟨h.os, h.tape, h.output, h.size, h.block⟩
/-- no record is there: what is answered is nothing -/
theorem std_no {B : List ByteArray} {l : Lg} {w W : World} {a : Nat} {r : R} {v u : Value} (hA : FAt W w.heap.size a r v u) (hB : Below w.heap.size w W) (hn : ¬ thereP B l) (n : Nat) :
    FAt (set8 (W.drewN n) w.heap.size (.int .i64 0) (.int .u64 0) (.int .u64 0) (.bool false) (.bool false) (.int .i64 0) (.slice none 0 0) (.slice none 0 0)) w.heap.size 0 R.none (.slice none 0 0) (.slice none 0 0) ∧
    StdPost B l w (.returned (.tuple #[fdVal 0 R.none (.slice none 0 0) (.slice none 0 0), .bool false])) (set8 (W.drewN n) w.heap.size (.int .i64 0) (.int .u64 0) (.int .u64 0) (.bool false) (.bool false) (.int .i64 0) (.slice none 0 0) (.slice none 0 0)) :=
  ⟨FAt.put8 (W := W.drewN n) hA 0 R.none _ _, set8_below (drewN_below hB n) (Nat.le_refl _), .inr ⟨hn, rfl⟩⟩
theorem row_drew {W : World} {b : Nat} {t : TypeId} {xs : List Value} (h : Row W b t xs) : Row W.drew b t xs := h
/-- a record is there: what is answered -/
theorem std_yes {B : List ByteArray} {l : Lg} {w W3 W : World} {r : R} {v : Value} {bc N : Nat} {a0 : Nat} {r0 : R} {v0 u0 : Value} (hA : FAt W w.heap.size a0 r0 v0 u0) (hB : Below w.heap.size w W) (hB3 : Below W3.heap.size W3 W) (hL : Ents W3 v r.l) (hN : NewV (w.heap.size + 1) v) (hR : Row W bc 9 ((cntsL B l.at_ N).map .string)) (hw : w.heap.size < W3.heap.size) (hbc : W3.heap.size ≤ bc)
    (ht : thereP B l) (hr : hd B l = r) (hc : cnt B l = N) :
    FAt (set8 W w.heap.size (.int .i64 (l.at_ : Int)) (.int .u64 (r.seq : Int)) (.int .u64 (r.cp : Int)) (.bool r.ends) (.bool r.sync) (.int .i64 r.next) v (.slice (some ⟨bc, 0, none⟩) N N)) w.heap.size l.at_ r v (.slice (some ⟨bc, 0, none⟩) N N) ∧
    StdPost B l w (.returned (.tuple #[fdVal l.at_ r v (.slice (some ⟨bc, 0, none⟩) N N), .bool true])) (set8 W w.heap.size (.int .i64 (l.at_ : Int)) (.int .u64 (r.seq : Int)) (.int .u64 (r.cp : Int)) (.bool r.ends) (.bool r.sync) (.int .i64 r.next) v (.slice (some ⟨bc, 0, none⟩) N N)).drew := by
  subst hr hc
  refine ⟨hA.put8 _ _ _ _, (set8_below hB (Nat.le_refl _)).drew, .inl ⟨ht, v, bc, rfl, ?_, Record.NewV.mono hN (by omega), ?_, by omega⟩⟩
  · have he : Ents (set8 W w.heap.size (.int .i64 (l.at_ : Int)) (.int .u64 ((hd B l).seq : Int)) (.int .u64 ((hd B l).cp : Int)) (.bool (hd B l).ends) (.bool (hd B l).sync) (.int .i64 (hd B l).next) v (.slice (some ⟨bc, 0, none⟩) (cnt B l) (cnt B l))) v (hd B l).l := (hL.below hB3).keep fun g o k c he _ => set8_other (by have := hN g o k c he; omega)
    exact Record.ents_drew he
  · have he : Row (set8 W w.heap.size (.int .i64 (l.at_ : Int)) (.int .u64 ((hd B l).seq : Int)) (.int .u64 ((hd B l).cp : Int)) (.bool (hd B l).ends) (.bool (hd B l).sync) (.int .i64 (hd B l).next) v (.slice (some ⟨bc, 0, none⟩) (cnt B l) (cnt B l))) bc 9 ((cntsL B l.at_ (cnt B l)).map .string) := hR.of_heap (set8_other (by omega))
    exact row_drew he
section
set_option maxRecDepth 100000
set_option maxHeartbeats 4000000
theorem standing_any (hl : LAt w q p l) (h : IsDisk w p F d) (ho : LgOk d.B.length l) (hnb : d.B.length % 16 = 0) : Calls Try.prog 66 #[.pointer (some ⟨q, 0, none⟩)] w (StdPost d.now l w) := by
  have hhi := h.ok.hi
  have hnl := d.now_length
  have hsz := h.ok.now_sizes
  obtain ⟨B, hB0⟩ : ∃ B, d.now = B := ⟨_, rfl⟩
  rw [hB0] at hnl hsz ⊢
  have hlt : l.at_ < B.length := by rw [hnl]; exact ho.hi
  have hb512 := hsz _ (blk_mem hlt)
  have HRD : Hid (∀ W, Below w.heap.size w W → Calls Try.prog 28 #[.pointer (some ⟨p, 0, none⟩), .int .i64 (l.at_ : Int)] W fun e w' => e = .returned (.tuple #[.string (blk B l.at_), .int .i64 0]) ∧ Below W.heap.size W w') := fun W hW =>
    Disk.read_yes l.at_ (blk B l.at_) (h.below hW) ho.hi (by rw [hB0]; exact blk_get hlt)
  have hat : l.at_ ≤ 4096 := by omega
  have HCN : Hid (∀ W n, Below w.heap.size w W → n ≤ 15 - l.at_ % 16 → Calls Try.prog 76 #[.pointer (some ⟨q, 0, none⟩), .int .i64 (n : Int)] W (CntPost B l.at_ n W)) := fun W n hW hn => by
    have h1 := ho.hi
    have := contents_any n (hl.th hW) (h.below hW) (by omega) (by omega)
    rw [hB0] at this
    exact this
  have HRQ : Hid (∀ W, Below w.heap.size w W → ∀ m, Calls Try.prog 16 #[.pointer (some ⟨q, 0, none⟩)] (W.drewN m) fun e w' => e = .returned (.int .i64 ((15 - l.at_ % 16 : Nat) : Int)) ∧ w' = W.drewN m) := fun W hW m => room_q (hl.th hW) (by omega) m
  have HCQ : Hid (∀ n W, Below w.heap.size w W → ∀ m, Calls Try.prog 37 #[.pointer (some ⟨p, 0, none⟩), .int .i64 n] (W.drewN m) fun e w' => e = .returned (.bool (decide (segP B.length n))) ∧ w' = W.drewN m) := fun n W hW m => by
    rw [hnl]; exact come_q n (h.below hW) m
  have HTH : Hid (¬ headP B l → ¬ thereP B l) := fun h1 h2 => h1 h2.1
  have HLW : Hid (∀ W, Below w.heap.size w W → LAt W q p l) := fun W hW => hl.th hW
  obtain ⟨b, hb⟩ : ∃ b, blk B l.at_ = b := ⟨_, rfl⟩
  have hDC := fun W => Record.decode_new b W (by rw [← hb]; omega)
  have HHD : Hid (hd B l = decR b) := by unfold Hid hd; rw [hb]
  have HOKB : Hid (headP B l ↔ decOk b ∧ (decR b).seq = l.seq ∧ (decR b).l.length ≤ 15 - l.at_ % 16 ∧ segP B.length (decR b).next) := by
    unfold Hid headP cnt segP
    rw [HHD.out, hb]
  rw [hb] at HRD
  clear hsz hb512 hlt hb h
  have HHI := Lib.hid hhi
  obtain ⟨W1, hW1⟩ : ∃ W1, w.alloc (.cells #[.int .i64 0, .int .u64 0, .int .u64 0, .bool false, .bool false, .int .i64 0, .slice none 0 0, .slice none 0 0] 52) = W1 := ⟨_, rfl⟩
  have hA1 : FAt W1 w.heap.size 0 R.none (.slice none 0 0) (.slice none 0 0) := by rw [← hW1]; exact FAt.new w 0 R.none _ _
  have hB1 : Below w.heap.size w W1 := by rw [← hW1]; exact below_new w _
  have hK : ∀ W, Below w.heap.size w W → W.cell? ⟨q, 0, none⟩ = some (.pointer (some ⟨p, 0, none⟩)) ∧ W.cell? ⟨q, 1, none⟩ = some (.int .i64 (l.at_ : Int)) := fun W hW => ⟨(HLW.out W hW).c.1, (HLW.out W hW).c.2.1⟩
  have HK := Lib.hid hK
  obtain ⟨c0, c1, c2, c3⟩ := (hl.th hB1).c
  unfold Record.DecPostN at hDC
  have HA1 := Lib.hid hA1
  by_cases hok : decOk b
  · simp only [Record.decV_yes hok, Record.decE_yes hok] at hDC
    have hro : (decR b).seq < 281474976710656 ∧ (decR b).l.length ≤ 15 := ⟨hok.2.1.1.2, hok.2.1.len.2⟩
    obtain ⟨r, hr⟩ : ∃ r, decR b = r := ⟨_, rfl⟩
    rw [hr] at HHD HOKB hro
    simp only [hr] at hDC
    have HDC := Lib.hid hDC
    have HOK := Lib.hid hok
    obtain ⟨rm, hrm⟩ : ∃ rm, 15 - l.at_ % 16 = rm := ⟨_, rfl⟩
    rw [hrm] at HRQ HCN HOKB
    have hrm2 : rm ≤ 15 := by omega
    have HCN2 := HCN
    have HST : Hid (cnt B l = r.l.length) := by unfold Hid cnt; rw [HHD.out]
    clear hDC hok hA1 hK ho hl hrm hr
    obtain ⟨rs, rc, re, ry, rn, rl⟩ := r
    obtain ⟨a, sq, nx⟩ := l
    unfold R.val at HDC
    dsimp only at HRD HK c1 c2 c3 HDC hro HOKB HST
    obtain ⟨N, hN⟩ : ∃ N, rl.length = N := ⟨_, rfl⟩
    rw [hN] at hro HOKB HST
    obtain ⟨hr1, hr2⟩ := hro
    have HN := Lib.hid hN
    clear hN
    go_enter Try.func66, Try.ntmps66
    go_wp2
    go_region_held3 (fun W => W.cell? ⟨q, 0, none⟩ = some (.pointer (some ⟨p, 0, none⟩)) ∧ W.cell? ⟨q, 1, none⟩ = some (.int .i64 (a : Int))) (first | exact HK.out _ hB2 | exact HK.out _ hB1.drew | exact HK.out _ hB1) (first
      | (go_at_call 28; ((with_reducible refine Calls.mono (HRD.out _ hB1.drew) ?_); rintro e w1 ⟨rfl, hBr⟩; have hB2 := below_th hB1.drew hBr; have hA2 := (HA1.out.drew).th hBr)))
    go_wp2_with (go_at_call 75; ((with_reducible refine Calls.mono (HDC.out _) ?_); rintro e w2 ⟨v, rfl, hL2, hN2, hBd⟩; have hB3 := below_th hB2 hBd; have hA3 := hA2.th hBd; obtain ⟨ap, cp, rfl, hcp1, hcp2⟩ := hL2.parts; rw [HN.out] at hcp1))
    rw [HN.out] at hL2 hN2 ⊢
    have hA4 := hA3.th (below_new w2 (.cells #[.int .u64 (rs : Int), .int .u64 (rc : Int), .bool re, .bool ry, .int .i64 rn, .slice ap N cp] 49))
    have hB4 := below_al hB3 (.cells #[.int .u64 (rs : Int), .int .u64 (rc : Int), .bool re, .bool ry, .int .i64 rn, .slice ap N cp] 49)
    have hL4 := hL2.below (below_new w2 (.cells #[.int .u64 (rs : Int), .int .u64 (rc : Int), .bool re, .bool ry, .int .i64 rn, .slice ap N cp] 49))
    have hD4 : RAt (w2.alloc (.cells #[.int .u64 (rs : Int), .int .u64 (rc : Int), .bool re, .bool ry, .int .i64 rn, .slice ap N cp] 49)) w2.heap.size ⟨rs, rc, re, ry, rn, rl⟩ (.slice ap N cp) := World.alloc_heap_new w2 _
    have hlt1 : w.heap.size < w1.heap.size := hA2.lt
    have hN4 : NewV (w.heap.size + 1) (.slice ap N cp) := Record.NewV.mono hN2 (by omega)
    obtain ⟨W3, hW3⟩ : ∃ W3, w2.alloc (.cells #[.int .u64 (rs : Int), .int .u64 (rc : Int), .bool re, .bool ry, .int .i64 rn, .slice ap N cp] 49) = W3 := ⟨_, rfl⟩
    rw [hW3] at hA4 hB4 hL4 hD4
    have HRQ4 := Lib.hid (HRQ.out W3 hB4)
    have hcq := HCQ.out rn W3 hB4
    have HNO := Lib.hid (fun hneg n => std_no hA4 hB4 (B := B) (l := ⟨a, sq, nx⟩) hneg n)
    obtain ⟨a0, a1, a2, a3, a4, a5, a6, a7⟩ := hA4.c
    have f0 := hA4.f 0
    have f1 := hA4.f 1
    have f2 := hA4.f 2
    have f3 := hA4.f 3
    have f4 := hA4.f 4
    have f5 := hA4.f 5
    have f6 := hA4.f 6
    have f7 := hA4.f 7
    dsimp only [R.none] at a0 a1 a2 a3 a4 a5 a6 a7
    obtain ⟨d0, d1, d2, d3, d4, d5⟩ := hD4.c
    dsimp only at d0 d1 d2 d3 d4 d5
    obtain ⟨g0, g1, g2, g3⟩ := (HLW.out W3 hB4).c
    dsimp only at g1 g2 g3
    have HA4 := Lib.hid hA4
    have HD4 := Lib.hid hD4
    have HB4 := Lib.hid hB4
    have HL4 := Lib.hid hL4
    have HN4 := Lib.hid hN4
    clear hA4 hD4 hB4 hL4 hN4 hA3 hA2 hL2 hN2 hB3 hB2
    by_cases h1 : rs = sq
    · subst h1
      by_cases h2 : N ≤ rm
      · have q2 : decide (rm < N) = false := decide_eq_false (by omega)
        by_cases h3 : segP B.length rn
        · rw [decide_eq_true h3] at hcq
          have HCQ4 := Lib.hid hcq
          have HHP := Lib.hid (HOKB.out.2 ⟨HOK.out, rfl, h2, h3⟩)
          have hcn := fun n => HCN2.out (W3.drewN n) N (drewN_below HB4.out n) h2
          by_cases h4 : allU B a N
          · have HCY : Hid (∀ n, Calls Try.prog 76 #[.pointer (some ⟨q, 0, none⟩), .int .i64 (N : Int)] (W3.drewN n) fun e w' => ∃ b, e = .returned (.tuple #[.slice (some ⟨b, 0, none⟩) N N, .bool true]) ∧ Row w' b 9 ((cntsL B a N).map .string) ∧ W3.heap.size ≤ b ∧ Below W3.heap.size W3 w') := fun n => (hcn n).mono fun e w' hP => by
              obtain ⟨hB, hx⟩ := hP
              have hB' : Below W3.heap.size W3 w' := (drewN_below (Below.refl _ _) n).trans hB
              rcases hx with ⟨_, b, e1, e2, e3⟩ | ⟨e1, _⟩
              · exact ⟨b, e1, e2, e3, hB'⟩
              · exact absurd h4 e1
            have HTY : Hid (thereP B ⟨a, rs, nx⟩) := ⟨HHP.out, fun i hi => h4 i (by have := HST.out; omega)⟩
            clear hcn hcq h2 h3 h4
            go_quiet ((first | (go_at_call 16; exact Calls.quiet_of_same (HRQ4.out _)) | (go_at_call 37; exact Calls.quiet_of_same (HCQ4.out _))))
            go_wp2_with (go_at_call 76; ((with_reducible refine Calls.mono (HCY.out _) ?_); rintro e w4 ⟨bc, rfl, hRc, hbc, hBc⟩; have hA5 := HA4.out.th hBc; obtain ⟨a0, a1, a2, a3, a4, a5, a6, a7⟩ := hA5.c; have f0 := hA5.f 0; have f1 := hA5.f 1; have f2 := hA5.f 2; have f3 := hA5.f 3; have f4 := hA5.f 4; have f5 := hA5.f 5; have f6 := hA5.f 6; have f7 := hA5.f 7; dsimp only [R.none] at a0 a1 a2 a3 a4 a5 a6 a7; obtain ⟨d0, d1, d2, d3, d4, d5⟩ := (HD4.out.th hBc).c; dsimp only at d0 d1 d2 d3 d4 d5; have hB5 := below_th HB4.out hBc; obtain ⟨g0, g1, g2, g3⟩ := (HLW.out w4 hB5).c; dsimp only at g1 g2 g3; have HA5 := Lib.hid hA5; have HB5 := Lib.hid hB5; have HRc := Lib.hid hRc; have HBc := Lib.hid hBc; clear hA5 hB5 hRc hBc))
            have HY := Lib.hid (std_yes (l := ⟨a, rs, nx⟩) HA5.out HB5.out HBc.out HL4.out HN4.out HRc.out HA4.out.lt hbc HTY.out HHD.out HST.out)
            clear HA5 HB5 HL4 HN4 HRc HBc HA4 HB4 HD4 HNO hbc
            go_region
            all_goals
              go_wp2
              refine bodyPost_ret (results_fnd rfl _ _ rfl HY.out.1.drew) rfl ?_
              exact HY.out.2
          · have HCX : Hid (∀ n, Calls Try.prog 76 #[.pointer (some ⟨q, 0, none⟩), .int .i64 (N : Int)] (W3.drewN n) fun e w' => e = .returned (.tuple #[.slice none 0 0, .bool false]) ∧ Below W3.heap.size W3 w') := fun n => (hcn n).mono fun e w' hP => by
              obtain ⟨hB, hx⟩ := hP
              have hB' : Below W3.heap.size W3 w' := (drewN_below (Below.refl _ _) n).trans hB
              rcases hx with ⟨e1, _⟩ | ⟨_, e1⟩
              · exact absurd e1 h4
              · exact ⟨e1, hB'⟩
            have hneg : ¬ thereP B ⟨a, rs, nx⟩ := fun hh => h4 fun i hi => hh.2 i (by have := HST.out; omega)
            have HNG := Lib.hid hneg
            clear hcn hcq h2 h3 h4 hneg
            go_quiet ((first | (go_at_call 16; exact Calls.quiet_of_same (HRQ4.out _)) | (go_at_call 37; exact Calls.quiet_of_same (HCQ4.out _))))
            go_wp2_with (go_at_call 76; ((with_reducible refine Calls.mono (HCX.out _) ?_); rintro e w4 ⟨rfl, hBc⟩; have hA5 := HA4.out.th hBc; obtain ⟨a0, a1, a2, a3, a4, a5, a6, a7⟩ := hA5.c; have f0 := hA5.f 0; have f1 := hA5.f 1; have f2 := hA5.f 2; have f3 := hA5.f 3; have f4 := hA5.f 4; have f5 := hA5.f 5; have f6 := hA5.f 6; have f7 := hA5.f 7; dsimp only [R.none] at a0 a1 a2 a3 a4 a5 a6 a7; have HNO4 := Lib.hid (std_no hA5 (below_th HB4.out hBc) HNG.out 0); clear hA5))
            refine bodyPost_ret (results_fnd rfl _ _ rfl HNO4.out.1) rfl ?_
            exact HNO4.out.2
        · rw [decide_eq_false h3] at hcq
          have HCQ4 := Lib.hid hcq
          have hneg := HTH.out fun hh => h3 (HOKB.out.1 hh).2.2.2
          clear hcq h2 h3
          go_quiet ((first | (go_at_call 16; exact Calls.quiet_of_same (HRQ4.out _)) | (go_at_call 37; exact Calls.quiet_of_same (HCQ4.out _))))
          go_wp2
          refine bodyPost_ret (results_fnd rfl _ _ rfl (HNO.out hneg _).1) rfl ?_
          exact (HNO.out hneg _).2
      · have q2 : decide (rm < N) = true := decide_eq_true (by omega)
        have HCQ4 := Lib.hid hcq
        have hneg := HTH.out fun hh => h2 (HOKB.out.1 hh).2.2.1
        clear hcq h2
        go_quiet ((first | (go_at_call 16; exact Calls.quiet_of_same (HRQ4.out _)) | (go_at_call 37; exact Calls.quiet_of_same (HCQ4.out _))))
        go_wp2
        refine bodyPost_ret (results_fnd rfl _ _ rfl (HNO.out hneg _).1) rfl ?_
        exact (HNO.out hneg _).2
    · have q1 : (rs == sq) = false := by simp [h1]
      have q3 : (rs != sq) = true := by simp [h1]
      have q4 : ((rs : Int) != (sq : Int)) = true := by simp; omega
      have q5 : ((rs : Int) == (sq : Int)) = false := by simp; omega
      have HCQ4 := Lib.hid hcq
      have hneg := HTH.out fun hh => h1 (HOKB.out.1 hh).2.1
      clear hcq
      go_quiet ((first | (go_at_call 16; exact Calls.quiet_of_same (HRQ4.out _)) | (go_at_call 37; exact Calls.quiet_of_same (HCQ4.out _))))
      go_wp2
      refine bodyPost_ret (results_fnd rfl _ _ rfl (HNO.out hneg _).1) rfl ?_
      exact (HNO.out hneg _).2
  · simp only [Record.decV_no hok, Record.decE_no hok] at hDC
    have HNT := Lib.hid (HTH.out fun hh => hok (HOKB.out.1 hh).1)
    have HDC := Lib.hid hDC
    unfold R.val R.none at HDC
    dsimp only at HDC
    clear hDC hok hA1 hK ho hl
    obtain ⟨a, sq, nx⟩ := l
    dsimp only at HRD HK c1 c2 c3
    go_enter Try.func66, Try.ntmps66
    go_wp2
    go_region_held3 (fun W => W.cell? ⟨q, 0, none⟩ = some (.pointer (some ⟨p, 0, none⟩)) ∧ W.cell? ⟨q, 1, none⟩ = some (.int .i64 (a : Int))) (first | exact HK.out _ hB2 | exact HK.out _ hB1.drew | exact HK.out _ hB1) (first
      | (go_at_call 28; ((with_reducible refine Calls.mono (HRD.out _ hB1.drew) ?_); rintro e w1 ⟨rfl, hBr⟩; have hB2 := below_th hB1.drew hBr; have hA2 := (HA1.out.drew).th hBr)))
    go_wp2_with (go_at_call 75; ((with_reducible refine Calls.mono (HDC.out _) ?_); rintro e w2 ⟨v, rfl, hL2, hN2, hBd⟩; have hB3 := below_th hB2 hBd; have hA3 := hA2.th hBd; obtain ⟨ap, cp, rfl, _, _⟩ := hL2.parts))
    have hA4 := hA3.th (below_new w2 (.cells #[.int .u64 0, .int .u64 0, .bool false, .bool false, .int .i64 0, .slice ap 0 cp] 49))
    have hB4 := below_al hB3 (.cells #[.int .u64 0, .int .u64 0, .bool false, .bool false, .int .i64 0, .slice ap 0 cp] 49)
    obtain ⟨a0, a1, a2, a3, a4, a5, a6, a7⟩ := hA4.c
    have f0 := hA4.f 0
    have f1 := hA4.f 1
    have f2 := hA4.f 2
    have f3 := hA4.f 3
    have f4 := hA4.f 4
    have f5 := hA4.f 5
    have f6 := hA4.f 6
    have f7 := hA4.f 7
    dsimp only [R.none] at a0 a1 a2 a3 a4 a5 a6 a7
    have HNO := Lib.hid (fun n => std_no hA4 hB4 HNT.out n)
    clear hA4 hA3 hA2 hL2 hN2
    go_quiet (fail)
    go_wp2
    refine bodyPost_ret (results_fnd rfl _ _ rfl (HNO.out _).1) rfl ?_
    exact (HNO.out _).2
end
end Go.Proofs.Ytghonccffmmjhaa.Log
/- The iterator over what stands where a log goes on: whoever goes through it takes the log behind each record. -/
namespace Go.Proofs.Ytghonccffmmjhaa.Log
open Go.RowKit Go.Shelf
open Disk (D IsDisk)
open Record (E R RightP Ents NewV)
attribute [local go_sem] Oper.semAt_some
set_option linter.unusedVariables false

/-- what the iterator asks of a world: where the log goes on, and the disk -/
def LogSt (B : List ByteArray) (l0 : Lg) (bq q p : Nat) (k : Nat) (W : World) : Prop := W.cell? ⟨bq, 0, none⟩ = some (.pointer (some ⟨q, 0, none⟩)) ∧ LAt W q p (lgK B l0 k) ∧ ∃ F d, IsDisk W p F d ∧ d.now = B
/-- what the k-th round is handed -/
def FdE (B : List ByteArray) (l0 : Lg) (n0 : Nat) (St : Nat → World → Prop) (k : Nat) (args : Array Value) (W : World) : Prop :=
  ∃ W0, St k W0 ∧ Below W0.heap.size W0 W ∧ ((k < n0 ∧ ∃ v b, args = #[fdVal (lgK B l0 k).at_ (hd B (lgK B l0 k)) v (.slice (some ⟨b, 0, none⟩) (cnt B (lgK B l0 k)) (cnt B (lgK B l0 k))), .bool true] ∧ Ents W v (hd B (lgK B l0 k)).l ∧ NewV W0.heap.size v ∧ Row W b 9 ((fdAt B (lgK B l0 k)).c.map .string) ∧ W0.heap.size ≤ b) ∨ (k = n0 ∧ args = #[zeroF, .bool false]))
theorem grown_of_below {W W' : World} (h : Below W.heap.size W W') : W.grownBy W' none := ⟨h.1, h.2, h.3, h.4, fun k hk _ => h.5 k hk⟩
section
set_option maxRecDepth 100000
set_option maxHeartbeats 4000000
theorem ahead1_in (n : Nat) (hn : 1 ≤ n) (lp bq q p : Nat) (B : List ByteArray) (l0 : Lg) (n0 : Nat) (hB16 : B.length % 16 = 0) (hl0 : LgOk B.length l0) (hsc : Scans B l0 n0) (St : Nat → World → Prop)
    (hF : ∀ k W, St k W → k ≤ n0 → LogSt B l0 bq q p k W) (hEnd : ∀ W, ¬ St (n0 + 1) W) (J Jx : Nat → World → Prop) (B0 : Nat) (hJ : AbidesFrom B0 J)
    (hJS : ∀ k W, J k W → k ≤ n0 + 1 → St k W)
    (hY : ∀ k args W1, J k W1 → k < n0 + 1 → FdE B l0 n0 St k args W1 → YieldAt Fence.wide (n - 1) Try.prog lp args W1 fun e W' => (e = .returned (.bool true) ∧ J (k + 1) W') ∨ (e = .returned (.bool false) ∧ Jx k W'))
    (W : World) (h0 : J 0 W) :
    CallsIn Fence.wide n Try.prog 65 #[.func (.yield lp) #[] #[], .pointer (some ⟨bq, 0, none⟩)] W fun e W' => (∃ v, e = .returned v) ∧ ∃ k, k < n0 + 1 ∧ Jx k W' := by
  have hfn : ∀ f, Fence.wide.fn f := fun _ => trivial
  have hJa : ∀ k W1 W2, J k W1 → Below W1.heap.size W1 W2 → J k W2 := fun k W1 W2 h hB => hJ _ _ _ none h (grown_of_below hB) (fun r e => by cases e)
  have HA := Lib.hid hJa
  have HY := Lib.hid hY
  have HJS := Lib.hid hJS
  have HF := Lib.hid hF
  have HEND := Lib.hid hEnd
  have HSC := Lib.hid hsc
  have HOK : Hid (∀ k, k ≤ n0 → LgOk B.length (lgK B l0 k)) := fun k hk => hl0.lgK hB16 k (fun j hj => hsc.all j (by omega))
  have H16 := Lib.hid hB16
  clear hJa hY hJ hJS hF hEnd hsc hl0 hB16
  refine callsIn_of_wp Try.func65 rfl trivial ?_ rfl
  simp only [Try.ntmps65, List.size_toArray, List.length_cons, List.length_nil, Nat.reduceAdd, Nat.reduceSub, Array.replicate_succ, Array.replicate_zero, List.push_toArray, List.append_toArray, List.nil_append, List.cons_append]
  gi_wp2
  gi_loopg [] (n0 + 1) (fun gk wr => ∃ k : Nat, k + gk = n0 + 1 ∧ Hid (J k wr))
  case atStart => exact ⟨0, by omega, h0⟩
  case round =>
    obtain ⟨k, hkg, hJ⟩ := hrel
    have hkn : k ≤ n0 := by
      rcases Nat.lt_or_ge n0 k with h | h
      · exact absurd (HJS.out k wr hJ.out (by omega)) (by rw [show k = n0 + 1 by omega]; exact HEND.out wr)
      · exact h
    have hS := HJS.out k wr hJ.out (by omega)
    obtain ⟨cq, hlk, F, d, hD, hdn⟩ := HF.out k wr hS hkn
    have hlen : d.B.length = B.length := by rw [← hdn, d.now_length]
    have hst := standing_any hlk hD (by rw [hlen]; exact HOK.out k hkn) (by rw [hlen]; exact H16.out)
    rw [hdn] at hst
    have HKG := Lib.hid hkg
    have HJ := Lib.hid hJ.out
    have HS := Lib.hid hS
    by_cases hlt : k < n0
    · have hth := HSC.out.all k hlt
      have hC : Calls Try.prog 66 #[.pointer (some ⟨q, 0, none⟩)] wr fun e w' => ∃ x, e = .returned (.tuple #[x, .bool true]) ∧ FdE B l0 n0 St k #[x, .bool true] w' ∧ Below wr.heap.size wr w' := hst.mono fun e w' hP => by
        obtain ⟨hB, hx⟩ := hP
        rcases hx with ⟨_, v, b, rfl, e1, e2, e3, e4⟩ | ⟨e1, _⟩
        · exact ⟨_, rfl, ⟨wr, HS.out, hB, .inl ⟨hlt, v, b, rfl, e1, e2, e3, e4⟩⟩, hB⟩
        · exact absurd hth e1
      clear hst hth hJ hkg hS hD hdn hlk hlen
      gi_wp2_with (gi_at_call 66; refine (callsIn_wide.2 hC).mono ?_; rintro e w1 ⟨x, rfl, hE1, hB1⟩; obtain ⟨fn, tmps, assign, body, hy, hR⟩ := HY.out k _ w1 (HA.out _ _ _ HJ.out hB1) (by omega) hE1; clear hE1)
      refine hR.mono ?_
      rintro e W3 (⟨rfl, hJ3⟩ | ⟨rfl, hJx3⟩)
      · have HJ3 := Lib.hid hJ3
        clear hJ3
        gi_wp2
        gi_roundg (gk - 1)
        case rel => exact ⟨k + 1, by have := HKG.out; omega, HJ3.out⟩
        case measure => have := HKG.out; omega
      · gi_wp2
        go_end0
        exact ⟨⟨_, rfl⟩, k, by omega, hJx3⟩
    · obtain rfl : k = n0 := by omega
      have hth := HSC.out.stop
      have hC : Calls Try.prog 66 #[.pointer (some ⟨q, 0, none⟩)] wr fun e w' => ∃ x, e = .returned (.tuple #[x, .bool false]) ∧ FdE B l0 k St k #[x, .bool false] w' ∧ Below wr.heap.size wr w' := hst.mono fun e w' hP => by
        obtain ⟨hB, hx⟩ := hP
        rcases hx with ⟨e1, _⟩ | ⟨_, rfl⟩
        · exact absurd e1 hth
        · exact ⟨_, rfl, ⟨wr, HS.out, hB, .inr ⟨rfl, rfl⟩⟩, hB⟩
      clear hst hth hJ hkg hS hD hdn hlk hlen hlt
      gi_wp2_with (gi_at_call 66; refine (callsIn_wide.2 hC).mono ?_; rintro e w1 ⟨x, rfl, hE1, hB1⟩; obtain ⟨fn, tmps, assign, body, hy, hR⟩ := HY.out k _ w1 (HA.out _ _ _ HJ.out hB1) (by omega) hE1; clear hE1)
      refine hR.mono ?_
      rintro e W3 (⟨rfl, hJ3⟩ | ⟨rfl, hJx3⟩)
      · exact absurd (HJS.out _ _ hJ3 (by omega)) (HEND.out W3)
      · gi_wp2
        go_end0
        exact ⟨⟨_, rfl⟩, k, by omega, hJx3⟩
theorem ahead_in (n q : Nat) (w : World) :
    CallsIn Fence.wide n Try.prog 49 #[.pointer (some ⟨q, 0, none⟩)] w fun e w' => e = .returned (.func (.func 65) #[] #[.pointer (some ⟨w.heap.size, 0, none⟩)]) ∧ w.alloc (.cells #[.pointer (some ⟨q, 0, none⟩)] 31) = w' := by
  refine callsIn_of_wp Try.func49 rfl trivial ?_ rfl
  simp only [Try.ntmps49, List.size_toArray, List.length_cons, List.length_nil, Nat.reduceAdd, Nat.reduceSub, Array.replicate_succ, Array.replicate_zero, List.push_toArray, List.append_toArray, List.nil_append, List.cons_append]
  gi_wp2
  go_ret
  exact ⟨rfl, rfl⟩
end
end Go.Proofs.Ytghonccffmmjhaa.Log
