/- Several texts in one, each under its own heading. -/
import Derived.StillTailTactics
import Derived.Test.YtghonccffmmjhaaPk24
import Derived.Test.YtghonccffmmjhaaPk01
/- A log's Write, where the record is right, walked through. -/
namespace Go.Proofs.Ytghonccffmmjhaa.Log
open Go.RowKit Go.Shelf
open Disk (D IsDisk)
open Record (E R RightP Ents AllOk EOk encB encS encE below_al below_new)
attribute [local go_sem] Oper.semAt_some
set_option linter.unusedVariables false

variable {w : World} {q p : Nat} {l : Lg} {F : Nat → Prop} {d : D}
section
set_option maxRecDepth 100000
set_option maxHeartbeats 4000000
theorem write_right (cp : Nat) (v : Value) (L : List It) (en sy : Bool) (hl : LAt w q p l) (h : IsDisk w p F d) (ho : LgOk d.B.length l) (hnx : l.next ≠ 0) (hL : Its w v L) (hsz : ∀ x ∈ L, x.c.size ≤ 281474976710656) (hE : ∀ x ∈ L, EOk x.e) (hk : okW l cp L en sy) (hF : ∀ k, F k → k < w.heap.size) (hq : ¬ F q) (hnb : d.B.length % 16 = 0) (hops : d.ops ≤ 1099510000000) : Calls Try.prog 18 #[.pointer (some ⟨q, 0, none⟩), .int .u64 (cp : Int), v, .bool en, .bool sy] w (WritePost p q F d l cp L en sy w) := by
  have hB := below_new w (.cells #[.pointer (some ⟨q, 0, none⟩)] 31)
  obtain ⟨w0, hw0⟩ : ∃ w0, w.alloc (.cells #[.pointer (some ⟨q, 0, none⟩)] 31) = w0 := ⟨_, rfl⟩
  have hbx : w0.cell? ⟨w.heap.size, 0, none⟩ = some (.pointer (some ⟨q, 0, none⟩)) := by
    have := World.alloc_heap_new w (.cells #[.pointer (some ⟨q, 0, none⟩)] 31)
    rw [hw0] at this
    simp only [World.cell?, this]; rfl
  have hbl : w.heap.size < w0.heap.size := by rw [← hw0]; simp
  rw [hw0] at hB
  have hl1 := hl.th hB
  have hc := isNone_not hl1
  have hrm := room_l hl1 (by have := ho.hi; have := h.ok.hi; omega)
  obtain ⟨n, hn⟩ : ∃ n, L.length = n := ⟨_, rfl⟩
  have hn15 : n ≤ 15 := by have := okW_len hk; omega
  obtain ⟨va, vcap, hv, hv1, hv2⟩ := hL.parts
  subst hv
  rw [hn] at hL hv1 ⊢
  have HLO : Hid (Calls Try.prog 41 #[.slice va n vcap, .int .i64 ((15 - l.at_ % 16 : Nat) : Int)] w0 fun e w' => ∃ b1 b2, e = .returned (.tuple #[.slice (some ⟨b1, 0, none⟩) n n, .slice (some ⟨b2, 0, none⟩) n n, .bool true]) ∧ Below w0.heap.size w0 w' ∧ Row w' b1 9 ((blks L).map .string) ∧ Ents w' (.slice (some ⟨b2, 0, none⟩) n n) (ents L) ∧ w0.heap.size ≤ b1 ∧ b1 < w'.heap.size) := (laidOut_any L (15 - l.at_ % 16) (.slice va n vcap) w0 (hL.below hB) (by omega) hsz).mono fun e w' ⟨h1, h2⟩ => by
    rcases h2 with ⟨_, _, b1, b2, he, r1, r2, g1, g2, g3⟩ | ⟨hh, _⟩
    · rw [hn] at he
      exact ⟨b1, b2, he, h1, r1, ents_row r2 (by rw [ents_length]; exact hn) (by omega), g1, g3⟩
    · exact absurd ⟨hk.1, hk.2.1⟩ hh
  have HEN : Hid (∀ W u, Ents W u (ents L) → Calls Try.prog 42 #[.agg #[.int .u64 (l.seq : Int), .int .u64 (cp : Int), .bool en, .bool sy, .int .i64 (l.next : Int), u]] W fun e w' => e = .returned (.tuple #[.string (encB (recW l cp L en sy)), .int .i64 0]) ∧ Below W.heap.size W w') := fun W u hW => by
    have := Record.encode_any (recW l cp L en sy) u W hW (all_ok hE)
    unfold Record.Ans at this
    rw [Record.encS_yes hk.2.2, Record.encE_yes hk.2.2] at this
    exact this
  have HN := Lib.hid hn
  have HOK := Lib.hid hk
  have hlen : (blks L).length = n := by rw [blks_length]; exact hn
  have hat := ho.hi
  have hhi := h.ok.hi
  have hsz2 := Record.encB_size hk.2.2
  have HRN : Hid (∀ y z b W, Ready w0 y z b n (blks L) (encB (recW l cp L en sy)) W → Calls Try.prog 43 #[.slice (some ⟨W.heap.size, 0, none⟩) 4 4] (W.alloc (.cells (callsL p w.heap.size y z).toArray 88)).drew fun e w' => e = .returned (.int .i64 (offE (writeD d l.at_ (blks L) (encB (recW l cp L en sy))).2)) ∧ Aft p q F (writeD d l.at_ (blks L) (encB (recW l cp L en sy))).1 w W w') := fun y z b W hR =>
    run_ready hlen hB hbx hl h hF hq (by rw [hlen]; have := hk.1; omega) (blks_size hk.2.1) hsz2 (by omega) (by omega) hbl W hR
  have hat2 : l.at_ ≤ 4096 := by omega
  have hsq := hk.2.2.1.2
  have HBH : Hid (∀ W, LAt W q p l → Calls Try.prog 48 #[.pointer (some ⟨q, 0, none⟩), .int .i64 (n : Int), .int .i64 (l.next : Int)] W fun e w' => e = .returned (.tuple #[]) ∧ LAt w' q p (behind l n l.next) ∧ Only (fun i => i = q) W w') := fun W hW => goBehind_any n l.next hW hat2 (by omega) (by have := ho.nx; omega) (by show (recW l cp L en sy).seq ≤ _; omega)
  have HFT := Lib.hid hF
  have HQ := Lib.hid hq
  have HL0 := Lib.hid hl
  have hqlt := hl.lt
  obtain ⟨s, hs⟩ : ∃ s, encB (recW l cp L en sy) = s := ⟨_, rfl⟩
  obtain ⟨x, hx⟩ : ∃ x, writeD d l.at_ (blks L) s = x := ⟨_, rfl⟩
  have HS := Lib.hid hs
  rw [hs] at HEN HRN hsz2
  rw [hx] at HRN
  have HX := Lib.hid hx
  have HK2 : Hid (∀ W, Below w0.heap.size w0 W → W.cell? ⟨q, 0, none⟩ = some (.pointer (some ⟨p, 0, none⟩))) := fun W hW => (hl1.th hW).c.1
  have HK : Hid (∀ W, Below w0.heap.size w0 W → W.cell? ⟨w.heap.size, 0, none⟩ = some (.pointer (some ⟨q, 0, none⟩)) ∧ W.cell? ⟨q, 2, none⟩ = some (.int .u64 (l.seq : Int)) ∧ W.cell? ⟨q, 3, none⟩ = some (.int .i64 (l.next : Int))) := fun W hW => ⟨(hW.cell (p := ⟨w.heap.size, 0, none⟩) hbl).trans hbx, (hl1.th hW).c.2.2.1, (hl1.th hW).c.2.2.2⟩
  obtain ⟨c0, c1, c2, c3⟩ := hl1.c
  have hz : ((l.next : Int) == 0) = false := by simp; omega
  have HNX := Lib.hid hnx
  have HB := Lib.hid hB
  obtain ⟨a, sq, nx⟩ := l
  dsimp only at c1 c2 c3 hz HK hrm
  dsimp only at HLO HEN HBH
  have hO0 : Below w0.heap.size w0 w0 := Below.refl _ _
  unfold callsL at HRN
  clear hl1 hl h ho hnx hL hsz hB hE hn hk hF hq hnb hops hlen hs hx hsz2 hat hhi hsq
  go_enter Try.func18, Try.ntmps18
  go_wp2_with (first
    | (go_at_call 39; refine hc.mono ?_; rintro e w' ⟨rfl, rfl⟩)
    | (go_at_call 16; refine hrm.mono ?_; rintro e w' ⟨rfl, rfl⟩)
    | (go_at_call 41; (with_reducible refine Calls.mono HLO.out ?_); rintro e w1 ⟨b1, b2, rfl, hB1, hR1, hE1, g1, g3⟩; have hO1 : Below w0.heap.size w0 (w1.alloc (.cells #[.slice (some ⟨b1, 0, none⟩) n n] 50)) := below_al hB1 _; have hEa : Ents (w1.alloc (.cells #[.slice (some ⟨b1, 0, none⟩) n n] 50)).drew (.slice (some ⟨b2, 0, none⟩) n n) (ents L) := hE1.below (below_new w1 _).drew; have hEb : Ents ((w1.alloc (.cells #[.slice (some ⟨b1, 0, none⟩) n n] 50)).alloc (.cells #[.string ⟨#[]⟩] 9)).drew (.slice (some ⟨b2, 0, none⟩) n n) (ents L) := (hE1.below (below_new w1 _)).below (below_new _ _).drew; have hO2 : Below w0.heap.size w0 ((w1.alloc (.cells #[.slice (some ⟨b1, 0, none⟩) n n] 50)).alloc (.cells #[.string ⟨#[]⟩] 9)).drew := (below_al hO1 _).drew))
  go_region_held3 (fun W => W.cell? ⟨w.heap.size, 0, none⟩ = some (.pointer (some ⟨q, 0, none⟩)) ∧ W.cell? ⟨q, 2, none⟩ = some (.int .u64 (sq : Int)) ∧ W.cell? ⟨q, 3, none⟩ = some (.int .i64 (nx : Int))) (first | exact HK.out _ hO4 | exact HK.out _ hO3 | exact HK.out _ (below_al hO3 _) | exact HK.out _ hO2 | exact HK.out _ hO1 | exact HK.out _ hO1.drew) (first
    | (go_at_call 42; ((with_reducible refine Calls.mono (HEN.out ((w1.alloc _).alloc _).drew _ hEb) ?_); rintro e w3 ⟨rfl, hB3⟩; have hO3 := below_th hO2 hB3; obtain ⟨z1, z2⟩ := box_kept hB3; rw [World.size_alloc] at z1 z2; have hO4 : Below w0.heap.size w0 (w3.setCell ⟨w1.heap.size + 1, 0, none⟩ (.string s)) := hO3.setCell (p := ⟨w1.heap.size + 1, 0, none⟩) (by have := hB1.size; show w0.heap.size ≤ w1.heap.size + 1; omega) _; have hRD : ∃ zz, w1.heap.size + 1 = zz ∧ Ready w0 w1.heap.size zz b1 n (blks L) s (w3.setCell ⟨w1.heap.size + 1, 0, none⟩ (.string s)) := ⟨_, rfl, readyA hB1 hR1 g1 hB3⟩))
    | (go_at_call 42; ((with_reducible refine Calls.mono (HEN.out (w1.alloc _).drew _ hEa) ?_); rintro e w3 ⟨rfl, hB3⟩; have hO3 := below_th hO1.drew hB3; have hO4 : Below w0.heap.size w0 (w3.alloc (.cells #[.string s] 9)) := below_al hO3 _; have hRD : ∃ zz, w3.heap.size = zz ∧ Ready w0 w1.heap.size zz b1 n (blks L) s (w3.alloc (.cells #[.string s] 9)) := ⟨_, rfl, readyB hB1 hR1 g1 hB3⟩)))
  all_goals
    obtain ⟨zz, hzz, hRD⟩ := hRD
    refine letter (P := fun W => Ready w0 w1.heap.size zz b1 n (blks L) s W) hRD (fun W4 hR4 => ?_)
    have hO5 := hR4.bel
    have HR4 := Lib.hid hR4
    clear hO4 hRD hEa hEb hO1 hO2 hR1 hE1 hB1 hR4
    try clear z1 z2
    try clear hO3 hB3
    go_wp2
    cases hx2 : x.2 with
    | false =>
      have HRN1 := Lib.hid (HRN.out w1.heap.size zz b1 W4 HR4.out)
      rw [hx2, show offE false = 43 from rfl] at HRN1
      have hc6 := (HK.out _ hO5).1
      have hc7 := HK2.out _ hO5
      go_still_tail 12, (by kernel_rfl)
      go_wp2_with (go_at_call 43; ((with_reducible refine Calls.mono HRN1.out ?_); rintro e w5 ⟨rfl, hA5⟩; have HA5 := Lib.hid hA5; clear hA5))
      go_ret2
      refine .off HNX.out HOK.out (by rw [HS.out, HX.out]; exact hx2) rfl ?_
      rw [HS.out, HX.out]
      obtain ⟨hO, G, g1, g2, g3, g4⟩ := HA5.out
      have hOw : Only F w w5 := (Only.of_below (below_th HB.out hO5)).step hO fun i _ hi => hi
      exact ⟨G, g1, HL0.out.of_heap (hOw.block q hqlt HQ.out), hOw.mono fun i _ hi => .inl hi, g2, g3, g4⟩
    | true =>
      have HRN1 := Lib.hid (HRN.out w1.heap.size zz b1 W4 HR4.out)
      rw [hx2, show offE true = 0 from rfl] at HRN1
      have hc6 := (HK.out _ hO5).1
      have hc7 := HK2.out _ hO5
      have hbt : w0.heap.size ≤ W4.heap.size := hO5.size
      obtain ⟨M, hM⟩ : ∃ M : List Value, M = (madeCells #[Value.int .i64 0] n).toList := ⟨_, rfl⟩
      have hMl : M.length = n := by rw [hM, Array.length_toList, size_madeCells]
      have hmk : ∀ W : World, (Instr.makeSlice 36 (.int .i64 (n : Int)) (.int .i64 (n : Int))).run Try.prog W = .ok (.slice (some ⟨W.heap.size, 0, none⟩) n n) (W.alloc (.cells M.toArray 3)) := fun W => by
        rw [hM, Array.toArray_toList]
        exact run_make_row' (P := Try.prog) 36 3 (.int .i64 0) 8 Try.underlying36 infoI rfl .i64 .i64 n (by omega) (by omega) W
      have HI0 : Hid (∀ w5 : World, PlI ⟨a, sq, nx⟩ w5 n 0 (w5.alloc (.cells M.toArray 3))) := fun w5 => ⟨⟨M, heap_alloc_new w5 _, hMl, by simp⟩, below_new w5 _⟩
      clear hM hMl
      have hat3 : a ≤ 4096 := hat2
      go_still_tail 12, (by kernel_rfl)
      go_wp2_with (go_at_call 43; ((with_reducible refine Calls.mono HRN1.out ?_); rintro e w5 ⟨rfl, hA5⟩; have hl5 : LAt w5 q p ⟨a, sq, nx⟩ := (HL0.out.th (below_th HB.out hO5)).of_heap (hA5.only.block q (by have := (below_th HB.out hO5).size; omega) HQ.out); have hx5 : w5.cell? ⟨w.heap.size, 0, none⟩ = some (.pointer (some ⟨q, 0, none⟩)) := cell_only hc6 hA5.only (fun hf => by have := HFT.out _ hf; omega); have HA5 := Lib.hid hA5; have HL5 := Lib.hid hl5; have HX5 := Lib.hid hx5; clear hA5))
      go_loopw [18, 79] (fun _ i wr => ∃ k : Nat, k ≤ n ∧ i = .int .i64 (k : Int) ∧ Hid (PlI ⟨a, sq, nx⟩ w5 n k wr)) (fun _ i _ => n - (intOf i).toNat)
      case atStart => exact ⟨0, by omega, rfl, HI0.out _⟩
      case round =>
        obtain ⟨k, hkn, rfl, HI⟩ := hrel
        have e0 := (HI.out.bel.cell (p := ⟨w.heap.size, 0, none⟩) (cell_lt hx5)).trans hx5
        have hlw := HL5.out.th HI.out.bel
        obtain ⟨f0, f1, f2, f3⟩ := hlw.c
        dsimp only at f1 f2 f3
        by_cases hlt : k < n
        · obtain ⟨cur, r, rl, rt⟩ := HI.out.row
          obtain ⟨⟨u0, u1⟩, u2⟩ := row_cell r (by omega : k < cur.length)
          have HST := Lib.hid (HI.out.step hlt)
          clear r rl rt
          go_wp2
          go_roundw
          case rel => exact ⟨k + 1, by omega, by go_num, HST.out⟩
          case measure => simp [intOf]; omega
        · obtain rfl : k = n := by omega
          have hbh := HBH.out wr.drew hlw
          go_wp2
          go_still_tail 7, (by kernel_rfl)
          go_wp2_with (go_at_call 48; ((with_reducible refine Calls.mono hbh ?_); rintro e w7 ⟨rfl, hl7, hO7⟩; have HL7 := Lib.hid hl7; have HO7 := Lib.hid hO7; clear hl7 hO7))
          go_ret2
          have hOw : Only F w w5 := (Only.of_below (below_th HB.out hO5)).step HA5.out.only fun i _ hi => hi
          have hqw : q < w5.heap.size := by have := hOw.size; omega
          have hOr : Only (fun i => F i ∨ i = q) w wr := (hOw.mono fun i _ hi => .inl hi).step (Only.of_below HI.out.bel) fun i _ hi => hi
          obtain ⟨cur, r, rl, rt⟩ := HI.out.row
          rw [List.take_of_length_le (by omega), List.take_of_length_le (by rw [places_length]; omega)] at rt
          subst rt
          have hN := HN.out
          refine .done HNX.out HOK.out (by rw [HS.out, HX.out]; exact hx2) w5.heap.size (by rw [hN]; rfl) (by rw [hN]; exact row_only (W := wr.drew) r HO7.out (by omega)) hOw.size ?_
          rw [HS.out, HX.out, hN]
          obtain ⟨hO, G, g1, g2, g3, g4⟩ := HA5.out
          exact ⟨G, (g1.below HI.out.bel.drew).only HO7.out (fun i hi e => g4 (e ▸ hi)), HL7.out, (hOr.drew).step HO7.out (fun i _ hi => .inr hi), g2, fun i hi => by have h1 := g3 i hi; have h2 := HI.out.bel.size; have h3 := HO7.out.size; have h4 : wr.drew.heap.size = wr.heap.size := rfl; omega, g4⟩
end
theorem write_any (cp : Nat) (v : Value) (L : List It) (en sy : Bool) (hl : LAt w q p l) (h : IsDisk w p F d) (ho : LgOk d.B.length l) (hL : Its w v L) (hsz : ∀ x ∈ L, x.c.size ≤ 281474976710656) (hE : ∀ x ∈ L, EOk x.e) (hF : ∀ k, F k → k < w.heap.size) (hq : ¬ F q) (hnb : d.B.length % 16 = 0) (hops : d.ops ≤ 1099510000000) :
    Calls Try.prog 18 #[.pointer (some ⟨q, 0, none⟩), .int .u64 (cp : Int), v, .bool en, .bool sy] w (WritePost p q F d l cp L en sy w) := by
  by_cases hn : l.next = 0
  · exact write_next cp v L en sy hl hn
  · by_cases hu : L.length ≤ 15 - l.at_ % 16 ∧ fitP L
    · by_cases hw : RightP (recW l cp L en sy)
      · exact write_right cp v L en sy hl h ho hn hL hsz hE ⟨hu.1, hu.2, hw⟩ hF hq hnb hops
      · exact write_wrong cp v L en sy hl h ho hn hL hsz hE hu hw
    · exact write_unfit cp v L en sy hl h ho hn hL hsz hu
end Go.Proofs.Ytghonccffmmjhaa.Log
/- A loop over an iterator that looks, ahead of each round, at what the rounds ahead of it have left: what the caller's invariant says of the world is the iterator's to use. -/
namespace Go.Proofs.Ytghonccffmmjhaa
open Go.RowKit
set_option linter.unusedVariables false

/-- an iterator that calls yield N times at most, the k-th time with what 'E k' tells, where 'St k' holds ahead of that; it is left by the caller alone -/
def SeqSt (F : Fence) (n : Nat) (P : Program) (g : Nat) (lb : Array Value) (St : Nat → World → Prop) (E : Nat → Array Value → World → Prop) (N : Nat) (w : World) : Prop :=
  ∀ (l : Nat) (J Jx : Nat → World → Prop) (W : World), Below w.heap.size w W → AbidesFrom W.heap.size J → AbidesFrom W.heap.size Jx →
    (∀ k W1, J k W1 → k ≤ N → St k W1) →
    (∀ k args W1, J k W1 → k < N → E k args W1 → YieldAt F (n - 1) P l args W1 fun e W' =>
      (e = .returned (.bool true) ∧ J (k + 1) W') ∨ (e = .returned (.bool false) ∧ Jx k W')) →
    J 0 W →
    CallsIn F n P g (#[.func (.yield l) #[] #[]] ++ lb) W fun e W' => (∃ v, e = .returned v) ∧ ∃ k, k < N ∧ Jx k W'

variable {F : Fence} {n : Nat} {P : Program} {w : World}

theorem wpIn_rangeFunc_st {g : Operand} {ps : Array Tmp} {assign body : Code} {Q : Exit → Act → World → Prop} {a : Act}
    (hro : F.round = none) (h1 : 1 ≤ n) {gf : Nat} {lb : Array Value} (hg : a.eval g = .func (.func gf) #[] lb) (hFg : F.fn gf) (eg : ∀ args w, (callFunc gf args).run P w = .ok (.enter gf args) w)
    {St : Nat → World → Prop} {E : Nat → Array Value → World → Prop} {N : Nat} {w0 : World} (hseq : SeqSt F (n - 1) P gf lb St E N w0)
    (hb0 : Below w0.heap.size w0 w) (hps : ∀ k args W, E k args W → args.size = ps.size)
    (I : Nat → World → Prop) (Ix : Code → Nat → World → Prop) (hI : OwnFrom w.heap.size I) (hIx : ∀ c, OwnFrom w.heap.size (Ix c)) (hSt : ∀ k W, I k W → k ≤ N → St k W) (h0 : I 0 w) (Ax : Nat → Act → World → Prop) (hAx : ∀ k a', OwnFrom w.heap.size (fun (_ : Unit) W => Ax k a' W))
    (hassign : ∀ (l k : Nat) (args : Array Value) (W : World) (K : Act → World → Prop), I k W → k < N → E k args W → (∀ a' W', KeepsFrom w.heap.size W W' → I k W' → Ax k a' W' → K a' W') →
      assign.wpIn (F.inRound l) (n - 1 - 1) P (Exit.then K (fun _ _ _ => False)) { tmps := (ps.zip args).foldl (fun t (p, v) => t.setIfInBounds p v) a.tmps, defers := [] } W)
    (hbody : ∀ (l k : Nat) (a' : Act) (W : World), w.heap.size ≤ l → (∃ r, W.heap[l]? = some (.loop r)) → I k W → Ax k a' W → k < N → body.wpIn (F.inRound l) (n - 1 - 1) P (stepPost w.heap.size (fun _ _ => True) (I (k + 1)) (fun c => Ix c k) W) a' W)
    (hstop : ∀ (D : Nat) (c : Code) (k : Nat) (W : World), w.heap.size ≤ D → k < N → Ix c k W → W.heap[D]? = some (.deferred (some [])) → c.wpIn F n P Q { a with defers := { target := .collected D, args := #[] } :: a.defers } W) :
    (Code.rangeFunc g ps assign body).wpIn F n P Q a w := by
  refine wpIn_rangeFunc ?_
  intro fn hfn
  rw [hro]
  -- the loop's record, whatever its state and its pending jump
  obtain ⟨rec, hrec⟩ : ∃ rec : LoopState → Option Code → Loop, rec = fun st pe => { state := st, pending := pe, fn, tmps := a.tmps, params := ps, assign, body, defers := w.heap.size } := ⟨_, rfl⟩
  obtain ⟨Wl, hWl⟩ : ∃ Wl, (w.alloc (.deferred (some []))).alloc (.loop (rec .ready none)) = Wl := ⟨_, rfl⟩
  have hloop : Wl.heap[w.heap.size + 1]? = some (.loop (rec .ready none)) := by
    rw [← hWl]; have := World.alloc_heap_new (w.alloc (.deferred (some []))) (.loop (rec .ready none)); rwa [World.size_alloc] at this
  have hdef : Wl.heap[w.heap.size]? = some (.deferred (some [])) := by
    rw [← hWl]; exact (Below.heap_alloc _ _ _ (by simp)).trans (World.alloc_heap_new w _)
  have hI1 : I 0 Wl := by rw [← hWl]; exact hI.alloc _ (hI.alloc _ h0)
  have hbl : Below w0.heap.size w0 Wl := by
    rw [← hWl]; exact hb0.trans ((((Below.refl _ w).alloc (Nat.le_refl _) _).alloc (by simp) _).mono hb0.size)
  have hsz : Wl.heap.size = w.heap.size + 2 := by rw [← hWl]; simp
  refine ⟨w.heap.size + 1, [{ target := .collected w.heap.size, args := #[] }], Wl, { target := .fn (.func gf) lb, args := #[.func (.yield (w.heap.size + 1)) #[] #[]] }, Wl, gf,
    #[.func (.yield (w.heap.size + 1)) #[] #[]] ++ lb, Wl, ?_, ?_, ?_, ?_, fun _ => h1, ?_⟩
  · rw [← hWl, hrec]; exact run_enterLoop_outer _ _ _ _ _
  · simp only [resolve, hg]
    simp [go_sem]
  · intro f' hf'; simp [Target.leads] at hf'; subst hf'; exact hFg
  · simp [invoke, go_sem, eg]
  · have hwalk : ∀ {A : World} {row : Option Nat}, (∀ r, row = some r → Wl.heap.size ≤ r ∧ ∃ o : Obj, A.heap[r]? = some o ∧ o.isWalk = true) → (∀ r, row = some r → w.heap.size ≤ r ∧ ∃ o : Obj, A.heap[r]? = some o ∧ o.isCells = false) :=
      fun hr r e => by obtain ⟨hB, o, ho, hw⟩ := hr r e; exact ⟨by omega, o, ho, Obj.not_cells_of_walk hw⟩
    refine (hseq (w.heap.size + 1)
      (fun k W => I k W ∧ W.heap[w.heap.size + 1]? = some (.loop (rec .ready none)) ∧ W.heap[w.heap.size]? = some (.deferred (some [])))
      (fun k W => ∃ c, Ix c k W ∧ W.heap[w.heap.size + 1]? = some (.loop (rec .done (some c))) ∧ W.heap[w.heap.size]? = some (.deferred (some [])))
      Wl hbl
      (fun s A B row hs hg' hr => ⟨hI s A B row hs.1 hg' (hwalk hr), (grownBy_keeps hg' (fun r e => (hr r e).2) hs.2.1 rfl).trans hs.2.1, (grownBy_keeps hg' (fun r e => (hr r e).2) hs.2.2 rfl).trans hs.2.2⟩)
      (fun s A B row hs hg' hr => by
        obtain ⟨c, hc, hl, hk⟩ := hs
        exact ⟨c, hIx c s A B row hc hg' (hwalk hr), (grownBy_keeps hg' (fun r e => (hr r e).2) hl rfl).trans hl, (grownBy_keeps hg' (fun r e => (hr r e).2) hk rfl).trans hk⟩)
      (fun k W h hk => hSt k W h.1 hk) ?_ ⟨hI1, hloop, hdef⟩).mono ?_
    · rintro k args W ⟨hi, hl, hk⟩ hlen hE
      have hy := run_yield (P := P) (args := args) hl (by rw [hrec]; exact hps k args W hE)
      rw [hrec] at hy
      refine ⟨fn, _, assign, body, hy, roundIn_of_wpIn hfn (hassign _ k args W _ hi hlen hE ?_)⟩
      clear hy
      intro a' Wa hkfa hia hax
      have hla := hkfa.same _ _ (by omega) hl rfl
      have hka := hkfa.same _ _ (Nat.le_refl _) hk rfl
      have hlt : w.heap.size + 1 < Wa.heap.size := (Array.getElem?_eq_some_iff.1 hla).1
      refine ⟨_, run_beginRound hla (by rw [hrec]), ?_⟩
      have hl2 : (Wa.putObj (w.heap.size + 1) (.loop { rec .ready none with state := .busy })).heap[w.heap.size + 1]? = some (.loop { rec .ready none with state := .busy }) := World.putObj_heap_same hlt
      have hk2 : (Wa.putObj (w.heap.size + 1) (.loop { rec .ready none with state := .busy })).heap[w.heap.size]? = some (.deferred (some [])) := (World.putObj_heap_other (by omega)).trans hka
      refine wpIn_mono (hbody _ k a' _ (by omega) ⟨_, hl2⟩ (hI.putObj _ hia (by omega) hla rfl) ((hAx k a').putObj (s := ()) _ hax (by omega) hla rfl) hlen) ?_
      have fin : ∀ (jump : Option Code) (W3 : World), KeepsFrom w.heap.size (Wa.putObj (w.heap.size + 1) (.loop { rec .ready none with state := .busy })) W3 →
          (Instr.endRound (w.heap.size + 1) jump).run P W3 = .ok (.bool jump.isNone) (W3.putObj (w.heap.size + 1) (.loop (rec (if jump.isNone then .ready else .done) jump))) ∧
          W3.heap[w.heap.size + 1]? = some (.loop { rec .ready none with state := .busy }) ∧
          (W3.putObj (w.heap.size + 1) (.loop (rec (if jump.isNone then .ready else .done) jump))).heap[w.heap.size + 1]? = some (.loop (rec (if jump.isNone then .ready else .done) jump)) ∧
          (W3.putObj (w.heap.size + 1) (.loop (rec (if jump.isNone then .ready else .done) jump))).heap[w.heap.size]? = some (.deferred (some [])) := fun jump W3 hk3 => by
        have hl3 := hk3.same _ _ (by omega) hl2 rfl
        have := run_endRound (P := P) jump hl3
        rw [hrec] at this ⊢
        exact ⟨this, by rw [hrec] at hl3; exact hl3, World.putObj_heap_same (Array.getElem?_eq_some_iff.1 hl3).1, (World.putObj_heap_other (by omega)).trans (hk3.same _ _ (Nat.le_refl _) hk2 rfl)⟩
      have out : ∀ (c : Code) (W3 : World), KeepsFrom w.heap.size (Wa.putObj (w.heap.size + 1) (.loop { rec .ready none with state := .busy })) W3 → Ix c k W3 →
          (Instr.endRound (w.heap.size + 1) (some c)).run P W3 = .ok (.bool false) (W3.putObj (w.heap.size + 1) (.loop (rec .done (some c)))) ∧
          ∃ c', Ix c' k (W3.putObj (w.heap.size + 1) (.loop (rec .done (some c)))) ∧ (W3.putObj (w.heap.size + 1) (.loop (rec .done (some c)))).heap[w.heap.size + 1]? = some (.loop (rec .done (some c'))) ∧
            (W3.putObj (w.heap.size + 1) (.loop (rec .done (some c)))).heap[w.heap.size]? = some (.deferred (some [])) := fun c W3 hk3 hi3 => by
        obtain ⟨hr, hl3, hl4, hk4⟩ := fin (some c) W3 hk3
        exact ⟨hr, c, (hIx _).putObj _ hi3 (by omega) hl3 rfl, hl4, hk4⟩
      rintro e a3 W3 hp
      cases e with
      | normal =>
        obtain ⟨hk3, hkp3, hi3⟩ := hp
        obtain ⟨hr, hl3, hl4, hk4⟩ := fin none W3 hk3
        exact ⟨_, _, hr, .inl ⟨rfl, hI.putObj _ hi3 (by omega) hl3 rfl, hl4, hk4⟩⟩
      | ret => obtain ⟨hr, h4⟩ := out .ret W3 hp.1 hp.2; exact ⟨_, _, hr, .inr ⟨rfl, h4⟩⟩
      | exit i => obtain ⟨hr, h4⟩ := out (.exit i) W3 hp.1 hp.2; exact ⟨_, _, hr, .inr ⟨rfl, h4⟩⟩
      | goto t => obtain ⟨hr, h4⟩ := out (.goto t) W3 hp.1 hp.2; exact ⟨_, _, hr, .inr ⟨rfl, h4⟩⟩
      | panic ch => exact hp.elim
      | outgrown => exact hp.elim
    · rintro e W2 ⟨⟨v, rfl⟩, ⟨k, hkN, c, hi, hl, hk⟩⟩
      exact ⟨some c, _, by have := run_endLoop (P := P) hl (by rw [hrec]; simp); rw [hrec] at this; exact this, hstop _ c k _ (Nat.le_refl _) hkN ((hIx c).putObj _ hi (by omega) hl rfl) ((World.putObj_heap_other (by omega)).trans hk)⟩

end Go.Proofs.Ytghonccffmmjhaa
