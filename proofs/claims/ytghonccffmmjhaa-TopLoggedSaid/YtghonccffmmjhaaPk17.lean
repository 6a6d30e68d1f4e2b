/- Several texts in one, each under its own heading. -/
import Derived.Test.YtghonccffmmjhaaPk16
import Derived.RangeFuncBound
import Derived.RangeFuncCalls
import Derived.RangeFuncLeaves
import Derived.OwnWalkIn
import Derived.TacticsInMore
import Derived.LoopNIn
import Derived.LoopIn
import Derived.Test.YtghonccffmmjhaaPk01
/- Encode of the program, of a right record. -/
namespace Go.Proofs.Ytghonccffmmjhaa.Record
open Go.RowKit Go.Shelf
attribute [local go_sem] Oper.semAt_some
set_option linter.unusedVariables false

section
set_option maxRecDepth 100000
theorem saidK_succ (r : R) (k : Nat) : saidK r (k + 1) = saidK r k ++ (numB (ent r.l k).kind.toNat 1 ++ numB (ent r.l k).file 4 ++ numB (ent r.l k).index 4 ++ numB (ent r.l k).vbn 4) := rfl
set_option maxHeartbeats 4000000 in
theorem encode_yes (r : R) (v : Value) (w : World) (hL : Ents w v r.l) (ho : AllOk r.l) (h : RightP r) : Calls Try.prog 42 #[r.val v] w (Ans w (.tuple #[.string (encS r), .int .i64 (encE r)])) := by
  have HS := Lib.hid (encS_yes h)
  have HE := Lib.hid (encE_yes h)
  have hlen := h.len
  have hr : ∀ W, Below w.heap.size w W → Calls Try.prog 59 #[r.val v] W (Ans W (.bool (rightB r))) := fun W hB => right_any r v W (hL.below hB)
  rw [rightB_yes h] at hr
  unfold Ans at hr
  have hfl := fun W => flagOf_any r v W
  have hB0 := below_new w (boxR r v)
  have hA := RAt.new w r v
  have hone : ∀ k, k < r.l.length → EOk (ent r.l k) ∧ entryP (ent r.l k) := fun k hk => ⟨ho _ (ent_mem hk), (h.2.2.2.2.2.2.2.1 _ (ent_mem hk)).1⟩
  obtain ⟨⟨s1, s2⟩, ⟨c1, c2⟩, x1, x2, _, _⟩ := h
  have e1 : (256 : Nat) ^ 1 = 256 := by decide
  have e2 : (256 : Nat) ^ 2 = 65536 := by decide
  have e4 : (256 : Nat) ^ 4 = 4294967296 := by decide
  have e6 : (256 : Nat) ^ 6 = 281474976710656 := by decide
  have hflt := flag_lt r
  -- the parts ahead of the entries
  have P1 := Lib.hid (fun W => rput_any r.seq 6 W (by omega) (by omega) (by omega))
  have P2 := Lib.hid (fun W => rput_any r.cp 6 W (by omega) (by omega) (by omega))
  have P3 := Lib.hid (fun W => rput_any (flagN r) 1 W (by omega) (by omega) (by omega))
  have P4 := Lib.hid (fun W => rput_any r.next.toNat 2 W (by omega) (by omega) (by omega))
  have P5 := Lib.hid (fun W => rput_any r.l.length 1 W (by omega) (by omega) (by omega))
  have hhead : saidK r 0 = mk ++ numB r.seq 6 ++ numB r.cp 6 ++ numB (flagN r) 1 ++ numB r.next.toNat 2 ++ numB r.l.length 1 := rfl
  have hsucc := fun k => saidK_succ r k
  have hsz := saidK_size r
  -- the end
  have hss := said_size r
  have hok : fitOk (said r) 512 := ⟨by rw [hss]; omega, by decide⟩
  have hf := fun W => fit_any (said r) 512 W (by rw [hss]; omega)
  have hfe : fitS (said r) 512 = encB r := by rw [fitS_yes hok, hss]; rfl
  rw [hfe, fitE_yes hok] at hf
  have hsd : said r = saidK r r.l.length := rfl
  rw [hsd] at hf
  obtain ⟨sk, hsk⟩ : ∃ sk, saidK r = sk := ⟨_, rfl⟩
  rw [hsk] at hf hhead
  simp only [hsk] at hsucc hsz
  obtain ⟨ec, hec⟩ : ∃ ec, encB r = ec := ⟨_, rfl⟩
  rw [hec] at HS hf
  obtain ⟨W0, hW0⟩ : ∃ W0, w.alloc (boxR r v) = W0 := ⟨_, rfl⟩
  rw [hW0] at hB0 hA
  have hL0 := hL.below hB0
  have hr0 := hr W0 hB0
  obtain ⟨fl, hfleq⟩ : ∃ fl, flagN r = fl := ⟨_, rfl⟩
  rw [hfleq] at hhead hfl P3
  clear hsd hok hfe hss hec hsk hfleq hr hflt hL
  obtain ⟨s, c, en, sy, nx, L⟩ := r
  unfold R.val at hr0 hfl ⊢
  unfold boxR at hW0
  dsimp only at HS HE hlen hr0 hfl hA hone s1 s2 c1 c2 x1 x2 P1 P2 P3 P4 P5 hhead hsucc hf hL0 hW0 ⊢
  obtain ⟨nn, rfl⟩ := Int.eq_ofNat_of_zero_le x1
  obtain ⟨a, cap, rfl, hn, hm⟩ := hL0.parts
  obtain ⟨N, hN⟩ : ∃ N, L.length = N := ⟨_, rfl⟩
  have HL := Lib.hid hL0
  have HONE := Lib.hid hone
  rw [hN] at HL HONE hlen hn hA hr0 hfl P5 hhead hf hW0 ⊢
  have HN := Lib.hid hN
  clear hone hL0 hN
  have v1 : IntKind.u64.wrap (nn : Int) = nn := by rw [IntKind.wrap_u64]; omega
  have v2 : IntKind.u64.wrap (N : Int) = N := by rw [IntKind.wrap_u64]; omega
  have HC : Hid (∀ W, Below W0.heap.size W0 W → W.cell? ⟨w.heap.size, 0, none⟩ = some (.int .u64 (s : Int)) ∧ W.cell? ⟨w.heap.size, 1, none⟩ = some (.int .u64 (c : Int)) ∧ W.cell? ⟨w.heap.size, 2, none⟩ = some (.bool en) ∧ W.cell? ⟨w.heap.size, 3, none⟩ = some (.bool sy) ∧ W.cell? ⟨w.heap.size, 4, none⟩ = some (.int .i64 (nn : Int)) ∧ W.cell? ⟨w.heap.size, 5, none⟩ = some (.slice a N cap)) := fun W hW => (hA.th hW).c
  obtain ⟨g0, g1, g2, g3, g4, g5⟩ := hA.c
  dsimp only at g0 g1 g2 g3 g4 g5
  have HFL := Lib.hid hfl
  have HHEAD := Lib.hid hhead
  have HSUCC := Lib.hid hsucc
  have HSZ := Lib.hid hsz
  have HF := Lib.hid hf
  clear hfl hhead hsucc hsz hf hA
  rw [Int.toNat_natCast] at P4 HHEAD
  unfold mk at HHEAD
  obtain ⟨B1, hB1⟩ : ∃ x, numB s 6 = x := ⟨_, rfl⟩
  obtain ⟨B2, hB2⟩ : ∃ x, numB c 6 = x := ⟨_, rfl⟩
  obtain ⟨B3, hB3⟩ : ∃ x, numB fl 1 = x := ⟨_, rfl⟩
  obtain ⟨B4, hB4⟩ : ∃ x, numB nn 2 = x := ⟨_, rfl⟩
  obtain ⟨B5, hB5⟩ : ∃ x, numB N 1 = x := ⟨_, rfl⟩
  have z1 : B1.size = 6 := by rw [← hB1, numB_size]
  have z2 : B2.size = 6 := by rw [← hB2, numB_size]
  have z3 : B3.size = 1 := by rw [← hB3, numB_size]
  have z4 : B4.size = 2 := by rw [← hB4, numB_size]
  have z5 : B5.size = 1 := by rw [← hB5, numB_size]
  simp only [hB1, hB2, hB3, hB4, hB5] at P1 P2 P3 P4 P5 HHEAD
  clear hB1 hB2 hB3 hB4 hB5
  go_enter Try.func42, Try.ntmps42
  go_wp2_with (go_at_call 59; refine hr0.mono ?_; rintro e W1 ⟨rfl, hB1⟩)
  have hD1 : Below W0.heap.size W0 W1.drew := hB1.drew
  go_region_held3 (fun w' => (w'.cell? ⟨w.heap.size, 0, none⟩ = some (.int .u64 (s : Int)) ∧ w'.cell? ⟨w.heap.size, 1, none⟩ = some (.int .u64 (c : Int)) ∧ w'.cell? ⟨w.heap.size, 2, none⟩ = some (.bool en) ∧ w'.cell? ⟨w.heap.size, 3, none⟩ = some (.bool sy) ∧ w'.cell? ⟨w.heap.size, 4, none⟩ = some (.int .i64 (nn : Int)) ∧ w'.cell? ⟨w.heap.size, 5, none⟩ = some (.slice a N cap))) (first | exact HC.out _ hB1 | exact HC.out _ (by assumption)) (first
    | (go_at_call 60; with_reducible refine Calls.mono (P1.out _) ?_; rintro e w' ⟨rfl, hBn⟩; have := below_th (by assumption : Below W0.heap.size W0 _) hBn)
    | (go_at_call 60; with_reducible refine Calls.mono (P2.out _) ?_; rintro e w' ⟨rfl, hBn⟩; have := below_th (by assumption : Below W0.heap.size W0 _) hBn)
    | (go_at_call 60; with_reducible refine Calls.mono (P3.out _) ?_; rintro e w' ⟨rfl, hBn⟩; have := below_th (by assumption : Below W0.heap.size W0 _) hBn)
    | (go_at_call 60; with_reducible refine Calls.mono (P4.out _) ?_; rintro e w' ⟨rfl, hBn⟩; have := below_th (by assumption : Below W0.heap.size W0 _) hBn)
    | (go_at_call 60; with_reducible refine Calls.mono (P5.out _) ?_; rintro e w' ⟨rfl, hBn⟩; have := below_th (by assumption : Below W0.heap.size W0 _) hBn)
    | (go_at_call 61; with_reducible refine Calls.mono (HFL.out _) ?_; rintro e w' ⟨rfl, hBn⟩; have := below_th (by assumption : Below W0.heap.size W0 _) hBn))
  have hBz := (by assumption : Below W0.heap.size W0 _)
  obtain ⟨y0, y1, y2, y3, y4, y5⟩ := HC.out _ hBz
  have HBZ := Lib.hid hBz
  go_wp2
  clear P1 P2 P3 P4 P5 HFL HC y0 y1 y2 y3 y4 y5 g0 g1 g2 g3 g4 g5 hr0 hD1 z1 z2 z3 z4 z5 hBz
  go_loopw [4, 6, 36] (fun t _ i wr => ∃ k : Nat, k ≤ N ∧ i = .int .i64 (k : Int) ∧ t = .string (sk k) ∧ Below W0.heap.size W0 wr) (fun _ _ i _ => N - (intOf i).toNat)
  case atStart => exact ⟨0, by omega, rfl, by rw [HHEAD.out], HBZ.out⟩
  case round =>
    obtain ⟨k, hk, rfl, rfl, hB⟩ := hrel
    have hskz := HSZ.out k
    by_cases hlt : k < N
    · obtain ⟨b, off, cap2, e2, c0, c1, c2, c3⟩ := ((HL.out).below hB).at (k := k) (by rw [HN.out]; exact hlt)
      rw [HN.out] at e2
      cases e2
      have hEO := HONE.out k hlt
      have hS := HSUCC.out k
      obtain ⟨st, hst⟩ : ∃ st, sk k = st := ⟨_, rfl⟩
      obtain ⟨q, hq⟩ : ∃ q, sk (k + 1) = q := ⟨_, rfl⟩
      rw [hst, hq] at hS
      rw [hst] at hskz
      obtain ⟨W2, hW2⟩ : ∃ W2, wr.alloc (boxE (ent L k)) = W2 := ⟨_, rfl⟩
      have hA : At W2 wr.heap.size (ent L k) := by rw [← hW2]; exact At.new wr _
      have hB2 : Below W0.heap.size W0 W2 := by rw [← hW2]; exact below_al hB _
      obtain ⟨x, hx⟩ : ∃ x, ent L k = x := ⟨_, rfl⟩
      rw [hx] at c0 c1 c2 c3 hEO hS hA hW2
      obtain ⟨kd, f, ix, vb⟩ := x
      obtain ⟨⟨_, o1, o2, o3⟩, oe⟩ := hEO
      have okd := oe.kind
      unfold boxE at hW2
      dsimp only at c0 c1 c2 c3 hS hW2 o1 o2 o3 okd
      obtain ⟨m, rfl⟩ := Int.eq_ofNat_of_zero_le (show 0 ≤ kd by omega)
      rw [Int.toNat_natCast] at hS
      have P1 := Lib.hid (fun W => rput_any m 1 W (by omega) (by omega) (by omega))
      have P2 := Lib.hid (fun W => rput_any f 4 W (by omega) (by omega) (by omega))
      have P3 := Lib.hid (fun W => rput_any ix 4 W (by omega) (by omega) (by omega))
      have P4 := Lib.hid (fun W => rput_any vb 4 W (by omega) (by omega) (by omega))
      have q1 : IntKind.u64.wrap (m : Int) = m := by rw [IntKind.wrap_u64]; omega
      have q2 : IntKind.u64.wrap (f : Int) = f := by rw [IntKind.wrap_u64]; omega
      have q3 : IntKind.u64.wrap (ix : Int) = ix := by rw [IntKind.wrap_u64]; omega
      have q4 : IntKind.u64.wrap (vb : Int) = vb := by rw [IntKind.wrap_u64]; omega
      obtain ⟨C1, hC1⟩ : ∃ x, numB m 1 = x := ⟨_, rfl⟩
      obtain ⟨C2, hC2⟩ : ∃ x, numB f 4 = x := ⟨_, rfl⟩
      obtain ⟨C3, hC3⟩ : ∃ x, numB ix 4 = x := ⟨_, rfl⟩
      obtain ⟨C4, hC4⟩ : ∃ x, numB vb 4 = x := ⟨_, rfl⟩
      have z1 : C1.size = 1 := by rw [← hC1, numB_size]
      have z2 : C2.size = 4 := by rw [← hC2, numB_size]
      have z3 : C3.size = 4 := by rw [← hC3, numB_size]
      have z4 : C4.size = 4 := by rw [← hC4, numB_size]
      simp only [hC1, hC2, hC3, hC4] at P1 P2 P3 P4 hS
      have HCE : Hid (∀ W, Below W2.heap.size W2 W → W.cell? ⟨wr.heap.size, 0, none⟩ = some (.int .i64 (m : Int)) ∧ W.cell? ⟨wr.heap.size, 1, none⟩ = some (.int .u32 (f : Int)) ∧ W.cell? ⟨wr.heap.size, 2, none⟩ = some (.int .u32 (ix : Int)) ∧ W.cell? ⟨wr.heap.size, 3, none⟩ = some (.int .u32 (vb : Int))) := fun W hW => (hA.th hW).c
      have HSS := Lib.hid hS
      have HQ := Lib.hid hq
      have HB2 := Lib.hid hB2
      have hself : Below W2.heap.size W2 W2 := Below.refl _ _
      have hself2 : Below W2.heap.size W2 W2.drew := hself.drew
      have hcat : st.size + (C1 ++ C2 ++ C3 ++ C4).size ≤ 1000 := by simp only [ByteArray.size_append]; omega
      have hadd := fun W => run_string_add_sum (P := Try.prog) (w := W) st (C1 ++ C2 ++ C3 ++ C4) (by omega)
      clear hC1 hC2 hC3 hC4 hS hq hA hB2 hx oe hB hcat
      go_wp2
      go_region_held3 (fun w' => (w'.cell? ⟨wr.heap.size, 0, none⟩ = some (.int .i64 (m : Int)) ∧ w'.cell? ⟨wr.heap.size, 1, none⟩ = some (.int .u32 (f : Int)) ∧ w'.cell? ⟨wr.heap.size, 2, none⟩ = some (.int .u32 (ix : Int)) ∧ w'.cell? ⟨wr.heap.size, 3, none⟩ = some (.int .u32 (vb : Int)))) (exact HCE.out _ (by assumption)) (first
        | (go_at_call 60; with_reducible refine Calls.mono (P1.out _) ?_; rintro e w' ⟨rfl, hBn⟩; have := below_th (by assumption : Below W2.heap.size W2 _) hBn)
        | (go_at_call 60; with_reducible refine Calls.mono (P2.out _) ?_; rintro e w' ⟨rfl, hBn⟩; have := below_th (by assumption : Below W2.heap.size W2 _) hBn)
        | (go_at_call 60; with_reducible refine Calls.mono (P3.out _) ?_; rintro e w' ⟨rfl, hBn⟩; have := below_th (by assumption : Below W2.heap.size W2 _) hBn)
        | (go_at_call 60; with_reducible refine Calls.mono (P4.out _) ?_; rintro e w' ⟨rfl, hBn⟩; have := below_th (by assumption : Below W2.heap.size W2 _) hBn))
      have HBZ2 := Lib.hid (below_th HB2.out (by assumption : Below W2.heap.size W2 _))
      go_wp2
      go_roundw
      case rel => exact ⟨k + 1, by omega, by go_num, by rw [HQ.out, HSS.out], HBZ2.out⟩
      case measure => simp [intOf]; omega
    · obtain rfl : k = N := by omega
      go_wp2_with (go_at_call 62; refine (HF.out _).mono ?_; rintro e w' ⟨rfl, hBf⟩)
      go_ret2
      exact ⟨ret_se HS.out HE.out, below_th hB0 (below_th hB hBf)⟩

theorem encode_any (r : R) (v : Value) (w : World) (hL : Ents w v r.l) (ho : AllOk r.l) : Calls Try.prog 42 #[r.val v] w (Ans w (.tuple #[.string (encS r), .int .i64 (encE r)])) := by
  by_cases h : RightP r
  · exact encode_yes r v w hL ho h
  · exact encode_no r v w hL h
end
end Go.Proofs.Ytghonccffmmjhaa.Record
/- The iterator of the program's package record hands out the fifteen entries that a record in a block may have. -/
namespace Go.Proofs.Ytghonccffmmjhaa.Record
open Go.RowKit Go.Shelf
attribute [local go_sem] Oper.semAt_some
set_option linter.unusedVariables false

theorem grown_of_below {W W' : World} (h : Below W.heap.size W W') : W.grownBy W' none := ⟨h.1, h.2, h.3, h.4, fun k hk _ => h.5 k hk⟩
/-- an entry lies in a block that is newer than wr, which stands as it stood -/
structure Box (wr W : World) (b : Nat) (e : E) : Prop where
  le : wr.heap.size ≤ b
  at_ : At W b e
  below : Below wr.heap.size wr W
theorem Box.new {wr w : World} (h : Below wr.heap.size wr w) (e : E) : Box wr (w.alloc (boxE e)) w.heap.size e := ⟨h.size, At.new w e, below_al h _⟩
theorem Box.th {wr W W' : World} {b : Nat} {e : E} (h : Box wr W b e) (hB : Below W.heap.size W W') : Box wr W' b e := ⟨h.le, h.at_.th hB, below_th h.below hB⟩
theorem Box.drew {wr W : World} {b : Nat} {e : E} (h : Box wr W b e) : Box wr W.drew b e := ⟨h.le, h.at_, h.below.drew⟩
theorem Box.put {wr W : World} {b : Nat} {e : E} (h : Box wr W b e) (t : E) : Box wr ((((W.setCell ⟨b, 0, none⟩ (.int .i64 t.kind)).setCell ⟨b, 1, none⟩ (.int .u32 t.file)).setCell ⟨b, 2, none⟩ (.int .u32 t.index)).setCell ⟨b, 3, none⟩ (.int .u32 t.vbn)) b t :=
  ⟨h.le, (h.at_.put4 t).1, h.below.trans ((h.at_.put4 t).2.mono h.le)⟩
/-- what the k-th round is handed -/
def enc (b : ByteArray) (k : Nat) : Array Value := #[(entAt b k).val]

section
set_option maxRecDepth 100000
set_option maxHeartbeats 4000000
theorem ents1_in (n : Nat) (hn : 1 ≤ n) (l Bb : Nat) (b : ByteArray) (hb : b.size = 512) (J Jx : Nat → World → Prop) (B0 : Nat) (hJ : AbidesFrom B0 J)
    (hY : ∀ k W, J k W → k < 15 → YieldAt Fence.wide (n - 1) Try.prog l (enc b k) W fun e W' => (e = .returned (.bool true) ∧ J (k + 1) W' ∧ Same [Bb] W W') ∨ (e = .returned (.bool false) ∧ Jx k W'))
    (W : World) (hbx : W.cell? ⟨Bb, 0, none⟩ = some (.string b)) (h0 : J 0 W) :
    CallsIn Fence.wide n Try.prog 88 #[.func (.yield l) #[] #[], .pointer (some ⟨Bb, 0, none⟩)] W fun e W' => (∃ v, e = .returned v) ∧ (J 15 W' ∨ ∃ k, k < 15 ∧ Jx k W') := by
  have hfn : ∀ f, Fence.wide.fn f := fun _ => trivial
  have hJa : ∀ k W1 W2, J k W1 → Below W1.heap.size W1 W2 → J k W2 := fun k W1 W2 h hB => hJ _ _ _ none h (grown_of_below hB) (fun r e => by cases e)
  have hlt := World.block_lt_of_cell? _ _ hbx
  have HA := Lib.hid hJa
  have HY := Lib.hid hY
  have HBX := Lib.hid hbx
  clear hJa hY hJ hbx
  refine callsIn_of_wp Try.func88 rfl trivial ?_ rfl
  simp only [Try.ntmps88, List.size_toArray, List.length_cons, List.length_nil, Nat.reduceAdd, Nat.reduceSub, Array.replicate_succ, Array.replicate_zero, List.push_toArray, List.append_toArray, List.nil_append, List.cons_append]
  gi_wp2
  gi_loopw [3, 4, 5, 6] (fun _ _ _ i wr => ∃ k : Nat, k ≤ 15 ∧ i = .int .i64 (k : Int) ∧ J k wr ∧ Same [Bb] W wr ∧ Bb < wr.heap.size) (fun _ _ _ i _ => 15 - (intOf i).toNat)
  case atStart => exact ⟨0, by omega, rfl, h0, Same.refl _ _, hlt⟩
  case round =>
    obtain ⟨k, hk, rfl, hJk, hS, hbl⟩ := hrel
    by_cases hltk : k < 15
    · have hcb : wr.cell? ⟨Bb, 0, none⟩ = some (.string b) := (hS.cell (p := ⟨Bb, 0, none⟩) (by simp)).trans HBX.out
      obtain ⟨p, hp⟩ : ∃ p : Nat, 17 + k * 13 = p := ⟨_, rfl⟩
      obtain ⟨p1, hp1⟩ : ∃ p1 : Nat, p + 1 = p1 := ⟨_, rfl⟩
      obtain ⟨p5, hp5⟩ : ∃ p5 : Nat, p + 5 = p5 := ⟨_, rfl⟩
      obtain ⟨p9, hp9⟩ : ∃ p9 : Nat, p + 9 = p9 := ⟨_, rfl⟩
      have w0 : IntKind.i64.wrap ((k : Int) * 13) = (k : Int) * 13 := by rw [IntKind.wrap_i64]; omega
      have w00 : IntKind.i64.wrap (17 + (k : Int) * 13) = (p : Int) := by rw [IntKind.wrap_i64]; omega
      have w1 : IntKind.i64.wrap ((p : Int) + 1) = (p1 : Int) := by rw [IntKind.wrap_i64]; omega
      have w5 : IntKind.i64.wrap ((p : Int) + 5) = (p5 : Int) := by rw [IntKind.wrap_i64]; omega
      have w9 : IntKind.i64.wrap ((p : Int) + 9) = (p9 : Int) := by rw [IntKind.wrap_i64]; omega
      have T0 := Lib.hid (fun W => rtake_any b p 1 W (by omega) (by omega) (by omega) (by omega))
      have T1 := Lib.hid (fun W => rtake_any b p1 4 W (by omega) (by omega) (by omega) (by omega))
      have T2 := Lib.hid (fun W => rtake_any b p5 4 W (by omega) (by omega) (by omega) (by omega))
      have T3 := Lib.hid (fun W => rtake_any b p9 4 W (by omega) (by omega) (by omega) (by omega))
      have e1 : (256 : Nat) ^ 1 = 256 := by decide
      have e4 : (256 : Nat) ^ 4 = 4294967296 := by decide
      have l0 := takeN_lt b p 1
      have l1 := takeN_lt b p1 4
      have l2 := takeN_lt b p5 4
      have l3 := takeN_lt b p9 4
      rw [e1] at l0
      rw [e4] at l1 l2 l3
      have hev : entAt b k = ⟨takeN b p 1, takeN b p1 4, takeN b p5 4, takeN b p9 4⟩ := by unfold entAt; rw [hp, hp1, hp5, hp9]
      obtain ⟨x0, hx0⟩ : ∃ x, takeN b p 1 = x := ⟨_, rfl⟩
      obtain ⟨x1, hx1⟩ : ∃ x, takeN b p1 4 = x := ⟨_, rfl⟩
      obtain ⟨x2, hx2⟩ : ∃ x, takeN b p5 4 = x := ⟨_, rfl⟩
      obtain ⟨x3, hx3⟩ : ∃ x, takeN b p9 4 = x := ⟨_, rfl⟩
      simp only [hx0, hx1, hx2, hx3] at T0 T1 T2 T3 l0 l1 l2 l3 hev
      have v0 : IntKind.i64.wrap (x0 : Int) = x0 := by rw [IntKind.wrap_i64]; omega
      have v1 : IntKind.u32.wrap (x1 : Int) = x1 := by rw [IntKind.wrap_u32]; omega
      have v2 : IntKind.u32.wrap (x2 : Int) = x2 := by rw [IntKind.wrap_u32]; omega
      have v3 : IntKind.u32.wrap (x3 : Int) = x3 := by rw [IntKind.wrap_u32]; omega
      have hYk := fun W h => HY.out k W h hltk
      unfold enc at hYk
      rw [hev] at hYk
      unfold E.val at hYk
      dsimp only at hYk
      have HYK := Lib.hid hYk
      clear hx0 hx1 hx2 hx3 hp hp1 hp5 hp9 l0 l1 l2 l3 e1 e4 hev hYk
      have HC : Hid (∀ W', Below wr.heap.size wr W' → W'.cell? ⟨Bb, 0, none⟩ = some (.string b)) := fun W' h => (h.cell (p := ⟨Bb, 0, none⟩) hbl).trans hcb
      have hself : Below wr.heap.size wr wr := Below.refl _ _
      have hself2 : Below wr.heap.size wr wr.drew := hself.drew
      gi_wp2
      refine wpIn_wide.2 ?_
      refine Code.wp_mono (Q := fun e a' w' => e = .normal ∧ ∃ Bx, Box wr w' Bx ⟨x0, x1, x2, x3⟩ ∧ a' = { tmps := #[.func (.yield l) #[] #[], .pointer (some ⟨Bb, 0, none⟩), undef, .int .i64 k, .int .i64 p, .pointer (some ⟨Bx, 0, none⟩), .int .i64 k, .bool true, .int .i64 k, .int .i64 k, .int .i64 ((k : Int) * 13), .int .i64 p, .string b, .int .i64 p, .int .u64 x0, .int .i64 x0, .string b, .int .i64 p, .int .i64 p1, .int .u64 x1, .int .u32 x1, .string b, .int .i64 p, .int .i64 p5, .int .u64 x2, .int .u32 x2, .string b, .int .i64 p, .int .i64 p9, .int .u64 x3, .int .u32 x3, .agg #[.int .i64 x0, .int .u32 x1, .int .u32 x2, .int .u32 x3], u32, u33, u34, u35, u36], defers := [] }) ?imp ?_
      case imp =>
        rintro e a' w' ⟨rfl, Bx, hBX, rfl⟩
        obtain ⟨d0, d1, d2, d3⟩ := hBX.at_.c
        dsimp only at d0 d1 d2 d3
        have hS2 : Same [Bb] W w' := hS.trans (Same.below hBX.below (by simpa using hbl))
        have hb2 : Bb < w'.heap.size := Nat.lt_of_lt_of_le hbl hBX.below.size
        obtain ⟨fn, tmps, assign, body, hy, hR⟩ := HYK.out _ (HA.out _ _ _ hJk hBX.below)
        have HS2 := Lib.hid hS2
        clear hS2 hBX hcb hself hself2 hJk hS T0 T1 T2 T3
        gi_wp2
        refine hR.mono ?_
        rintro e W3 (⟨rfl, hJ3, hk3⟩ | ⟨rfl, hJx3⟩)
        · have hb3 : Bb < W3.heap.size := by
            have h1 := hk3 Bb (by simp)
            rw [Array.getElem?_eq_getElem hb2] at h1
            exact (Array.getElem?_eq_some_iff.1 h1).1
          gi_wp2
          go_roundw
          case rel => exact ⟨k + 1, by omega, by go_num, hJ3, HS2.out.trans hk3, hb3⟩
          case measure => simp [intOf]; omega
        · gi_wp2
          refine bodyPost_ret (results_none rfl _ _ _) rfl ?_
          exact ⟨⟨_, rfl⟩, .inr ⟨k, hltk, hJx3⟩⟩
      go_region_held3 (fun w' => w'.cell? ⟨Bb, 0, none⟩ = some (.string b)) (first | exact HC.out _ (by assumption) | exact HC.out _ (below_al (by assumption : Below wr.heap.size wr _) _) | exact HC.out _ (below_drew (below_al hself _)) | exact HC.out _ ((by assumption : Box wr _ _ E.zero).put ⟨x0, x1, x2, x3⟩).below) (first
        | (go_at_call 81; (with_reducible refine Calls.mono (T0.out _) ?_); rintro e w' ⟨rfl, hBn⟩; (first | (have hat := Box.th (by assumption : Box wr _ _ E.zero) hBn; have hbb := hat.below; obtain ⟨c0, c1, c2, c3⟩ := hat.at_.c; have f0 := hat.at_.f 0; have f1 := hat.at_.f 1; have f2 := hat.at_.f 2; have f3 := hat.at_.f 3) | (have hat := (Box.new (by assumption : Below wr.heap.size wr _) E.zero).th hBn; have hbb := hat.below; obtain ⟨c0, c1, c2, c3⟩ := hat.at_.c; have f0 := hat.at_.f 0; have f1 := hat.at_.f 1; have f2 := hat.at_.f 2; have f3 := hat.at_.f 3) | (have hat := (Box.new hself E.zero).drew.th hBn; have hbb := hat.below; obtain ⟨c0, c1, c2, c3⟩ := hat.at_.c; have f0 := hat.at_.f 0; have f1 := hat.at_.f 1; have f2 := hat.at_.f 2; have f3 := hat.at_.f 3) | (have hbb := below_th (by assumption : Below wr.heap.size wr _) hBn)))
        | (go_at_call 81; (with_reducible refine Calls.mono (T1.out _) ?_); rintro e w' ⟨rfl, hBn⟩; (first | (have hat := Box.th (by assumption : Box wr _ _ E.zero) hBn; have hbb := hat.below; obtain ⟨c0, c1, c2, c3⟩ := hat.at_.c; have f0 := hat.at_.f 0; have f1 := hat.at_.f 1; have f2 := hat.at_.f 2; have f3 := hat.at_.f 3) | (have hat := (Box.new (by assumption : Below wr.heap.size wr _) E.zero).th hBn; have hbb := hat.below; obtain ⟨c0, c1, c2, c3⟩ := hat.at_.c; have f0 := hat.at_.f 0; have f1 := hat.at_.f 1; have f2 := hat.at_.f 2; have f3 := hat.at_.f 3) | (have hat := (Box.new hself E.zero).drew.th hBn; have hbb := hat.below; obtain ⟨c0, c1, c2, c3⟩ := hat.at_.c; have f0 := hat.at_.f 0; have f1 := hat.at_.f 1; have f2 := hat.at_.f 2; have f3 := hat.at_.f 3) | (have hbb := below_th (by assumption : Below wr.heap.size wr _) hBn)))
        | (go_at_call 81; (with_reducible refine Calls.mono (T2.out _) ?_); rintro e w' ⟨rfl, hBn⟩; (first | (have hat := Box.th (by assumption : Box wr _ _ E.zero) hBn; have hbb := hat.below; obtain ⟨c0, c1, c2, c3⟩ := hat.at_.c; have f0 := hat.at_.f 0; have f1 := hat.at_.f 1; have f2 := hat.at_.f 2; have f3 := hat.at_.f 3) | (have hat := (Box.new (by assumption : Below wr.heap.size wr _) E.zero).th hBn; have hbb := hat.below; obtain ⟨c0, c1, c2, c3⟩ := hat.at_.c; have f0 := hat.at_.f 0; have f1 := hat.at_.f 1; have f2 := hat.at_.f 2; have f3 := hat.at_.f 3) | (have hat := (Box.new hself E.zero).drew.th hBn; have hbb := hat.below; obtain ⟨c0, c1, c2, c3⟩ := hat.at_.c; have f0 := hat.at_.f 0; have f1 := hat.at_.f 1; have f2 := hat.at_.f 2; have f3 := hat.at_.f 3) | (have hbb := below_th (by assumption : Below wr.heap.size wr _) hBn)))
        | (go_at_call 81; (with_reducible refine Calls.mono (T3.out _) ?_); rintro e w' ⟨rfl, hBn⟩; (first | (have hat := Box.th (by assumption : Box wr _ _ E.zero) hBn; have hbb := hat.below; obtain ⟨c0, c1, c2, c3⟩ := hat.at_.c; have f0 := hat.at_.f 0; have f1 := hat.at_.f 1; have f2 := hat.at_.f 2; have f3 := hat.at_.f 3) | (have hat := (Box.new (by assumption : Below wr.heap.size wr _) E.zero).th hBn; have hbb := hat.below; obtain ⟨c0, c1, c2, c3⟩ := hat.at_.c; have f0 := hat.at_.f 0; have f1 := hat.at_.f 1; have f2 := hat.at_.f 2; have f3 := hat.at_.f 3) | (have hat := (Box.new hself E.zero).drew.th hBn; have hbb := hat.below; obtain ⟨c0, c1, c2, c3⟩ := hat.at_.c; have f0 := hat.at_.f 0; have f1 := hat.at_.f 1; have f2 := hat.at_.f 2; have f3 := hat.at_.f 3) | (have hbb := below_th (by assumption : Below wr.heap.size wr _) hBn))))
      all_goals first
        | exact ⟨rfl, _, (by assumption : Box wr _ _ E.zero).put ⟨x0, x1, x2, x3⟩, rfl⟩
        | exact ⟨rfl, _, Box.new (by assumption : Below wr.heap.size wr _) ⟨x0, x1, x2, x3⟩, rfl⟩
    · obtain rfl : k = 15 := by omega
      gi_wp2
      go_end0
      exact ⟨⟨_, rfl⟩, .inl hJk⟩
end
end Go.Proofs.Ytghonccffmmjhaa.Record
