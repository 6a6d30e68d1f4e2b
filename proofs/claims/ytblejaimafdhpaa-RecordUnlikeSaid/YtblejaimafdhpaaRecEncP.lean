/- Encode of the program, of a right record. -/
import Derived.Test.YtblejaimafdhpaaRecEnc
namespace Go.Proofs.Ytblejaimafdhpaa.Record
open Go.RowKit Go.Shelf
attribute [local go_sem] Oper.semAt_some
set_option linter.unusedVariables false

section
set_option maxRecDepth 100000
theorem saidK_succ (r : R) (k : Nat) : saidK r (k + 1) = saidK r k ++ (numB (ent r.l k).kind.toNat 1 ++ numB (ent r.l k).file 4 ++ numB (ent r.l k).index 4 ++ numB (ent r.l k).vbn 4) := rfl
set_option maxHeartbeats 4000000 in
theorem encode_yes (r : R) (v : Value) (w : World) (hL : Ents w v r.l) (ho : AllOk r.l) (h : RightP r) : Calls Try.prog 10 #[r.val v] w (Ans w (.tuple #[.string (encS r), .int .i64 (encE r)])) := by
  have HS := Lib.hid (encS_yes h)
  have HE := Lib.hid (encE_yes h)
  have hlen := h.len
  have hr : ∀ W, Below w.heap.size w W → Calls Try.prog 14 #[r.val v] W (Ans W (.bool (rightB r))) := fun W hB => right_any r v W (hL.below hB)
  rw [rightB_yes h] at hr
  unfold Ans at hr
  have hfl := fun W => flagOf_any r v W
  have hB0 := below_new w (boxR r v)
  have hA := RAt.new w r v
  have hone : ∀ k, k < r.l.length → EOk (ent r.l k) ∧ entryP (ent r.l k) := fun k hk => ⟨ho _ (ent_mem hk), (h.2.2.2.2.2.2.2.1 _ (ent_mem hk)).1⟩
  obtain ⟨⟨s1, s2⟩, ⟨c1, c2⟩, x1, x2, _, _⟩ := h
  have e1 : (256 : Nat) ^ 1 = 256 := by decide
  have e2 : (256 : Nat) ^ 2 = 65536 := by decide
  have e4 : (256 : Nat) ^ 4 = 4294967296 := by decide
  have e6 : (256 : Nat) ^ 6 = 281474976710656 := by decide
  have hflt := flag_lt r
  -- the parts ahead of the entries
  have P1 := Lib.hid (fun W => rput_any r.seq 6 W (by omega) (by omega) (by omega))
  have P2 := Lib.hid (fun W => rput_any r.cp 6 W (by omega) (by omega) (by omega))
  have P3 := Lib.hid (fun W => rput_any (flagN r) 1 W (by omega) (by omega) (by omega))
  have P4 := Lib.hid (fun W => rput_any r.next.toNat 2 W (by omega) (by omega) (by omega))
  have P5 := Lib.hid (fun W => rput_any r.l.length 1 W (by omega) (by omega) (by omega))
  have hhead : saidK r 0 = mk ++ numB r.seq 6 ++ numB r.cp 6 ++ numB (flagN r) 1 ++ numB r.next.toNat 2 ++ numB r.l.length 1 := rfl
  have hsucc := fun k => saidK_succ r k
  have hsz := saidK_size r
  -- the end
  have hss := said_size r
  have hok : fitOk (said r) 512 := ⟨by rw [hss]; omega, by decide⟩
  have hf := fun W => fit_any (said r) 512 W (by rw [hss]; omega)
  have hfe : fitS (said r) 512 = encB r := by rw [fitS_yes hok, hss]; rfl
  rw [hfe, fitE_yes hok] at hf
  have hsd : said r = saidK r r.l.length := rfl
  rw [hsd] at hf
  obtain ⟨sk, hsk⟩ : ∃ sk, saidK r = sk := ⟨_, rfl⟩
  rw [hsk] at hf hhead
  simp only [hsk] at hsucc hsz
  obtain ⟨ec, hec⟩ : ∃ ec, encB r = ec := ⟨_, rfl⟩
  rw [hec] at HS hf
  obtain ⟨W0, hW0⟩ : ∃ W0, w.alloc (boxR r v) = W0 := ⟨_, rfl⟩
  rw [hW0] at hB0 hA
  have hL0 := hL.below hB0
  have hr0 := hr W0 hB0
  obtain ⟨fl, hfleq⟩ : ∃ fl, flagN r = fl := ⟨_, rfl⟩
  rw [hfleq] at hhead hfl P3
  clear hsd hok hfe hss hec hsk hfleq hr hflt hL
  obtain ⟨s, c, en, sy, nx, L⟩ := r
  unfold R.val at hr0 hfl ⊢
  unfold boxR at hW0
  dsimp only at HS HE hlen hr0 hfl hA hone s1 s2 c1 c2 x1 x2 P1 P2 P3 P4 P5 hhead hsucc hf hL0 hW0 ⊢
  obtain ⟨nn, rfl⟩ := Int.eq_ofNat_of_zero_le x1
  obtain ⟨a, cap, rfl, hn, hm⟩ := hL0.parts
  obtain ⟨N, hN⟩ : ∃ N, L.length = N := ⟨_, rfl⟩
  have HL := Lib.hid hL0
  have HONE := Lib.hid hone
  rw [hN] at HL HONE hlen hn hA hr0 hfl P5 hhead hf hW0 ⊢
  have HN := Lib.hid hN
  clear hone hL0 hN
  have v1 : IntKind.u64.wrap (nn : Int) = nn := by rw [IntKind.wrap_u64]; omega
  have v2 : IntKind.u64.wrap (N : Int) = N := by rw [IntKind.wrap_u64]; omega
  have HC : Hid (∀ W, Below W0.heap.size W0 W → W.cell? ⟨w.heap.size, 0, none⟩ = some (.int .u64 (s : Int)) ∧ W.cell? ⟨w.heap.size, 1, none⟩ = some (.int .u64 (c : Int)) ∧ W.cell? ⟨w.heap.size, 2, none⟩ = some (.bool en) ∧ W.cell? ⟨w.heap.size, 3, none⟩ = some (.bool sy) ∧ W.cell? ⟨w.heap.size, 4, none⟩ = some (.int .i64 (nn : Int)) ∧ W.cell? ⟨w.heap.size, 5, none⟩ = some (.slice a N cap)) := fun W hW => (hA.th hW).c
  obtain ⟨g0, g1, g2, g3, g4, g5⟩ := hA.c
  dsimp only at g0 g1 g2 g3 g4 g5
  have HFL := Lib.hid hfl
  have HHEAD := Lib.hid hhead
  have HSUCC := Lib.hid hsucc
  have HSZ := Lib.hid hsz
  have HF := Lib.hid hf
  clear hfl hhead hsucc hsz hf hA
  rw [Int.toNat_natCast] at P4 HHEAD
  unfold mk at HHEAD
  obtain ⟨B1, hB1⟩ : ∃ x, numB s 6 = x := ⟨_, rfl⟩
  obtain ⟨B2, hB2⟩ : ∃ x, numB c 6 = x := ⟨_, rfl⟩
  obtain ⟨B3, hB3⟩ : ∃ x, numB fl 1 = x := ⟨_, rfl⟩
  obtain ⟨B4, hB4⟩ : ∃ x, numB nn 2 = x := ⟨_, rfl⟩
  obtain ⟨B5, hB5⟩ : ∃ x, numB N 1 = x := ⟨_, rfl⟩
  have z1 : B1.size = 6 := by rw [← hB1, numB_size]
  have z2 : B2.size = 6 := by rw [← hB2, numB_size]
  have z3 : B3.size = 1 := by rw [← hB3, numB_size]
  have z4 : B4.size = 2 := by rw [← hB4, numB_size]
  have z5 : B5.size = 1 := by rw [← hB5, numB_size]
  simp only [hB1, hB2, hB3, hB4, hB5] at P1 P2 P3 P4 P5 HHEAD
  clear hB1 hB2 hB3 hB4 hB5
  go_enter Try.func10, Try.ntmps10
  go_wp2_with (go_at_call 14; refine hr0.mono ?_; rintro e W1 ⟨rfl, hB1⟩)
  have hD1 : Below W0.heap.size W0 W1.drew := hB1.drew
  go_region_held3 (fun w' => (w'.cell? ⟨w.heap.size, 0, none⟩ = some (.int .u64 (s : Int)) ∧ w'.cell? ⟨w.heap.size, 1, none⟩ = some (.int .u64 (c : Int)) ∧ w'.cell? ⟨w.heap.size, 2, none⟩ = some (.bool en) ∧ w'.cell? ⟨w.heap.size, 3, none⟩ = some (.bool sy) ∧ w'.cell? ⟨w.heap.size, 4, none⟩ = some (.int .i64 (nn : Int)) ∧ w'.cell? ⟨w.heap.size, 5, none⟩ = some (.slice a N cap))) (first | exact HC.out _ hB1 | exact HC.out _ (by assumption)) (first
    | (go_at_call 24; with_reducible refine Calls.mono (P1.out _) ?_; rintro e w' ⟨rfl, hBn⟩; have := below_th (by assumption : Below W0.heap.size W0 _) hBn)
    | (go_at_call 24; with_reducible refine Calls.mono (P2.out _) ?_; rintro e w' ⟨rfl, hBn⟩; have := below_th (by assumption : Below W0.heap.size W0 _) hBn)
    | (go_at_call 24; with_reducible refine Calls.mono (P3.out _) ?_; rintro e w' ⟨rfl, hBn⟩; have := below_th (by assumption : Below W0.heap.size W0 _) hBn)
    | (go_at_call 24; with_reducible refine Calls.mono (P4.out _) ?_; rintro e w' ⟨rfl, hBn⟩; have := below_th (by assumption : Below W0.heap.size W0 _) hBn)
    | (go_at_call 24; with_reducible refine Calls.mono (P5.out _) ?_; rintro e w' ⟨rfl, hBn⟩; have := below_th (by assumption : Below W0.heap.size W0 _) hBn)
    | (go_at_call 25; with_reducible refine Calls.mono (HFL.out _) ?_; rintro e w' ⟨rfl, hBn⟩; have := below_th (by assumption : Below W0.heap.size W0 _) hBn))
  have hBz := (by assumption : Below W0.heap.size W0 _)
  obtain ⟨y0, y1, y2, y3, y4, y5⟩ := HC.out _ hBz
  have HBZ := Lib.hid hBz
  go_wp2
  clear P1 P2 P3 P4 P5 HFL HC y0 y1 y2 y3 y4 y5 g0 g1 g2 g3 g4 g5 hr0 hD1 z1 z2 z3 z4 z5 hBz
  go_loopw [4, 6, 36] (fun t _ i wr => ∃ k : Nat, k ≤ N ∧ i = .int .i64 (k : Int) ∧ t = .string (sk k) ∧ Below W0.heap.size W0 wr) (fun _ _ i _ => N - (intOf i).toNat)
  case atStart => exact ⟨0, by omega, rfl, by rw [HHEAD.out], HBZ.out⟩
  case round =>
    obtain ⟨k, hk, rfl, rfl, hB⟩ := hrel
    have hskz := HSZ.out k
    by_cases hlt : k < N
    · obtain ⟨b, off, cap2, e2, c0, c1, c2, c3⟩ := ((HL.out).below hB).at (k := k) (by rw [HN.out]; exact hlt)
      rw [HN.out] at e2
      cases e2
      have hEO := HONE.out k hlt
      have hS := HSUCC.out k
      obtain ⟨st, hst⟩ : ∃ st, sk k = st := ⟨_, rfl⟩
      obtain ⟨q, hq⟩ : ∃ q, sk (k + 1) = q := ⟨_, rfl⟩
      rw [hst, hq] at hS
      rw [hst] at hskz
      obtain ⟨W2, hW2⟩ : ∃ W2, wr.alloc (boxE (ent L k)) = W2 := ⟨_, rfl⟩
      have hA : At W2 wr.heap.size (ent L k) := by rw [← hW2]; exact At.new wr _
      have hB2 : Below W0.heap.size W0 W2 := by rw [← hW2]; exact below_al hB _
      obtain ⟨x, hx⟩ : ∃ x, ent L k = x := ⟨_, rfl⟩
      rw [hx] at c0 c1 c2 c3 hEO hS hA hW2
      obtain ⟨kd, f, ix, vb⟩ := x
      obtain ⟨⟨_, o1, o2, o3⟩, oe⟩ := hEO
      have okd := oe.kind
      unfold boxE at hW2
      dsimp only at c0 c1 c2 c3 hS hW2 o1 o2 o3 okd
      obtain ⟨m, rfl⟩ := Int.eq_ofNat_of_zero_le (show 0 ≤ kd by omega)
      rw [Int.toNat_natCast] at hS
      have P1 := Lib.hid (fun W => rput_any m 1 W (by omega) (by omega) (by omega))
      have P2 := Lib.hid (fun W => rput_any f 4 W (by omega) (by omega) (by omega))
      have P3 := Lib.hid (fun W => rput_any ix 4 W (by omega) (by omega) (by omega))
      have P4 := Lib.hid (fun W => rput_any vb 4 W (by omega) (by omega) (by omega))
      have q1 : IntKind.u64.wrap (m : Int) = m := by rw [IntKind.wrap_u64]; omega
      have q2 : IntKind.u64.wrap (f : Int) = f := by rw [IntKind.wrap_u64]; omega
      have q3 : IntKind.u64.wrap (ix : Int) = ix := by rw [IntKind.wrap_u64]; omega
      have q4 : IntKind.u64.wrap (vb : Int) = vb := by rw [IntKind.wrap_u64]; omega
      obtain ⟨C1, hC1⟩ : ∃ x, numB m 1 = x := ⟨_, rfl⟩
      obtain ⟨C2, hC2⟩ : ∃ x, numB f 4 = x := ⟨_, rfl⟩
      obtain ⟨C3, hC3⟩ : ∃ x, numB ix 4 = x := ⟨_, rfl⟩
      obtain ⟨C4, hC4⟩ : ∃ x, numB vb 4 = x := ⟨_, rfl⟩
      have z1 : C1.size = 1 := by rw [← hC1, numB_size]
      have z2 : C2.size = 4 := by rw [← hC2, numB_size]
      have z3 : C3.size = 4 := by rw [← hC3, numB_size]
      have z4 : C4.size = 4 := by rw [← hC4, numB_size]
      simp only [hC1, hC2, hC3, hC4] at P1 P2 P3 P4 hS
      have HCE : Hid (∀ W, Below W2.heap.size W2 W → W.cell? ⟨wr.heap.size, 0, none⟩ = some (.int .i64 (m : Int)) ∧ W.cell? ⟨wr.heap.size, 1, none⟩ = some (.int .u32 (f : Int)) ∧ W.cell? ⟨wr.heap.size, 2, none⟩ = some (.int .u32 (ix : Int)) ∧ W.cell? ⟨wr.heap.size, 3, none⟩ = some (.int .u32 (vb : Int))) := fun W hW => (hA.th hW).c
      have HSS := Lib.hid hS
      have HQ := Lib.hid hq
      have HB2 := Lib.hid hB2
      have hself : Below W2.heap.size W2 W2 := Below.refl _ _
      have hself2 : Below W2.heap.size W2 W2.drew := hself.drew
      have hcat : st.size + (C1 ++ C2 ++ C3 ++ C4).size ≤ 1000 := by simp only [ByteArray.size_append]; omega
      have hadd := fun W => run_string_add_sum (P := Try.prog) (w := W) st (C1 ++ C2 ++ C3 ++ C4) (by omega)
      clear hC1 hC2 hC3 hC4 hS hq hA hB2 hx oe hB hcat
      go_wp2
      go_region_held3 (fun w' => (w'.cell? ⟨wr.heap.size, 0, none⟩ = some (.int .i64 (m : Int)) ∧ w'.cell? ⟨wr.heap.size, 1, none⟩ = some (.int .u32 (f : Int)) ∧ w'.cell? ⟨wr.heap.size, 2, none⟩ = some (.int .u32 (ix : Int)) ∧ w'.cell? ⟨wr.heap.size, 3, none⟩ = some (.int .u32 (vb : Int)))) (exact HCE.out _ (by assumption)) (first
        | (go_at_call 24; with_reducible refine Calls.mono (P1.out _) ?_; rintro e w' ⟨rfl, hBn⟩; have := below_th (by assumption : Below W2.heap.size W2 _) hBn)
        | (go_at_call 24; with_reducible refine Calls.mono (P2.out _) ?_; rintro e w' ⟨rfl, hBn⟩; have := below_th (by assumption : Below W2.heap.size W2 _) hBn)
        | (go_at_call 24; with_reducible refine Calls.mono (P3.out _) ?_; rintro e w' ⟨rfl, hBn⟩; have := below_th (by assumption : Below W2.heap.size W2 _) hBn)
        | (go_at_call 24; with_reducible refine Calls.mono (P4.out _) ?_; rintro e w' ⟨rfl, hBn⟩; have := below_th (by assumption : Below W2.heap.size W2 _) hBn))
      have HBZ2 := Lib.hid (below_th HB2.out (by assumption : Below W2.heap.size W2 _))
      go_wp2
      go_roundw
      case rel => exact ⟨k + 1, by omega, by go_num, by rw [HQ.out, HSS.out], HBZ2.out⟩
      case measure => simp [intOf]; omega
    · obtain rfl : k = N := by omega
      go_wp2_with (go_at_call 26; refine (HF.out _).mono ?_; rintro e w' ⟨rfl, hBf⟩)
      go_ret2
      exact ⟨ret_se HS.out HE.out, below_th hB0 (below_th hB hBf)⟩

theorem encode_any (r : R) (v : Value) (w : World) (hL : Ents w v r.l) (ho : AllOk r.l) : Calls Try.prog 10 #[r.val v] w (Ans w (.tuple #[.string (encS r), .int .i64 (encE r)])) := by
  by_cases h : RightP r
  · exact encode_yes r v w hL ho h
  · exact encode_no r v w hL h
end
end Go.Proofs.Ytblejaimafdhpaa.Record
