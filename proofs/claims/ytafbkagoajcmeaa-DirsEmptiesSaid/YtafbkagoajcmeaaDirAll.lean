/- The program's contracts: Find, Add, Drop, Set. -/
import Derived.Test.YtafbkagoajcmeaaDirFnd
import Derived.Test.YtafbkagoajcmeaaDirRefD
namespace Go.Proofs.Ytafbkagoajcmeaa.Dir
open Go.RowKit
attribute [local go_sem] Oper.semAt_some
set_option linter.unusedVariables false
set_option linter.unusedSimpArgs false
theorem ext_left (a b : ByteArray) : (a ++ b).extract 0 a.size = a := by
  have := extract_mid ⟨#[]⟩ a b
  have h0 : (⟨#[]⟩ : ByteArray).size = 0 := rfl
  rw [none_app, h0, Nat.zero_add] at this
  exact this
theorem ext_right (a b : ByteArray) : (a ++ b).extract a.size (a ++ b).size = b := by
  have := extract_mid a b ⟨#[]⟩
  rw [app_none] at this
  rw [ByteArray.size_append]
  exact this
/-- a directory's bytes, parted at a name -/
theorem dir_parts {s : ByteArray} {L : List N} (h : DirP s L) {i : Nat} (hi : i < L.length) :
    s.extract 0 (pos L i) = bytesL (L.take i) ∧ s.extract (pos L (i + 1)) s.size = bytesL (L.drop (i + 1)) ∧ s.extract (pos L i + 4) s.size = numB (nm L i).name.size 2 ++ (nm L i).name ++ bytesL (L.drop (i + 1)) ∧ pos L i + 6 + (nm L i).name.size = pos L (i + 1) ∧ pos L (i + 1) ≤ s.size := by
  have hl : L = L.take i ++ nm L i :: L.drop (i + 1) := (erase_split hi).1
  have hs : s = bytesL (L.take i) ++ (ent (nm L i) ++ bytesL (L.drop (i + 1))) := by
    rw [← h.2.1]
    conv => lhs; rw [hl]
    rw [bytesL_app, bytesL]
  have hp : pos L (i + 1) = pos L i + 6 + (nm L i).name.size := pos_succ hi
  have hle : pos L (i + 1) ≤ s.size := by
    have := pos_mono L (k := i + 1)
    rw [pos_all, h.2.1] at this
    exact this
  refine ⟨?_, ?_, ?_, hp.symm, hle⟩
  · conv => lhs; rw [hs]
    exact ext_left _ _
  · have hs2 : s = (bytesL (L.take i) ++ ent (nm L i)) ++ bytesL (L.drop (i + 1)) := by rw [← app_assoc]; exact hs
    have h2 : (bytesL (L.take i) ++ ent (nm L i)).size = pos L (i + 1) := by rw [ByteArray.size_append, ent_size, hp]; show pos L i + _ = _; omega
    have := ext_right (bytesL (L.take i) ++ ent (nm L i)) (bytesL (L.drop (i + 1)))
    rw [← hs2, h2] at this
    exact this
  · have hs3 : s = (bytesL (L.take i) ++ numB (nm L i).ino 4) ++ (numB (nm L i).name.size 2 ++ (nm L i).name ++ bytesL (L.drop (i + 1))) := by
      conv => lhs; rw [hs]
      unfold ent
      simp only [app_assoc]
    have h2 : (bytesL (L.take i) ++ numB (nm L i).ino 4).size = pos L i + 4 := by rw [ByteArray.size_append, numB_size]; rfl
    have := ext_right (bytesL (L.take i) ++ numB (nm L i).ino 4) (numB (nm L i).name.size 2 ++ (nm L i).name ++ bytesL (L.drop (i + 1)))
    rw [← hs3, h2] at this
    exact this
theorem dir_drop {s : ByteArray} {L : List N} (h : DirP s L) {i : Nat} (hi : i < L.length) : s.extract 0 (pos L i) ++ s.extract (pos L (i + 1)) s.size = bytesL (L.eraseIdx i) := by
  obtain ⟨h1, h2, _⟩ := dir_parts h hi
  rw [h1, h2, (erase_split hi).2, bytesL_app]
theorem dir_set {s : ByteArray} {L : List N} (h : DirP s L) {i : Nat} (hi : i < L.length) (ino : Nat) : s.extract 0 (pos L i) ++ numB ino 4 ++ s.extract (pos L i + 4) s.size = bytesL (L.set i ⟨(nm L i).name, ino⟩) := by
  obtain ⟨h1, _, h3, _⟩ := dir_parts h hi
  rw [h1, h3, show L.set i ⟨(nm L i).name, ino⟩ = L.take i ++ ⟨(nm L i).name, ino⟩ :: L.drop (i + 1) from List.set_eq_take_append_cons_drop.trans (if_pos hi), bytesL_app, bytesL]
  unfold ent
  simp only [app_assoc]
section
set_option maxRecDepth 100000
set_option maxHeartbeats 4000000
theorem fnd_any (s name : ByteArray) (D : Option (List N)) (w : World) (hs : s.size ≤ 281474976710656) (hn : name.size ≤ 281474976710656) (h : DirO s D) : Calls Try.prog 34 #[.string s, .string name] w (Ans w (.tuple #[(fndT D name).val, .int .i64 (findEo D name)])) := by
  cases D with
  | none => exact find_none s name w hs h
  | some L =>
    by_cases h1 : nameP name
    · obtain ⟨P, hP⟩ := Run.ex s
      obtain rfl := (hP.of_dir h).1
      exact callsIn_wide.1 (find_in s name P hP w h.2.2 h h1)
    · exact find_bad s name L w hs hn h h1
theorem putN_any (ino : Nat) (w : World) (hi : ino < 4294967296) : Calls Try.prog 36 #[.int .u32 (ino : Int)] w (Ans w (.string (numB ino 4))) := by
  have hP := Lib.hid (fun W => put_any ino 4 W (by rw [show (256 : Nat) ^ 8 = 18446744073709551616 by decide]; omega))
  have hok : putOk ino 4 := ⟨by omega, by omega, by rw [show (4 : Int).toNat = 4 from rfl, show (256 : Nat) ^ 4 = 4294967296 by decide]; exact hi⟩
  rw [putS_yes hok, putE_yes hok] at hP
  have hw : IntKind.u64.wrap (ino : Int) = ino := by rw [IntKind.wrap_u64]; omega
  have e4 : numB ino (4 : Int).toNat = numB ino 4 := rfl
  rw [e4] at hP
  obtain ⟨B, hB⟩ : ∃ B, numB ino 4 = B := ⟨_, rfl⟩
  rw [hB] at hP ⊢
  clear hB hi hok e4
  go_enter Try.func36, Try.ntmps36
  go_wp2_with (go_at_call 50; (with_reducible refine Calls.mono (hP.out _) ?_); rintro e w1 ⟨rfl, hB1⟩)
  go_ret
  exact ⟨rfl, hB1⟩
theorem textN_any (s : ByteArray) (w : World) (hs : s.size ≤ 59) : Calls Try.prog 37 #[.string s] w (Ans w (.string (numB s.size 2 ++ s))) := by
  have hP := Lib.hid (fun W => text_any s W (by omega))
  have hok : textOk s := by unfold textOk; omega
  rw [textS_yes hok] at hP
  generalize textE s = ee at hP
  obtain ⟨B, hB⟩ : ∃ B, numB s.size 2 ++ s = B := ⟨_, rfl⟩
  rw [hB] at hP ⊢
  clear hB hok hs
  go_enter Try.func37, Try.ntmps37
  go_wp2_with (go_at_call 51; (with_reducible refine Calls.mono (hP.out _) ?_); rintro e w1 ⟨rfl, hB1⟩)
  go_ret
  exact ⟨rfl, hB1⟩
theorem find_any (s name : ByteArray) (D : Option (List N)) (w : World) (hs : s.size ≤ 281474976710656) (hn : name.size ≤ 281474976710656) (h : DirO s D) :
    Calls Try.prog 18 #[.string s, .string name] w (Ans w (.tuple #[.int .u32 (findVo D name), .int .i64 (findEo D name)])) := by
  have hF := Lib.hid (fun W => fnd_any s name D W hs hn h)
  have hv : findVo D name = (fndT D name).ino := by
    cases D with
    | none => rfl
    | some L =>
      show (if findE L name = 0 then (nm L (idx L name)).ino else 0) = (if findE L name = 0 then etAt L (idx L name) else Et.zero).ino
      split <;> rfl
  rw [hv]
  obtain ⟨E, hE⟩ : ∃ E, findEo D name = E := ⟨_, rfl⟩
  obtain ⟨T, hT⟩ : ∃ T, fndT D name = T := ⟨_, rfl⟩
  simp only [hE, hT] at hF
  rw [hE, hT]
  clear hv hE hT h hs hn
  obtain ⟨t0, t1, t2, t3⟩ := T
  unfold Et.val Ans at hF
  dsimp only at hF ⊢
  have HN := Lib.hid (fun W (hB : Below w.heap.size w W) => below_al hB (boxT ⟨t0, t1, t2, t3⟩))
  unfold boxT at HN
  dsimp only at HN
  go_enter Try.func18, Try.ntmps18
  go_wp2_with (go_at_call 34; (with_reducible refine Calls.mono (hF.out _) ?_); rintro e w1 ⟨rfl, hB1⟩)
  go_returns
  exact ⟨rfl, HN.out _ hB1⟩
theorem drop_any (s name : ByteArray) (D : Option (List N)) (w : World) (hs : s.size ≤ 281474976710656) (hn : name.size ≤ 281474976710656) (h : DirO s D) :
    Calls Try.prog 22 #[.string s, .string name] w (Ans w (.tuple #[.string (dropVo D name), .int .i64 (findEo D name)])) := by
  have hF := Lib.hid (fun W => fnd_any s name D W hs hn h)
  by_cases hE : findEo D name = 0
  · cases D with
    | none => exact absurd hE (by show ¬ (110 : Int) = 0; decide)
    | some L =>
      obtain ⟨h1, h2⟩ := find_zero.1 hE
      have hT : fndT (some L) name = etAt L (idx L name) := if_pos hE
      have hV : dropVo (some L) name = bytesL (L.eraseIdx (idx L name)) := if_pos hE
      have hd := dir_drop h h2
      obtain ⟨_, _, _, hp, hle⟩ := dir_parts h h2
      have hss : s.size ≤ 20000 := h.2.2
      rw [hE, hV, ← hd]
      simp only [hE, hT] at hF
      unfold etAt at hF
      unfold Et.val Ans at hF
      dsimp only at hF
      generalize (nm L (idx L name)).name = t0 at hF hp
      generalize (nm L (idx L name)).ino = t1 at hF
      obtain ⟨pa, hpa⟩ : ∃ pa, pos L (idx L name) = pa := ⟨_, rfl⟩
      obtain ⟨pb, hpb⟩ : ∃ pb, pos L (idx L name + 1) = pb := ⟨_, rfl⟩
      simp only [hpa, hpb] at hF hp hle ⊢
      clear hE hV hd hT h1 h2 hpa hpb h
      have b1 : (pa : Int) ≤ (s.size : Int) := by omega
      have b2 : (pb : Int) ≤ (s.size : Int) := by omega
      have b3 : pa ≤ s.size := by omega
      have b4 : pb ≤ s.size := by omega
      have hx1 : (s.extract 0 pa).size ≤ 20000 := by rw [ByteArray.size_extract]; omega
      have hx2 : (s.extract pb s.size).size ≤ 20000 := by rw [ByteArray.size_extract]; omega
      obtain ⟨X1, hX1⟩ : ∃ X, s.extract 0 pa = X := ⟨_, rfl⟩
      obtain ⟨X2, hX2⟩ : ∃ X, s.extract pb s.size = X := ⟨_, rfl⟩
      rw [hX1] at hx1
      rw [hX2] at hx2
      rw [hX1, hX2]
      have hadd := fun W => run_string_add_sum (P := Try.prog) (w := W) X1 X2 (by omega)
      have hC := Lib.hid (fun W => clone_any (X1 ++ X2) W (by rw [ByteArray.size_append]; omega))
      have HZ := Lib.hid (fun W => AtT.new W ⟨t0, t1, pa, pb⟩)
      have HN := Lib.hid (fun W (hB : Below w.heap.size w W) => below_al hB (boxT ⟨t0, t1, pa, pb⟩))
      unfold boxT at HN HZ
      dsimp only at HN HZ
      clear hp hle hx1 hx2 hs hn hss
      go_enter Try.func22, Try.ntmps22
      go_wp2_with (go_at_call 34; (with_reducible refine Calls.mono (hF.out _) ?_); rintro e w1 ⟨rfl, hB1⟩; have hNB := Lib.hid (HN.out _ hB1); obtain ⟨c0, c1, c2, c3⟩ := (HZ.out w1).c; dsimp only at c0 c1 c2 c3)
      obtain ⟨Wn, hWn⟩ : ∃ Wn, w1.alloc (.cells #[.string t0, .int .u32 (t1 : Int), .int .i64 (pa : Int), .int .i64 (pb : Int)] 46) = Wn := ⟨_, rfl⟩
      rw [hWn] at c0 c1 c2 c3 hNB ⊢
      have HC : Hid (∀ W', Below Wn.heap.size Wn W' → W'.cell? ⟨w1.heap.size, 2, none⟩ = some (.int .i64 (pa : Int)) ∧ W'.cell? ⟨w1.heap.size, 3, none⟩ = some (.int .i64 (pb : Int))) := fun W' h =>
        ⟨(h.cell (p := ⟨w1.heap.size, 2, none⟩) (World.block_lt_of_cell? _ _ c2)).trans c2, (h.cell (p := ⟨w1.heap.size, 3, none⟩) (World.block_lt_of_cell? _ _ c3)).trans c3⟩
      have hself : Below Wn.heap.size Wn Wn := Below.refl _ _
      have hself2 : Below Wn.heap.size Wn Wn.drew := hself.drew
      clear hWn c0 c1
      go_region_held3 (fun w' => w'.cell? ⟨w1.heap.size, 2, none⟩ = some (.int .i64 (pa : Int)) ∧ w'.cell? ⟨w1.heap.size, 3, none⟩ = some (.int .i64 (pb : Int))) (exact HC.out _ (by assumption)) ((go_at_call 39; (with_reducible refine Calls.mono (hC.out _) ?_); rintro e w' ⟨rfl, hBn⟩; have := below_th (by assumption : Below Wn.heap.size Wn _) hBn))
      have hBF := below_th hNB.out (by assumption : Below Wn.heap.size Wn _)
      go_wp2
      go_returns
      exact ⟨rfl, hBF⟩
  · have hV := R.dropVo_not (D := D) (s := name) hE
    obtain ⟨E, hEE⟩ : ∃ E, findEo D name = E := ⟨_, rfl⟩
    obtain ⟨T, hT⟩ : ∃ T, fndT D name = T := ⟨_, rfl⟩
    simp only [hEE, hT] at hF
    rw [hV, hEE]
    rw [hEE] at hE
    have hne : (E != 0) = true := by simpa using hE
    clear hV hE hEE hT h hs hn
    obtain ⟨t0, t1, t2, t3⟩ := T
    unfold Et.val Ans at hF
    dsimp only at hF
    have HN := Lib.hid (fun W (hB : Below w.heap.size w W) => below_al hB (boxT ⟨t0, t1, t2, t3⟩))
    unfold boxT at HN
    dsimp only at HN
    go_enter Try.func22, Try.ntmps22
    go_wp2_with (go_at_call 34; (with_reducible refine Calls.mono (hF.out _) ?_); rintro e w1 ⟨rfl, hB1⟩)
    go_returns
    exact ⟨rfl, HN.out _ hB1⟩
theorem set_any (s name : ByteArray) (ino : Nat) (D : Option (List N)) (w : World) (hs : s.size ≤ 281474976710656) (hn : name.size ≤ 281474976710656) (hi : ino < 4294967296) (h : DirO s D) :
    Calls Try.prog 24 #[.string s, .string name, .int .u32 ino] w (Ans w (.tuple #[.string (setVo D name ino), .int .i64 (setEo D name ino)])) := by
  have hF := Lib.hid (fun W => fnd_any s name D W hs hn h)
  by_cases hE : findEo D name = 0
  · cases D with
    | none => exact absurd hE (by show ¬ (110 : Int) = 0; decide)
    | some L =>
      obtain ⟨h1, h2⟩ := find_zero.1 hE
      have hE2 : findE L name = 0 := hE
      have hT : fndT (some L) name = etAt L (idx L name) := if_pos hE
      simp only [hE, hT] at hF
      unfold etAt at hF
      unfold Et.val Ans at hF
      dsimp only at hF
      by_cases hz : ino = 0
      · have hV : setVo (some L) name ino = ⟨#[]⟩ := R.setVo_not (by show ¬ setE L name ino = 0; unfold setE; simp [hE2, hz])
        have hEE : setEo (some L) name ino = 110 := by show setE L name ino = 110; unfold setE; simp [hE2, hz]
        rw [hV, hEE]
        have q0 : ((ino : Int) == 0) = true := by simp [hz]
        generalize (nm L (idx L name)).name = t0 at hF
        generalize (nm L (idx L name)).ino = t1 at hF
        generalize pos L (idx L name) = pa at hF
        generalize pos L (idx L name + 1) = pb at hF
        clear hE hE2 hT h1 h2 hz hV hEE h hs hn hi
        have HN := Lib.hid (fun W (hB : Below w.heap.size w W) => below_al hB (boxT ⟨t0, t1, pa, pb⟩))
        unfold boxT at HN
        dsimp only at HN
        go_enter Try.func24, Try.ntmps24
        go_wp2_with (go_at_call 34; (with_reducible refine Calls.mono (hF.out _) ?_); rintro e w1 ⟨rfl, hB1⟩)
        go_returns
        exact ⟨rfl, HN.out _ hB1⟩
      · have hSE : setE L name ino = 0 := by unfold setE; simp [hE2, hz]
        have hEE : setEo (some L) name ino = 0 := hSE
        have hV : setVo (some L) name ino = bytesL (L.set (idx L name) ⟨name, ino⟩) := if_pos hSE
        have hd := dir_set h h2 ino
        rw [idx_is h2] at hd
        obtain ⟨_, _, _, hp, hle⟩ := dir_parts h h2
        have hss : s.size ≤ 20000 := h.2.2
        have q0 : ((ino : Int) == 0) = false := beq_eq_false_iff_ne.2 (by omega)
        have hPu := Lib.hid (fun W => putN_any ino W hi)
        rw [hEE, hV, ← hd]
        generalize (nm L (idx L name)).name = t0 at hF hp
        generalize (nm L (idx L name)).ino = t1 at hF
        obtain ⟨pa, hpa⟩ : ∃ pa, pos L (idx L name) = pa := ⟨_, rfl⟩
        obtain ⟨pb, hpb⟩ : ∃ pb, pos L (idx L name + 1) = pb := ⟨_, rfl⟩
        simp only [hpa, hpb] at hF hp hle ⊢
        obtain ⟨pc, hpc⟩ : ∃ pc, pa + 4 = pc := ⟨_, rfl⟩
        rw [hpc]
        have b1 : (pa : Int) ≤ (s.size : Int) := by omega
        have b2 : (pc : Int) ≤ (s.size : Int) := by omega
        have b3 : pa ≤ s.size := by omega
        have b4 : pc ≤ s.size := by omega
        have hwc : IntKind.i64.wrap ((pa : Int) + 4) = (pc : Int) := by rw [IntKind.wrap_i64]; omega
        have hx1 : (s.extract 0 pa).size ≤ 20000 := by rw [ByteArray.size_extract]; omega
        have hx2 : (s.extract pc s.size).size ≤ 20000 := by rw [ByteArray.size_extract]; omega
        have hx3 : (numB ino 4).size = 4 := numB_size _ _
        clear hE hE2 hT h1 h2 hz hSE hEE hV hd hpa hpb h hpc hp hle
        obtain ⟨X1, hX1⟩ : ∃ X, s.extract 0 pa = X := ⟨_, rfl⟩
        obtain ⟨X2, hX2⟩ : ∃ X, s.extract pc s.size = X := ⟨_, rfl⟩
        obtain ⟨X3, hX3⟩ : ∃ X, numB ino 4 = X := ⟨_, rfl⟩
        rw [hX1] at hx1
        rw [hX2] at hx2
        rw [hX3] at hx3 hPu
        rw [hX1, hX2, hX3]
        have hadd := fun W => run_string_add_sum (P := Try.prog) (w := W) X1 X3 (by omega)
        have hadd2 := fun W => run_string_add_sum (P := Try.prog) (w := W) (X1 ++ X3) X2 (by rw [ByteArray.size_append]; omega)
        have HZ := Lib.hid (fun W => AtT.new W ⟨t0, t1, pa, pb⟩)
        have HN := Lib.hid (fun W (hB : Below w.heap.size w W) => below_al hB (boxT ⟨t0, t1, pa, pb⟩))
        unfold boxT at HN HZ
        dsimp only at HN HZ
        clear hx1 hx2 hx3 hs hn hss hX3 hi
        go_enter Try.func24, Try.ntmps24
        go_wp2_with (go_at_call 34; (with_reducible refine Calls.mono (hF.out _) ?_); rintro e w1 ⟨rfl, hB1⟩; have hNB := Lib.hid (HN.out _ hB1); obtain ⟨c0, c1, c2, c3⟩ := (HZ.out w1).c; dsimp only at c0 c1 c2 c3)
        obtain ⟨Wn, hWn⟩ : ∃ Wn, w1.alloc (.cells #[.string t0, .int .u32 (t1 : Int), .int .i64 (pa : Int), .int .i64 (pb : Int)] 46) = Wn := ⟨_, rfl⟩
        rw [hWn] at c0 c1 c2 c3 hNB ⊢
        have HC : Hid (∀ W', Below Wn.heap.size Wn W' → W'.cell? ⟨w1.heap.size, 2, none⟩ = some (.int .i64 (pa : Int))) := fun W' h =>
          (h.cell (p := ⟨w1.heap.size, 2, none⟩) (World.block_lt_of_cell? _ _ c2)).trans c2
        have hself : Below Wn.heap.size Wn Wn := Below.refl _ _
        have hself2 : Below Wn.heap.size Wn Wn.drew := hself.drew
        clear hWn c0 c1 c3
        go_region_held3 (fun w' => w'.cell? ⟨w1.heap.size, 2, none⟩ = some (.int .i64 (pa : Int))) (exact HC.out _ (by assumption)) ((go_at_call 36; (with_reducible refine Calls.mono (hPu.out _) ?_); rintro e w' ⟨rfl, hBn⟩; have := below_th (by assumption : Below Wn.heap.size Wn _) hBn))
        have hBF := below_th hNB.out (by assumption : Below Wn.heap.size Wn _)
        go_wp2
        go_returns
        exact ⟨rfl, hBF⟩
  · have hV := R.setVo_not (D := D) (s := name) (i := ino) (by
      cases D with
      | none => exact hE
      | some L => show ¬ setE L name ino = 0; unfold setE; rw [if_pos (show ¬ findE L name = 0 from hE)]; exact hE)
    have hEE2 : setEo D name ino = findEo D name := by
      cases D with
      | none => rfl
      | some L => show setE L name ino = _; unfold setE; rw [if_pos (show ¬ findE L name = 0 from hE)]; rfl
    rw [hV, hEE2]
    obtain ⟨E, hEE⟩ : ∃ E, findEo D name = E := ⟨_, rfl⟩
    obtain ⟨T, hT⟩ : ∃ T, fndT D name = T := ⟨_, rfl⟩
    simp only [hEE, hT] at hF
    rw [hEE]
    rw [hEE] at hE
    have hne : (E != 0) = true := by simpa using hE
    clear hV hE hEE hEE2 hT h hs hn hi
    obtain ⟨t0, t1, t2, t3⟩ := T
    unfold Et.val Ans at hF
    dsimp only at hF
    have HN := Lib.hid (fun W (hB : Below w.heap.size w W) => below_al hB (boxT ⟨t0, t1, t2, t3⟩))
    unfold boxT at HN
    dsimp only at HN
    go_enter Try.func24, Try.ntmps24
    go_wp2_with (go_at_call 34; (with_reducible refine Calls.mono (hF.out _) ?_); rintro e w1 ⟨rfl, hB1⟩)
    go_returns
    exact ⟨rfl, HN.out _ hB1⟩
theorem add_any (s name : ByteArray) (ino : Nat) (D : Option (List N)) (w : World) (hs : s.size ≤ 281474976710656) (hn : name.size ≤ 281474976710656) (hi : ino < 4294967296) (h : DirO s D) :
    Calls Try.prog 20 #[.string s, .string name, .int .u32 ino] w (Ans w (.tuple #[.string (addVo D name ino), .int .i64 (addEo D name ino)])) := by
  have hF := Lib.hid (fun W => fnd_any s name D W hs hn h)
  obtain ⟨T, hT⟩ : ∃ T, fndT D name = T := ⟨_, rfl⟩
  simp only [hT] at hF
  clear hT
  obtain ⟨t0, t1, t2, t3⟩ := T
  unfold Et.val Ans at hF
  dsimp only at hF
  have HN := Lib.hid (fun W (hB : Below w.heap.size w W) => below_al hB (boxT ⟨t0, t1, t2, t3⟩))
  unfold boxT at HN
  dsimp only at HN
  by_cases hE : findEo D name = 0
  · cases D with
    | none => exact absurd hE (by show ¬ (110 : Int) = 0; decide)
    | some L =>
      obtain ⟨h1, h2⟩ := find_zero.1 hE
      have hEE : addEo (some L) name ino = 113 := by unfold addEo addE; simp [h1, h2]
      have hV := R.addVo_not (D := some L) (s := name) (i := ino) (by rw [hEE]; decide)
      rw [hV, hEE]
      simp only [hE] at hF
      clear hE hEE hV h1 h2 h hs hn hi
      go_enter Try.func20, Try.ntmps20
      go_wp2_with (go_at_call 34; (with_reducible refine Calls.mono (hF.out _) ?_); rintro e w1 ⟨rfl, hB1⟩)
      go_returns
      exact ⟨rfl, HN.out _ hB1⟩
  · by_cases hE2 : findEo D name = 112
    · cases D with
      | none => exact absurd hE2 (by show ¬ (110 : Int) = 112; decide)
      | some L =>
        have h1 : nameP name := by
          by_cases h1 : nameP name
          · exact h1
          · exact absurd hE2 (by show ¬ findE L name = 112; unfold findE; simp [h1])
        have h2 : ¬ idx L name < L.length := fun h2 => hE (find_zero.2 ⟨h1, h2⟩)
        simp only [hE2] at hF
        by_cases hz : ino = 0
        · have hEE : addEo (some L) name ino = 110 := by unfold addEo addE; simp [h1, h2, hz]
          have hV := R.addVo_not (D := some L) (s := name) (i := ino) (by rw [hEE]; decide)
          rw [hV, hEE]
          have q0 : ((ino : Int) == 0) = true := by simp [hz]
          clear hE hE2 hEE hV h1 h2 h hs hn hi hz
          go_enter Try.func20, Try.ntmps20
          go_wp2_with (go_at_call 34; (with_reducible refine Calls.mono (hF.out _) ?_); rintro e w1 ⟨rfl, hB1⟩)
          go_returns
          exact ⟨rfl, HN.out _ hB1⟩
        · have q0 : ((ino : Int) == 0) = false := beq_eq_false_iff_ne.2 (by omega)
          have hnz := h1.2.1
          have hss : s.size ≤ 20000 := h.2.2
          have hbs : bytesL L = s := h.2.1
          have hPu := Lib.hid (fun W => putN_any ino W hi)
          have hTx := Lib.hid (fun W => textN_any name W hnz)
          have hsum : s ++ numB ino 4 ++ (numB name.size 2 ++ name) = bytesL (L ++ [(⟨name, ino⟩ : N)]) := by
            rw [bytesL_snoc, hbs]
            unfold ent
            simp only [app_assoc]
          have hx3 : (numB ino 4).size = 4 := numB_size _ _
          have hx4 : (numB name.size 2 ++ name).size = 2 + name.size := by rw [ByteArray.size_append, numB_size]
          obtain ⟨X3, hX3⟩ : ∃ X, numB ino 4 = X := ⟨_, rfl⟩
          obtain ⟨X4, hX4⟩ : ∃ X, numB name.size 2 ++ name = X := ⟨_, rfl⟩
          rw [hX3] at hPu hsum hx3
          rw [hX4] at hTx hsum hx4
          have hadd := fun W => run_string_add_sum (P := Try.prog) (w := W) s X3 (by omega)
          have hadd2 := fun W => run_string_add_sum (P := Try.prog) (w := W) (s ++ X3) X4 (by rw [ByteArray.size_append]; omega)
          have hsz : (s ++ X3 ++ X4).size = s.size + 6 + name.size := by rw [ByteArray.size_append, ByteArray.size_append]; omega
          by_cases h4 : 20000 < s.size + 6 + name.size
          · have hEE : addEo (some L) name ino = 114 := by
              show addE L name ino = 114
              unfold addE
              rw [hbs]
              simp [h1, h2, hz, h4]
            have hV := R.addVo_not (D := some L) (s := name) (i := ino) (by rw [hEE]; decide)
            rw [hV, hEE]
            have q4 : (20000 : Int) < ((s ++ X3 ++ X4).size : Int) := by omega
            obtain ⟨SB, hSB⟩ : ∃ SB, s ++ X3 ++ X4 = SB := ⟨_, rfl⟩
            simp only [hSB] at hadd2 q4
            clear hE hE2 hEE hV h1 h2 h hs hn hi hz h4 hsz hSB hsum hx3 hx4 hX3 hX4 hnz hss hbs
            go_enter Try.func20, Try.ntmps20
            go_wp2_with (first
              | (go_at_call 34; (with_reducible refine Calls.mono (hF.out _) ?_); rintro e w1 ⟨rfl, hB1⟩)
              | (go_at_call 36; (with_reducible refine Calls.mono (hPu.out _) ?_); rintro e w2 ⟨rfl, hB2⟩)
              | (go_at_call 37; (with_reducible refine Calls.mono (hTx.out _) ?_); rintro e w3 ⟨rfl, hB3⟩))
            go_returns
            exact ⟨rfl, below_th (below_th (HN.out _ hB1) hB2) hB3⟩
          · have hAE : addE L name ino = 0 := by
              unfold addE
              rw [hbs]
              simp [h1, h2, hz, h4]
            have hEE : addEo (some L) name ino = 0 := hAE
            have hV : addVo (some L) name ino = bytesL (L ++ [(⟨name, ino⟩ : N)]) := R.addV_zero hAE
            rw [hV, hEE, ← hsum]
            have q4 : ¬ (20000 : Int) < ((s ++ X3 ++ X4).size : Int) := by omega
            obtain ⟨SB, hSB⟩ : ∃ SB, s ++ X3 ++ X4 = SB := ⟨_, rfl⟩
            simp only [hSB] at hadd2 q4
            rw [hSB]
            clear hE hE2 hEE hAE hV h1 h2 h hs hn hi hz h4 hsz hSB hsum hx3 hx4 hX3 hX4 hnz hss hbs
            go_enter Try.func20, Try.ntmps20
            go_wp2_with (first
              | (go_at_call 34; (with_reducible refine Calls.mono (hF.out _) ?_); rintro e w1 ⟨rfl, hB1⟩)
              | (go_at_call 36; (with_reducible refine Calls.mono (hPu.out _) ?_); rintro e w2 ⟨rfl, hB2⟩)
              | (go_at_call 37; (with_reducible refine Calls.mono (hTx.out _) ?_); rintro e w3 ⟨rfl, hB3⟩))
            go_returns
            exact ⟨rfl, below_th (below_th (HN.out _ hB1) hB2) hB3⟩
    · have hEE2 : addEo D name ino = findEo D name := by
        cases D with
        | none => rfl
        | some L =>
          show addE L name ino = findE L name
          have a1 : ¬ findE L name = 0 := hE
          have a2 : ¬ findE L name = 112 := hE2
          unfold findE at a1 a2 ⊢
          unfold addE
          by_cases h1 : nameP name
          · by_cases h2 : idx L name < L.length
            · simp [h1, h2] at a1
            · simp [h1, h2] at a2
          · simp [h1]
      have hV := R.addVo_not (D := D) (s := name) (i := ino) (by rw [hEE2]; exact hE)
      rw [hV, hEE2]
      obtain ⟨E, hEE⟩ : ∃ E, findEo D name = E := ⟨_, rfl⟩
      simp only [hEE] at hF
      rw [hEE]
      rw [hEE] at hE hE2
      have hne : (E == 0) = false := beq_eq_false_iff_ne.2 hE
      have hne2 : (E != 112) = true := bne_iff_ne.2 hE2
      clear hV hE hE2 hEE hEE2 h hs hn hi
      go_enter Try.func20, Try.ntmps20
      go_wp2_with (go_at_call 34; (with_reducible refine Calls.mono (hF.out _) ?_); rintro e w1 ⟨rfl, hB1⟩)
      go_returns
      exact ⟨rfl, HN.out _ hB1⟩
end
end Go.Proofs.Ytafbkagoajcmeaa.Dir
