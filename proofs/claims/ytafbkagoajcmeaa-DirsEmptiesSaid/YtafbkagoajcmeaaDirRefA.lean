/- The document's Add, Set, Drop. -/
import Derived.Test.YtafbkagoajcmeaaDirRefF
namespace Go.Proofs.Ytafbkagoajcmeaa.Dir.R
open Go.RowKit
attribute [local go_sem] Oper.semAt_some
set_option linter.unusedVariables false
set_option linter.unusedSimpArgs false
theorem addV_zero {L : List N} {s : ByteArray} {i : Nat} (h : addE L s i = 0) : addV L s i = bytesL (L ++ [⟨s, i⟩]) := if_pos h
theorem addVo_not {D : Option (List N)} {s : ByteArray} {i : Nat} (h : ¬ addEo D s i = 0) : addVo D s i = ⟨#[]⟩ := by
  cases D with
  | none => rfl
  | some L => exact if_neg h
theorem setVo_not {D : Option (List N)} {s : ByteArray} {i : Nat} (h : ¬ setEo D s i = 0) : setVo D s i = ⟨#[]⟩ := by
  cases D with
  | none => rfl
  | some L => exact if_neg h
theorem dropVo_not {D : Option (List N)} {s : ByteArray} (h : ¬ findEo D s = 0) : dropVo D s = ⟨#[]⟩ := by
  cases D with
  | none => rfl
  | some L => exact if_neg h
section
set_option maxRecDepth 100000
set_option maxHeartbeats 8000000
theorem add_any (s name : ByteArray) (ino : Nat) (D : Option (List N)) (w : World) (hs : s.size ≤ 281474976710656) (hn : name.size ≤ 281474976710656) (hi : ino < 4294967296) (h : DirO s D) :
    Calls Try.prog 21 #[.string s, .string name, .int .u32 ino] w (Ans w (.tuple #[.string (addVo D name ino), .int .i64 (addEo D name ino)])) := by
  by_cases hE : findEo D name = 0
  · -- it is there
    cases D with
    | none => exact absurd hE (by show ¬ (110 : Int) = 0; decide)
    | some L =>
      obtain ⟨h1, h2⟩ := find_zero.1 hE
      have hF := Lib.hid (fun W => found_good s name L W hs h h1 h2)
      have HE : Hid (addEo (some L) name ino = 113) := by unfold Hid addEo addE; simp [h1, h2]
      have HV := Lib.hid (addVo_not (D := some L) (s := name) (i := ino) (by rw [HE.out]; decide))
      rw [HV.out, HE.out]
      unfold FoundPost at hF
      generalize idx L name = ii at hF h2
      clear h hs hn hE h1 h2 hi
      go_enter Try.func21, Try.ntmps21
      go_wp2_with (go_at_call 35; (with_reducible refine Calls.mono (hF.out _) ?_); rintro e w1 ⟨v, rfl, hO, hB⟩; clear hO)
      go_returns
      exact ⟨rfl, hB⟩
  · have hF := Lib.hid (fun W => found_bad s name D W hs hn h hE)
    by_cases hE2 : findEo D name = 112
    · cases D with
      | none => exact absurd hE2 (by show ¬ (110 : Int) = 112; decide)
      | some L =>
        have h1 : nameP name := by
          by_cases h1 : nameP name
          · exact h1
          · exact absurd hE2 (by show ¬ findE L name = 112; unfold findE; simp [h1])
        have h2 : ¬ idx L name < L.length := fun h2 => hE (find_zero.2 ⟨h1, h2⟩)
        rw [hE2] at hF
        by_cases h0 : ino = 0
        · have HE : Hid (addEo (some L) name ino = 110) := by unfold Hid addEo addE; simp [h1, h2, h0]
          have HV := Lib.hid (addVo_not (D := some L) (s := name) (i := ino) (by rw [HE.out]; decide))
          rw [HV.out, HE.out]
          have q0 : ((ino : Int) == 0) = true := by simp [h0]
          clear h hs hn hE hE2 h1 h2 hi h0
          go_enter Try.func21, Try.ntmps21
          go_wp2_with (go_at_call 35; (with_reducible refine Calls.mono (hF.out _) ?_); rintro e w1 ⟨⟨v, rfl⟩, hB⟩)
          go_returns
          exact ⟨rfl, hB⟩
        · have q0 : ((ino : Int) == 0) = false := beq_eq_false_iff_ne.2 (by omega)
          have hnz := h1.2.1
          have hsz := h.2.2
          have hes : (bytesL [(⟨name, ino⟩ : N)]).size = 6 + name.size := by rw [bytesL_one, ent_size]
          have hBy := Lib.hid (fun W v (hh : Nms W v [(⟨name, ino⟩ : N)]) => bytes_any v [⟨name, ino⟩] W hh (by rw [hes]; omega) (fun i hi2 => by
            obtain rfl : i = 0 := by simpa using hi2
            exact hi))
          have hap : bytesL (L ++ [(⟨name, ino⟩ : N)]) = s ++ bytesL [(⟨name, ino⟩ : N)] := by rw [bytesL_app, h.2.1]
          obtain ⟨B, hB0⟩ : ∃ B, bytesL [(⟨name, ino⟩ : N)] = B := ⟨_, rfl⟩
          rw [hB0] at hBy hap hes
          have hadd := fun W => run_string_add_sum (P := Try.prog) (w := W) s B (by omega)
          have hsz2 : (s ++ B).size = s.size + 6 + name.size := by rw [ByteArray.size_append]; omega
          have HO : Hid (∀ W : World, Nms (W.alloc (.cells #[.string name, .int .u32 (ino : Int)] 40)) (.slice (some ⟨W.heap.size, 0, none⟩) 1 1) [(⟨name, ino⟩ : N)]) := fun W => Nms.one (e := ⟨name, ino⟩) (World.alloc_heap_new W _)
          by_cases h4 : 20000 < s.size + 6 + name.size
          · have HE : Hid (addEo (some L) name ino = 114) := by
              have hbs : bytesL L = s := h.2.1
              show addE L name ino = 114
              unfold addE
              rw [hbs]
              simp [h1, h2, h0, h4]
            have HV := Lib.hid (addVo_not (D := some L) (s := name) (i := ino) (by rw [HE.out]; decide))
            rw [HV.out, HE.out]
            have q4 : (20000 : Int) < ((s ++ B).size : Int) := by omega
            obtain ⟨SB, hSB⟩ : ∃ SB, s ++ B = SB := ⟨_, rfl⟩
            simp only [hSB] at hadd q4
            clear h hs hn hE hE2 h1 h2 hi h0 h4 hsz hnz hes hap hB0 hsz2 hSB
            go_enter Try.func21, Try.ntmps21
            go_wp2_with (first
              | (go_at_call 35; (with_reducible refine Calls.mono (hF.out _) ?_); rintro e w1 ⟨⟨v, rfl⟩, hB⟩)
              | (go_at_call 38; (with_reducible refine Calls.mono (hBy.out _ _ (HO.out _)) ?_); rintro e w2 ⟨rfl, hB2⟩))
            go_returns
            exact ⟨rfl, below_th (below_al hB _) hB2⟩
          · have hz : addE L name ino = 0 := add_zero.2 ⟨h1, by have := idx_le L name; omega, h0, by rw [h.2.1]; omega⟩
            have HV : Hid (addVo (some L) name ino = s ++ B) := by unfold Hid; rw [← hap]; exact addV_zero hz
            have HE : Hid (addEo (some L) name ino = 0) := hz
            rw [HV.out, HE.out]
            have q4 : ¬ (20000 : Int) < ((s ++ B).size : Int) := by omega
            obtain ⟨SB, hSB⟩ : ∃ SB, s ++ B = SB := ⟨_, rfl⟩
            simp only [hSB] at hadd q4
            rw [hSB]
            clear h hs hn hE hE2 h1 h2 hi h0 h4 hsz hnz hes hap hB0 hsz2 hSB hz
            go_enter Try.func21, Try.ntmps21
            go_wp2_with (first
              | (go_at_call 35; (with_reducible refine Calls.mono (hF.out _) ?_); rintro e w1 ⟨⟨v, rfl⟩, hB⟩)
              | (go_at_call 38; (with_reducible refine Calls.mono (hBy.out _ _ (HO.out _)) ?_); rintro e w2 ⟨rfl, hB2⟩))
            go_returns
            exact ⟨rfl, below_th (below_al hB _) hB2⟩
    · have HE : Hid (addEo D name ino = findEo D name) := by
        unfold Hid
        cases D with
        | none => rfl
        | some L =>
          show addE L name ino = findE L name
          have k1 : ¬ findE L name = 0 := hE
          have k2 : ¬ findE L name = 112 := hE2
          unfold findE at k1 k2 ⊢
          unfold addE
          by_cases h1 : nameP name
          · by_cases h2 : idx L name < L.length
            · simp [h1, h2] at k1
            · simp [h1, h2] at k2
          · simp [h1]
      have HV := Lib.hid (addVo_not (D := D) (s := name) (i := ino) (by rw [HE.out]; exact hE))
      rw [HV.out, HE.out]
      obtain ⟨E, hEE⟩ : ∃ E, findEo D name = E := ⟨_, rfl⟩
      rw [hEE] at hE hE2 hF ⊢
      have hne : (E == 0) = false := beq_eq_false_iff_ne.2 hE
      have hne2 : (E != 112) = true := bne_iff_ne.2 hE2
      clear h hs hn hE hE2 hEE hi
      go_enter Try.func21, Try.ntmps21
      go_wp2_with (go_at_call 35; (with_reducible refine Calls.mono (hF.out _) ?_); rintro e w1 ⟨⟨v, rfl⟩, hB⟩)
      go_returns
      exact ⟨rfl, hB⟩
theorem set_any (s name : ByteArray) (ino : Nat) (D : Option (List N)) (w : World) (hs : s.size ≤ 281474976710656) (hn : name.size ≤ 281474976710656) (hi : ino < 4294967296) (h : DirO s D) :
    Calls Try.prog 25 #[.string s, .string name, .int .u32 ino] w (Ans w (.tuple #[.string (setVo D name ino), .int .i64 (setEo D name ino)])) := by
  by_cases hE : findEo D name = 0
  · cases D with
    | none => exact absurd hE (by show ¬ (110 : Int) = 0; decide)
    | some L =>
      obtain ⟨h1, h2⟩ := find_zero.1 hE
      have hE' : findE L name = 0 := hE
      have hF := Lib.hid (fun W => found_good s name L W hs h h1 h2)
      by_cases h0 : ino = 0
      · have HE : Hid (setEo (some L) name ino = 110) := by unfold Hid setEo setE; simp [hE', h0]
        have HV := Lib.hid (setVo_not (D := some L) (s := name) (i := ino) (by rw [HE.out]; decide))
        rw [HV.out, HE.out]
        have q0 : ((ino : Int) == 0) = true := by simp [h0]
        unfold FoundPost at hF
        generalize idx L name = ii at hF h2
        clear h hs hn hE h1 h2 hi h0 hE'
        go_enter Try.func25, Try.ntmps25
        go_wp2_with (go_at_call 35; (with_reducible refine Calls.mono (hF.out _) ?_); rintro e w1 ⟨v, rfl, hO, hB⟩; clear hO)
        go_returns
        exact ⟨rfl, hB⟩
      · have hz : setE L name ino = 0 := by unfold setE; simp [hE', h0]
        have q0 : ((ino : Int) == 0) = false := beq_eq_false_iff_ne.2 (by omega)
        have hnm := idx_is h2
        have HV : Hid (setVo (some L) name ino = bytesL (L.set (idx L name) ⟨(nm L (idx L name)).name, ino⟩)) := by unfold Hid; rw [hnm]; exact if_pos hz
        have HE : Hid (setEo (some L) name ino = 0) := hz
        rw [HV.out, HE.out]
        have hdp := h.set h2 h0 hi
        have hlen : (L.set (idx L name) ⟨(nm L (idx L name)).name, ino⟩).length = L.length := List.length_set
        unfold FoundPost at hF
        generalize idx L name = ii at hF h2 hdp hlen
        obtain ⟨M, hM⟩ : ∃ M, L.set ii ⟨(nm L ii).name, ino⟩ = M := ⟨_, rfl⟩
        rw [hM] at hdp hlen ⊢
        have hBy := Lib.hid (fun W v (hh : Nms W v M) => bytes_any v M W hh (by have := hdp.2.2; omega) (fun i hi2 => (hdp.1.1 i hi2).2.2))
        have HW : Hid (∀ v w1, w1.ownsRow w.heap.size 40 2 v L.length (cellsL L) → Below w.heap.size w w1 → ∃ g cap u, v = .slice (some ⟨g, 0, none⟩) L.length cap ∧ w1.cell? ⟨g, ii * 2 + 1, none⟩ = some u ∧ w1.frozen? ⟨g, ii * 2 + 1, none⟩ = false ∧ Nms (w1.setCell ⟨g, ii * 2 + 1, none⟩ (.int .u32 (ino : Int))) (.slice (some ⟨g, 0, none⟩) L.length cap) M ∧ Below w.heap.size w (w1.setCell ⟨g, ii * 2 + 1, none⟩ (.int .u32 (ino : Int)))) := fun v w1 hO hB => by
          obtain ⟨g, cap, rfl, hg, _, _⟩ := own_open hO (by omega)
          obtain ⟨⟨u, k1⟩, k2, k3, k4⟩ := own_ino rfl hO h2 ino
          rw [hM] at k3
          have k5 := Nms.own (L := M) (by rw [hlen]; exact k3)
          exact ⟨g, cap, u, rfl, k1, k2, k5, hB.trans (k4.mono hg)⟩
        obtain ⟨n, hnl⟩ : ∃ n, L.length = n := ⟨_, rfl⟩
        rw [hnl] at hF HW h2
        have hii : (ii : Int) < (n : Int) := by omega
        clear h hs hn hE h1 hi h0 hE' hz hnm hdp hlen hM hnl
        go_enter Try.func25, Try.ntmps25
        go_wp2_with (first
          | (go_at_call 35; (with_reducible refine Calls.mono (hF.out _) ?_); rintro e w1 ⟨v, rfl, hO, hB⟩; obtain ⟨g, cap, u, rfl, k1, k2, k3, k4⟩ := HW.out _ _ hO hB; have HK3 := Lib.hid k3; have HK4 := Lib.hid k4; clear hO k3 k4)
          | (go_at_call 38; (with_reducible refine Calls.mono (hBy.out _ _ HK3.out) ?_); rintro e w2 ⟨rfl, hB2⟩))
        go_returns
        exact ⟨rfl, below_th HK4.out hB2⟩
  · have hF := Lib.hid (fun W => found_bad s name D W hs hn h hE)
    have HE : Hid (setEo D name ino = findEo D name) := by
      unfold Hid
      cases D with
      | none => rfl
      | some L => exact if_pos hE
    have HV := Lib.hid (setVo_not (D := D) (s := name) (i := ino) (by rw [HE.out]; exact hE))
    rw [HV.out, HE.out]
    obtain ⟨E, hEE⟩ : ∃ E, findEo D name = E := ⟨_, rfl⟩
    rw [hEE] at hE hF ⊢
    have hne : (E != 0) = true := bne_iff_ne.2 hE
    clear h hs hn hE hEE hi
    go_enter Try.func25, Try.ntmps25
    go_wp2_with (go_at_call 35; (with_reducible refine Calls.mono (hF.out _) ?_); rintro e w1 ⟨⟨v, rfl⟩, hB⟩)
    go_returns
    exact ⟨rfl, hB⟩
end
end Go.Proofs.Ytafbkagoajcmeaa.Dir.R
