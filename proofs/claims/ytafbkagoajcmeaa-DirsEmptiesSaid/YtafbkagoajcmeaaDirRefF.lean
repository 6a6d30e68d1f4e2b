/- The document's found, Find, Right, Add, Set. -/
import Derived.Test.YtafbkagoajcmeaaDirRefB
namespace Go.Proofs.Ytafbkagoajcmeaa.Dir
open Go.RowKit
set_option linter.unusedVariables false
/-- a directory's names, or none -/
def DirO (s : ByteArray) : Option (List N) → Prop
  | some L => DirP s L
  | none => ¬ ∃ L, DirP s L
theorem DirO.ex (s : ByteArray) : ∃ D, DirO s D := by
  by_cases h : ∃ L, DirP s L
  · obtain ⟨L, hL⟩ := h
    exact ⟨some L, hL⟩
  · exact ⟨none, h⟩
def rightO : Option (List N) → Bool
  | some _ => true
  | none => false
def findEo (D : Option (List N)) (s : ByteArray) : Int := match D with | some L => findE L s | none => 110
def findVo (D : Option (List N)) (s : ByteArray) : Nat := match D with | some L => findV L s | none => 0
def addEo (D : Option (List N)) (s : ByteArray) (ino : Nat) : Int := match D with | some L => addE L s ino | none => 110
def addVo (D : Option (List N)) (s : ByteArray) (ino : Nat) : ByteArray := match D with | some L => addV L s ino | none => ⟨#[]⟩
def dropVo (D : Option (List N)) (s : ByteArray) : ByteArray := match D with | some L => dropV L s | none => ⟨#[]⟩
def setEo (D : Option (List N)) (s : ByteArray) (ino : Nat) : Int := match D with | some L => setE L s ino | none => 110
def setVo (D : Option (List N)) (s : ByteArray) (ino : Nat) : ByteArray := match D with | some L => setV L s ino | none => ⟨#[]⟩
theorem Nms.one {W : World} {b : Nat} {e : N} (h : W.heap[b]? = some (.cells #[.string e.name, .int .u32 e.ino] 40 (0, 0))) : Nms W (.slice (some ⟨b, 0, none⟩) 1 1) [e] := by
  have hc := At.c (W := W) (b := b) (e := e) h
  refine ⟨some ⟨b, 0, none⟩, 1, rfl, Nat.le_refl _, ⟨by unfold maxLen; omega, fun e => by cases e⟩, rfl, fun _ => ⟨b, 0, rfl, fun j u hj => ?_⟩⟩
  have hl := (List.getElem?_eq_some_iff.1 hj).1
  match j, hj with
  | 0, hj => cases hj; exact hc.1
  | 1, hj => cases hj; exact hc.2
  | j + 2, hj => exact absurd hl (by show ¬ j + 2 < 2; omega)
namespace R
attribute [local go_sem] Oper.semAt_some
section
set_option maxRecDepth 100000
set_option maxHeartbeats 8000000
theorem read_yes (s : ByteArray) (L : List N) (w : World) (hs : s.size ≤ 281474976710656) (h : DirP s L) : Calls Try.prog 31 #[.string s] w fun e w' => ∃ v, e = .returned (.tuple #[v, .bool true]) ∧ w'.ownsRow w.heap.size 40 2 v L.length (cellsL L) ∧ Below w.heap.size w w' :=
  (read_any s w hs).mono fun e w' hp => by
    rcases hp with ⟨M, v, h1, h2, h3, h4⟩ | ⟨h1, _⟩
    · obtain rfl := h.unique h1
      exact ⟨v, h2, h3, h4⟩
    · exact absurd ⟨L, h⟩ h1
theorem read_no (s : ByteArray) (w : World) (hs : s.size ≤ 281474976710656) (h : ¬ ∃ L, DirP s L) : Calls Try.prog 31 #[.string s] w fun e w' => e = .returned (.tuple #[.slice none 0 0, .bool false]) ∧ Below w.heap.size w w' :=
  (read_any s w hs).mono fun e w' hp => by
    rcases hp with ⟨M, v, h1, _⟩ | ⟨_, h2, h3⟩
    · exact absurd ⟨M, h1⟩ h
    · exact ⟨h2, h3⟩
theorem right_any (s : ByteArray) (D : Option (List N)) (w : World) (hs : s.size ≤ 281474976710656) (h : DirO s D) : Calls Try.prog 16 #[.string s] w (Ans w (.bool (rightO D))) := by
  cases D with
  | some L =>
    have hR := Lib.hid (fun W => read_yes s L W hs h)
    clear h hs
    go_enter Try.func16, Try.ntmps16
    go_wp2_with (go_at_call 31; (with_reducible refine Calls.mono (hR.out _) ?_); rintro e w1 ⟨v, rfl, hO, hB⟩)
    go_ret
    exact ⟨rfl, hB⟩
  | none =>
    have hR := Lib.hid (fun W => read_no s W hs h)
    clear h hs
    go_enter Try.func16, Try.ntmps16
    go_wp2_with (go_at_call 31; (with_reducible refine Calls.mono (hR.out _) ?_); rintro e w1 ⟨rfl, hB⟩)
    go_ret
    exact ⟨rfl, hB⟩
/-- what found answers, if bytes are a directory's -/
def FoundPost (L : List N) (s : ByteArray) (w : World) (e : Ending) (w' : World) : Prop :=
  ∃ v, e = .returned (.tuple #[v, .int .i64 (idx L s : Nat), .int .i64 0]) ∧ w'.ownsRow w.heap.size 40 2 v L.length (cellsL L) ∧ Below w.heap.size w w'
theorem found_bad (s name : ByteArray) (D : Option (List N)) (w : World) (hs : s.size ≤ 281474976710656) (hn : name.size ≤ 281474976710656) (h : DirO s D) (hE : ¬ findEo D name = 0) :
    Calls Try.prog 35 #[.string s, .string name] w fun e w' => (∃ v, e = .returned (.tuple #[v, .int .i64 0, .int .i64 (findEo D name)])) ∧ Below w.heap.size w w' := by
  have hN := fun W => isName_any name W hn
  cases D with
  | none =>
    have hR := Lib.hid (fun W => read_no s W hs h)
    clear h hs hE hN hn
    go_enter Try.func35, Try.ntmps35
    go_wp2_with (go_at_call 31; (with_reducible refine Calls.mono (hR.out _) ?_); rintro e w1 ⟨rfl, hB⟩)
    go_returns
    exact ⟨⟨_, rfl⟩, hB⟩
  | some L =>
    have hR := Lib.hid (fun W => read_yes s L W hs h)
    by_cases h1 : nameP name
    · rw [nameB_yes h1] at hN
      have h2 : ¬ idx L name < L.length := fun h2 => hE (find_zero.2 ⟨h1, h2⟩)
      have HE : Hid (findEo (some L) name = 112) := by unfold Hid findEo findE; simp [h1, h2]
      have hP := Lib.hid (fun W v (h : Nms W v L) => place_any v L name W h)
      have hpv : placeV L name = -1 := if_neg h2
      rw [hpv] at hP
      rw [HE.out]
      clear h hs hE h1 h2 hpv hn
      go_enter Try.func35, Try.ntmps35
      go_wp2_with (first
        | (go_at_call 31; (with_reducible refine Calls.mono (hR.out _) ?_); rintro e w1 ⟨v, rfl, hO, hB⟩; have HO := Lib.hid hO; clear hO)
        | (go_at_call 14; (with_reducible refine Calls.mono (hN _) ?_); rintro e w2 ⟨rfl, rfl⟩)
        | (go_at_call 47; (with_reducible refine Calls.mono (hP.out _ _ (Nms.own HO.out)) ?_); rintro e w3 ⟨rfl, rfl⟩))
      go_returns
      exact ⟨⟨_, rfl⟩, hB⟩
    · rw [nameB_no h1] at hN
      have HE : Hid (findEo (some L) name = 111) := by unfold Hid findEo findE; simp [h1]
      rw [HE.out]
      clear h hs hE h1 hn
      go_enter Try.func35, Try.ntmps35
      go_wp2_with (first
        | (go_at_call 31; (with_reducible refine Calls.mono (hR.out _) ?_); rintro e w1 ⟨v, rfl, hO, hB⟩; have HO := Lib.hid hO; clear hO)
        | (go_at_call 14; (with_reducible refine Calls.mono (hN _) ?_); rintro e w2 ⟨rfl, rfl⟩))
      go_returns
      exact ⟨⟨_, rfl⟩, hB⟩
theorem found_good (s name : ByteArray) (L : List N) (w : World) (hs : s.size ≤ 281474976710656) (h : DirP s L) (h1 : nameP name) (h2 : idx L name < L.length) : Calls Try.prog 35 #[.string s, .string name] w (FoundPost L name w) := by
  have hN := fun W => isName_any name W (by have := h1.2.1; omega)
  have hR := Lib.hid (fun W => read_yes s L W hs h)
  rw [nameB_yes h1] at hN
  have hP := Lib.hid (fun W v (h : Nms W v L) => place_any v L name W h)
  have hpv : placeV L name = ((idx L name : Nat) : Int) := if_pos h2
  rw [hpv] at hP
  have HF : Hid (∀ v w1, w1.ownsRow w.heap.size 40 2 v L.length (cellsL L) → Below w.heap.size w w1 → FoundPost L name w (.returned (.tuple #[v, .int .i64 (idx L name : Nat), .int .i64 0])) w1) := fun v w1 a b => ⟨v, rfl, a, b⟩
  generalize idx L name = ii at hP HF
  have q5 : ¬ (ii : Int) < 0 := by omega
  clear h hs h1 h2 hpv
  go_enter Try.func35, Try.ntmps35
  go_wp2_with (first
    | (go_at_call 31; (with_reducible refine Calls.mono (hR.out _) ?_); rintro e w1 ⟨v, rfl, hO, hB⟩; have HO := Lib.hid hO; clear hO)
    | (go_at_call 14; (with_reducible refine Calls.mono (hN _) ?_); rintro e w2 ⟨rfl, rfl⟩)
    | (go_at_call 47; (with_reducible refine Calls.mono (hP.out _ _ (Nms.own HO.out)) ?_); rintro e w3 ⟨rfl, rfl⟩))
  go_returns
  exact HF.out _ _ HO.out hB
theorem find_any (s name : ByteArray) (D : Option (List N)) (w : World) (hs : s.size ≤ 281474976710656) (hn : name.size ≤ 281474976710656) (h : DirO s D) :
    Calls Try.prog 19 #[.string s, .string name] w (Ans w (.tuple #[.int .u32 (findVo D name), .int .i64 (findEo D name)])) := by
  by_cases hE : findEo D name = 0
  · cases D with
    | none => exact absurd hE (by show ¬ (110 : Int) = 0; decide)
    | some L =>
      obtain ⟨h1, h2⟩ := find_zero.1 hE
      have hF := Lib.hid (fun W => found_good s name L W hs h h1 h2)
      have HV : Hid (findVo (some L) name = (nm L (idx L name)).ino) := if_pos hE
      rw [hE, HV.out]
      unfold FoundPost at hF
      generalize idx L name = ii at hF h2 HV
      have hii : (ii : Int) < (L.length : Int) := by omega
      clear h hs hn hE h1
      go_enter Try.func19, Try.ntmps19
      go_wp2_with (go_at_call 35; (with_reducible refine Calls.mono (hF.out _) ?_); rintro e w1 ⟨v, rfl, hO, hB⟩; obtain ⟨b, off, cap, rfl, c0, c1⟩ := (Nms.own hO).at h2; clear hO)
      go_returns
      exact ⟨rfl, hB⟩
  · have hF := Lib.hid (fun W => found_bad s name D W hs hn h hE)
    have HV : Hid (findVo D name = 0) := by
      cases D with
      | none => rfl
      | some L => exact if_neg hE
    rw [HV.out]
    obtain ⟨E, hEE⟩ : ∃ E, findEo D name = E := ⟨_, rfl⟩
    rw [hEE] at hE hF ⊢
    have hne : (E != 0) = true := by simpa using hE
    clear h hs hn hE hEE
    go_enter Try.func19, Try.ntmps19
    go_wp2_with (go_at_call 35; (with_reducible refine Calls.mono (hF.out _) ?_); rintro e w1 ⟨⟨v, rfl⟩, hB⟩)
    go_returns
    exact ⟨rfl, hB⟩
end
end R
end Go.Proofs.Ytafbkagoajcmeaa.Dir
