/- Several texts in one, each under its own heading. -/
import Derived.Test.YtkipkcmcolomcaaGreatPk10
import Derived.Test.YtkipkcmcolomcaaGreatPk08
import Derived.Lib.Strings
import Derived.Lib.SliceRun
import Derived.Test.YtkipkcmcolomcaaGreatPk09
import Derived.RangeFuncBound
import Derived.RangeFuncCalls
import Derived.RangeFuncLeaves
import Derived.OwnWalkIn
import Derived.TacticsInMore
import Derived.LoopNIn
import Derived.LoopIn
/- The document's found, Find, Right, Add, Set. -/
namespace Go.Proofs.YtkipkcmcolomcaaGreat.Dir
open Go.RowKit
set_option linter.unusedVariables false
/-- a directory's names, or none -/
def DirO (s : ByteArray) : Option (List N) → Prop
  | some L => DirP s L
  | none => ¬ ∃ L, DirP s L
theorem DirO.ex (s : ByteArray) : ∃ D, DirO s D := by
  by_cases h : ∃ L, DirP s L
  · obtain ⟨L, hL⟩ := h
    exact ⟨some L, hL⟩
  · exact ⟨none, h⟩
def rightO : Option (List N) → Bool
  | some _ => true
  | none => false
def findEo (D : Option (List N)) (s : ByteArray) : Int := match D with | some L => findE L s | none => 110
def findVo (D : Option (List N)) (s : ByteArray) : Nat := match D with | some L => findV L s | none => 0
def addEo (D : Option (List N)) (s : ByteArray) (ino : Nat) : Int := match D with | some L => addE L s ino | none => 110
def addVo (D : Option (List N)) (s : ByteArray) (ino : Nat) : ByteArray := match D with | some L => addV L s ino | none => ⟨#[]⟩
def dropVo (D : Option (List N)) (s : ByteArray) : ByteArray := match D with | some L => dropV L s | none => ⟨#[]⟩
def setEo (D : Option (List N)) (s : ByteArray) (ino : Nat) : Int := match D with | some L => setE L s ino | none => 110
def setVo (D : Option (List N)) (s : ByteArray) (ino : Nat) : ByteArray := match D with | some L => setV L s ino | none => ⟨#[]⟩
theorem Nms.one {W : World} {b : Nat} {e : N} (h : W.heap[b]? = some (.cells #[.string e.name, .int .u32 e.ino] 52 (0, 0))) : Nms W (.slice (some ⟨b, 0, none⟩) 1 1) [e] := by
  have hc := At.c (W := W) (b := b) (e := e) h
  refine ⟨some ⟨b, 0, none⟩, 1, rfl, Nat.le_refl _, ⟨by unfold maxLen; omega, fun e => by cases e⟩, rfl, fun _ => ⟨b, 0, rfl, fun j u hj => ?_⟩⟩
  have hl := (List.getElem?_eq_some_iff.1 hj).1
  match j, hj with
  | 0, hj => cases hj; exact hc.1
  | 1, hj => cases hj; exact hc.2
  | j + 2, hj => exact absurd hl (by show ¬ j + 2 < 2; omega)
namespace R
attribute [local go_sem] Oper.semAt_some
section
set_option maxRecDepth 100000
set_option maxHeartbeats 8000000
theorem read_yes (s : ByteArray) (L : List N) (w : World) (hs : s.size ≤ 281474976710656) (h : DirP s L) : Calls Tryz.prog 100 #[.string s] w fun e w' => ∃ v, e = .returned (.tuple #[v, .bool true]) ∧ w'.ownsRow w.heap.size 52 2 v L.length (cellsL L) ∧ Below w.heap.size w w' :=
  (read_any s w hs).mono fun e w' hp => by
    rcases hp with ⟨M, v, h1, h2, h3, h4⟩ | ⟨h1, _⟩
    · obtain rfl := h.unique h1
      exact ⟨v, h2, h3, h4⟩
    · exact absurd ⟨L, h⟩ h1
theorem read_no (s : ByteArray) (w : World) (hs : s.size ≤ 281474976710656) (h : ¬ ∃ L, DirP s L) : Calls Tryz.prog 100 #[.string s] w fun e w' => e = .returned (.tuple #[.slice none 0 0, .bool false]) ∧ Below w.heap.size w w' :=
  (read_any s w hs).mono fun e w' hp => by
    rcases hp with ⟨M, v, h1, _⟩ | ⟨_, h2, h3⟩
    · exact absurd ⟨M, h1⟩ h
    · exact ⟨h2, h3⟩
theorem right_any (s : ByteArray) (D : Option (List N)) (w : World) (hs : s.size ≤ 281474976710656) (h : DirO s D) : Calls Tryz.prog 99 #[.string s] w (Ans w (.bool (rightO D))) := by
  cases D with
  | some L =>
    have hR := Lib.hid (fun W => read_yes s L W hs h)
    clear h hs
    go_enter Tryz.func99, Tryz.ntmps99
    go_wp2_with (go_at_call 100; (with_reducible refine Calls.mono (hR.out _) ?_); rintro e w1 ⟨v, rfl, hO, hB⟩)
    go_ret
    exact ⟨rfl, hB⟩
  | none =>
    have hR := Lib.hid (fun W => read_no s W hs h)
    clear h hs
    go_enter Tryz.func99, Tryz.ntmps99
    go_wp2_with (go_at_call 100; (with_reducible refine Calls.mono (hR.out _) ?_); rintro e w1 ⟨rfl, hB⟩)
    go_ret
    exact ⟨rfl, hB⟩
/-- what found answers, if bytes are a directory's -/
def FoundPost (L : List N) (s : ByteArray) (w : World) (e : Ending) (w' : World) : Prop :=
  ∃ v, e = .returned (.tuple #[v, .int .i64 (idx L s : Nat), .int .i64 0]) ∧ w'.ownsRow w.heap.size 52 2 v L.length (cellsL L) ∧ Below w.heap.size w w'
theorem found_bad (s name : ByteArray) (D : Option (List N)) (w : World) (hs : s.size ≤ 281474976710656) (hn : name.size ≤ 281474976710656) (h : DirO s D) (hE : ¬ findEo D name = 0) :
    Calls Tryz.prog 106 #[.string s, .string name] w fun e w' => (∃ v, e = .returned (.tuple #[v, .int .i64 0, .int .i64 (findEo D name)])) ∧ Below w.heap.size w w' := by
  have hN := fun W => isName_any name W hn
  cases D with
  | none =>
    have hR := Lib.hid (fun W => read_no s W hs h)
    clear h hs hE hN hn
    go_enter Tryz.func106, Tryz.ntmps106
    go_wp2_with (go_at_call 100; (with_reducible refine Calls.mono (hR.out _) ?_); rintro e w1 ⟨rfl, hB⟩)
    go_returns
    exact ⟨⟨_, rfl⟩, hB⟩
  | some L =>
    have hR := Lib.hid (fun W => read_yes s L W hs h)
    by_cases h1 : nameP name
    · rw [nameB_yes h1] at hN
      have h2 : ¬ idx L name < L.length := fun h2 => hE (find_zero.2 ⟨h1, h2⟩)
      have HE : Hid (findEo (some L) name = 112) := by unfold Hid findEo findE; simp [h1, h2]
      have hP := Lib.hid (fun W v (h : Nms W v L) => place_any v L name W h)
      have hpv : placeV L name = -1 := if_neg h2
      rw [hpv] at hP
      rw [HE.out]
      clear h hs hE h1 h2 hpv hn
      go_enter Tryz.func106, Tryz.ntmps106
      go_wp2_with (first
        | (go_at_call 100; (with_reducible refine Calls.mono (hR.out _) ?_); rintro e w1 ⟨v, rfl, hO, hB⟩; have HO := Lib.hid hO; clear hO)
        | (go_at_call 130; (with_reducible refine Calls.mono (hN _) ?_); rintro e w2 ⟨rfl, rfl⟩)
        | (go_at_call 131; (with_reducible refine Calls.mono (hP.out _ _ (Nms.own HO.out)) ?_); rintro e w3 ⟨rfl, rfl⟩))
      go_returns
      exact ⟨⟨_, rfl⟩, hB⟩
    · rw [nameB_no h1] at hN
      have HE : Hid (findEo (some L) name = 111) := by unfold Hid findEo findE; simp [h1]
      rw [HE.out]
      clear h hs hE h1 hn
      go_enter Tryz.func106, Tryz.ntmps106
      go_wp2_with (first
        | (go_at_call 100; (with_reducible refine Calls.mono (hR.out _) ?_); rintro e w1 ⟨v, rfl, hO, hB⟩; have HO := Lib.hid hO; clear hO)
        | (go_at_call 130; (with_reducible refine Calls.mono (hN _) ?_); rintro e w2 ⟨rfl, rfl⟩))
      go_returns
      exact ⟨⟨_, rfl⟩, hB⟩
theorem found_good (s name : ByteArray) (L : List N) (w : World) (hs : s.size ≤ 281474976710656) (h : DirP s L) (h1 : nameP name) (h2 : idx L name < L.length) : Calls Tryz.prog 106 #[.string s, .string name] w (FoundPost L name w) := by
  have hN := fun W => isName_any name W (by have := h1.2.1; omega)
  have hR := Lib.hid (fun W => read_yes s L W hs h)
  rw [nameB_yes h1] at hN
  have hP := Lib.hid (fun W v (h : Nms W v L) => place_any v L name W h)
  have hpv : placeV L name = ((idx L name : Nat) : Int) := if_pos h2
  rw [hpv] at hP
  have HF : Hid (∀ v w1, w1.ownsRow w.heap.size 52 2 v L.length (cellsL L) → Below w.heap.size w w1 → FoundPost L name w (.returned (.tuple #[v, .int .i64 (idx L name : Nat), .int .i64 0])) w1) := fun v w1 a b => ⟨v, rfl, a, b⟩
  generalize idx L name = ii at hP HF
  have q5 : ¬ (ii : Int) < 0 := by omega
  clear h hs h1 h2 hpv
  go_enter Tryz.func106, Tryz.ntmps106
  go_wp2_with (first
    | (go_at_call 100; (with_reducible refine Calls.mono (hR.out _) ?_); rintro e w1 ⟨v, rfl, hO, hB⟩; have HO := Lib.hid hO; clear hO)
    | (go_at_call 130; (with_reducible refine Calls.mono (hN _) ?_); rintro e w2 ⟨rfl, rfl⟩)
    | (go_at_call 131; (with_reducible refine Calls.mono (hP.out _ _ (Nms.own HO.out)) ?_); rintro e w3 ⟨rfl, rfl⟩))
  go_returns
  exact HF.out _ _ HO.out hB
theorem find_any (s name : ByteArray) (D : Option (List N)) (w : World) (hs : s.size ≤ 281474976710656) (hn : name.size ≤ 281474976710656) (h : DirO s D) :
    Calls Tryz.prog 133 #[.string s, .string name] w (Ans w (.tuple #[.int .u32 (findVo D name), .int .i64 (findEo D name)])) := by
  by_cases hE : findEo D name = 0
  · cases D with
    | none => exact absurd hE (by show ¬ (110 : Int) = 0; decide)
    | some L =>
      obtain ⟨h1, h2⟩ := find_zero.1 hE
      have hF := Lib.hid (fun W => found_good s name L W hs h h1 h2)
      have HV : Hid (findVo (some L) name = (nm L (idx L name)).ino) := if_pos hE
      rw [hE, HV.out]
      unfold FoundPost at hF
      generalize idx L name = ii at hF h2 HV
      have hii : (ii : Int) < (L.length : Int) := by omega
      clear h hs hn hE h1
      go_enter Tryz.func133, Tryz.ntmps133
      go_wp2_with (go_at_call 106; (with_reducible refine Calls.mono (hF.out _) ?_); rintro e w1 ⟨v, rfl, hO, hB⟩; obtain ⟨b, off, cap, rfl, c0, c1⟩ := (Nms.own hO).at h2; clear hO)
      go_returns
      exact ⟨rfl, hB⟩
  · have hF := Lib.hid (fun W => found_bad s name D W hs hn h hE)
    have HV : Hid (findVo D name = 0) := by
      cases D with
      | none => rfl
      | some L => exact if_neg hE
    rw [HV.out]
    obtain ⟨E, hEE⟩ : ∃ E, findEo D name = E := ⟨_, rfl⟩
    rw [hEE] at hE hF ⊢
    have hne : (E != 0) = true := by simpa using hE
    clear h hs hn hE hEE
    go_enter Tryz.func133, Tryz.ntmps133
    go_wp2_with (go_at_call 106; (with_reducible refine Calls.mono (hF.out _) ?_); rintro e w1 ⟨⟨v, rfl⟩, hB⟩)
    go_returns
    exact ⟨rfl, hB⟩
end
end R
end Go.Proofs.YtkipkcmcolomcaaGreat.Dir
/- How the program counts names: directory by directory from the root; when files are right by that count. They speak of no program. -/
namespace Go.Proofs.YtkipkcmcolomcaaGreat.Pln
open Go.RowKit
open Dir (N nm Fine DirP DirO)
set_option linter.unusedVariables false
set_option linter.unusedSimpArgs false
/-! ### lists without twins -/
theorem sum_filter {α : Type} (g : α → Nat) (p : α → Bool) : ∀ (L : List α), (∀ x ∈ L, p x = false → g x = 0) → ((L.filter p).map g).sum = (L.map g).sum
  | [], _ => rfl
  | a :: L, h => by
    have ih := sum_filter g p L (fun x hx => h x (List.mem_cons_of_mem _ hx))
    by_cases ha : p a = true
    · rw [List.filter_cons_of_pos ha, List.map_cons, List.map_cons, List.sum_cons, List.sum_cons, ih]
    · rw [List.filter_cons_of_neg ha, List.map_cons, List.sum_cons, ih, h a (List.mem_cons_self ..) (by simpa using ha)]
      omega
theorem le_sumL {α : Type} (f : α → Nat) : ∀ {L : List α} {x : α}, x ∈ L → f x ≤ (L.map f).sum
  | a :: L, x, h => by
    rw [List.map_cons, List.sum_cons]
    rcases List.mem_cons.1 h with rfl | h1
    · omega
    · have := le_sumL f h1; omega
theorem nodup_filter {α : Type} (p : α → Bool) {L : List α} (h : L.Nodup) : (L.filter p).Nodup := List.Pairwise.filter p h
theorem nodup_perm {L : List Nat} {n : Nat} (h : L.Nodup) (hb : ∀ i ∈ L, i < n) : L.Perm ((List.range n).filter fun i => decide (i ∈ L)) :=
  (List.perm_ext_iff_of_nodup h (nodup_filter _ List.nodup_range)).2 fun a => by
    rw [List.mem_filter, List.mem_range]
    exact ⟨fun ha => ⟨hb a ha, decide_eq_true ha⟩, fun ha => of_decide_eq_true ha.2⟩
theorem nodup_len {L : List Nat} {n : Nat} (h : L.Nodup) (hb : ∀ i ∈ L, i < n) : L.length ≤ n := by
  have h1 := (nodup_perm h hb).length_eq
  have h2 := List.length_filter_le (fun i => decide (i ∈ L)) (List.range n)
  rw [List.length_range] at h2
  omega
theorem map_range (D : List (List N)) (f : List N → Nat) : (D.map f).sum = ((List.range D.length).map fun d => f (ds D d)).sum := by
  congr 1
  apply List.ext_getElem (by simp)
  intro i h1 h2
  have hi : i < D.length := by simpa using h1
  rw [List.getElem_map, List.getElem_map, List.getElem_range]
  unfold ds
  rw [List.getD_eq_getElem?_getD, List.getElem?_eq_getElem hi]
  rfl
/-- the names of all directories that have some, directory by directory -/
theorem sum_dirs {D : List (List N)} {dn : List Nat} (h : dn.Nodup) (hb : ∀ d ∈ dn, d < D.length) (hall : ∀ d, ¬ ds D d = [] → d ∈ dn) (i : Nat) : (dn.map fun d => cntN (ds D d) i).sum = cnt D i := by
  unfold cnt
  rw [map_range, ← sum_filter (fun d => cntN (ds D d) i) (fun d => decide (d ∈ dn)) (List.range D.length) (fun x _ hx => ?_)]
  · exact ((nodup_perm h hb).map _).sum_nat
  · have h1 : ds D x = [] := Classical.byContradiction fun hn => of_decide_eq_false hx (hall x hn)
    show cntN (ds D x) i = 0
    rw [h1]
    rfl
/-! ### the names of what is a directory -/
noncomputable def lsD (s : ByteArray) : List N := open Classical in if h : ∃ L, DirP s L then h.choose else []
theorem lsD_is {s : ByteArray} {L : List N} (h : DirP s L) : lsD s = L := by
  have hx : ∃ L, DirP s L := ⟨L, h⟩
  unfold lsD
  rw [dif_pos hx]
  exact hx.choose_spec.unique h
noncomputable def dirsOf (l : List Nd) : List (List N) := l.map fun n => if n.kind = 2 then lsD n.data else []
theorem dirsOf_length (l : List Nd) : (dirsOf l).length = l.length := by unfold dirsOf; simp
theorem ds_dirsOf (l : List Nd) (i : Nat) : ds (dirsOf l) i = if (nd l i).kind = 2 then lsD (nd l i).data else [] := by
  by_cases hi : i < l.length
  · unfold ds dirsOf nd
    rw [List.getD_eq_getElem?_getD, List.getD_eq_getElem?_getD, List.getElem?_map, List.getElem?_eq_getElem hi]
    rfl
  · rw [ds_out (by rw [dirsOf_length]; omega), nd_out (by omega)]
    rfl
theorem dirsOf_right {l : List Nd} {D : List (List N)} (h : RightD l D) : dirsOf l = D := by
  refine ds_ext (by rw [dirsOf_length, h.len]) fun j => ?_
  rw [ds_dirsOf]
  by_cases hj : j < l.length
  · by_cases hk : (nd l j).kind = 2
    · rw [if_pos hk]; exact lsD_is (h.dir j hj hk)
    · rw [if_neg hk, h.non j hj hk]
  · rw [nd_out (by omega), ds_out (by rw [h.len]; omega)]
    rfl
theorem right_dirsOf {l : List Nd} (h : RightL l) : RightD l (dirsOf l) := by
  obtain ⟨D, hD⟩ := h
  rw [dirsOf_right hD]
  exact hD
/-! ### to count -/
/-- a name that may be -/
def okN (l : List Nd) (e : N) : Prop := 3 ≤ e.ino ∧ e.ino < l.length ∧ ¬ nd l e.ino = Nd.zero
instance (l : List Nd) (e : N) : Decidable (okN l e) := by unfold okN; infer_instance
/-- what has been counted: all names of the directories dn, and Q of the one that is gone through (cur: it alone, or none); ws are those to come -/
structure CntI (l : List Nd) (M : Nat → Nat) (dn cur ws : List Nat) (Q : List N) : Prop where
  nodup : (dn ++ cur ++ ws).Nodup
  mem : ∀ i, i ∈ dn ++ cur ++ ws ↔ i = 2 ∨ (1 ≤ M i ∧ (nd l i).kind = 2)
  reach : ∀ i, i = 2 ∨ 1 ≤ M i → Desc (dirsOf l) 2 i
  right : ∀ i ∈ dn ++ cur, ∃ L, DirP (nd l i).data L
  cnt : ∀ i, M i = (dn.map fun d => cntN (ds (dirsOf l) d) i).sum + cntN Q i
  names : ∀ d ∈ dn, ∀ e ∈ ds (dirsOf l) d, okN l e
  part : ∀ e ∈ Q, okN l e
variable {l : List Nd} {M : Nat → Nat} {dn cur ws : List Nat} {Q : List N}
theorem CntI.start (hk : (nd l 2).kind = 2) : CntI l (fun _ => 0) [] [] [2] [] where
  nodup := by decide
  mem := fun i => by
    show i ∈ [2] ↔ _
    rw [List.mem_singleton]
    exact ⟨.inl, fun h => h.resolve_right fun h2 => absurd h2.1 (by omega)⟩
  reach := fun i h => by
    rcases h with rfl | h
    · exact .refl
    · exact absurd h (by omega)
  right := fun i h => by cases h
  cnt := fun i => rfl
  names := fun d h => by cases h
  part := fun e h => by cases h
theorem CntI.kind (h : CntI l M dn cur ws Q) (hk : (nd l 2).kind = 2) {i : Nat} (hi : i ∈ dn ++ cur ++ ws) : (nd l i).kind = 2 := by
  rcases (h.mem i).1 hi with rfl | h2
  · exact hk
  · exact h2.2
theorem CntI.lt (h : CntI l M dn cur ws Q) (hk : (nd l 2).kind = 2) {i : Nat} (hi : i ∈ dn ++ cur ++ ws) : i < l.length := Classical.byContradiction fun hn => by
  have := h.kind hk hi
  rw [nd_out (by omega)] at this
  exact absurd this (by decide)
theorem CntI.few (h : CntI l M dn cur ws Q) (hk : (nd l 2).kind = 2) : dn.length + cur.length + ws.length ≤ l.length := by
  have := nodup_len h.nodup (fun i hi => h.lt hk hi)
  rw [List.length_append, List.length_append] at this
  omega
/-- the last one of those to come is gone through -/
theorem CntI.pop {d : Nat} (h : CntI l M dn [] (ws ++ [d]) []) (hd : ∃ L, DirP (nd l d).data L) : CntI l M dn [d] ws [] where
  nodup := by
    have := h.nodup
    rw [List.append_nil] at this
    refine this.perm ?_
    rw [List.append_assoc]
    exact List.Perm.append_left _ (List.perm_append_singleton d ws)
  mem := fun i => by
    rw [← h.mem i]
    simp only [List.mem_append, List.not_mem_nil, List.mem_singleton, or_false]
    exact ⟨fun h => by rcases h with (h | h) | h <;> simp [h], fun h => by rcases h with h | h | h <;> simp [h]⟩
  reach := h.reach
  right := fun i hi => by
    rcases List.mem_append.1 hi with h1 | h1
    · exact h.right i (List.mem_append_left _ h1)
    · rw [List.mem_singleton.1 h1]; exact hd
  cnt := h.cnt
  names := h.names
  part := h.part
theorem cntN_snoc (Q : List N) (e : N) (i : Nat) : cntN (Q ++ [e]) i = cntN Q i + if e.ino = i then 1 else 0 := by rw [cntN_app, cntN_one]
/-- one name more -/
theorem CntI.step {d : Nat} {e : N} (h : CntI l M dn [d] ws Q) (he : e ∈ ds (dirsOf l) d) (hok : okN l e) {M2 : Nat → Nat} (hM : ∀ i, M2 i = M i + if e.ino = i then 1 else 0) (ws2 : List Nat) (hw : ws2 = if M2 e.ino = 1 ∧ (nd l e.ino).kind = 2 then ws ++ [e.ino] else ws) :
    CntI l M2 dn [d] ws2 (Q ++ [e]) := by
  have hee : M2 e.ino = M e.ino + 1 := by rw [hM, if_pos rfl]
  have hmem : ∀ i, i ∈ dn ++ [d] ++ ws2 ↔ i = 2 ∨ (1 ≤ M2 i ∧ (nd l i).kind = 2) := fun i => by
    have h1 := h.mem i
    have h3 : e.ino = i → 3 ≤ i := fun hi => hi ▸ hok.1
    rw [hM]
    by_cases hc : M2 e.ino = 1 ∧ (nd l e.ino).kind = 2
    · rw [hw, if_pos hc, ← List.append_assoc, List.mem_append, List.mem_singleton, h1]
      by_cases hi : e.ino = i
      · subst hi
        rw [if_pos rfl]
        exact ⟨fun _ => .inr ⟨by omega, hc.2⟩, fun _ => .inr rfl⟩
      · rw [if_neg hi]
        exact ⟨fun hh => hh.resolve_right fun e2 => hi e2.symm, .inl⟩
    · rw [hw, if_neg hc, h1]
      by_cases hi : e.ino = i
      · subst hi
        rw [if_pos rfl]
        exact ⟨fun hh => hh.imp id fun h2 => ⟨by omega, h2.2⟩, fun hh => hh.imp id fun h2 => ⟨Classical.byContradiction fun h4 => hc ⟨by omega, h2.2⟩, h2.2⟩⟩
      · rw [if_neg hi]; exact Iff.rfl
  refine ⟨?_, hmem, fun i hi => ?_, h.right, fun i => ?_, h.names, fun x hx => ?_⟩
  · by_cases hc : M2 e.ino = 1 ∧ (nd l e.ino).kind = 2
    · rw [hw, if_pos hc, ← List.append_assoc]
      have hn : e.ino ∉ dn ++ [d] ++ ws := fun hin => by
        rcases (h.mem _).1 hin with h2 | h2
        · have := hok.1; omega
        · omega
      refine List.Nodup.perm (List.nodup_cons.2 ⟨hn, h.nodup⟩) (List.perm_append_singleton _ _).symm
    · rw [hw, if_neg hc]; exact h.nodup
  · by_cases h1 : e.ino = i
    · have hd2 : Desc (dirsOf l) 2 d := by
        have hdm : d ∈ dn ++ [d] ++ ws := by simp
        rcases (h.mem d).1 hdm with h2 | h2
        · exact h.reach d (.inl h2)
        · exact h.reach d (.inr h2.1)
      rw [← h1]
      exact .step hd2 he
    · rw [hM, if_neg h1] at hi
      exact h.reach i hi
  · rw [hM, h.cnt, cntN_snoc]
    omega
  · rcases List.mem_append.1 hx with h1 | h1
    · exact h.part x h1
    · rw [List.mem_singleton.1 h1]; exact hok
/-- all its names are counted -/
theorem CntI.close {d : Nat} (h : CntI l M dn [d] ws Q) (hp : Q.Perm (ds (dirsOf l) d)) : CntI l M (dn ++ [d]) [] ws [] where
  nodup := by rw [List.append_nil]; exact h.nodup
  mem := fun i => by rw [List.append_nil]; exact h.mem i
  reach := h.reach
  right := fun i hi => h.right i (by simpa using hi)
  cnt := fun i => by
    have h1 : cntN Q i = cntN (ds (dirsOf l) d) i := (hp.filter _).length_eq
    have h2 : cntN ([] : List N) i = 0 := rfl
    rw [h.cnt, h1, List.map_append, List.sum_append, h2]
    rfl
  names := fun x hx e he => by
    rcases List.mem_append.1 hx with h1 | h1
    · exact h.names x h1 e he
    · rw [List.mem_singleton.1 h1] at he
      exact h.part e (hp.mem_iff.2 he)
  part := fun e he => by cases he
/-! ### what is seen to be wrong -/
theorem wrong_dir (h : CntI l M dn cur ws Q) (hk : (nd l 2).kind = 2) {i : Nat} (hi : i ∈ dn ++ cur ++ ws) (hn : ¬ ∃ L, DirP (nd l i).data L) : ¬ RightL l := fun ⟨D, hD⟩ => hn ⟨_, hD.dir i (h.lt hk hi) (h.kind hk hi)⟩
theorem wrong_name {d : Nat} {e : N} (he : e ∈ ds (dirsOf l) d) (hn : ¬ okN l e) : ¬ RightL l := fun hR => by
  have hD := right_dirsOf hR
  exact hn (hD.named he)
/-! ### when all is counted -/
def nodeP (n : Nd) : Prop := n.mode ≤ 4095 ∧ n.time < 281474976710656 ∧ 1 ≤ n.links ∧ n.links ≤ 1000 ∧ ((n.kind = 1 ∧ n.data.size ≤ 200000) ∨ (n.kind = 2 ∧ n.links = 1) ∨ (n.kind = 3 ∧ 1 ≤ n.data.size ∧ n.data.size ≤ 500 ∧ bareP n.data))
instance (n : Nd) : Decidable (nodeP n) := by unfold nodeP; infer_instance
theorem nodeP_one {n : Nd} (h : nodeP n) : oneP n := .inr ⟨h.1, h.2.1, h.2.2.1, h.2.2.2.1, by
  rcases h.2.2.2.2 with h1 | h1 | h1
  · exact .inl h1
  · exact .inr (.inr h1.1)
  · exact .inr (.inl h1)⟩
theorem nodeP_nz {n : Nd} (h : nodeP n) : ¬ n = Nd.zero := fun e => by
  have h1 := h.2.2.1
  rw [e] at h1
  exact absurd h1 (by decide)
/-- the files by their parts, when all names are counted -/
def allP (l : List Nd) (M : Nat → Nat) : Prop := ∀ i, 3 ≤ i → i < l.length → nd l i = Nd.zero ∨ (nodeP (nd l i) ∧ M i = (nd l i).links)
theorem right_of (h3 : 3 ≤ l.length) (h240 : l.length ≤ 240) (z0 : nd l 0 = Nd.zero) (z1 : nd l 1 = Nd.zero) (hk : (nd l 2).kind = 2) (hr : nodeP (nd l 2)) (h : CntI l M dn [] [] []) (ha : allP l M) : RightD l (dirsOf l) := by
  have hin : ∀ i, i < l.length → (nd l i).kind = 2 → i ∈ dn := fun i hi hki => by
    have h1 : i ∈ dn ++ [] ++ [] := by
      refine (h.mem i).2 ?_
      by_cases h2 : i = 2
      · exact .inl h2
      · have hiz : ¬ nd l i = Nd.zero := zero_kind (by rw [hki]; decide)
        have hi3 : 3 ≤ i := Classical.byContradiction fun hn => by
          have : i = 0 ∨ i = 1 := by omega
          rcases this with rfl | rfl
          · exact hiz z0
          · exact hiz z1
        obtain ⟨h4, h5⟩ := (ha i hi3 hi).resolve_left hiz
        exact .inr ⟨by rw [h5]; exact h4.2.2.1, hki⟩
    simpa using h1
  have hM : ∀ i, M i = cnt (dirsOf l) i := fun i => by
    have h1 := h.nodup
    rw [List.append_nil, List.append_nil] at h1
    have h2 : cntN ([] : List N) i = 0 := rfl
    rw [h.cnt, h2, Nat.add_zero]
    refine sum_dirs h1 (fun d hd => ?_) (fun d hd => ?_) i
    · rw [dirsOf_length]; exact h.lt hk (by simpa using hd)
    · rw [ds_dirsOf] at hd
      by_cases hkd : (nd l d).kind = 2
      · exact hin d (Classical.byContradiction fun hn => by rw [nd_out (by omega)] at hkd; exact absurd hkd (by decide)) hkd
      · rw [if_neg hkd] at hd; exact absurd rfl hd
  have hnm : ∀ i e, e ∈ ds (dirsOf l) i → okN l e := fun i e he => by
    have hki : (nd l i).kind = 2 := Classical.byContradiction fun hn => by rw [ds_dirsOf, if_neg hn] at he; cases he
    have hi : i < l.length := Classical.byContradiction fun hn => by rw [nd_out (by omega)] at hki; exact absurd hki (by decide)
    exact h.names i (hin i hi hki) e he
  refine ⟨h3, h240, dirsOf_length l, z0, z1, ⟨hk, ?_⟩, fun i hi => ?_, fun i hi hki => ?_, fun i hi hki => by rw [ds_dirsOf, if_neg hki], fun i e he => ?_, fun i i3 hi hn => ?_⟩
  · rcases hr.2.2.2.2 with h1 | h1 | h1
    · rw [hk] at h1; exact absurd h1.1 (by decide)
    · exact h1.2
    · rw [hk] at h1; exact absurd h1.1 (by decide)
  · by_cases hiz : nd l i = Nd.zero
    · exact .inl hiz
    · by_cases h2 : i = 2
      · rw [h2]; exact nodeP_one hr
      · have hi3 : 3 ≤ i := Classical.byContradiction fun hn => by
          have : i = 0 ∨ i = 1 := by omega
          rcases this with rfl | rfl
          · exact hiz z0
          · exact hiz z1
        exact nodeP_one ((ha i hi3 hi).resolve_left hiz).1
  · obtain ⟨L, hL⟩ := h.right i (by simpa using hin i hi hki)
    rw [ds_dirsOf, if_pos hki, lsD_is hL]
    exact hL
  · obtain ⟨n1, n2, n3⟩ := hnm i e he
    exact ⟨n2, n3, by omega⟩
  · obtain ⟨h4, h5⟩ := (ha i i3 hi).resolve_left hn
    refine ⟨by rw [← hM, h5], fun hki => ?_, h.reach i (.inr (by rw [h5]; exact h4.2.2.1))⟩
    rw [← hM, h5]
    rcases h4.2.2.2.2 with h1 | h1 | h1
    · rw [hki] at h1; exact absurd h1.1 (by decide)
    · exact h1.2
    · rw [hki] at h1; exact absurd h1.1 (by decide)
theorem right_to (hR : RightL l) (h : CntI l M dn [] [] []) : allP l M := by
  have hD := right_dirsOf hR
  have hk := hD.root.1
  have hin : ∀ i, Desc (dirsOf l) 2 i → (nd l i).kind = 2 → i ∈ dn := fun i hi => by
    induction hi with
    | refl =>
      intro _
      have h1 := (h.mem 2).2 (.inl rfl)
      simpa using h1
    | step hx hex ih =>
      intro hke
      rename_i x e
      have hxd := ih (hD.at_dir hex).2
      have h2 : 1 ≤ M e.ino := by
        rw [h.cnt]
        have h3 : cntN (ds (dirsOf l) x) e.ino ≤ (dn.map fun d => cntN (ds (dirsOf l) d) e.ino).sum := le_sumL (fun d => cntN (ds (dirsOf l) d) e.ino) hxd
        have h4 : ¬ cntN (ds (dirsOf l) x) e.ino = 0 := fun h0 => cntN_none.1 h0 e hex rfl
        omega
      have h1 := (h.mem e.ino).2 (.inr ⟨h2, hke⟩)
      simpa using h1
  have hM : ∀ i, M i = cnt (dirsOf l) i := fun i => by
    have h1 := h.nodup
    rw [List.append_nil, List.append_nil] at h1
    have h2 : cntN ([] : List N) i = 0 := rfl
    rw [h.cnt, h2, Nat.add_zero]
    refine sum_dirs h1 (fun d hd => ?_) (fun d hd => ?_) i
    · rw [dirsOf_length]; exact h.lt hk (by simpa using hd)
    · have hkd : (nd l d).kind = 2 := Classical.byContradiction fun hn => by rw [ds_dirsOf, if_neg hn] at hd; exact absurd rfl hd
      exact hin d (hD.reach (zero_kind (by rw [hkd]; decide))) hkd
  intro i h3 hi
  by_cases hiz : nd l i = Nd.zero
  · exact .inl hiz
  · obtain ⟨e1, e2, e3⟩ := hD.each i h3 hi hiz
    obtain ⟨o1, o2, o3, o4, o5⟩ := fit_set (hD.one i hi) hiz
    refine .inr ⟨⟨o1, o2, o3, o4, ?_⟩, by rw [hM, e1]⟩
    rcases o5 with o | o | o
    · exact .inl o
    · exact .inr (.inr o)
    · exact .inr (.inl ⟨o, by rw [← e1]; exact e2 o⟩)
end Go.Proofs.YtkipkcmcolomcaaGreat.Pln
/- The program's small functions: isNone, isNode, isRoot, suits, follows, makes, Asks, piece. -/
namespace Go.Proofs.YtkipkcmcolomcaaGreat.Pln
open Go.RowKit
attribute [local go_sem] Oper.semAt_some
set_option linter.unusedVariables false
set_option linter.unusedSimpArgs false
section
set_option maxRecDepth 100000
set_option maxHeartbeats 2000000
theorem isNone_any (n : Nd) (w : World) : Calls Tryz.prog 37 #[n.val] w (Ans w (.bool (decide (n = Nd.zero)))) := by
  have hq := eqlN n Nd.zero
  have HN := Lib.hid (below_new w (boxO n))
  obtain ⟨d, hd⟩ : ∃ d, decide (n = Nd.zero) = d := ⟨_, rfl⟩
  rw [hd] at hq ⊢
  clear hd
  obtain ⟨k, m, l, t, s⟩ := n
  have hq : ∀ w, (binOp .eql 46 (.agg #[.int .i64 k, .int .u16 m, .int .u16 l, .int .u64 t, .string s]) (.agg #[.int .i64 0, .int .u16 0, .int .u16 0, .int .u64 0, .string ⟨#[]⟩])).run Tryz.prog w = .ok (.bool d) w := hq
  unfold boxO at HN
  dsimp only at HN
  show Calls Tryz.prog 37 #[.agg #[.int .i64 k, .int .u16 m, .int .u16 l, .int .u64 t, .string s]] w _
  go_enter Tryz.func37, Tryz.ntmps37
  go_wp2
  go_ret
  exact ⟨rfl, HN.out⟩
/-- the error of a call that asks for another kind of file -/
def suitsE (op kind : Int) : Int :=
  if op = 3 ∨ op = 5 ∨ op = 4 ∨ op = 6 ∨ op = 9 then (if kind = 2 then 141 else 0)
  else if op = 7 ∨ op = 13 then (if ¬ kind = 2 then 140 else 0)
  else if op = 11 then (if ¬ kind = 3 then 2 else 0) else 0
theorem suits_any (op kind : Int) (w : World) : Calls Tryz.prog 46 #[.int .i64 op, .int .i64 kind] w (fun e w' => e = .returned (.int .i64 (suitsE op kind)) ∧ w' = w) := by
  have HE : ∀ x, suitsE op kind = x → Hid (suitsE op kind = x) := fun x h => h
  by_cases h2 : kind = 2
  all_goals by_cases h3 : kind = 3
  all_goals try omega
  all_goals
    by_cases k3 : op = 3
    all_goals by_cases k5 : op = 5
    all_goals try omega
    all_goals by_cases k4 : op = 4
    all_goals try omega
    all_goals by_cases k6 : op = 6
    all_goals try omega
    all_goals by_cases k9 : op = 9
    all_goals try omega
    all_goals by_cases k7 : op = 7
    all_goals try omega
    all_goals by_cases k13 : op = 13
    all_goals try omega
    all_goals by_cases k11 : op = 11
    all_goals try omega
  all_goals
    obtain ⟨x, hx⟩ : ∃ x, suitsE op kind = x := ⟨_, rfl⟩
    have hv : x = suitsE op kind := hx.symm
    unfold suitsE at hv
    simp only [h2, h3, k3, k5, k4, k6, k9, k7, k13, k11, if_true, if_false, or_true, true_or, or_false, false_or, not_true, not_false_iff] at hv
    rw [hx]
    clear hx HE
    go_enter Tryz.func46, Tryz.ntmps46
    go_wp2
    go_ret
    exact ⟨by rw [hv]; rfl, rfl⟩
end
end Go.Proofs.YtkipkcmcolomcaaGreat.Pln
/- The iterator of the program's package plain hands out the places of new files, each with its number. -/
namespace Go.Proofs.YtkipkcmcolomcaaGreat.Pln
open Go.RowKit
attribute [local go_sem] Oper.semAt_some
set_option linter.unusedVariables false
set_option linter.unusedSimpArgs false
/-- the blocks bs lie as they lay -/
def Same (bs : List Nat) (W W' : World) : Prop := ∀ b, b ∈ bs → W'.heap[b]? = W.heap[b]?
theorem Same.refl (bs : List Nat) (W : World) : Same bs W W := fun _ _ => rfl
theorem Same.trans {bs : List Nat} {A B C : World} (h : Same bs A B) (k : Same bs B C) : Same bs A C := fun b hb => (k b hb).trans (h b hb)
theorem Same.below {bs : List Nat} {W W' : World} {n : Nat} (hb : Below n W W') (h : ∀ b, b ∈ bs → b < n) : Same bs W W' := fun b hh => hb.block b (h b hh)
theorem Same.cell {bs : List Nat} {W W' : World} (h : Same bs W W') {p : Addr} (hp : p.block ∈ bs) : W'.cell? p = W.cell? p := World.cell?_of_block (w := W) (h p.block hp)
theorem sameK_t {bs : List Nat} {A B C : World} (h : Same bs A B) (k : Same bs B C) : Same bs A C := h.trans k
theorem sameK_b {bs : List Nat} {w : World} (hn : ∀ b, b ∈ bs → b < w.heap.size) (W : World) (l : Nat) (o o' : Obj) (hl : w.heap.size ≤ l) (_ : W.heap[l]? = some o) (_ : o.isCells = false) (_ : o.isWalk = false) : Same bs W (W.putObj l o') :=
  fun b hb => World.putObj_heap_other (by have := hn b hb; omega)
theorem grown_of_below {W W' : World} (h : Below W.heap.size W W') : W.grownBy W' none := ⟨h.1, h.2, h.3, h.4, fun k hk _ => h.5 k hk⟩
theorem Nodes.same {W W' : World} {b Bx off n cap : Nat} {L : List Nd} (h : Nodes W (.slice (some ⟨b, off, none⟩) n cap) L) (hs : Same [b, Bx] W W') : Nodes W' (.slice (some ⟨b, off, none⟩) n cap) L :=
  h.keep fun g o k c e _ => by cases e; exact hs b (by simp)
def encN (L : List Nd) (k : Nat) : Array Value := #[.int .u32 ((3 + k : Nat) : Int), (nd L (3 + k)).val]
section
set_option maxRecDepth 100000
set_option maxHeartbeats 4000000
theorem nodes1_in (n : Nat) (hn : 1 ≤ n) (l Bx b off cap N : Nat) (L : List Nd) (hN : L.length = N) (hN3 : 3 ≤ N) (hN240 : N ≤ 240) (J Jx : Nat → World → Prop) (B0 : Nat) (hJ : AbidesFrom B0 J)
    (hY : ∀ k W, J k W → k < N - 3 → YieldAt Fence.wide (n - 1) Tryz.prog l (encN L k) W fun e W' => (e = .returned (.bool true) ∧ J (k + 1) W' ∧ Same [b, Bx] W W') ∨ (e = .returned (.bool false) ∧ Jx k W'))
    (W : World) (hbx : W.cell? ⟨Bx, 0, none⟩ = some (.slice (some ⟨b, off, none⟩) N cap)) (hL : Nodes W (.slice (some ⟨b, off, none⟩) N cap) L) (h0 : J 0 W) :
    CallsIn Fence.wide n Tryz.prog 75 #[.func (.yield l) #[] #[], .pointer (some ⟨Bx, 0, none⟩)] W fun e W' => (∃ v, e = .returned v) ∧ (J (N - 3) W' ∨ ∃ k, k < N - 3 ∧ Jx k W') := by
  have hfn : ∀ f, Fence.wide.fn f := fun _ => trivial
  have HY := Lib.hid hY
  have HL := Lib.hid (fun W' (h : Same [b, Bx] W W') k (hk : k < N) => (hL.same h).get hN hk)
  have HBX := Lib.hid (fun W' (h : Same [b, Bx] W W') => (h.cell (p := ⟨Bx, 0, none⟩) (by simp)).trans hbx)
  have hcap : N ≤ cap ∧ cap ≤ 9223372036854775807 := by
    obtain ⟨a1, cap1, e, h1, h2⟩ := hL.parts
    cases e
    omega
  obtain ⟨hcap1, hcap2⟩ := hcap
  have hwn : IntKind.u32.wrap (N : Int) = (N : Int) := by rw [IntKind.wrap_u32]; omega
  clear hY hJ hL hN hbx
  refine callsIn_of_wp Tryz.func75 rfl trivial ?_ rfl
  simp only [Tryz.ntmps75, List.size_toArray, List.length_cons, List.length_nil, Nat.reduceAdd, Nat.reduceSub, Array.replicate_succ, Array.replicate_zero, List.push_toArray, List.append_toArray, List.nil_append, List.cons_append]
  gi_wp2
  gi_loopw [3] (fun i wr => ∃ k j : Nat, j = 3 + k ∧ k ≤ N - 3 ∧ i = .int .u32 (j : Int) ∧ J k wr ∧ Same [b, Bx] W wr) (fun i _ => N - (intOf i).toNat)
  case atStart => exact ⟨0, 3, rfl, by omega, rfl, h0, Same.refl _ _⟩
  case round =>
    obtain ⟨k, j, hj, hk, rfl, hJk, hS⟩ := hrel
    have cbx := HBX.out _ hS
    by_cases hltk : k < N - 3
    · have hjN : j < N := by omega
      have hjw : IntKind.u32.wrap ((j : Int) + 1) = ((j + 1 : Nat) : Int) := by rw [IntKind.wrap_u32]; omega
      obtain ⟨c0, c1, c2, c3, c4⟩ := HL.out _ hS j hjN
      have hY1 := HY.out _ _ hJk hltk
      unfold encN at hY1
      rw [← hj] at hY1
      obtain ⟨s, hs⟩ : ∃ s, nd L j = s := ⟨_, rfl⟩
      rw [hs] at c0 c1 c2 c3 c4 hY1
      obtain ⟨zk, zm, zl, zt, zd⟩ := s
      unfold Nd.val at hY1
      dsimp only at c0 c1 c2 c3 c4 hY1
      have HS := Lib.hid hS
      obtain ⟨fn, tmps, assign, body, hy, hR⟩ := hY1
      have hlt2 : (j : Int) < (N : Int) := by omega
      have HJ := Lib.hid hj
      clear hs hJk hS hj
      gi_wp2
      refine hR.mono ?_
      rintro e W3 (⟨rfl, hJ3, hk3⟩ | ⟨rfl, hJx3⟩)
      · gi_wp2
        go_roundw
        case rel => exact ⟨k + 1, j + 1, by have := HJ.out; omega, by omega, by go_num, hJ3, HS.out.trans hk3⟩
        case measure => simp [intOf]; omega
      · gi_wp2
        refine bodyPost_ret (results_none rfl _ _ _) rfl ?_
        exact ⟨⟨_, rfl⟩, .inr ⟨k, hltk, hJx3⟩⟩
    · obtain rfl : k = N - 3 := by omega
      have hge : ¬ (j : Int) < (N : Int) := by omega
      gi_wp2
      go_end0
      exact ⟨⟨_, rfl⟩, .inl hJk⟩
theorem nodesOf_in (n : Nat) (v : Value) (L : List Nd) (w : World) (h : Nodes w v L) :
    CallsIn Fence.wide n Tryz.prog 40 #[v] w fun e w' => e = .returned (.func (.func 75) #[] #[.pointer (some ⟨w.heap.size, 0, none⟩)]) ∧ w.alloc (.cells #[v] 25) = w' := by
  obtain ⟨a, cap, rfl, _, _⟩ := h.parts
  refine callsIn_of_wp Tryz.func40 rfl trivial ?_ rfl
  simp only [Tryz.ntmps40, List.size_toArray, List.length_cons, List.length_nil, Nat.reduceAdd, Nat.reduceSub, Array.replicate_succ, Array.replicate_zero, List.push_toArray, List.append_toArray, List.nil_append, List.cons_append]
  gi_wp2
  go_ret
  exact ⟨rfl, rfl⟩
theorem nodes_steps (Bx b off cap N : Nat) (L : List Nd) (hN : L.length = N) (hN3 : 3 ≤ N) (hN240 : N ≤ 240) (w : World) (hbx : w.cell? ⟨Bx, 0, none⟩ = some (.slice (some ⟨b, off, none⟩) N cap)) (hB : Bx < w.heap.size) (hL : Nodes w (.slice (some ⟨b, off, none⟩) N cap) L) :
    SeqSteps Fence.wide 8 Tryz.prog 75 #[.pointer (some ⟨Bx, 0, none⟩)] (encN L) (Same [b, Bx]) (N - 3) w := by
  intro l J Jx W' hB' hJ _ hY h0
  exact nodes1_in 8 (by decide) l Bx b off cap N L hN hN3 hN240 J Jx _ hJ hY W' ((hB'.cell (p := ⟨Bx, 0, none⟩) hB).trans hbx) (hL.below hB') h0
end
end Go.Proofs.YtkipkcmcolomcaaGreat.Pln
