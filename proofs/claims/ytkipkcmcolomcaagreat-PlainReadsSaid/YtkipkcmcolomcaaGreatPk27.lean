/- Several texts in one, each under its own heading. -/
import Derived.Shelf.Spec.SlicesGrow
import Derived.Test.YtkipkcmcolomcaaGreatPk23
import Derived.Test.YtkipkcmcolomcaaGreatGrow
import Derived.Test.YtkipkcmcolomcaaGreatPk11
import Derived.Test.YtkipkcmcolomcaaGreatPk12
import Derived.Deep.RegionHeld3
import Derived.Deep.DeepCutAuto
import Derived.Deep.LoopGhost
import Derived.StillTailTactics
/- slices.Concat of two rows of texts. -/
namespace Go.Proofs.YtkipkcmcolomcaaGreat.Pln
open Go.RowKit
open Pth (Strs)
attribute [local go_sem] Oper.semAt_some
set_option linter.unusedVariables false
set_option linter.unusedSimpArgs false
section
set_option maxRecDepth 100000
set_option maxHeartbeats 4000000
theorem grow_any (n : Nat) (w : World) (hn : n ≤ 1000) : Calls Tryz.prog 143 #[.slice none 0 0, .int .i64 (n : Int)] w fun e w' => ∃ v, e = .returned v ∧ rowS w' w.heap.size v [] ∧ Below w.heap.size w w' := by
  by_cases h0 : n = 0
  · subst h0
    refine (Any8.slices_Grow_room Shf.Tryz.grow143 none 0 0 0 w (Nat.le_refl _) (by omega) (by omega) (by omega)).mono ?_
    rintro e w' ⟨rfl, rfl⟩
    exact ⟨_, rfl, rowS.nil _ _, Below.refl _ _⟩
  · obtain ⟨i0, hi, hz0, hz1, hz2⟩ := info_parts Pth.infoStr
    refine (Any8.slices_Grow_grow Shf.Tryz.grow143 i0 (.string ⟨#[]⟩) hi hz0 (by omega) none 0 0 n [] w (Nat.le_refl _) (by omega) (by rw [hz2]; omega) (by omega) (by simp) (fun _ => rfl) (fun a e => by cases e)).mono ?_
    rintro e w' ⟨rfl, rfl⟩
    refine ⟨_, rfl, ?_, ?_⟩
    · have hge := grownCap_ge w (0 + n) 0 9
      have hle := grownCap_le_maxLen w (0 + n) 0 9 (by unfold maxLen; omega)
      refine World.ownsRow_made (base := w.heap.size) (e := 9) (size := 1) w.drew _ _ (Nat.le_refl _) hle ?_
      simp only [Array.size_append, size_zeroCells, List.size_toArray, List.length_nil]
      show 0 + (0 + n - 0) * 1 + (grownCap w (0 + n) 0 9 - (0 + n)) * 1 = grownCap w (0 + n) 0 9 * 1
      omega
    · exact ((Below.refl _ w).drew).alloc (Nat.le_refl _) _
theorem concat_any (v1 v2 : Value) (X Y : List ByteArray) (b : Nat) (w : World) (h1 : Strs w v1 X) (h2 : Strs w v2 Y) (hb : w.heap[b]? = some (.cells #[v1, v2] 54 (0, 0))) (hn : X.length + Y.length ≤ 1000) :
    Calls Tryz.prog 115 #[.slice (some ⟨b, 0, none⟩) 2 2] w fun e w' => ∃ v, e = .returned v ∧ Strs w' v (X ++ Y) ∧ Below w.heap.size w w' ∧ (∀ r, v.ownBlock = some r → w.heap.size ≤ r) := by
  obtain ⟨a1, cap1, rfl, p1, q1⟩ := h1.parts
  obtain ⟨a2, cap2, rfl, p2, q2⟩ := h2.parts
  have HX := Lib.hid (fun W (h : Below w.heap.size w W) => h1.below h)
  have HY := Lib.hid (fun W (h : Below w.heap.size w W) => h2.below h)
  have hblt : b < w.heap.size := (Array.getElem?_eq_some_iff.1 hb).1
  have HC : Hid (∀ W, Below w.heap.size w W → W.cell? ⟨b, 0, none⟩ = some (.slice a1 X.length cap1) ∧ W.cell? ⟨b, 1, none⟩ = some (.slice a2 Y.length cap2)) := fun W h => by
    have h9 := (h.block b hblt).trans hb
    simp only [World.cell?, h9]
    exact ⟨rfl, rfl⟩
  obtain ⟨c0, c1⟩ := HC.out _ (Below.refl _ _)
  obtain ⟨nx, hnx⟩ : ∃ nx, X.length = nx := ⟨_, rfl⟩
  obtain ⟨ny, hny⟩ : ∃ ny, Y.length = ny := ⟨_, rfl⟩
  simp only [hnx, hny] at HC c0 c1 hn HX HY
  obtain ⟨ns, hns⟩ : ∃ ns, nx + ny = ns := ⟨_, rfl⟩
  have HG := Lib.hid (fun W => grow_any ns W (by omega))
  have g1 : IntKind.i64.wrap ((nx : Int) + (ny : Int)) = (ns : Int) := by rw [IntKind.wrap_i64] <;> omega
  have g0 : IntKind.i64.wrap (0 + (nx : Int)) = (nx : Int) := by rw [IntKind.wrap_i64] <;> omega
  have HNX := Lib.hid hnx
  have HNY := Lib.hid hny
  clear h1 h2 hb
  rw [hnx] at p1
  rw [hny] at p2
  clear hnx hny
  go_enter Tryz.func115, Tryz.ntmps115
  go_wp2
  refine wp_loop_rounds 3 ?_
  rw [rounds_succ]
  go_wp2
  rw [rounds_succ]
  go_wp2
  rw [rounds_succ]
  go_wp2_with (go_at_call 143; (with_reducible refine Calls.mono (HG.out _) ?_); rintro e w1 ⟨gv, rfl, hrow, hB1⟩; obtain ⟨ag, cg, rfl⟩ := hrow.parts; obtain ⟨d0, d1⟩ := HC.out _ hB1; have HR1 := Lib.hid hrow; have HB1 := Lib.hid hB1; clear hrow hB1)
  refine wp_loop_rounds 3 ?_
  rw [rounds_succ]
  go_wp2_with (at_builtin; refine Pth.wpList_append_strs rfl _ _ rfl rfl w.heap.size _ 0 [] rfl HR1.out _ X rfl (HX.out _ HB1.out) (by rw [HNX.out]; omega) HB1.out.size ?_; intro gv2 w2 o2 q2; obtain ⟨a4, n4, c4, rfl⟩ := own_slice o2; have hB2 : Below w.heap.size w w2 := HB1.out.grown q2 HB1.out.size (fun r e => (HR1.out.lt r e).1); have HB2 := Lib.hid hB2; have HR2 := Lib.hid o2; obtain ⟨e0, e1⟩ := HC.out _ hB2; clear o2 q2 hB2)
  rw [rounds_succ]
  go_wp2_with (at_builtin; refine Pth.wpList_append_strs rfl _ _ rfl rfl w.heap.size _ (0 + X.length) ([] ++ X.map Value.string) rfl HR2.out _ Y rfl (HY.out _ HB2.out) (by rw [HNX.out, HNY.out]; omega) HB2.out.size ?_; intro gv3 w3 o3 q3; obtain ⟨a5, n5, c5, rfl⟩ := own_slice o3; have hB3 : Below w.heap.size w w3 := HB2.out.grown q3 HB2.out.size (fun r e => (HR2.out.lt r e).1); have HB3 := Lib.hid hB3; have HR3 := Lib.hid o3; clear o3 q3 hB3)
  rw [rounds_succ]
  have HEND : Hid (Strs w3 (.slice a5 n5 c5) (X ++ Y)) := by
    have h9 := HR3.out
    rw [Nat.zero_add, List.nil_append, ← List.map_append, ← List.length_append] at h9
    exact Pth.Strs.own h9
  have HNB := Lib.hid (fun r e => (HR3.out.lt r e).1)
  go_wp2
  go_returns
  exact ⟨_, rfl, HEND.out, HB3.out, HNB.out⟩
end
end Go.Proofs.YtkipkcmcolomcaaGreat.Pln
/- turn: the parts that are gone along behind a link. -/
namespace Go.Proofs.YtkipkcmcolomcaaGreat.Pln
open Go.RowKit
open Pth (Strs SplitPost splitD splitE splitV underS)
attribute [local go_sem] Oper.semAt_some
set_option linter.unusedVariables false
set_option linter.unusedSimpArgs false
theorem under_is (g : List ByteArray) (t : ByteArray) : splitD (underS g t) = underD g t := by
  unfold underS underD
  by_cases h0 : t = ⟨#[]⟩
  · rw [if_pos h0, if_pos h0]; exact Pth.split_empty
  · rw [if_neg h0, if_neg h0]
    by_cases h1 : sb t 0 = 47
    · rw [if_pos h1, if_pos h1]
    · rw [if_neg h1, if_neg h1]
      by_cases h2 : Pth.fitJ g
      · rw [if_pos h2, if_pos h2]
      · rw [if_neg h2, if_neg h2]; exact Pth.split_empty
/-- the parts behind a link, or the error -/
def turnO (g : List ByteArray) (t : ByteArray) (rest : List ByteArray) (hops : Nat) : Except Int (List ByteArray) :=
  if 8 < hops then .error 143 else match underD g t with
    | none => .error 120
    | some u => if 40 < u.length + rest.length then .error 120 else .ok (u ++ rest)
def TurnPost (o : Except Int (List ByteArray)) (w : World) (e : Ending) (w' : World) : Prop := match o with
  | .error n => e = .returned (.tuple #[.slice none 0 0, .int .i64 n]) ∧ Below w.heap.size w w'
  | .ok L => ∃ a cap, e = .returned (.tuple #[.slice a L.length cap, .int .i64 0]) ∧ Strs w' (.slice a L.length cap) L ∧ Below w.heap.size w w' ∧ (∀ r, (Value.slice a L.length cap).ownBlock = some r → w.heap.size ≤ r)
section
set_option maxRecDepth 100000
set_option maxHeartbeats 4000000
theorem turn_any (p : Pl) (gv : Value) (g : List ByteArray) (t : ByteArray) (rv : Value) (rest : List ByteArray) (hops : Nat) (w : World) (hg : Strs w gv g) (hr : Strs w rv rest) (ht : t.size ≤ 140737488351232) (hh : hops ≤ 1000) (hrl : rest.length ≤ 100) :
    Calls Tryz.prog 80 #[spV p gv, .string t, rv, .int .i64 (hops : Int)] w (TurnPost (turnO g t rest hops) w) := by
  obtain ⟨ag, capg, rfl, g1, g2⟩ := hg.parts
  obtain ⟨ar, capr, rfl, r1, r2⟩ := hr.parts
  obtain ⟨pd, pn, pi⟩ := p
  have HB0 := Lib.hid (below_new w (spO ⟨pd, pn, pi⟩ (.slice ag g.length capg)))
  unfold spO at HB0
  unfold spV
  dsimp only at HB0 ⊢
  by_cases h8 : 8 < hops
  · have hT : turnO g t rest hops = .error 143 := if_pos h8
    rw [hT]
    have g8 : ((hops : Int) > 8) := by omega
    clear hg hr
    show Calls _ _ _ w (fun e w' => e = .returned (.tuple #[.slice none 0 0, .int .i64 143]) ∧ Below w.heap.size w w')
    go_enter Tryz.func80, Tryz.ntmps80
    go_wp2
    go_returns
    exact ⟨rfl, HB0.out⟩
  · have g8 : ¬ ((hops : Int) > 8) := by omega
    have HU := Lib.hid (fun W (h : Below w.heap.size w W) => Pth.under_any _ g t W (hg.below h) ht)
    have HRB := Lib.hid (fun W (h : Below w.heap.size w W) => hr.below h)
    unfold SplitPost at HU
    cases hu : underD g t with
    | none =>
      have hT : turnO g t rest hops = .error 120 := by unfold turnO; rw [if_neg h8, hu]
      rw [hT]
      have e1 : splitE (underS g t) = 120 := by unfold splitE; rw [under_is, hu]
      have e2 : splitV (underS g t) = [] := by unfold splitV; rw [under_is, hu]; rfl
      rw [e1, e2] at HU
      clear hg hr hT e1 e2
      show Calls _ _ _ w (fun e w' => e = .returned (.tuple #[.slice none 0 0, .int .i64 120]) ∧ Below w.heap.size w w')
      go_enter Tryz.func80, Tryz.ntmps80
      go_wp2_with (go_at_call 114; (with_reducible refine Calls.mono (HU.out _ HB0.out) ?_); rintro e w1 ⟨uv, rfl, hu, hB1⟩; obtain ⟨au, capu, rfl, _, _⟩ := hu.parts; have HB2 := Lib.hid (below_th HB0.out hB1))
      go_returns
      exact ⟨rfl, HB2.out⟩
    | some u =>
      have e1 : splitE (underS g t) = 0 := by unfold splitE; rw [under_is, hu]
      have e2 : splitV (underS g t) = u := by unfold splitV; rw [under_is, hu]; rfl
      have hul : u.length ≤ 1001 := by
        have h1 := Pth.split_some (show splitD (underS g t) = some u by rw [under_is, hu])
        have h2 := h1.2.2
        omega
      rw [e1, e2] at HU
      by_cases h40 : 40 < u.length + rest.length
      · have hT : turnO g t rest hops = .error 120 := by unfold turnO; rw [if_neg h8, hu]; exact if_pos h40
        rw [hT]
        clear hg hr hT e1 e2 hu
        show Calls _ _ _ w (fun e w' => e = .returned (.tuple #[.slice none 0 0, .int .i64 120]) ∧ Below w.heap.size w w')
        obtain ⟨nu, hnu⟩ : ∃ nu, u.length = nu := ⟨_, rfl⟩
        obtain ⟨nr, hnr⟩ : ∃ nr, rest.length = nr := ⟨_, rfl⟩
        rw [hnu, hnr] at h40
        rw [hnu] at hul
        rw [hnr] at hrl r1 ⊢
        have HNU := Lib.hid hnu
        clear hnu hnr HRB
        have gw : IntKind.i64.wrap ((nu : Int) + (nr : Int)) = (nu : Int) + (nr : Int) := by rw [IntKind.wrap_i64] <;> omega
        have g40 : ((nu : Int) + (nr : Int) > 40) := by omega
        go_enter Tryz.func80, Tryz.ntmps80
        go_wp2_with (go_at_call 114; (with_reducible refine Calls.mono (HU.out _ HB0.out) ?_); rintro e w1 ⟨uv, rfl, hu, hB1⟩; obtain ⟨au, capu, rfl, _, _⟩ := hu.parts; rw [HNU.out]; have HB2 := Lib.hid (below_th HB0.out hB1))
        go_returns
        exact ⟨rfl, HB2.out⟩
      · have hT : turnO g t rest hops = .ok (u ++ rest) := by unfold turnO; rw [if_neg h8, hu]; exact if_neg h40
        rw [hT]
        clear hg hr hT e1 e2 hu
        show Calls _ _ _ w (fun e w' => ∃ a cap, e = .returned (.tuple #[.slice a (u ++ rest).length cap, .int .i64 0]) ∧ Strs w' (.slice a (u ++ rest).length cap) (u ++ rest) ∧ Below w.heap.size w w' ∧ (∀ r, (Value.slice a (u ++ rest).length cap).ownBlock = some r → w.heap.size ≤ r))
        have HCC : Hid (∀ W au capu, Strs W (.slice au u.length capu) u → Strs W (.slice ar rest.length capr) rest → Calls Tryz.prog 115 #[.slice (some ⟨W.heap.size, 0, none⟩) 2 2] (W.alloc (.cells #[.slice au u.length capu, .slice ar rest.length capr] 54)) fun e w' => ∃ v, e = .returned v ∧ Strs w' v (u ++ rest) ∧ Below (W.alloc (.cells #[.slice au u.length capu, .slice ar rest.length capr] 54)).heap.size (W.alloc (.cells #[.slice au u.length capu, .slice ar rest.length capr] 54)) w' ∧ (∀ r, v.ownBlock = some r → (W.alloc (.cells #[.slice au u.length capu, .slice ar rest.length capr] 54)).heap.size ≤ r)) := fun W au capu s1 s2 => concat_any _ _ u rest _ _ (s1.below (below_new _ _)) (s2.below (below_new _ _)) (World.alloc_heap_new W _) (by omega)
        obtain ⟨nu, hnu⟩ : ∃ nu, u.length = nu := ⟨_, rfl⟩
        obtain ⟨nr, hnr⟩ : ∃ nr, rest.length = nr := ⟨_, rfl⟩
        rw [hnu, hnr] at h40
        rw [hnu] at hul
        rw [hnr] at hrl r1
        simp only [hnu, hnr] at HCC HRB
        rw [hnr]
        have HNU := Lib.hid hnu
        clear hnu hnr
        have gw : IntKind.i64.wrap ((nu : Int) + (nr : Int)) = (nu : Int) + (nr : Int) := by rw [IntKind.wrap_i64] <;> omega
        have g40 : ¬ ((nu : Int) + (nr : Int) > 40) := by omega
        go_enter Tryz.func80, Tryz.ntmps80
        go_wp2_with (first
          | (go_at_call 114; (with_reducible refine Calls.mono (HU.out _ HB0.out) ?_); rintro e w1 ⟨uv, rfl, hu, hB1⟩; obtain ⟨au, capu, rfl, _, _⟩ := hu.parts; rw [HNU.out] at hu ⊢; have HB2 := Lib.hid (below_th HB0.out hB1); have HCW := Lib.hid (HCC.out _ _ _ hu (HRB.out _ HB2.out)); clear hu hB1)
          | (go_at_call 115; (with_reducible refine Calls.mono HCW.out ?_); rintro e w3 ⟨cv, rfl, hcv, hB3, hN3⟩; obtain ⟨ac, capc, rfl, _, _⟩ := hcv.parts; have HEND := Lib.hid (And.intro hcv (And.intro (below_th (below_al HB2.out _) hB3) (fun r e => Nat.le_trans (below_al HB2.out _).size (hN3 r e)))); clear hcv hB3 hN3))
        go_returns
        refine ⟨ac, capc, ?_, HEND.out.1, HEND.out.2.1, ?_⟩
        · rw [List.length_append]
          rfl
        · exact HEND.out.2.2
end
end Go.Proofs.YtkipkcmcolomcaaGreat.Pln
/- Ways as the program goes them: the parts gone, and where they lead. They speak of no program. -/
namespace Go.Proofs.YtkipkcmcolomcaaGreat.Pln
open Dir (N nm nm_mem mem_nm Fine findV findE find_zero idx)
open Pth (splitD)
set_option linter.unusedVariables false
set_option linter.unusedSimpArgs false
/-- names from the root on, none of a place of none -/
inductive Chain (D : List (List N)) : List ByteArray → Nat → Prop where
  | root : Chain D [] 2
  | step {g : List ByteArray} {x : Nat} {s : ByteArray} : Chain D g x → ¬ findV (ds D x) s = 0 → Chain D (g ++ [s]) (findV (ds D x) s)
/-- the parts gone to what is found -/
def Gone (D : List (List N)) (g : List ByteArray) (p : Pl) : Prop := (p = rootPl ∧ g = []) ∨ ∃ g', g = g' ++ [p.name] ∧ Chain D g' p.dir ∧ p.ino = findV (ds D p.dir) p.name
theorem Gone.chain {D : List (List N)} {g : List ByteArray} {p : Pl} (h : Gone D g p) (h0 : ¬ p.ino = 0) : Chain D g p.ino := by
  rcases h with ⟨rfl, rfl⟩ | ⟨g', rfl, h1, h2⟩
  · exact .root
  · rw [h2] at h0 ⊢; exact .step h1 h0
theorem Gone.next {D : List (List N)} {g : List ByteArray} {p : Pl} (h : Gone D g p) (h0 : ¬ p.ino = 0) (s : ByteArray) : Gone D (g ++ [s]) ⟨p.ino, s, findV (ds D p.ino) s⟩ := .inr ⟨g, rfl, h.chain h0, rfl⟩
/-- what is still to go, with so many links left -/
def contK (l : List Nd) (D : List (List N)) (f : Bool) (h : Nat) (g X : List ByteArray) (p : Pl) : Except Int Pl := match runTo l D f g X p with
  | .fail e => .error e
  | .at_ q => .ok q
  | .link gone n rest => match h with
    | 0 => .error 143
    | h + 1 => match underD gone (nd l n).data with
      | none => .error 120
      | some u => if 40 < u.length + rest.length then .error 120 else goK l D f h (u ++ rest)
theorem goK_cont (l : List Nd) (D : List (List N)) (f : Bool) (h : Nat) (X : List ByteArray) : goK l D f h X = contK l D f h [] X rootPl := by
  unfold contK
  cases h with
  | zero => rw [goK]; cases runTo l D f [] X rootPl <;> rfl
  | succ h => rw [goK]; cases runTo l D f [] X rootPl <;> rfl
variable {l : List Nd} {D : List (List N)} {f : Bool} {h : Nat} {g X : List ByteArray} {p : Pl} {s : ByteArray}
theorem cont_end : contK l D f h g [] p = .ok p := rfl
theorem cont_nodir (h0 : ¬ p.ino = 0) (hk : ¬ (nd l p.ino).kind = 2) : contK l D f h g (s :: X) p = .error 140 := by
  unfold contK runTo
  rw [if_neg h0, if_pos hk]
theorem cont_on (h0 : ¬ p.ino = 0) (hk : (nd l p.ino).kind = 2) (hc : findV (ds D p.ino) s = 0 ∨ ¬ (nd l (findV (ds D p.ino) s)).kind = 3 ∨ (X = [] ∧ f = false)) :
    contK l D f h g (s :: X) p = contK l D f h (g ++ [s]) X ⟨p.ino, s, findV (ds D p.ino) s⟩ := by
  unfold contK
  conv => lhs; rw [runTo]
  rw [if_neg h0, if_neg (fun e => e hk), if_pos hc]
theorem cont_none (hX : ¬ X = []) : contK l D f h g X ⟨p.ino, s, 0⟩ = .error 112 := by
  cases X with
  | nil => exact absurd rfl hX
  | cons a r => unfold contK runTo; rfl
/-- behind a link -/
def linkO (l : List Nd) (D : List (List N)) (f : Bool) (h : Nat) (o : Except Int (List ByteArray)) : Except Int Pl := match o with
  | .error e => .error e
  | .ok L => goK l D f h L
theorem cont_link (h0 : ¬ p.ino = 0) (hk : (nd l p.ino).kind = 2) (hc : ¬ (findV (ds D p.ino) s = 0 ∨ ¬ (nd l (findV (ds D p.ino) s)).kind = 3 ∨ (X = [] ∧ f = false))) {hops : Nat} (hh : hops ≤ 8) :
    contK l D f (8 - hops) g (s :: X) p = (if 8 < hops + 1 then .error 143 else match underD g (nd l (findV (ds D p.ino) s)).data with
      | none => .error 120
      | some u => if 40 < u.length + X.length then .error 120 else contK l D f (8 - (hops + 1)) [] (u ++ X) rootPl) := by
  unfold contK
  conv => lhs; rw [runTo]
  rw [if_neg h0, if_neg (fun e => e hk), if_neg hc]
  simp only
  by_cases h8 : hops = 8
  · rw [h8, if_pos (by decide)]
    rfl
  · rw [if_neg (by omega), show 8 - hops = (8 - (hops + 1)) + 1 by omega]
    simp only
    cases underD g (nd l (findV (ds D p.ino) s)).data with
    | none => rfl
    | some u =>
      simp only
      by_cases h4 : 40 < u.length + X.length
      · rw [if_pos h4, if_pos h4]
      · rw [if_neg h4, if_neg h4, goK_cont]
        rfl
theorem go_start {s : ByteArray} (f : Bool) : goD l D s f = match splitD s with | none => .error 120 | some X => contK l D f 8 [] X rootPl := by
  unfold goD
  cases splitD s with
  | none => rfl
  | some X => exact goK_cont l D f 8 X
theorem cntN_two : ∀ {L : List N} {i j x : Nat}, i < L.length → j < L.length → ¬ i = j → (nm L i).ino = x → (nm L j).ino = x → 2 ≤ cntN L x := by
  intro L i j x hi hj hij h1 h2
  have a1 := cntN_erase hi x
  rw [if_pos h1] at a1
  have hm : nm L j ∈ L.eraseIdx i := by
    have hl := Dir.erase_length hi
    by_cases h3 : j < i
    · have := nm_mem (L := L.eraseIdx i) (i := j) (by omega)
      rw [Dir.nm_erase, if_pos h3] at this
      exact this
    · have := nm_mem (L := L.eraseIdx i) (i := j - 1) (by omega)
      rw [Dir.nm_erase, if_neg (by omega), show j - 1 + 1 = j by omega] at this
      exact this
  have a2 : ¬ cntN (L.eraseIdx i) x = 0 := fun e => cntN_none.1 e _ hm h2
  omega
/-- names that lead to a directory are those of one way -/
theorem chain_unique (hR : RightD l D) : ∀ {g : List ByteArray} {x : Nat}, Chain D g x → (nd l x).kind = 2 → ∀ {g2 : List ByteArray}, Chain D g2 x → g = g2 := by
  intro g x hc
  induction hc with
  | root =>
    intro _ g2 h2
    generalize hy : 2 = y at h2
    cases h2 with
    | root => rfl
    | step h3 h4 =>
      obtain ⟨h5, h6, _⟩ := findV_mem rfl h4
      have := (hR.named (nm_mem h5)).1
      rw [h6] at this
      omega
  | step hc h0 ih =>
    rename_i g x s
    intro hk g2 h2
    generalize hy : findV (ds D x) s = y at h2
    cases h2 with
    | root =>
      obtain ⟨h5, h6, _⟩ := findV_mem rfl h0
      have := (hR.named (nm_mem h5)).1
      rw [h6, hy] at this
      omega
    | step h3 h4 =>
      rename_i g3 x3 s3
      obtain ⟨a1, a2, a3⟩ := findV_mem rfl h0
      obtain ⟨b1, b2, b3⟩ := findV_mem rfl h4
      have hn := hR.named (nm_mem a1)
      rw [a2] at hn
      have h1 := (hR.each _ hn.1 hn.2.1 hn.2.2).2.1 hk
      have hxx : x = x3 := cnt_one h1 (nm_mem a1) a2 (nm_mem b1) (by rw [b2, ← hy])
      subst hxx
      have hkx := (hR.at_dir (nm_mem a1)).2
      have hss : s = s3 := by
        refine Classical.byContradiction fun hne => ?_
        -- two names of one number in one directory
        have hi : ¬ idx (ds D x) s = idx (ds D x) s3 := fun e => hne (by
          have e1 := Dir.idx_is a1
          have e2 := Dir.idx_is b1
          rw [← e] at e2
          exact e1.symm.trans e2)
        have h2 : 2 ≤ cntN (ds D x) (findV (ds D x) s) := cntN_two a1 b1 hi a2 (by rw [b2, ← hy])
        have := cnt_le (D := D) (j := x) (i := findV (ds D x) s)
        omega
      rw [ih hkx h3, hss]
theorem chain_fun {g : List ByteArray} {x : Nat} (h : Chain D g x) : ∀ {y : Nat}, Chain D g y → x = y := by
  induction h with
  | root =>
    intro y h2
    generalize hg : ([] : List ByteArray) = g at h2
    cases h2 with
    | root => rfl
    | step h3 h4 => simp at hg
  | step hc h0 ih =>
    rename_i g x s
    intro y h2
    generalize hg : g ++ [s] = g2 at h2
    cases h2 with
    | root => simp at hg
    | step h3 h4 =>
      rename_i g3 x3 s3
      obtain ⟨e1, e2⟩ := List.append_inj' hg rfl
      obtain rfl : s = s3 := by simpa using e2
      subst e1
      rw [ih h3]
theorem chain_more {g : List ByteArray} {x : Nat} (h : Chain D g x) : ∀ (n : Nat) (r : List ByteArray) {y : Nat}, r.length = n → Chain D (g ++ r) y → Desc D x y := by
  intro n
  induction n with
  | zero =>
    intro r y hr h2
    rw [List.eq_nil_of_length_eq_zero hr, List.append_nil] at h2
    rw [chain_fun h h2]
    exact .refl
  | succ n ih =>
    intro r y hr h2
    rcases (List.eq_nil_or_concat r) with e | ⟨r', s, e⟩
    · rw [e] at hr; simp at hr
    · rw [List.concat_eq_append] at e
      rw [e] at hr h2
      rw [← List.append_assoc] at h2
      generalize hg : g ++ r' ++ [s] = g2 at h2
      cases h2 with
      | root => simp at hg
      | step h3 h4 =>
        rename_i g3 x3 s3
        obtain ⟨e1, e2⟩ := List.append_inj' hg rfl
        obtain rfl : s = s3 := by simpa using e2
        subst e1
        obtain ⟨a1, a2, a3⟩ := findV_mem rfl h4
        have := Desc.step (ih r' (by simpa using hr) h3) (nm_mem a1)
        rw [a2] at this
        exact this
theorem chain_desc (hR : RightD l D) {g : List ByteArray} {x y : Nat} (h : Chain D g x) (hd : Desc D x y) : ∃ r, Chain D (g ++ r) y := by
  induction hd with
  | refl => exact ⟨[], by rw [List.append_nil]; exact h⟩
  | step hi he ih =>
    rename_i i e
    obtain ⟨r, hr⟩ := ih
    obtain ⟨k, hk, hn⟩ := mem_nm he
    have hv : findV (ds D i) e.name = e.ino := by
      have hf := hR.fine i
      rw [findV_of (hf.mem e he).1, Dir.idx_eq hf hk (by rw [hn]), if_pos hk, hn]
    have h0 : ¬ findV (ds D i) e.name = 0 := by rw [hv]; exact (hR.fine i |>.mem e he).2.1
    have := Chain.step hr h0
    rw [hv, List.append_assoc] at this
    exact ⟨_, this⟩
/-- what lies within a directory, by the parts -/
theorem within_is (hR : RightD l D) {g g2 : List ByteArray} {p q : Pl} (hp : Gone D g p) (hq : Gone D g2 q) (h0 : ¬ p.ino = 0) (hq2 : ¬ q = rootPl) (hqd : (nd l q.dir).kind = 2) (hne : ¬ p.ino = q.ino) :
    Pth.withinB g g2 = true ↔ Desc D p.ino q.dir := by
  have hc := hp.chain h0
  rcases hq with ⟨e, _⟩ | ⟨g', rfl, h1, h2⟩
  · exact absurd e hq2
  unfold Pth.withinB
  rw [decide_eq_true_iff]
  constructor
  · intro ht
    have hs : g' ++ [q.name] = g ++ (g' ++ [q.name]).drop g.length := by
      conv => lhs; rw [← List.take_append_drop g.length (g' ++ [q.name]), ht]
    rcases (List.eq_nil_or_concat ((g' ++ [q.name]).drop g.length)) with e | ⟨r', s, e⟩
    · rw [e, List.append_nil] at hs
      rw [← hs] at hc
      generalize hg : g' ++ [q.name] = g2 at hc
      generalize hx : p.ino = x at hc
      cases hc with
      | root => simp at hg
      | step h3 h4 =>
        rename_i g3 x3 s3
        obtain ⟨e1, e2⟩ := List.append_inj' hg rfl
        have e3 : q.name = s3 := by simpa using e2
        subst e1
        rw [chain_fun h3 h1, ← e3, ← h2] at hx
        exact absurd hx hne
    · rw [List.concat_eq_append] at e
      rw [e, ← List.append_assoc] at hs
      obtain ⟨e1, _⟩ := List.append_inj' hs rfl
      rw [e1] at h1
      exact chain_more hc _ r' rfl h1
  · intro hd
    obtain ⟨r, hr⟩ := chain_desc hR hc hd
    rw [chain_unique hR h1 hqd hr, List.append_assoc, List.take_left]
end Go.Proofs.YtkipkcmcolomcaaGreat.Pln
/- along: to go along a path through right files. -/
namespace Go.Proofs.YtkipkcmcolomcaaGreat.Pln
open Go.RowKit
open Dir (N nm nm_mem DirP findV)
open Pth (Strs splitD splitE splitV)
attribute [local go_sem] Oper.semAt_some
set_option linter.unusedVariables false
set_option linter.unusedSimpArgs false
/-- what is left behind the first part -/
theorem strs_tail {w : World} {b off n cap : Nat} {s : ByteArray} {X : List ByteArray} (h : Strs w (.slice (some ⟨b, off, none⟩) (n + 1) cap) (s :: X)) (a : Option Addr) (ha : 0 < n → a = some ⟨b, off + 1, none⟩) (hz : a = none → cap - 1 = 0) : Strs w (.slice a n (cap - 1)) X := by
  obtain ⟨a', cap', e, h2, ⟨h3, h3b⟩, h4, h5⟩ := h
  obtain ⟨e1, e2, e3⟩ := Value.slice.inj e
  subst e3
  have hn : n = X.length := by simpa using e2
  refine ⟨a, cap - 1, by rw [hn], by rw [← hn]; have : (s :: X).length = X.length + 1 := rfl; omega, ⟨by omega, hz⟩, by simp, fun h0 => ?_⟩
  obtain ⟨b', off', e4, hc⟩ := h5 (by simp)
  rw [← e1] at e4
  cases e4
  refine ⟨b, off + 1, ha (by omega), fun j u hj => ?_⟩
  have := hc (j + 1) u (by simpa using hj)
  rwa [show off + 1 + j = off + (j + 1) by omega]
theorem strs_blk {w : World} {v : Value} {X : List ByteArray} (h : Strs w v X) : ∀ b off n cap, v = .slice (some ⟨b, off, none⟩) n cap → 0 < n → b < w.heap.size := fun b off n cap e hn => by
  subst e
  obtain ⟨a, cap', e, _⟩ := h.parts
  have hl : n = X.length := (Value.slice.inj e).2.1
  obtain ⟨b', off', e2, hc⟩ := h.get (k := 0) (by omega)
  cases e2
  exact World.block_lt_of_cell? _ _ hc
/-- what going along a path answers -/
def AlgPost (D : List (List N)) (o : Except Int Pl) (w : World) (e : Ending) (w' : World) : Prop := match o with
  | .error n => e = .returned (.tuple #[spZV, .int .i64 n]) ∧ Below w.heap.size w w'
  | .ok q => ∃ a cap g, e = .returned (.tuple #[spV q (.slice a g.length cap), .int .i64 0]) ∧ (∃ B, rowS w' B (.slice a g.length cap) g) ∧ Gone D g q ∧ Below w.heap.size w w'
/-- between two parts: where one is (at qa), what is left (lv), how many links were met -/
structure AlgI (l : List Nd) (D : List (List N)) (f : Bool) (o : Except Int Pl) (w : World) (qa qr : Nat) (c : Nat) (lv : Value) (hops : Nat) (X : List ByteArray) (p : Pl) (W : World) : Prop where
  ex : ∃ gv g B, SpAt W qa p gv ∧ rowS W B gv g ∧ B ≤ W.heap.size ∧ w.heap.size ≤ B ∧ (∀ b off n cap, lv = .slice (some ⟨b, off, none⟩) n cap → 0 < n → b < B ∧ ¬ b = qa) ∧ g.length + X.length ≤ 40 ∧ Gone D g p ∧ o = contK l D f (8 - hops) g X p
  res : SpAt W qr zPl (.slice none 0 0)
  left : Strs W lv X
  names : ∀ s ∈ X, Dir.nameP s
  on : X = [] ∨ ¬ p.ino = 0
  hop : hops ≤ 8
  meas : c = (8 - hops) * 41 + X.length
  bel : Below w.heap.size w W
theorem gone_lt {l : List Nd} {D : List (List N)} (hR : RightD l D) {g : List ByteArray} {p : Pl} (h : Gone D g p) (h0 : ¬ p.ino = 0) : p.ino < l.length := by
  rcases h with ⟨rfl, _⟩ | ⟨g', _, _, h2⟩
  · have := hR.low; show 2 < l.length; omega
  · obtain ⟨a1, a2, _⟩ := findV_mem h2 h0
    have := (hR.named (nm_mem a1)).2.1
    rw [a2] at this
    exact this
theorem root_val (w : World) : Calls Tryz.prog 78 #[] w (fun e w' => e = .returned (spV rootPl (.slice none 0 0)) ∧ Below w.heap.size w w') := by
  unfold spV rootPl
  dsimp only
  go_enter Tryz.func78, Tryz.ntmps78
  go_wp2
  go_returns
  exact ⟨rfl, below_new _ _⟩
theorem SpAt.cZ {W : World} {b : Nat} (h : SpAt W b zPl (.slice none 0 0)) : W.cell? ⟨b, 0, none⟩ = some (.int .u32 0) ∧ W.cell? ⟨b, 1, none⟩ = some (.string ⟨#[]⟩) ∧ W.cell? ⟨b, 2, none⟩ = some (.int .u32 0) ∧ W.cell? ⟨b, 3, none⟩ = some (.slice none 0 0) := h.c
theorem SpAt.putZ {W : World} {b : Nat} {q : Pl} {g0 : Value} (h : SpAt W b q g0) :
    SpAt ((((W.setCell ⟨b, 0, none⟩ (.int .u32 0)).setCell ⟨b, 1, none⟩ (.string ⟨#[]⟩)).setCell ⟨b, 2, none⟩ (.int .u32 0)).setCell ⟨b, 3, none⟩ (.slice none 0 0)) b zPl (.slice none 0 0) ∧
    Only (fun i => i = b) W ((((W.setCell ⟨b, 0, none⟩ (.int .u32 0)).setCell ⟨b, 1, none⟩ (.string ⟨#[]⟩)).setCell ⟨b, 2, none⟩ (.int .u32 0)).setCell ⟨b, 3, none⟩ (.slice none 0 0)) := h.put4 zPl (.slice none 0 0)
theorem below_set4 {n : Nat} {w W : World} (h : Below n w W) {b : Nat} (hb : n ≤ b) (u0 u1 u2 u3 : Value) : Below n w ((((W.setCell ⟨b, 0, none⟩ u0).setCell ⟨b, 1, none⟩ u1).setCell ⟨b, 2, none⟩ u2).setCell ⟨b, 3, none⟩ u3) :=
  (((h.setCell (p := ⟨b, 0, none⟩) hb _).setCell (p := ⟨b, 1, none⟩) hb _).setCell (p := ⟨b, 2, none⟩) hb _).setCell (p := ⟨b, 3, none⟩) hb _
theorem strs_kept {W W' : World} {v : Value} {X : List ByteArray} (h : Strs W v X) (hk : ∀ b off n cap, v = .slice (some ⟨b, off, none⟩) n cap → 0 < n → W'.heap[b]? = W.heap[b]?) : Strs W' v X := by
  obtain ⟨a, cap, e, h2, h3, h4, h5⟩ := h
  refine ⟨a, cap, e, h2, h3, h4, fun h0 => ?_⟩
  obtain ⟨b, off, e2, hc⟩ := h5 h0
  subst e2
  refine ⟨b, off, rfl, fun j u hj => ?_⟩
  have h6 := hc j u hj
  have h7 := hk b off _ _ e h0
  simp only [World.cell?, h7] at h6 ⊢
  exact h6
/-- behind a step: where one was, what is left, what was found -/
structure AlgMid (W0 : World) (qa qr : Nat) (p : Pl) (gv gn lv : Value) (B : Nat) (g : List ByteArray) (s0 : ByteArray) (X' : List ByteArray) (W : World) : Prop where
  was : SpAt W qa p gv
  res : SpAt W qr zPl (.slice none 0 0)
  row : rowS W B gn (g ++ [s0])
  old : rowS W B gv g
  left : Strs W lv (s0 :: X')
  blk : ∀ b off n cap, lv = .slice (some ⟨b, off, none⟩) n cap → 0 < n → b < B ∧ ¬ b = qa
  base : W0.heap.size ≤ B ∧ B ≤ W.heap.size
  bel : Below W0.heap.size W0 W
theorem AlgMid.of {W0 : World} {qa qr : Nat} {p : Pl} {gv gn lv : Value} {B : Nat} {g : List ByteArray} {s0 : ByteArray} {X' : List ByteArray} {wr W w2 : World}
    (i1 : SpAt wr qa p gv) (hres : SpAt wr qr zPl (.slice none 0 0)) (i2 : rowS wr B gv g) (i3 : B ≤ wr.heap.size) (i4 : W0.heap.size ≤ B) (i5 : ∀ b off n cap, lv = .slice (some ⟨b, off, none⟩) n cap → 0 < n → b < B ∧ ¬ b = qa) (hl : Strs wr lv (s0 :: X')) (hbe : Below W0.heap.size W0 wr)
    (hW : Below wr.heap.size wr W) (r1 : rowS w2 B gn (g ++ [s0])) (r2 : Only (fun i => gv.ownBlock = some i) W w2) (r3 : rowS w2 B gv g) : AlgMid W0 qa qr p gv gn lv B g s0 X' w2 := by
  have a1 := i1.th hW
  have a2 := hres.th hW
  have a3 := i2.below hW
  have hown : ∀ r, gv.ownBlock = some r → B ≤ r := fun r e => (a3.lt r e).1
  refine ⟨a1.of_heap (r2.block _ a1.lt (fun e => a3.not a1 (by decide) e)), a2.of_heap (r2.block _ a2.lt (fun e => a3.not a2 (by decide) e)), r1, r3, strs_kept (hl.below hW) (fun b off n cap e h0 => ?_), i5, ⟨i4, Nat.le_trans i3 (Nat.le_trans hW.size r2.size)⟩, ?_⟩
  · have h1 := i5 b off n cap e h0
    exact r2.block _ (by have := hW.size; omega) (fun e2 => by have := hown _ e2; omega)
  · have hb := below_th hbe hW
    exact hb.trans (r2.below (n := W0.heap.size) hb.size (fun k e => Nat.le_trans i4 (hown k e)))
theorem AlgMid.put {W0 : World} {qa qr : Nat} {p : Pl} {gv gn lv : Value} {B : Nat} {g : List ByteArray} {s0 : ByteArray} {X' : List ByteArray} {W : World} (h : AlgMid W0 qa qr p gv gn lv B g s0 X' W)
    {qn : Nat} {z q : Pl} {g0 g1 : Value} (hn : SpAt W qn z g0) (h1 : B ≤ qn) (h2 : ¬ qn = qa) (h3 : ¬ qn = qr) :
    AlgMid W0 qa qr p gv gn lv B g s0 X' ((((W.setCell ⟨qn, 0, none⟩ (.int .u32 q.dir)).setCell ⟨qn, 1, none⟩ (.string q.name)).setCell ⟨qn, 2, none⟩ (.int .u32 q.ino)).setCell ⟨qn, 3, none⟩ g1) ∧
    SpAt ((((W.setCell ⟨qn, 0, none⟩ (.int .u32 q.dir)).setCell ⟨qn, 1, none⟩ (.string q.name)).setCell ⟨qn, 2, none⟩ (.int .u32 q.ino)).setCell ⟨qn, 3, none⟩ g1) qn q g1 := by
  obtain ⟨p1, p2⟩ := hn.put4 q g1
  refine ⟨⟨h.was.of_heap (p2.block _ h.was.lt (fun e => h2 e.symm)), h.res.of_heap (p2.block _ h.res.lt (fun e => h3 e.symm)), h.row.kept p2 (h.row.not hn (by decide)), h.old.kept p2 (h.old.not hn (by decide)), strs_kept h.left (fun b off n cap e h0 => ?_), h.blk, ⟨h.base.1, Nat.le_trans h.base.2 p2.size⟩, ?_⟩, p1⟩
  · have h4 := h.blk b off n cap e h0
    exact p2.block _ (by have := h.base.2; omega) (by omega)
  · exact h.bel.trans (p2.below (n := W0.heap.size) h.bel.size (by rintro k rfl; exact Nat.le_trans h.base.1 h1))
theorem AlgMid.th {W0 : World} {qa qr : Nat} {p : Pl} {gv gn lv : Value} {B : Nat} {g : List ByteArray} {s0 : ByteArray} {X' : List ByteArray} {W W' : World} (h : AlgMid W0 qa qr p gv gn lv B g s0 X' W) (hB : Below W.heap.size W W') : AlgMid W0 qa qr p gv gn lv B g s0 X' W' :=
  ⟨h.was.th hB, h.res.th hB, h.row.below hB, h.old.below hB, h.left.below hB, h.blk, ⟨h.base.1, Nat.le_trans h.base.2 hB.size⟩, below_th h.bel hB⟩
theorem AlgMid.go {W0 : World} {qa qr : Nat} {p : Pl} {gv gn lv : Value} {B : Nat} {g : List ByteArray} {s0 : ByteArray} {X' : List ByteArray} {W : World} (h : AlgMid W0 qa qr p gv gn lv B g s0 X' W)
    (hq : ¬ qa = qr) (hW : W0.heap.size ≤ qa) (q : Pl) :
    SpAt ((((W.setCell ⟨qa, 0, none⟩ (.int .u32 q.dir)).setCell ⟨qa, 1, none⟩ (.string q.name)).setCell ⟨qa, 2, none⟩ (.int .u32 q.ino)).setCell ⟨qa, 3, none⟩ gn) qa q gn ∧
    rowS ((((W.setCell ⟨qa, 0, none⟩ (.int .u32 q.dir)).setCell ⟨qa, 1, none⟩ (.string q.name)).setCell ⟨qa, 2, none⟩ (.int .u32 q.ino)).setCell ⟨qa, 3, none⟩ gn) B gn (g ++ [s0]) ∧
    B ≤ ((((W.setCell ⟨qa, 0, none⟩ (.int .u32 q.dir)).setCell ⟨qa, 1, none⟩ (.string q.name)).setCell ⟨qa, 2, none⟩ (.int .u32 q.ino)).setCell ⟨qa, 3, none⟩ gn).heap.size ∧
    SpAt ((((W.setCell ⟨qa, 0, none⟩ (.int .u32 q.dir)).setCell ⟨qa, 1, none⟩ (.string q.name)).setCell ⟨qa, 2, none⟩ (.int .u32 q.ino)).setCell ⟨qa, 3, none⟩ gn) qr zPl (.slice none 0 0) ∧
    Strs ((((W.setCell ⟨qa, 0, none⟩ (.int .u32 q.dir)).setCell ⟨qa, 1, none⟩ (.string q.name)).setCell ⟨qa, 2, none⟩ (.int .u32 q.ino)).setCell ⟨qa, 3, none⟩ gn) lv (s0 :: X') ∧
    Below W0.heap.size W0 ((((W.setCell ⟨qa, 0, none⟩ (.int .u32 q.dir)).setCell ⟨qa, 1, none⟩ (.string q.name)).setCell ⟨qa, 2, none⟩ (.int .u32 q.ino)).setCell ⟨qa, 3, none⟩ gn) := by
  obtain ⟨p1, p2⟩ := h.was.put4 q gn
  refine ⟨p1, h.row.kept p2 (h.row.not h.was (by decide)), Nat.le_trans h.base.2 p2.size, h.res.of_heap (p2.block _ h.res.lt (fun e => hq e.symm)), strs_kept h.left (fun b off n cap e h0 => ?_), ?_⟩
  · have h4 := h.blk b off n cap e h0
    exact p2.block _ (by have := h.base.2; omega) (fun e2 => h4.2 e2)
  · exact h.bel.trans (p2.below (n := W0.heap.size) h.bel.size (by rintro k rfl; exact hW))
theorem cont_turn {l : List Nd} {D : List (List N)} {f : Bool} {g X : List ByteArray} {p : Pl} {s : ByteArray} (h0 : ¬ p.ino = 0) (hk : (nd l p.ino).kind = 2) (hc : ¬ (findV (ds D p.ino) s = 0 ∨ ¬ (nd l (findV (ds D p.ino) s)).kind = 3 ∨ (X = [] ∧ f = false))) {hops : Nat} (hh : hops ≤ 8) :
    contK l D f (8 - hops) g (s :: X) p = match turnO g (nd l (findV (ds D p.ino) s)).data X (hops + 1) with | .error n => .error n | .ok L => contK l D f (8 - (hops + 1)) [] L rootPl := by
  rw [cont_link h0 hk hc hh]
  unfold turnO
  by_cases h8 : 8 < hops + 1
  · rw [if_pos h8, if_pos h8]
  · rw [if_neg h8, if_neg h8]
    cases underD g (nd l (findV (ds D p.ino) s)).data with
    | none => rfl
    | some u =>
      simp only
      by_cases h4 : 40 < u.length + X.length
      · rw [if_pos h4, if_pos h4]
      · rw [if_neg h4, if_neg h4]
theorem turn_ok {g : List ByteArray} {t : ByteArray} {X L : List ByteArray} {h : Nat} (e : turnO g t X h = .ok L) (hX : ∀ s ∈ X, Dir.nameP s) : (∀ s ∈ L, Dir.nameP s) ∧ L.length ≤ 40 ∧ h ≤ 8 := by
  unfold turnO at e
  by_cases h8 : 8 < h
  · rw [if_pos h8] at e; cases e
  · rw [if_neg h8] at e
    cases hu : underD g t with
    | none => rw [hu] at e; cases e
    | some u =>
      rw [hu] at e
      simp only at e
      by_cases h4 : 40 < u.length + X.length
      · rw [if_pos h4] at e; cases e
      · rw [if_neg h4] at e
        cases e
        refine ⟨fun s hs => ?_, by rw [List.length_append]; omega, by omega⟩
        rcases List.mem_append.1 hs with hs | hs
        · exact split_names ((under_is g t).trans hu) s hs
        · exact hX s hs
/-- what behind a link must be handed on -/
theorem AlgI.root {l : List Nd} {D : List (List N)} {f : Bool} {o : Except Int Pl} {W0 W : World} {qa qr : Nat} {hops : Nat} {a : Option Addr} {cap : Nat} {L : List ByteArray} {p : Pl} {gv : Value} {c : Nat}
    (h1 : SpAt W qa p gv) (h2 : SpAt W qr zPl (.slice none 0 0)) (h3 : Strs W (.slice a L.length cap) L) (h4 : ∀ r, (Value.slice a L.length cap).ownBlock = some r → qa < r) (h5 : Below W0.heap.size W0 W) (hq : ¬ qa = qr) (hqa : W0.heap.size ≤ qa)
    (h6 : ∀ s ∈ L, Dir.nameP s) (h7 : L.length ≤ 40) (h8 : hops ≤ 8) (h9 : o = contK l D f (8 - hops) [] L rootPl) (hc : c = (8 - hops) * 41 + L.length) :
    AlgI l D f o W0 qa qr c (.slice a L.length cap) hops L rootPl ((((W.setCell ⟨qa, 0, none⟩ (.int .u32 0)).setCell ⟨qa, 1, none⟩ (.string ⟨#[]⟩)).setCell ⟨qa, 2, none⟩ (.int .u32 2)).setCell ⟨qa, 3, none⟩ (.slice none 0 0)) := by
  obtain ⟨p1, p2⟩ := h1.put4 rootPl (.slice none 0 0)
  have hl : Strs ((((W.setCell ⟨qa, 0, none⟩ (.int .u32 rootPl.dir)).setCell ⟨qa, 1, none⟩ (.string rootPl.name)).setCell ⟨qa, 2, none⟩ (.int .u32 rootPl.ino)).setCell ⟨qa, 3, none⟩ (.slice none 0 0)) (.slice a L.length cap) L := by
    refine strs_kept h3 (fun b off n cap e h0 => ?_)
    have hb := strs_blk h3 b off n cap e h0
    refine p2.block _ hb (fun e2 => ?_)
    have := h4 b (by rw [e]; rfl)
    omega
  refine ⟨⟨_, [], _, p1, rowS.nil _ _, Nat.le_refl _, Nat.le_trans (Nat.le_trans hqa (Nat.le_of_lt h1.lt)) p2.size, fun b off n cap e h0 => ⟨strs_blk hl b off n cap e h0, fun e2 => ?_⟩, by simpa using h7, .inl ⟨rfl, rfl⟩, h9⟩, h2.of_heap (p2.block _ h2.lt (fun e => hq e.symm)), hl, h6, .inr (by decide), h8, hc, h5.trans (p2.below (n := W0.heap.size) h5.size (by rintro k rfl; exact hqa))⟩
  have := h4 b (by rw [e]; rfl)
  omega
theorem letter {P Q : World → Prop} {W : World} (h : P W) (k : ∀ W, P W → Q W) : Q W := k W h
section
set_option maxRecDepth 100000
set_option maxHeartbeats 8000000
/-- one part, as along asks for it: the world behind it, what was there still there -/
theorem along_any {l : List Nd} {D : List (List N)} (hR : RightD l D) (v : Value) (w : World) (h : Nodes w v l) (s : ByteArray) (hs : s.size ≤ 281474976710656) (f : Bool) :
    Calls Tryz.prog 43 #[v, .string s, .bool f] w (AlgPost D (goD l D s f) w) := by
  obtain ⟨b0, off0, cap0, rfl, _⟩ := h.at (k := 2) (by have := hR.low; omega)
  have HSP := Lib.hid (fun W => Pth.split_any s W hs)
  unfold Pth.SplitPost at HSP
  have HQ0 := Lib.hid (SpAt.newZ w)
  unfold spZ at HQ0
  have HPOST : Hid (∀ o, goD l D s f = o → AlgPost D (goD l D s f) w = AlgPost D o w) := fun o e => by rw [e]
  rw [go_start] at HPOST
  cases hsp : splitD s with
  | none =>
    have e1 : splitE s = 120 := by unfold splitE; rw [hsp]
    have e2 : splitV s = [] := by unfold splitV; rw [hsp]; rfl
    rw [e1, e2] at HSP
    rw [show goD l D s f = .error 120 by rw [go_start, hsp]]
    clear hsp e1 e2 h HPOST
    show Calls _ _ _ w (fun e w' => e = .returned (.tuple #[spZV, .int .i64 120]) ∧ Below w.heap.size w w')
    go_enter Tryz.func43, Tryz.ntmps43
    go_wp2
    apply wp_scope_straight
    go_wp2_with (go_at_call 77; (with_reducible refine Calls.mono (HSP.out _) ?_); rintro e w1 ⟨sv, rfl, _, hB1⟩; have HQ1 := Lib.hid (HQ0.out.th hB1); have f0 := HQ1.out.f 0; have f1 := HQ1.out.f 1; have f2 := HQ1.out.f 2; have f3 := HQ1.out.f 3; obtain ⟨q0, q1, q2, q3⟩ := HQ1.out.cZ)
    have HFIN := Lib.hid (And.intro (HQ1.out.putZ).1 ((below_th (below_new w _) hB1).trans ((HQ1.out.putZ).2.below (n := w.heap.size) (below_th (below_new w _) hB1).size (by rintro k rfl; exact Nat.le_refl _))))
    refine noGoto_ret ?_
    refine bodyPost_ret (results_sp rfl _ _ rfl HFIN.out.1) rfl ?_
    exact ⟨rfl, HFIN.out.2⟩
  | some X =>
    have e1 : splitE s = 0 := by unfold splitE; rw [hsp]
    have e2 : splitV s = X := by unfold splitV; rw [hsp]; rfl
    rw [e1, e2] at HSP
    rw [hsp] at HPOST
    simp only at HPOST
    have hX40 : X.length ≤ 40 := (Pth.split_some hsp).2.2
    have hXn := split_names hsp
    have HRT := Lib.hid root_val
    unfold spV rootPl at HRT
    dsimp only at HRT
    have HRUN : Hid (goD l D s f = contK l D f 8 [] X rootPl) := by unfold Hid; rw [go_start, hsp]
    have HNB := Lib.hid (fun W (hB : Below w.heap.size w W) => h.below hB)
    have HRR := Lib.hid hR
    clear hsp e1 e2 h hR HPOST
    obtain ⟨W0, rfl⟩ : ∃ W0 : World, W0 = w := ⟨_, rfl⟩
    go_enter Tryz.func43, Tryz.ntmps43
    go_wp2
    apply wp_scope_straight
    go_wp2_with (first
      | (go_at_call 77; (with_reducible refine Calls.mono (HSP.out _) ?_); rintro e w1 ⟨sv, rfl, hsv, hB1⟩; obtain ⟨asv, csv, rfl, _, _⟩ := hsv.parts; have HSV := Lib.hid hsv; have HB1 := Lib.hid hB1; clear hsv hB1)
      | (go_at_call 78; (with_reducible refine Calls.mono (HRT.out _) ?_); rintro e w2 ⟨rfl, hB2⟩; have HB2 := Lib.hid hB2; clear hB2))
    obtain ⟨qa, hqa⟩ : ∃ qa, w2.heap.size = qa := ⟨_, rfl⟩
    obtain ⟨WA, hWA⟩ : ∃ WA, w2.alloc (.cells #[.int .u32 0, .string ⟨#[]⟩, .int .u32 2, .slice none 0 0] 57) = WA := ⟨_, rfl⟩
    have hAt : SpAt WA qa rootPl (.slice none 0 0) := by
      rw [← hWA, ← hqa]
      exact SpAt.new w2 rootPl (.slice none 0 0)
    have hB2A : Below w2.heap.size w2 WA := by rw [← hWA]; exact below_new _ _
    have hB1A : Below w1.heap.size w1 WA := below_th HB2.out hB2A
    have hB0A : Below W0.heap.size W0 WA := below_th (below_th (below_new _ _) HB1.out) hB1A
    have hSt : AlgI l D f (goD l D s f) W0 qa W0.heap.size (8 * 41 + X.length) (.slice asv X.length csv) 0 X rootPl WA := by
      have hl := HSV.out.below hB1A
      exact ⟨⟨_, [], WA.heap.size, hAt, rowS.nil _ _, Nat.le_refl _, hB0A.size, fun b off n cap e h0 => ⟨strs_blk hl b off n cap e h0, fun e2 => by have h1 := strs_blk HSV.out b off n cap e h0; have h2 := HB2.out.size; omega⟩, by simpa using hX40, .inl ⟨rfl, rfl⟩, HRUN.out⟩, (HQ0.out.th HB1.out).th hB1A, hl, hXn, .inr (by decide), by omega, rfl, hB0A⟩
    have HST := Lib.hid hSt
    have hqaW : W0.heap.size < qa := by have h1 := HB2.out.size; have h2 := HB1.out.size; rw [World.size_alloc] at h2; omega
    rw [hqa, hWA]
    clear hqa hWA hAt hB2A hB1A hB0A hSt HSV HB1 HB2 HQ0 HSP HRUN hXn
    refine wp_label ?_
    go_wp2
    go_loopg [8, 11] (8 * 41 + X.length) (fun c lv hv wr => ∃ (hops : Nat) (X : List ByteArray) (p : Pl), hv = .int .i64 (hops : Int) ∧ Hid (AlgI l D f (goD l D s f) W0 qa W0.heap.size c lv hops X p wr))
    case atStart => exact ⟨0, X, rootPl, rfl, HST.out⟩
    case round =>
      obtain ⟨hops, X, p, rfl, HI⟩ := hrel
      obtain ⟨gv, g, B, i1, i2, i3, i4, i5, i6, i7, i8⟩ := HI.out.ex
      obtain ⟨ag, cg, rfl⟩ := i2.parts
      have hleft := HI.out.left
      obtain ⟨al, cl, rfl, cl1, cl2⟩ := hleft.parts
      cases X with
      | nil =>
        have HRES := HI.out.res
        obtain ⟨q0, q1, q2, q3⟩ := HRES.cZ
        have f0 := HRES.f 0
        have f1 := HRES.f 1
        have f2 := HRES.f 2
        have f3 := HRES.f 3
        obtain ⟨a0, a1, a2, a3⟩ := i1.c
        have hP := HRES.put4 p (.slice ag g.length cg)
        have hrowS : ∃ B, rowS _ B (.slice ag g.length cg) g := ⟨B, i2.kept hP.2 (i2.not HRES (by decide))⟩
        have HFIN := Lib.hid (And.intro hP.1 (And.intro hrowS (HI.out.bel.trans (hP.2.below (n := W0.heap.size) HI.out.bel.size (by rintro k rfl; exact Nat.le_refl _)))))
        have HGO := Lib.hid i7
        have HEND : Hid (goD l D s f = .ok p) := i8
        have e0 : ([] : List ByteArray).length = 0 := rfl
        rw [e0]
        clear HI i1 i2 i3 i4 i5 i6 i7 i8 hleft HRES hP hrowS
        obtain ⟨pd, pn, pi⟩ := p
        dsimp only at a0 a1 a2 a3 HFIN
        go_wp2
        refine noGoto_ret ?_
        refine bodyPost_ret (results_sp rfl _ _ rfl HFIN.out.1) rfl ?_
        rw [HEND.out]
        exact ⟨ag, cg, g, rfl, HFIN.out.2.1, HGO.out, HFIN.out.2.2⟩
      | cons s0 X' =>
        have hp0 : ¬ p.ino = 0 := HI.out.on.resolve_left (by simp)
        have hpl : p.ino < l.length := gone_lt HRR.out i7 hp0
        obtain ⟨bl, ol, e9, cl0⟩ := hleft.get (k := 0) (by simp)
        subst e9
        have hn1 : (s0 :: X').length = X'.length + 1 := rfl
        have hbe := HI.out.bel
        have hRES := HI.out.res
        have hnqa : ¬ (Value.slice ag g.length cg).ownBlock = some qa := i2.not i1 (by decide)
        have hnqr : ¬ (Value.slice ag g.length cg).ownBlock = some W0.heap.size := i2.not hRES (by decide)
        have hgl := i6
        rw [hn1] at hgl
        have hs0 : s0.size ≤ 281474976710656 := by have := (HI.out.names s0 (by simp)).2.1; omega
        by_cases hk : (nd l p.ino).kind = 2
        · have hfl : findV (ds D p.ino) s0 < l.length := by
            by_cases h0 : findV (ds D p.ino) s0 = 0
            · have := HRR.out.low; omega
            · exact gone_lt HRR.out (i7.next hp0 s0) h0
          have HS := Lib.hid (fun W (hW : Below wr.heap.size wr W) => step_yes HRR.out _ W (HNB.out W (below_th hbe hW)) p hpl g _ B (i2.below hW) (Nat.le_trans i3 hW.size) (by omega) s0 hs0 hk)
          unfold StepYes at HS
          obtain ⟨n', hn'⟩ : ∃ n', X'.length = n' := ⟨_, rfl⟩
          have hn2 : (s0 :: X').length = n' + 1 := by rw [hn1, hn']
          have hl2 := hleft
          rw [hn2] at hl2 i5
          have HC : Hid (∀ W, Below wr.heap.size wr W → W.cell? ⟨qa, 0, none⟩ = some (.int .u32 (p.dir : Int)) ∧ W.cell? ⟨qa, 1, none⟩ = some (.string p.name) ∧ W.cell? ⟨qa, 2, none⟩ = some (.int .u32 (p.ino : Int)) ∧ W.cell? ⟨qa, 3, none⟩ = some (.slice ag g.length cg) ∧ W.cell? ⟨bl, ol, none⟩ = some (.string s0)) := fun W hW => by
            obtain ⟨x0, x1, x2, x3⟩ := (i1.th hW).c
            have x4 := (hW.cell (p := ⟨bl, ol + 0, none⟩) (World.block_lt_of_cell? _ _ cl0)).trans cl0
            exact ⟨x0, x1, x2, x3, x4⟩
          have HMC : Hid (∀ W gn, AlgMid W0 qa W0.heap.size p (.slice ag g.length cg) gn (.slice (some ⟨bl, ol, none⟩) (n' + 1) cl) B g s0 X' W → W.cell? ⟨qa, 0, none⟩ = some (.int .u32 (p.dir : Int)) ∧ W.cell? ⟨qa, 1, none⟩ = some (.string p.name) ∧ W.cell? ⟨qa, 2, none⟩ = some (.int .u32 (p.ino : Int)) ∧ W.cell? ⟨qa, 3, none⟩ = some (.slice ag g.length cg) ∧ W.cell? ⟨bl, ol, none⟩ = some (.string s0)) := fun W gn h9 => by
            obtain ⟨x0, x1, x2, x3⟩ := h9.was.c
            obtain ⟨bl2, ol2, e2, x4⟩ := h9.left.get (k := 0) (by simp)
            cases e2
            exact ⟨x0, x1, x2, x3, x4⟩
          have HM : Hid (∀ W w2 gn, Below wr.heap.size wr W → rowS w2 B gn (g ++ [s0]) → Only (fun i => (Value.slice ag g.length cg).ownBlock = some i) W w2 → rowS w2 B (.slice ag g.length cg) g → AlgMid W0 qa W0.heap.size p (.slice ag g.length cg) gn (.slice (some ⟨bl, ol, none⟩) (n' + 1) cl) B g s0 X' w2) := fun W w2 gn h1 h2 h3 h4 => AlgMid.of i1 hRES i2 i3 i4 i5 hl2 hbe h1 h2 h3 h4
          have HPUT : Hid (∀ w2 gn, AlgMid W0 qa W0.heap.size p (.slice ag g.length cg) gn (.slice (some ⟨bl, ol, none⟩) (n' + 1) cl) B g s0 X' w2 → SpAt w2 wr.heap.size zPl (.slice none 0 0) → ∀ q g1, AlgMid W0 qa W0.heap.size p (.slice ag g.length cg) gn (.slice (some ⟨bl, ol, none⟩) (n' + 1) cl) B g s0 X' ((((w2.setCell ⟨wr.heap.size, 0, none⟩ (.int .u32 (q : Pl).dir)).setCell ⟨wr.heap.size, 1, none⟩ (.string q.name)).setCell ⟨wr.heap.size, 2, none⟩ (.int .u32 q.ino)).setCell ⟨wr.heap.size, 3, none⟩ g1) ∧ SpAt ((((w2.setCell ⟨wr.heap.size, 0, none⟩ (.int .u32 q.dir)).setCell ⟨wr.heap.size, 1, none⟩ (.string q.name)).setCell ⟨wr.heap.size, 2, none⟩ (.int .u32 q.ino)).setCell ⟨wr.heap.size, 3, none⟩ g1) wr.heap.size q g1) := fun w2 gn h1 h2 q g1 => h1.put h2 i3 (fun e => by have := i1.lt; omega) (fun e => by have := hRES.lt; omega)
          have HBX : Hid (∀ W w2, Below wr.heap.size wr W → W.heap[wr.heap.size]? = some (.cells #[.int .u32 0, .string ⟨#[]⟩, .int .u32 0, .slice none 0 0] 57 (0, 0)) → Only (fun i => (Value.slice ag g.length cg).ownBlock = some i) W w2 → SpAt w2 wr.heap.size zPl (.slice none 0 0)) := fun W w2 h1 h2 h3 => by
            have a1 : SpAt W wr.heap.size zPl (.slice none 0 0) := h2
            exact a1.of_heap (h3.block _ a1.lt (fun e => (i2.below h1).not a1 (by decide) e))
          rw [hn2] at cl1 ⊢
          rw [hn'] at hgl
          have hself : Below wr.heap.size wr wr.drew := (Below.refl _ wr).drew
          have hselfA : Below wr.heap.size wr (wr.alloc spZ).drew := (below_new wr spZ).drew
          have hselfB : Below wr.heap.size wr (wr.drew.alloc spZ) := below_al hself spZ
          unfold spZ at hselfA hselfB
          unfold spV at HS
          obtain ⟨fv, hfv⟩ : ∃ fv, findV (ds D p.ino) s0 = fv := ⟨_, rfl⟩
          rw [hfv] at HS hfl
          have HFV := Lib.hid hfv
          obtain ⟨pd, pn, pi⟩ := p
          dsimp only at HS HC HMC
          have HGO := Lib.hid (And.intro i7 (And.intro i8 (And.intro HI.out.hop (And.intro HI.out.names (And.intro hk (And.intro hp0 (And.intro hn' HI.out.meas)))))))
          clear HI i1 i2 i3 i4 i5 i6 i7 i8 hleft hl2 hn2 cl0 hn1 hbe hRES hnqa hnqr hn' hk hfv hpl hp0 HST
          have hnA : ((wr.alloc (.cells #[.int .u32 0, .string ⟨#[]⟩, .int .u32 0, .slice none 0 0] 57)).drew).heap[wr.heap.size]? = some (.cells #[.int .u32 0, .string ⟨#[]⟩, .int .u32 0, .slice none 0 0] 57 (0, 0)) := World.alloc_heap_new wr _
          have hnB : ((wr.drew).alloc (.cells #[.int .u32 0, .string ⟨#[]⟩, .int .u32 0, .slice none 0 0] 57)).heap[wr.heap.size]? = some (.cells #[.int .u32 0, .string ⟨#[]⟩, .int .u32 0, .slice none 0 0] 57 (0, 0)) := World.alloc_heap_new wr.drew _
          have HGL : Hid (∀ gn : Value, rowS wr B gn (g ++ [s0]) → True) := fun _ _ => trivial
          go_wp2
          go_cut [12, 13] (fun nx ex W => ∃ qn an cn, nx = .pointer (some ⟨qn, 0, none⟩) ∧ ex = .int .i64 0 ∧ Hid (AlgMid W0 qa W0.heap.size ⟨pd, pn, pi⟩ (.slice ag g.length cg) (.slice an (g ++ [s0]).length cn) (.slice (some ⟨bl, ol, none⟩) (n' + 1) cl) B g s0 X' W ∧ SpAt W qn ⟨pi, s0, fv⟩ (.slice an (g ++ [s0]).length cn)))
          case first =>
            obtain ⟨gl, hgl2⟩ : ∃ gl, g.length = gl := ⟨_, rfl⟩
            rw [hgl2] at HS HC HM HMC HPUT HBX hgl
            obtain ⟨gn, hgn⟩ : ∃ gn, (g ++ [s0]).length = gn := ⟨_, rfl⟩
            have HGN := Lib.hid hgn
            have HGE := Lib.hid hgl2
            clear hgl2 hgn
            go_region_held3 (fun w' => w'.cell? ⟨qa, 0, none⟩ = some (.int .u32 (pd : Int)) ∧ w'.cell? ⟨qa, 1, none⟩ = some (.string pn) ∧ w'.cell? ⟨qa, 2, none⟩ = some (.int .u32 (pi : Int)) ∧ w'.cell? ⟨qa, 3, none⟩ = some (.slice ag gl cg) ∧ w'.cell? ⟨bl, ol, none⟩ = some (.string s0)) (first | exact HC.out _ hself | exact HC.out _ hselfA | exact HC.out _ hselfB | exact HMC.out _ _ HMX.out | exact HMC.out _ _ (HMX.out.th (below_new _ _)) | exact HMC.out _ _ (HPX.out ⟨pi, s0, fv⟩ _).1) (first
              | (go_at_call 79; (with_reducible refine Calls.mono (HS.out _ hself) ?_); rintro e w2 ⟨gx, rfl, r1, r2, r3⟩; obtain ⟨an, cn, rfl⟩ := r1.parts; have HMX := Lib.hid (HM.out _ _ _ hself r1 r2 (r3 _ rfl)); rw [HGN.out] at HMX ⊢; clear r1 r2 r3)
              | (go_at_call 79; (with_reducible refine Calls.mono (HS.out _ hselfA) ?_); rintro e w2 ⟨gx, rfl, r1, r2, r3⟩; obtain ⟨an, cn, rfl⟩ := r1.parts; have HMX := Lib.hid (HM.out _ _ _ hselfA r1 r2 (r3 _ rfl)); have HX2 := HBX.out _ _ hselfA hnA r2; have HPX := Lib.hid (HPUT.out _ _ HMX.out HX2); rw [HGN.out] at HMX HPX ⊢; obtain ⟨y0, y1, y2, y3⟩ := HX2.cZ; have e0 := HX2.f 0; have e1 := HX2.f 1; have e2 := HX2.f 2; have e3 := HX2.f 3; clear r1 r2 r3 HX2)
              | (go_at_call 79; (with_reducible refine Calls.mono (HS.out _ hselfB) ?_); rintro e w2 ⟨gx, rfl, r1, r2, r3⟩; obtain ⟨an, cn, rfl⟩ := r1.parts; have HMX := Lib.hid (HM.out _ _ _ hselfB r1 r2 (r3 _ rfl)); have HX2 := HBX.out _ _ hselfB hnB r2; have HPX := Lib.hid (HPUT.out _ _ HMX.out HX2); rw [HGN.out] at HMX HPX ⊢; obtain ⟨y0, y1, y2, y3⟩ := HX2.cZ; have e0 := HX2.f 0; have e1 := HX2.f 1; have e2 := HX2.f 2; have e3 := HX2.f 3; clear r1 r2 r3 HX2))
            all_goals
              first
              | refine letter (P := fun W => AlgMid W0 qa W0.heap.size ⟨pd, pn, pi⟩ (.slice ag gl cg) (.slice an gn cn) (.slice (some ⟨bl, ol, none⟩) (n' + 1) cl) B g s0 X' W ∧ SpAt W wr.heap.size ⟨pi, s0, fv⟩ (.slice an gn cn)) (HPX.out ⟨pi, s0, fv⟩ (.slice an gn cn)) (fun WF HRF => ?_)
                obtain ⟨qn, hqn⟩ : ∃ qn, wr.heap.size = qn := ⟨_, rfl⟩
                rw [hqn] at HRF ⊢
                clear hqn
              | refine letter (P := fun W => AlgMid W0 qa W0.heap.size ⟨pd, pn, pi⟩ (.slice ag gl cg) (.slice an gn cn) (.slice (some ⟨bl, ol, none⟩) (n' + 1) cl) B g s0 X' W ∧ SpAt W w2.heap.size ⟨pi, s0, fv⟩ (.slice an gn cn)) (And.intro (HMX.out.th (below_new w2 _)) (SpAt.new w2 ⟨pi, s0, fv⟩ (.slice an gn cn))) (fun WF HRF => ?_)
                obtain ⟨qn, hqn⟩ : ∃ qn, w2.heap.size = qn := ⟨_, rfl⟩
                rw [hqn] at HRF ⊢
                clear hqn
              have HRF := Lib.hid HRF
              clear HMX
              go_wp2
              go_meet
              refine ⟨qn, an, cn, rfl, rfl, ?_⟩
              rw [HGN.out, HGE.out]
              exact HRF
          case rest =>
            obtain ⟨qn, an, cn, rfl, rfl, HMD⟩ := hcut
            have hst := (HNB.out _ HMD.out.1.bel).at hfl
            obtain ⟨b9, off9, cap9, e9, z0, z1, z2, z3, z4⟩ := hst
            cases e9
            have HB9 := Lib.hid (And.intro hgl cl1)
            clear HS HC HMC HM HPUT HBX hself hselfA hselfB hnA hnB HGL
            by_cases hz : fv = 0
            · by_cases hX : X' = []
              · have HX := Lib.hid hX
                have HZ := Lib.hid hz
                have b1 : ((fv : Int) == 0) = true := by rw [hz]; rfl
                have b2 : ((n' : Int) + 1 == 1) = true := by
                  have : X'.length = n' := HGO.out.2.2.2.2.2.2.1
                  have : n' = 0 := by rw [← this, hX]; rfl
                  rw [beq_iff_eq]; omega
                have b3 : ((nd l fv).kind == 3) = false := by rw [hz, HRR.out.z0]; rfl
                obtain ⟨kd, hkd⟩ : ∃ kd, (nd l fv).kind = kd := ⟨_, rfl⟩
                rw [hkd] at z0 b3
                clear hkd hz hX
                have HOV : Hid (goD l D s f = contK l D f (8 - hops) (g ++ [s0]) X' ⟨pi, s0, fv⟩) := by
                  obtain ⟨hG, hDD, hhop, hnm, hk, hp0, hn', hms⟩ := HGO.out
                  have := hDD.trans (cont_on hp0 hk (by rw [HFV.out]; exact .inl HZ.out))
                  rw [HFV.out] at this
                  exact this
                have HON : Hid (X' = [] ∨ ¬ fv = 0) := .inl HX.out
                obtain ⟨q0, q1, q2, q3⟩ := HMD.out.2.c
                obtain ⟨a0, a1, a2, a3⟩ := HMD.out.1.was.c
                have f0 := HMD.out.1.was.f 0
                have f1 := HMD.out.1.was.f 1
                have f2 := HMD.out.1.was.f 2
                have f3 := HMD.out.1.was.f 3
                have HGA := Lib.hid (HMD.out.1.go (by omega) (by omega) ⟨pi, s0, fv⟩)
                have HBK := Lib.hid (And.intro HMD.out.1.blk HMD.out.1.base)
                dsimp only at q0 q1 q2 q3 a0 a1 a2 a3 HGA
                obtain ⟨gl, hgl2⟩ : ∃ gl, g.length = gl := ⟨_, rfl⟩
                obtain ⟨gn, hgn⟩ : ∃ gn, (g ++ [s0]).length = gn := ⟨_, rfl⟩
                rw [hgl2] at a3 hgl
                rw [hgn] at q3 HGA
                have HGN := Lib.hid hgn
                have HGE := Lib.hid hgl2
                clear hgl2 hgn HMD z1 z2 z3 z4
                go_wp2
                by_cases hcl : cl = 1
                · go_region
                  all_goals
                    go_wp2
                    go_roundg ((8 - hops) * 41 + n')
                    case measure =>
                      have m1 := HGO.out.2.2.2.2.2.2.2
                      have m2 := HGO.out.2.2.2.2.2.2.1
                      rw [List.length_cons] at m1
                      omega
                    case rel =>
                      obtain ⟨hG, hDD, hhop, hnm, hk, hp0, hn', hms⟩ := HGO.out
                      obtain ⟨c1, c2, c3, c4, c5, c6⟩ := HGA.out
                      have c7 := HB9.out
                      refine ⟨hops, X', ⟨pi, s0, fv⟩, rfl, ⟨⟨_, g ++ [s0], B, c1, c2, c3, HBK.out.2.1, fun b off n cap e h0 => ?_, ?_, ?_, HOV.out⟩, c4, ?_, fun s hs => hnm s (.tail _ hs), HON.out, hhop, by rw [hn'], c6.drew⟩⟩
                      · cases e
                        exact HBK.out.1 _ _ _ _ rfl (Nat.succ_pos _)
                      · rw [List.length_append]
                        show g.length + 1 + X'.length ≤ 40
                        omega
                      · have h9 := hG.next hp0 s0
                        rw [HFV.out] at h9
                        exact h9
                      · have h9 := strs_tail c5 (some ⟨bl, ol, none⟩) (fun h => absurd h (by omega)) (fun h => by cases h)
                        rw [show cl - 1 = 0 by omega] at h9
                        exact h9
                · go_region
                  all_goals
                    go_wp2
                    go_roundg ((8 - hops) * 41 + n')
                    case measure =>
                      have m1 := HGO.out.2.2.2.2.2.2.2
                      have m2 := HGO.out.2.2.2.2.2.2.1
                      rw [List.length_cons] at m1
                      omega
                    case rel =>
                      obtain ⟨hG, hDD, hhop, hnm, hk, hp0, hn', hms⟩ := HGO.out
                      obtain ⟨c1, c2, c3, c4, c5, c6⟩ := HGA.out
                      have c7 := HB9.out
                      refine ⟨hops, X', ⟨pi, s0, fv⟩, rfl, ⟨⟨_, g ++ [s0], B, c1, c2, c3, HBK.out.2.1, fun b off n cap e h0 => ?_, ?_, ?_, HOV.out⟩, c4, ?_, fun s hs => hnm s (.tail _ hs), HON.out, hhop, by rw [hn'], c6.drew⟩⟩
                      · cases e
                        exact HBK.out.1 _ _ _ _ rfl (Nat.succ_pos _)
                      · rw [List.length_append]
                        show g.length + 1 + X'.length ≤ 40
                        omega
                      · have h9 := hG.next hp0 s0
                        rw [HFV.out] at h9
                        exact h9
                      · exact strs_tail c5 (some ⟨bl, ol + 1, none⟩) (fun h => rfl) (fun h => by cases h)
              · have HEND : Hid (goD l D s f = .error 112) := by
                  obtain ⟨hG, hDD, hhop, hnm, hk, hp0, hn', hms⟩ := HGO.out
                  have := hDD.trans (cont_on hp0 hk (.inl (by rw [HFV.out]; exact hz)))
                  rw [HFV.out, hz] at this
                  rw [this]
                  exact cont_none hX
                have b1 : ((fv : Int) == 0) = true := by rw [hz]; rfl
                have b2 : ((n' : Int) + 1 == 1) = false := by
                  have : X'.length = n' := HGO.out.2.2.2.2.2.2.1
                  have : ¬ n' = 0 := fun e => hX (List.eq_nil_of_length_eq_zero (by omega))
                  rw [beq_eq_false_iff_ne]; omega
                obtain ⟨q0, q1, q2, q3⟩ := HMD.out.2.c
                obtain ⟨r0, r1, r2, r3⟩ := HMD.out.1.res.cZ
                have f0 := HMD.out.1.res.f 0
                have f1 := HMD.out.1.res.f 1
                have f2 := HMD.out.1.res.f 2
                have f3 := HMD.out.1.res.f 3
                have HFIN := Lib.hid (And.intro (HMD.out.1.res.putZ).1 (HMD.out.1.bel.trans ((HMD.out.1.res.putZ).2.below (n := W0.heap.size) HMD.out.1.bel.size (by rintro k rfl; exact Nat.le_refl _))))
                dsimp only at q0 q1 q2 q3
                clear HMD hz hX z0 z1 z2 z3 z4
                go_wp2
                refine noGoto_ret ?_
                refine bodyPost_ret (results_sp rfl _ _ rfl HFIN.out.1) rfl ?_
                rw [HEND.out]
                exact ⟨rfl, HFIN.out.2⟩
            · by_cases hlk : (nd l fv).kind = 3 ∧ ¬ (X' = [] ∧ f = false)
              · have HNC : Hid (¬ (findV (ds D pi) s0 = 0 ∨ ¬ (nd l (findV (ds D pi) s0)).kind = 3 ∨ (X' = [] ∧ f = false))) := by
                  rw [HFV.out]
                  rintro (h | h | h)
                  · exact hz h
                  · exact h hlk.1
                  · exact hlk.2 h
                obtain ⟨td, htd⟩ : ∃ td, (nd l fv).data = td := ⟨_, rfl⟩
                have htz : td.size ≤ 140737488351232 := by
                  rcases HRR.out.one fv hfl with h9 | ⟨_, _, _, _, h9⟩
                  · rw [← htd, h9]; decide
                  · rw [← htd]
                    rcases h9 with ⟨_, h9⟩ | ⟨_, _, h9, _⟩ | h9
                    · omega
                    · omega
                    · rw [hlk.1] at h9; exact absurd h9 (by decide)
                have HOV : Hid (goD l D s f = match turnO g td X' (hops + 1) with | .error n => .error n | .ok L => contK l D f (8 - (hops + 1)) [] L rootPl) := by
                  obtain ⟨hG, hDD, hhop, hnm, hk, hp0, hn', hms⟩ := HGO.out
                  have h9 := hDD.trans (cont_turn hp0 hk HNC.out hhop)
                  rw [HFV.out, htd] at h9
                  exact h9
                have hhop : hops ≤ 8 := HGO.out.2.2.1
                obtain ⟨at', cp', hslice, hat1, hat2⟩ : ∃ (at' : Option Addr) (cp' : Nat), (if cl = 1 then (Value.slice (some ⟨bl, ol, none⟩) n' 0) else (Value.slice (some ⟨bl, ol + 1, none⟩) n' (cl - 1))) = .slice at' n' cp' ∧ (0 < n' → at' = some ⟨bl, ol + 1, none⟩) ∧ cp' = cl - 1 ∧ ¬ at' = none := by
                  by_cases hcl : cl = 1
                  · exact ⟨_, _, if_pos hcl, fun h => by omega, by omega, by simp⟩
                  · exact ⟨_, _, if_neg hcl, fun h => rfl, rfl, by simp⟩
                have HTN : Hid (∀ W, Below wc.heap.size wc W → Calls Tryz.prog 80 #[spV ⟨pd, pn, pi⟩ (.slice ag g.length cg), .string td, .slice at' n' cp', .int .i64 ((hops + 1 : Nat) : Int)] W (TurnPost (turnO g td X' (hops + 1)) W)) := fun W hW => by
                  have m1 := (HMD.out.1.th hW).old.strs
                  have m2 := (HMD.out.1.th hW).left
                  have m3 := strs_tail m2 at' hat1 (fun h => absurd h hat2.2)
                  rw [← hat2.1] at m3
                  have hl5 : X'.length ≤ 100 := by have h5 := HGO.out.2.2.2.2.2.2.1; omega
                  exact turn_any _ _ g td _ X' (hops + 1) W m1 m3 htz (by omega) hl5
                have gw : IntKind.i64.wrap ((hops : Int) + 1) = ((hops + 1 : Nat) : Int) := by rw [IntKind.wrap_i64] <;> omega
                have b1 : ((fv : Int) == 0) = false := by rw [beq_eq_false_iff_ne]; omega
                have b3 : ((nd l fv).kind == 3) = true := by rw [hlk.1]; rfl
                have b4 : f = true ∨ (f = false ∧ ((n' : Int) + 1 == 1) = false) := by
                  cases f with
                  | true => exact .inl rfl
                  | false =>
                    have h5 := HGO.out.2.2.2.2.2.2.1
                    refine .inr ⟨rfl, ?_⟩
                    have : ¬ n' = 0 := fun e => hlk.2 ⟨List.eq_nil_of_length_eq_zero (by omega), rfl⟩
                    rw [beq_eq_false_iff_ne]; omega
                have hopsL : ∀ L, turnO g td X' (hops + 1) = .ok L → (∀ s ∈ L, Dir.nameP s) ∧ L.length ≤ 40 ∧ hops + 1 ≤ 8 := fun L e => turn_ok e (fun s hs => HGO.out.2.2.2.1 s (.tail _ hs))
                have HOL := Lib.hid hopsL
                have herr : ∀ n, turnO g td X' (hops + 1) = .error n → ¬ n = 0 := fun n e => by
                  unfold turnO at e
                  by_cases h8 : 8 < hops + 1
                  · rw [if_pos h8] at e; cases e; decide
                  · rw [if_neg h8] at e
                    cases hu : underD g td with
                    | none => rw [hu] at e; cases e; decide
                    | some u =>
                      rw [hu] at e
                      simp only at e
                      by_cases h4 : 40 < u.length + X'.length
                      · rw [if_pos h4] at e; cases e; decide
                      · rw [if_neg h4] at e; cases e
                have HER := Lib.hid herr
                have hz4 := z4
                rw [htd] at hz4
                have HCC : Hid (∀ W, Below wc.heap.size wc W → (W.cell? ⟨qa, 0, none⟩ = some (.int .u32 (pd : Int)) ∧ W.cell? ⟨qa, 1, none⟩ = some (.string pn) ∧ W.cell? ⟨qa, 2, none⟩ = some (.int .u32 (pi : Int)) ∧ W.cell? ⟨qa, 3, none⟩ = some (.slice ag g.length cg)) ∧ W.cell? ⟨qn, 2, none⟩ = some (.int .u32 (fv : Int)) ∧ W.cell? ⟨b0, off0 + fv * 5 + 4, none⟩ = some (.string td)) := fun W hW => by
                  obtain ⟨x0, x1, x2, x3⟩ := (HMD.out.1.was.th hW).c
                  obtain ⟨y0, y1, y2, y3⟩ := (HMD.out.2.th hW).c
                  exact ⟨⟨x0, x1, x2, x3⟩, y2, (hW.cell (World.block_lt_of_cell? _ _ hz4)).trans hz4⟩
                have HRS : Hid (∀ W, Below wc.heap.size wc W → SpAt W qa ⟨pd, pn, pi⟩ (.slice ag g.length cg) ∧ SpAt W W0.heap.size zPl (.slice none 0 0) ∧ Below W0.heap.size W0 W) := fun W hW => ⟨HMD.out.1.was.th hW, HMD.out.1.res.th hW, below_th HMD.out.1.bel hW⟩
                have hqlt : qa < wc.heap.size := HMD.out.1.was.lt
                have HSZ := Lib.hid hqlt
                obtain ⟨x2, x3⟩ := (HCC.out _ (Below.refl _ wc)).2
                have hself0 : Below wc.heap.size wc wc := Below.refl _ wc
                have hself : Below wc.heap.size wc wc.drew := hself0.drew
                obtain ⟨o, ho⟩ : ∃ o, turnO g td X' (hops + 1) = o := ⟨_, rfl⟩
                have HO := Lib.hid ho
                rw [ho] at HTN HOV
                unfold spV at HTN
                dsimp only at HTN
                obtain ⟨gl, hgl2⟩ : ∃ gl, g.length = gl := ⟨_, rfl⟩
                rw [hgl2] at HTN HCC HRS hgl
                obtain ⟨kd, hkd⟩ : ∃ kd, (nd l fv).kind = kd := ⟨_, rfl⟩
                rw [hkd] at z0 b3
                obtain ⟨h1, hh1⟩ : ∃ h1, hops + 1 = h1 := ⟨_, rfl⟩
                have HH1 := Lib.hid hh1
                rw [hh1] at HTN gw
                clear hh1 hkd hgl2 ho herr hopsL htz htd hz4 HMD z1 z2 z3 z4 hlk hz hqlt hat1 hat2
                have c1 : (1 : Int) ≤ (n' : Int) + 1 := by omega
                have c2 : (n' : Int) + 1 ≤ (cl : Int) := by omega
                have c3 : (cl : Int) ≤ 9223372036854775807 := by omega
                rcases b4 with hf | ⟨hf, b2⟩
                all_goals
                  subst hf
                  by_cases hcl : cl = 1
                  all_goals
                    first
                    | rw [if_pos hcl] at hslice
                    | rw [if_neg hcl] at hslice
                    cases hslice
                    cases o with
                    | error n =>
                      have hn0 := HER.out n HO.out
                      have HEND : Hid (goD l D s _ = .error n) := HOV.out
                      clear HOV HO HER HOL
                      unfold TurnPost at HTN
                      dsimp only at HTN
                      go_wp2
                      go_region_held3 (fun w' => (w'.cell? ⟨qa, 0, none⟩ = some (.int .u32 (pd : Int)) ∧ w'.cell? ⟨qa, 1, none⟩ = some (.string pn) ∧ w'.cell? ⟨qa, 2, none⟩ = some (.int .u32 (pi : Int)) ∧ w'.cell? ⟨qa, 3, none⟩ = some (.slice ag gl cg)) ∧ w'.cell? ⟨qn, 2, none⟩ = some (.int .u32 (fv : Int)) ∧ w'.cell? ⟨b0, off0 + fv * 5 + 4, none⟩ = some (.string td)) (first | exact HCC.out _ hself | exact HCC.out _ hself0 | exact HCC.out _ HB5.out) (first | (go_at_call 80; (with_reducible refine Calls.mono (HTN.out _ hself) ?_); rintro e w5 ⟨rfl, hB5⟩; have HB5 := Lib.hid (below_th hself hB5); clear hB5))
                      all_goals
                        have hR := HRS.out w5 HB5.out
                        obtain ⟨r0, r1, r2, r3⟩ := hR.2.1.cZ
                        have f0 := hR.2.1.f 0
                        have f1 := hR.2.1.f 1
                        have f2 := hR.2.1.f 2
                        have f3 := hR.2.1.f 3
                        have HFIN := Lib.hid (And.intro (hR.2.1.putZ).1 (hR.2.2.trans ((hR.2.1.putZ).2.below (n := W0.heap.size) hR.2.2.size (by rintro k rfl; exact Nat.le_refl _))))
                        clear hR HRS HCC HTN HB5 HSZ hself hself0 x2 x3 z0
                        go_wp2
                        all_goals
                          refine noGoto_ret ?_
                          refine bodyPost_ret (results_sp rfl _ _ rfl HFIN.out.1) rfl ?_
                          rw [HEND.out]
                          exact ⟨rfl, HFIN.out.2⟩
                    | ok L =>
                      have HL := Lib.hid (HOL.out L HO.out)
                      have HEND : Hid (goD l D s _ = contK l D _ (8 - (hops + 1)) [] L rootPl) := HOV.out
                      clear HOV HO HER HOL
                      unfold TurnPost at HTN
                      dsimp only at HTN
                      go_wp2
                      go_region_held3 (fun w' => (w'.cell? ⟨qa, 0, none⟩ = some (.int .u32 (pd : Int)) ∧ w'.cell? ⟨qa, 1, none⟩ = some (.string pn) ∧ w'.cell? ⟨qa, 2, none⟩ = some (.int .u32 (pi : Int)) ∧ w'.cell? ⟨qa, 3, none⟩ = some (.slice ag gl cg)) ∧ w'.cell? ⟨qn, 2, none⟩ = some (.int .u32 (fv : Int)) ∧ w'.cell? ⟨b0, off0 + fv * 5 + 4, none⟩ = some (.string td)) (first | exact HCC.out _ hself | exact HCC.out _ hself0 | exact HCC.out _ HB5.out) (first | (go_at_call 80; (with_reducible refine Calls.mono (HTN.out _ hself) ?_); rintro e w5 ⟨a5, c5, rfl, hs5, hB5, hn5⟩; have HS5 := Lib.hid (And.intro hs5 hn5); have HB5 := Lib.hid (below_th hself hB5); clear hs5 hn5 hB5))
                      all_goals
                        clear HCC HTN hself hself0 x2 x3 z0
                        go_wp2_with (first
                          | (go_at_call 78; (with_reducible refine Calls.mono (HRT.out _) ?_); rintro e w6 ⟨rfl, hB6⟩; have hR := HRS.out _ (below_th HB5.out hB6); obtain ⟨r0, r1, r2, r3⟩ := hR.1.c; have f0 := hR.1.f 0; have f1 := hR.1.f 1; have f2 := hR.1.f 2; have f3 := hR.1.f 3; have HS6 := Lib.hid (And.intro hR (HS5.out.1.below hB6)); clear hR hB6))
                        all_goals
                          go_roundg ((8 - (hops + 1)) * 41 + L.length)
                          case measure =>
                            have m1 := HGO.out.2.2.2.2.2.2.2
                            have m2 := HL.out
                            rw [List.length_cons] at m1
                            omega
                          case rel =>
                            have m2 := HL.out
                            refine ⟨hops + 1, L, rootPl, by rw [HH1.out], ?_⟩
                            exact AlgI.root HS6.out.1.1 HS6.out.1.2.1 HS6.out.2 (fun r e => by have := HS5.out.2 r e; have := HSZ.out; have h0 : wc.drew.heap.size = wc.heap.size := rfl; omega) HS6.out.1.2.2 (by omega) (by omega) m2.1 m2.2.1 m2.2.2 HEND.out rfl
              · have HZ := Lib.hid hz
                by_cases hk3 : (nd l fv).kind = 3
                · obtain ⟨hX, hf⟩ : X' = [] ∧ f = false := Classical.not_not.1 (fun h => hlk ⟨hk3, h⟩)
                  subst hf
                  have HX := Lib.hid hX
                  have b1 : ((fv : Int) == 0) = false := by rw [beq_eq_false_iff_ne]; omega
                  have b2 : ((n' : Int) + 1 == 1) = true := by
                    have : X'.length = n' := HGO.out.2.2.2.2.2.2.1
                    have : n' = 0 := by rw [← this, hX]; rfl
                    rw [beq_iff_eq]; omega
                  have b3 : ((nd l fv).kind == 3) = true := by rw [hk3]; rfl
                  obtain ⟨kd, hkd⟩ : ∃ kd, (nd l fv).kind = kd := ⟨_, rfl⟩
                  rw [hkd] at z0 b3
                  clear hkd
                  clear hX hk3 hz hlk
                  have HOV : Hid (goD l D s false = contK l D false (8 - hops) (g ++ [s0]) X' ⟨pi, s0, fv⟩) := by
                    obtain ⟨hG, hDD, hhop, hnm, hk, hp0, hn', hms⟩ := HGO.out
                    have := hDD.trans (cont_on hp0 hk (by rw [HFV.out]; exact .inr (.inr ⟨HX.out, rfl⟩)))
                    rw [HFV.out] at this
                    exact this
                  have HON : Hid (X' = [] ∨ ¬ fv = 0) := .inl HX.out
                  obtain ⟨q0, q1, q2, q3⟩ := HMD.out.2.c
                  obtain ⟨a0, a1, a2, a3⟩ := HMD.out.1.was.c
                  have f0 := HMD.out.1.was.f 0
                  have f1 := HMD.out.1.was.f 1
                  have f2 := HMD.out.1.was.f 2
                  have f3 := HMD.out.1.was.f 3
                  have HGA := Lib.hid (HMD.out.1.go (by omega) (by omega) ⟨pi, s0, fv⟩)
                  have HBK := Lib.hid (And.intro HMD.out.1.blk HMD.out.1.base)
                  dsimp only at q0 q1 q2 q3 a0 a1 a2 a3 HGA
                  obtain ⟨gl, hgl2⟩ : ∃ gl, g.length = gl := ⟨_, rfl⟩
                  obtain ⟨gn, hgn⟩ : ∃ gn, (g ++ [s0]).length = gn := ⟨_, rfl⟩
                  rw [hgl2] at a3 hgl
                  rw [hgn] at q3 HGA
                  have HGN := Lib.hid hgn
                  have HGE := Lib.hid hgl2
                  clear hgl2 hgn HMD z1 z2 z3 z4
                  go_wp2
                  by_cases hcl : cl = 1
                  · go_region
                    all_goals
                      go_wp2
                      go_roundg ((8 - hops) * 41 + n')
                      case measure =>
                        have m1 := HGO.out.2.2.2.2.2.2.2
                        have m2 := HGO.out.2.2.2.2.2.2.1
                        rw [List.length_cons] at m1
                        omega
                      case rel =>
                        obtain ⟨hG, hDD, hhop, hnm, hk, hp0, hn', hms⟩ := HGO.out
                        obtain ⟨c1, c2, c3, c4, c5, c6⟩ := HGA.out
                        have c7 := HB9.out
                        refine ⟨hops, X', ⟨pi, s0, fv⟩, rfl, ⟨⟨_, g ++ [s0], B, c1, c2, c3, HBK.out.2.1, fun b off n cap e h0 => ?_, ?_, ?_, HOV.out⟩, c4, ?_, fun s hs => hnm s (.tail _ hs), HON.out, hhop, by rw [hn'], c6.drew⟩⟩
                        · cases e
                          exact HBK.out.1 _ _ _ _ rfl (Nat.succ_pos _)
                        · rw [List.length_append]
                          show g.length + 1 + X'.length ≤ 40
                          omega
                        · have h9 := hG.next hp0 s0
                          rw [HFV.out] at h9
                          exact h9
                        · have h9 := strs_tail c5 (some ⟨bl, ol, none⟩) (fun h => absurd h (by omega)) (fun h => by cases h)
                          rw [show cl - 1 = 0 by omega] at h9
                          exact h9
                  · go_region
                    all_goals
                      go_wp2
                      go_roundg ((8 - hops) * 41 + n')
                      case measure =>
                        have m1 := HGO.out.2.2.2.2.2.2.2
                        have m2 := HGO.out.2.2.2.2.2.2.1
                        rw [List.length_cons] at m1
                        omega
                      case rel =>
                        obtain ⟨hG, hDD, hhop, hnm, hk, hp0, hn', hms⟩ := HGO.out
                        obtain ⟨c1, c2, c3, c4, c5, c6⟩ := HGA.out
                        have c7 := HB9.out
                        refine ⟨hops, X', ⟨pi, s0, fv⟩, rfl, ⟨⟨_, g ++ [s0], B, c1, c2, c3, HBK.out.2.1, fun b off n cap e h0 => ?_, ?_, ?_, HOV.out⟩, c4, ?_, fun s hs => hnm s (.tail _ hs), HON.out, hhop, by rw [hn'], c6.drew⟩⟩
                        · cases e
                          exact HBK.out.1 _ _ _ _ rfl (Nat.succ_pos _)
                        · rw [List.length_append]
                          show g.length + 1 + X'.length ≤ 40
                          omega
                        · have h9 := hG.next hp0 s0
                          rw [HFV.out] at h9
                          exact h9
                        · exact strs_tail c5 (some ⟨bl, ol + 1, none⟩) (fun h => rfl) (fun h => by cases h)
                · have HK3 := Lib.hid hk3
                  have b1 : ((fv : Int) == 0) = false := by rw [beq_eq_false_iff_ne]; omega
                  have b3 : ((nd l fv).kind == 3) = false := by rw [beq_eq_false_iff_ne]; exact hk3
                  obtain ⟨kd, hkd⟩ : ∃ kd, (nd l fv).kind = kd := ⟨_, rfl⟩
                  rw [hkd] at z0 b3
                  clear hkd
                  clear hk3 hz hlk
                  have HOV : Hid (goD l D s f = contK l D f (8 - hops) (g ++ [s0]) X' ⟨pi, s0, fv⟩) := by
                    obtain ⟨hG, hDD, hhop, hnm, hk, hp0, hn', hms⟩ := HGO.out
                    have := hDD.trans (cont_on hp0 hk (by rw [HFV.out]; exact .inr (.inl HK3.out)))
                    rw [HFV.out] at this
                    exact this
                  have HON : Hid (X' = [] ∨ ¬ fv = 0) := .inr HZ.out
                  obtain ⟨q0, q1, q2, q3⟩ := HMD.out.2.c
                  obtain ⟨a0, a1, a2, a3⟩ := HMD.out.1.was.c
                  have f0 := HMD.out.1.was.f 0
                  have f1 := HMD.out.1.was.f 1
                  have f2 := HMD.out.1.was.f 2
                  have f3 := HMD.out.1.was.f 3
                  have HGA := Lib.hid (HMD.out.1.go (by omega) (by omega) ⟨pi, s0, fv⟩)
                  have HBK := Lib.hid (And.intro HMD.out.1.blk HMD.out.1.base)
                  dsimp only at q0 q1 q2 q3 a0 a1 a2 a3 HGA
                  obtain ⟨gl, hgl2⟩ : ∃ gl, g.length = gl := ⟨_, rfl⟩
                  obtain ⟨gn, hgn⟩ : ∃ gn, (g ++ [s0]).length = gn := ⟨_, rfl⟩
                  rw [hgl2] at a3 hgl
                  rw [hgn] at q3 HGA
                  have HGN := Lib.hid hgn
                  have HGE := Lib.hid hgl2
                  clear hgl2 hgn HMD z1 z2 z3 z4
                  go_wp2
                  by_cases hcl : cl = 1
                  · go_region
                    all_goals
                      go_wp2
                      go_roundg ((8 - hops) * 41 + n')
                      case measure =>
                        have m1 := HGO.out.2.2.2.2.2.2.2
                        have m2 := HGO.out.2.2.2.2.2.2.1
                        rw [List.length_cons] at m1
                        omega
                      case rel =>
                        obtain ⟨hG, hDD, hhop, hnm, hk, hp0, hn', hms⟩ := HGO.out
                        obtain ⟨c1, c2, c3, c4, c5, c6⟩ := HGA.out
                        have c7 := HB9.out
                        refine ⟨hops, X', ⟨pi, s0, fv⟩, rfl, ⟨⟨_, g ++ [s0], B, c1, c2, c3, HBK.out.2.1, fun b off n cap e h0 => ?_, ?_, ?_, HOV.out⟩, c4, ?_, fun s hs => hnm s (.tail _ hs), HON.out, hhop, by rw [hn'], c6.drew⟩⟩
                        · cases e
                          exact HBK.out.1 _ _ _ _ rfl (Nat.succ_pos _)
                        · rw [List.length_append]
                          show g.length + 1 + X'.length ≤ 40
                          omega
                        · have h9 := hG.next hp0 s0
                          rw [HFV.out] at h9
                          exact h9
                        · have h9 := strs_tail c5 (some ⟨bl, ol, none⟩) (fun h => absurd h (by omega)) (fun h => by cases h)
                          rw [show cl - 1 = 0 by omega] at h9
                          exact h9
                  · go_region
                    all_goals
                      go_wp2
                      go_roundg ((8 - hops) * 41 + n')
                      case measure =>
                        have m1 := HGO.out.2.2.2.2.2.2.2
                        have m2 := HGO.out.2.2.2.2.2.2.1
                        rw [List.length_cons] at m1
                        omega
                      case rel =>
                        obtain ⟨hG, hDD, hhop, hnm, hk, hp0, hn', hms⟩ := HGO.out
                        obtain ⟨c1, c2, c3, c4, c5, c6⟩ := HGA.out
                        have c7 := HB9.out
                        refine ⟨hops, X', ⟨pi, s0, fv⟩, rfl, ⟨⟨_, g ++ [s0], B, c1, c2, c3, HBK.out.2.1, fun b off n cap e h0 => ?_, ?_, ?_, HOV.out⟩, c4, ?_, fun s hs => hnm s (.tail _ hs), HON.out, hhop, by rw [hn'], c6.drew⟩⟩
                        · cases e
                          exact HBK.out.1 _ _ _ _ rfl (Nat.succ_pos _)
                        · rw [List.length_append]
                          show g.length + 1 + X'.length ≤ 40
                          omega
                        · have h9 := hG.next hp0 s0
                          rw [HFV.out] at h9
                          exact h9
                        · exact strs_tail c5 (some ⟨bl, ol + 1, none⟩) (fun h => rfl) (fun h => by cases h)
        · have HS := Lib.hid (fun W (hW : Below wr.heap.size wr W) => step_no (l := l) _ W (HNB.out W (below_th hbe hW)) p hpl g _ B (i2.below hW) s0 hk)
          unfold StepNo at HS
          have HEND : Hid (goD l D s f = .error 140) := i8.trans (cont_nodir hp0 hk)
          have HC : Hid (∀ W, Below wr.heap.size wr W → W.cell? ⟨qa, 0, none⟩ = some (.int .u32 (p.dir : Int)) ∧ W.cell? ⟨qa, 1, none⟩ = some (.string p.name) ∧ W.cell? ⟨qa, 2, none⟩ = some (.int .u32 (p.ino : Int)) ∧ W.cell? ⟨qa, 3, none⟩ = some (.slice ag g.length cg) ∧ W.cell? ⟨bl, ol, none⟩ = some (.string s0)) := fun W hW => by
            obtain ⟨x0, x1, x2, x3⟩ := (i1.th hW).c
            have x4 := (hW.cell (p := ⟨bl, ol + 0, none⟩) (World.block_lt_of_cell? _ _ cl0)).trans cl0
            exact ⟨x0, x1, x2, x3, x4⟩
          have HRB := Lib.hid (fun W (hW : Below wr.heap.size wr W) => And.intro (hRES.th hW) (below_th hbe hW))
          rw [hn1]
          rw [hn1] at cl1
          obtain ⟨n', hn'⟩ : ∃ n', X'.length = n' := ⟨_, rfl⟩
          rw [hn'] at cl1 hgl ⊢
          have hself : Below wr.heap.size wr wr.drew := (Below.refl _ wr).drew
          have hselfA : Below wr.heap.size wr (wr.alloc spZ).drew := (below_new wr spZ).drew
          have hselfB : Below wr.heap.size wr (wr.drew.alloc spZ) := below_al hself spZ
          unfold spZ at hselfA hselfB
          unfold spV spZV at HS
          obtain ⟨pd, pn, pi⟩ := p
          dsimp only at HS HC
          clear HI i1 i2 i3 i4 i5 i6 i7 i8 hleft cl0 hn1 hbe hRES hnqa hnqr hn' hk
          obtain ⟨gl, hgl2⟩ : ∃ gl, g.length = gl := ⟨_, rfl⟩
          rw [hgl2] at HS HC hgl
          clear hgl2
          have HBOX : Hid (∀ W W2, Below W.heap.size W W2 → W.heap[wr.heap.size]? = some (.cells #[.int .u32 0, .string ⟨#[]⟩, .int .u32 0, .slice none 0 0] 57 (0, 0)) → SpAt W2 wr.heap.size zPl (.slice none 0 0)) := fun W W2 h1 h2 => SpAt.th (show SpAt W wr.heap.size zPl (.slice none 0 0) from h2) h1
          have hnA : ((wr.alloc (.cells #[.int .u32 0, .string ⟨#[]⟩, .int .u32 0, .slice none 0 0] 57)).drew).heap[wr.heap.size]? = some (.cells #[.int .u32 0, .string ⟨#[]⟩, .int .u32 0, .slice none 0 0] 57 (0, 0)) := World.alloc_heap_new wr _
          have hnB : ((wr.drew).alloc (.cells #[.int .u32 0, .string ⟨#[]⟩, .int .u32 0, .slice none 0 0] 57)).heap[wr.heap.size]? = some (.cells #[.int .u32 0, .string ⟨#[]⟩, .int .u32 0, .slice none 0 0] 57 (0, 0)) := World.alloc_heap_new wr.drew _
          go_wp2
          go_region_held3 (fun w' => w'.cell? ⟨qa, 0, none⟩ = some (.int .u32 (pd : Int)) ∧ w'.cell? ⟨qa, 1, none⟩ = some (.string pn) ∧ w'.cell? ⟨qa, 2, none⟩ = some (.int .u32 (pi : Int)) ∧ w'.cell? ⟨qa, 3, none⟩ = some (.slice ag gl cg) ∧ w'.cell? ⟨bl, ol, none⟩ = some (.string s0)) (first | exact HC.out _ hself | exact HC.out _ hselfA | exact HC.out _ hselfB | exact HC.out _ (by assumption) | exact HC.out _ (below_al (by assumption) _) | exact HC.out _ (below_set4 (by assumption) (Nat.le_refl _) _ _ _ _) | exact HC.out _ (below_set4 (below_al (by assumption) _) (Below.size (by assumption)) _ _ _ _)) (first
            | (go_at_call 79; (with_reducible refine Calls.mono (HS.out _ hself) ?_); rintro e w2 ⟨rfl, hB2⟩; have hb2 := below_th hself hB2)
            | (go_at_call 79; (with_reducible refine Calls.mono (HS.out _ hselfA) ?_); rintro e w2 ⟨rfl, hB2⟩; have hb2 := below_th hselfA hB2; have HX2 := HBOX.out _ _ hB2 hnA; obtain ⟨y0, y1, y2, y3⟩ := HX2.cZ; have e0 := HX2.f 0; have e1 := HX2.f 1; have e2 := HX2.f 2; have e3 := HX2.f 3)
            | (go_at_call 79; (with_reducible refine Calls.mono (HS.out _ hselfB) ?_); rintro e w2 ⟨rfl, hB2⟩; have hb2 := below_th hselfB hB2; have HX2 := HBOX.out _ _ hB2 hnB; obtain ⟨y0, y1, y2, y3⟩ := HX2.cZ; have e0 := HX2.f 0; have e1 := HX2.f 1; have e2 := HX2.f 2; have e3 := HX2.f 3))
          all_goals
            first
            | refine letter (P := fun W => SpAt W W0.heap.size zPl (.slice none 0 0) ∧ Below W0.heap.size W0 W) (HRB.out _ (below_set4 (b := wr.heap.size) hb2 (Nat.le_refl _) (.int .u32 0) (.string ⟨#[]⟩) (.int .u32 0) (.slice none 0 0))) (fun WF HRF => ?_)
            | refine letter (P := fun W => SpAt W W0.heap.size zPl (.slice none 0 0) ∧ Below W0.heap.size W0 W) (HRB.out _ (below_al hb2 _)) (fun WF HRF => ?_)
            obtain ⟨q0, q1, q2, q3⟩ := HRF.1.cZ
            have g0 := HRF.1.f 0
            have g1 := HRF.1.f 1
            have g2 := HRF.1.f 2
            have g3 := HRF.1.f 3
            have HFIN := Lib.hid (And.intro (HRF.1.putZ).1 (HRF.2.trans ((HRF.1.putZ).2.below (n := W0.heap.size) HRF.2.size (by rintro k rfl; exact Nat.le_refl _))))
            clear HRF HBOX HRB HC HS HST HNB hb2 hB2 hself hselfA hselfB hnA hnB hpl hp0
            go_wp2
            refine noGoto_ret ?_
            refine bodyPost_ret (results_sp rfl _ _ rfl HFIN.out.1) rfl ?_
            rw [HEND.out]
            exact ⟨rfl, HFIN.out.2⟩
end
end Go.Proofs.YtkipkcmcolomcaaGreat.Pln
