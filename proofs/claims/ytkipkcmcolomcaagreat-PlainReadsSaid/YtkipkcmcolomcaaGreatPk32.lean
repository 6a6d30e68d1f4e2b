/- Several texts in one, each under its own heading. -/
import Derived.Test.YtkipkcmcolomcaaGreatPk31
import Derived.Test.YtkipkcmcolomcaaGreatPk27
import Derived.Test.YtkipkcmcolomcaaGreatPk23
import Derived.Test.YtkipkcmcolomcaaGreatPk08
/- link: another name for a file. -/
namespace Go.Proofs.YtkipkcmcolomcaaGreat.Pln
open Go.RowKit
open Dir (N nm DirP DirO findV findE findVo findEo addE addV dropV setE setV addEo addVo dropVo setEo setVo bytesL)
open Pth (Strs)
attribute [local go_sem] Oper.semAt_some
set_option linter.unusedVariables false
set_option linter.unusedSimpArgs false
/-- what a call's own work comes to -/
def MtPost (base q g cap now : Nat) (o : Except Int (List Nd)) (w : World) (e : Ending) (w' : World) : Prop := match o with
  | .error n => e = .returned (.int .i64 n) ∧ Only (fun i => i = g) w w'
  | .ok m => e = .returned (.int .i64 0) ∧ WkAt w' base q g cap m now ∧ Only (fun i => i = g) w w'
def linksO (l : List Nd) (D : List (List N)) (x : Nat) (s : ByteArray) (now : Nat) : Except Int (List Nd) := match goD l D s false with
  | .error e => .error e
  | .ok r => if ¬ r.ino = 0 then .error 113 else if 1000 ≤ (nd l x).links then .error 146 else if ¬ addE (ds D r.dir) r.name x = 0 then .error (addE (ds D r.dir) r.name x)
    else .ok ((l.set x ⟨(nd l x).kind, (nd l x).mode, (nd l x).links + 1, now, (nd l x).data⟩).set r.dir (dirN (nd l r.dir) (bytesL (ds D r.dir ++ [⟨r.name, x⟩])) now))
section
set_option maxRecDepth 100000
set_option maxHeartbeats 4000000
theorem link_call {l : List Nd} {D : List (List N)} (hR : RightD l D) (w : World) (base q g cap now x : Nat) (s : ByteArray) (h : WkAt w base q g cap l now) (hx : x < l.length) (hk : ¬ (nd l x).kind = 2) (hs : s.size ≤ 281474976710656) (hlk : (nd l x).links ≤ 1000) :
    Calls Tryz.prog 57 #[.pointer (some ⟨q, 0, none⟩), .int .u32 (x : Int), .string s] w (MtPost base q g cap now (linksO l D x s now) w) := by
  have HAL := Lib.hid (along_any hR _ w h.nodes s hs false)
  have kc := h.c.1
  obtain ⟨hc1, hc2⟩ := h.cap
  have hgw := h.g.2.1
  have hlo := hR.low
  have hhi := hR.high
  unfold linksO
  cases hg : goD l D s false with
  | error n =>
    have hn0 : (n != 0) = true := by simpa using goD_err hg
    rw [hg] at HAL
    dsimp only
    unfold MtPost
    dsimp only
    unfold AlgPost spZV at HAL
    dsimp only at HAL
    have HN := Lib.hid (fun W (hB : Below w.heap.size w W) => Only.of_below (S := fun i => i = g) (below_al hB spZ))
    unfold spZ at HN
    clear h hg
    go_enter Tryz.func57, Tryz.ntmps57
    go_wp2_with (go_at_call 43; (with_reducible refine Calls.mono HAL.out ?_); rintro e w1 ⟨rfl, hB1⟩)
    go_ret
    exact ⟨rfl, HN.out _ hB1⟩
  | ok r =>
    rw [hg] at HAL
    dsimp only
    unfold AlgPost at HAL
    dsimp only at HAL
    by_cases h0 : r.ino = 0
    · rw [if_neg (fun e => e h0)]
      have hpl := goD_place hR.root.1 hg
      have hdk := none_dir hR hpl h0
      have hdl : r.dir < l.length := Classical.byContradiction fun e => by rw [nd_out (by omega)] at hdk; exact absurd hdk (by decide)
      have hnm : r.name.size ≤ 281474976710656 := by
        rcases hpl.1 with e | e
        · rw [e] at h0; exact absurd h0 (by decide)
        · have := e.2.1.2.1; omega
      have hD : DirO (nd l r.dir).data (some (ds D r.dir)) := hR.dir r.dir hdl hdk
      have hds : (nd l r.dir).data.size ≤ 281474976710656 := by have := hD.2.2; omega
      have hxd : ¬ x = r.dir := fun e => hk (by rw [e]; exact hdk)
      have hne : ((r.ino : Int) != 0) = false := by simp [h0]
      have HN : Hid (∀ W gv, Below w.heap.size w W → Only (fun i => i = g) w (W.alloc (spO r gv)) ∧ (W.alloc (spO r gv)).cell? ⟨W.heap.size, 2, none⟩ = some (.int .u32 r.ino) ∧ (W.alloc (spO r gv)).cell? ⟨q, 0, none⟩ = some (.slice (some ⟨g, 0, none⟩) l.length cap) ∧ (W.alloc (spO r gv)).cell? ⟨g, x * 5 + 2, none⟩ = some (.int .u16 (nd l x).links)) := fun W gv hB => by
        have hB2 := below_al hB (spO r gv)
        exact ⟨Only.of_below hB2, (SpAt.new W r gv).c.2.2.1, (h.th hB2).c.1, ((h.th hB2).at hx).2.2.1⟩
      by_cases hL : 1000 ≤ (nd l x).links
      · rw [if_pos hL]
        have hl1 : (((nd l x).links : Int) == 1000) = true := by simp; omega
        unfold MtPost
        dsimp only
        unfold spO at HN
        unfold spV at HAL
        generalize (nd l x).links = lk at *
        clear h hg hpl hD hds hxd hnm hdk hdl h0
        obtain ⟨pd, pn, pi⟩ := r
        dsimp only at *
        go_enter Tryz.func57, Tryz.ntmps57
        go_wp2_with (go_at_call 43; (with_reducible refine Calls.mono HAL.out ?_); rintro e w1 ⟨a, c, gg, rfl, hS, hG, hB1⟩; obtain ⟨hO, s2, kc, kl⟩ := HN.out w1 (.slice a gg.length c) hB1)
        go_ret
        exact ⟨rfl, hO⟩
      · rw [if_neg hL]
        have hl1 : (((nd l x).links : Int) == 1000) = false := by simp; omega
        have HCH := Lib.hid (fun W (hW : WkAt W base q g cap l now) => change_any 98 enters_link1 #[] _ W base q g cap x now l _ hW hx hhi (link1_any W base q g cap x now l hW hx (by omega)))
        have e2 : nd (l.set x (⟨(nd l x).kind, (nd l x).mode, (nd l x).links + 1, now, (nd l x).data⟩ : Nd)) r.dir = nd l r.dir := by rw [nd_set hx, if_neg (fun e => hxd e.symm)]
        have HPU := Lib.hid (fun W gv (hW : WkAt W base q g cap (l.set x (⟨(nd l x).kind, (nd l x).mode, (nd l x).links + 1, now, (nd l x).data⟩ : Nd)) now) => put_call W base q g cap now x r gv _ (ds D r.dir) hW (by rw [List.length_set]; exact hdl) (by rw [List.length_set]; exact hhi) hnm (by rw [e2]; exact hds) (by omega) (by rw [e2]; exact hD))
        rw [e2] at HPU
        have HW : Hid (∀ W gv, Below w.heap.size w W → WkAt (W.alloc (spO r gv)) base q g cap l now) := fun W gv hB => h.th (below_al hB _)
        have HS2 : Hid (∀ W gv w3 w4, Below w.heap.size w W → Only (fun i => i = g) (W.alloc (spO r gv)) w3 → Only (fun i => i = g) w3 w4 → SpAt w4 W.heap.size r gv ∧ Only (fun i => i = g) w w4) := fun W gv w3 w4 hB h1 h2 => by
          have hs := hB.size
          have h3 := h1.trans h2
          exact ⟨(SpAt.new W r gv).of_heap (h3.block _ (by rw [World.size_alloc]; omega) (by omega)), (Only.of_below (below_al hB _)).trans h3⟩
        have hadd : addE (ds D r.dir) r.name x = 0 → addV (ds D r.dir) r.name x = bytesL (ds D r.dir ++ [⟨r.name, x⟩]) := fun e => if_pos e
        have HM : Hid (∀ w2 w5, Only (fun i => i = g) w w2 → WkPost base q g cap ((l.set x (⟨(nd l x).kind, (nd l x).mode, (nd l x).links + 1, now, (nd l x).data⟩ : Nd)).set r.dir (dirN (nd l r.dir) (addV (ds D r.dir) r.name x) now)) now (.int .i64 (addE (ds D r.dir) r.name x)) w2 (.returned (.int .i64 (addE (ds D r.dir) r.name x))) w5 →
            MtPost base q g cap now (if ¬ addE (ds D r.dir) r.name x = 0 then .error (addE (ds D r.dir) r.name x)
              else .ok ((l.set x ⟨(nd l x).kind, (nd l x).mode, (nd l x).links + 1, now, (nd l x).data⟩).set r.dir (dirN (nd l r.dir) (bytesL (ds D r.dir ++ [⟨r.name, x⟩])) now))) w (.returned (.int .i64 (addE (ds D r.dir) r.name x))) w5) := fun w2 w5 h1 h2 => by
          by_cases he : addE (ds D r.dir) r.name x = 0
          · rw [if_neg (fun e => e he)]
            rw [hadd he] at h2
            exact ⟨by rw [he], h2.2.1, h1.trans h2.2.2⟩
          · rw [if_pos he]
            exact ⟨rfl, h1.trans h2.2.2⟩
        have HPU2 : Hid (∀ W gv, WkAt W base q g cap (l.set x (⟨(nd l x).kind, (nd l x).mode, (nd l x).links + 1, now, (nd l x).data⟩ : Nd)) now → Only (fun i => i = g) w W → Calls Tryz.prog 88 #[.pointer (some ⟨q, 0, none⟩), spV r gv, .int .u32 (x : Int)] W (fun e w5 => e = .returned (.int .i64 (addE (ds D r.dir) r.name x)) ∧ MtPost base q g cap now (if ¬ addE (ds D r.dir) r.name x = 0 then .error (addE (ds D r.dir) r.name x)
              else .ok ((l.set x ⟨(nd l x).kind, (nd l x).mode, (nd l x).links + 1, now, (nd l x).data⟩).set r.dir (dirN (nd l r.dir) (bytesL (ds D r.dir ++ [⟨r.name, x⟩])) now))) w (.returned (.int .i64 (addE (ds D r.dir) r.name x))) w5)) := fun W gv h1 h2 =>
          Calls.mono (HPU.out W gv h1) (fun e w5 h3 => by
            have h4 := h3
            obtain ⟨rfl, _⟩ := h3
            exact ⟨rfl, HM.out _ _ h2 h4⟩)
        unfold SpAt at HS2
        generalize MtPost base q g cap now (if ¬ addE (ds D r.dir) r.name x = 0 then .error (addE (ds D r.dir) r.name x)
              else .ok ((l.set x ⟨(nd l x).kind, (nd l x).mode, (nd l x).links + 1, now, (nd l x).data⟩).set r.dir (dirN (nd l r.dir) (bytesL (ds D r.dir ++ [⟨r.name, x⟩])) now))) w = PP at *
        clear HM HPU hadd e2
        generalize addE (ds D r.dir) r.name x = ee at *
        unfold spO at HN HW HS2
        unfold spV at HAL HPU2
        unfold WkPost at HCH
        clear h hg hpl hD hds hxd hnm hdk hdl h0
        generalize hm2 : l.set x (⟨(nd l x).kind, (nd l x).mode, (nd l x).links + 1, now, (nd l x).data⟩ : Nd) = m2 at *
        clear hm2
        generalize (nd l x).links = lk at *
        obtain ⟨pd, pn, pi⟩ := r
        dsimp only at *
        go_enter Tryz.func57, Tryz.ntmps57
        go_wp2_with (first
          | (go_at_call 43; (with_reducible refine Calls.mono HAL.out ?_); rintro e w1 ⟨a, c, gg, rfl, hS, hG, hB1⟩; obtain ⟨hO, s2, kc, kl⟩ := HN.out w1 (.slice a gg.length c) hB1)
          | (go_at_call 89; (with_reducible refine Calls.mono (HCH.out _ (HW.out w1 _ hB1)) ?_); rintro e w4 ⟨rfl, w3, hO3, hK4, hO4⟩; obtain ⟨hs2, hO5⟩ := HS2.out w1 _ w3 w4 hB1 hO3 hO4; obtain ⟨q0, q1, q2, q3⟩ := SpAt.c (p := ⟨pd, pn, pi⟩) hs2; dsimp only at q0 q1 q2 q3; clear hs2)
          | (go_at_call 88; (with_reducible refine Calls.mono (HPU2.out _ _ hK4 hO5) ?_); rintro e w5 ⟨rfl, hPP⟩))
        exact hPP
    · rw [if_pos h0]
      unfold MtPost
      dsimp only
      have HN := Lib.hid (fun W gv (hB : Below w.heap.size w W) => And.intro (Only.of_below (S := fun i => i = g) (below_al hB (spO r gv))) (SpAt.new W r gv).c)
      have hne : ((r.ino : Int) != 0) = true := by simpa using h0
      unfold spO at HN
      unfold spV at HAL
      clear h hg
      obtain ⟨pd, pn, pi⟩ := r
      dsimp only at *
      go_enter Tryz.func57, Tryz.ntmps57
      go_wp2_with (go_at_call 43; (with_reducible refine Calls.mono HAL.out ?_); rintro e w1 ⟨a, c, gg, rfl, hS, hG, hB1⟩; obtain ⟨hO, s0, s1, s2, s3⟩ := HN.out w1 (.slice a gg.length c) hB1)
      go_ret
      exact ⟨rfl, hO⟩
end
end Go.Proofs.YtkipkcmcolomcaaGreat.Pln
/- rename: a name moves. -/
namespace Go.Proofs.YtkipkcmcolomcaaGreat.Pln
open Go.RowKit
open Dir (N nm DirP DirO findV findE findVo findEo addE addV dropV setE setV addEo addVo dropVo setEo setVo bytesL)
open Pth (Strs withinB)
attribute [local go_sem] Oper.semAt_some
set_option linter.unusedVariables false
set_option linter.unusedSimpArgs false
noncomputable def renO (l : List Nd) (D : List (List N)) (p : Pl) (s : ByteArray) (now : Nat) : Except Int (List Nd) := if p.dir = 0 then .error 2
  else match goD l D s false with
  | .error e => .error e
  | .ok r => if r.dir = 0 then .error 113 else if p.ino = r.ino then .ok l else if (nd l p.ino).kind = 2 ∧ jof D p.ino r.dir = true then .error 147
    else if r.ino = 0 then match moveD l D p r now with
      | .error e => .error e
      | .ok (m, _) => .ok m
    else if ¬ takenE (nd l p.ino) (nd l r.ino) = 0 then .error (takenE (nd l p.ino) (nd l r.ino))
    else .ok (takeD l D p r now).1
/-- a place's number is the root's where its directory is none -/
theorem root_ino {l : List Nd} {D : List (List N)} (hR : RightD l D) {f : Bool} {p : Pl} (hp : placeP l D f p) : p.ino = 2 ↔ p.dir = 0 := by
  rcases hp.1 with e | ⟨e1, e2, e3⟩
  · rw [e]; exact ⟨fun _ => rfl, fun _ => rfl⟩
  · constructor
    · intro h
      obtain ⟨h1, h2, _⟩ := findV_mem e3 (by omega)
      have := (hR.named (Dir.nm_mem h1)).1
      rw [h2] at this
      omega
    · intro h
      rw [h] at e1
      rw [hR.z0] at e1
      exact absurd e1 (by decide)
section
set_option maxRecDepth 100000
set_option maxHeartbeats 4000000
theorem rename_root (w : World) (q base g cap now : Nat) (p : Pl) (gv : Value) (s : ByteArray) (hp : p.ino = 2) :
    Calls Tryz.prog 56 #[.pointer (some ⟨q, 0, none⟩), spV p gv, .string s] w (fun e w' => e = .returned (.int .i64 2) ∧ Only (fun i => i = g) w w') := by
  have hB := below_new w (spO p gv)
  obtain ⟨q0, q1, q2, q3⟩ := (SpAt.new w p gv).c
  rw [hp] at q2
  have HB := Lib.hid (Only.of_below (S := fun i => i = g) hB)
  unfold spO at HB q0 q1 q2 q3
  unfold spV
  obtain ⟨pd, pn, pi⟩ := p
  dsimp only at hp HB q0 q1 q2 q3 ⊢
  rw [hp] at HB q0 q1 q2 q3 ⊢
  clear hB
  go_enter Tryz.func56, Tryz.ntmps56
  go_wp2_with (fail)
  go_ret
  exact ⟨rfl, HB.out⟩
theorem rename_no {l : List Nd} {D : List (List N)} (hR : RightD l D) (w : World) (q base g cap now : Nat) (p : Pl) (gv : Value) (s : ByteArray) (h : WkAt w base q g cap l now) (hs : s.size ≤ 281474976710656) (hp : ¬ p.ino = 2) (n : Int) (hg : goD l D s false = .error n) :
    Calls Tryz.prog 56 #[.pointer (some ⟨q, 0, none⟩), spV p gv, .string s] w (fun e w' => e = .returned (.int .i64 n) ∧ Only (fun i => i = g) w w') := by
  have hB := below_new w (spO p gv)
  have hK := h.th hB
  have HAL := Lib.hid (along_any hR _ _ hK.nodes s hs false)
  rw [hg] at HAL
  have hn0 : (n != 0) = true := by simpa using goD_err hg
  obtain ⟨q0, q1, q2, q3⟩ := (SpAt.new w p gv).c
  have kc := hK.c.1
  have hp1 : ((p.ino : Int) == 2) = false := by simp; omega
  have HN := Lib.hid (fun W (h1 : Below (w.alloc (spO p gv)).heap.size (w.alloc (spO p gv)) W) => Only.of_below (S := fun i => i = g) (below_al (below_th hB h1) spZ))
  unfold AlgPost spZV at HAL
  unfold spO at HAL HN q0 q1 q2 q3 kc
  unfold spZ at HN
  unfold spV
  clear hB h hK hg
  obtain ⟨pd, pn, pi⟩ := p
  dsimp only at *
  go_enter Tryz.func56, Tryz.ntmps56
  go_wp2_with (go_at_call 43; (with_reducible refine Calls.mono HAL.out ?_); rintro e w1 ⟨rfl, hB1⟩)
  go_ret
  exact ⟨rfl, HN.out _ hB1⟩
theorem rename_call {l : List Nd} {D : List (List N)} (hR : RightD l D) (w : World) (base q g cap now : Nat) (p : Pl) (gv : Value) (gp : List ByteArray) (s : ByteArray) (h : WkAt w base q g cap l now) {f : Bool} (hpp : placeP l D f p) (hp0 : ¬ p.ino = 0) (hgp : Gone D gp p) (hgs : Strs w gv gp) (hs : s.size ≤ 281474976710656) :
    Calls Tryz.prog 56 #[.pointer (some ⟨q, 0, none⟩), spV p gv, .string s] w (MtPost base q g cap now (renO l D p s now) w) := by
  have hroot := root_ino hR hpp
  unfold renO
  by_cases hd : p.dir = 0
  · rw [if_pos hd]
    exact rename_root w q base g cap now p gv s (hroot.2 hd)
  rw [if_neg hd]
  have hp2 : ¬ p.ino = 2 := fun e => hd (hroot.1 e)
  cases hg : goD l D s false with
  | error n => exact rename_no hR w q base g cap now p gv s h hs hp2 n hg
  | ok r =>
  dsimp only
  have hrp := goD_place hR.root.1 hg
  have hrr := root_ino hR hrp
  obtain ⟨hpz, hp3, hpl⟩ := place_big hR hpp hp0
  obtain ⟨f0, f1, f2, f3⟩ := place_named hpp hp0 hd
  have hB := below_new w (spO p gv)
  have hK := h.th hB
  have HAL := Lib.hid (along_any hR _ _ hK.nodes s hs false)
  rw [hg] at HAL
  obtain ⟨q0, q1, q2, q3⟩ := (SpAt.new w p gv).c
  have kc := hK.c.1
  have hgw := h.g.2.1
  have hp1 : ((p.ino : Int) == 2) = false := by simp; omega
  -- both places, in their boxes, wherever the walk stands
  have HN : Hid (∀ W gq W3 W4, Below (w.alloc (spO p gv)).heap.size (w.alloc (spO p gv)) W → Below (W.alloc (spO r gq)).heap.size (W.alloc (spO r gq)) W3 → Only (fun i => i = g) W3 W4 →
      SpAt W4 w.heap.size p gv ∧ SpAt W4 W.heap.size r gq ∧ Only (fun i => i = g) w W4) := fun W gq W3 W4 b1 b2 b3 => by
    have s1 := b1.size
    rw [World.size_alloc] at s1
    have a1 := (((SpAt.new w p gv).th b1).th (below_new W (spO r gq))).th b2
    have a2 := (SpAt.new W r gq).th b2
    exact ⟨a1.of_heap (b3.block _ a1.lt (by omega)), a2.of_heap (b3.block _ a2.lt (by omega)), (Only.of_below (below_th (below_al (below_th hB b1) _) b2)).trans b3⟩
  unfold AlgPost at HAL
  dsimp only at HAL
  by_cases hrd : r.dir = 0
  · rw [if_pos hrd]
    have hr2 : ((r.ino : Int) == 2) = true := by simp [hrr.2 hrd]
    unfold MtPost
    dsimp only
    unfold spO SpAt at HN
    unfold spO at HAL q0 q1 q2 q3 kc
    unfold spV at HAL ⊢
    clear hB h hK hg hrp hrr hroot hpp hgp f0 f1 f2 f3 hd hgs hrd
    obtain ⟨pd, pn, pi⟩ := p
    obtain ⟨rd, rn, ri⟩ := r
    dsimp only at *
    go_enter Tryz.func56, Tryz.ntmps56
    go_wp2_with (go_at_call 43; (with_reducible refine Calls.mono HAL.out ?_); rintro e w1 ⟨a, c, gg, rfl, hS, hG, hB1⟩; obtain ⟨hs1, hs2, hO⟩ := HN.out w1 (.slice a gg.length c) _ _ hB1 (Below.refl _ _) (Only.refl _ _); obtain ⟨p0, p1, p2, p3⟩ := SpAt.c (p := ⟨pd, pn, pi⟩) hs1; obtain ⟨r0, r1, r2, r3⟩ := SpAt.c (p := ⟨rd, rn, ri⟩) hs2; dsimp only at p0 p1 p2 p3 r0 r1 r2 r3; have HO := Lib.hid hO; clear hO hs1 hs2)
    go_ret
    exact ⟨rfl, HO.out⟩
  · rw [if_neg hrd]
    have hr2 : ((r.ino : Int) == 2) = false := by
      have : ¬ r.ino = 2 := fun e => hrd (hrr.1 e)
      simp; omega
    have hrnr : ¬ r = rootPl := fun e => hrd (by rw [e]; rfl)
    have hrk : (nd l r.dir).kind = 2 := by
      rcases hrp.1 with e | e
      · exact absurd e hrnr
      · exact e.1
    have hrnm : r.name.size ≤ 281474976710656 := by
      rcases hrp.1 with e | e
      · exact absurd e hrnr
      · have := e.2.1.2.1; omega
    have hrl : r.dir < l.length := (hR.big (zero_kind (n := nd l r.dir) (by rw [hrk]; decide))).2
    have hril : r.ino < l.length := by
      by_cases e : r.ino = 0
      · rw [e]; have := hR.low; omega
      · exact (place_big hR hrp e).2.2
    have hhi := hR.high
    have HW3 : Hid (∀ W gq W3, Below (w.alloc (spO p gv)).heap.size (w.alloc (spO p gv)) W → Below (W.alloc (spO r gq)).heap.size (W.alloc (spO r gq)) W3 → WkAt W3 base q g cap l now) := fun W gq W3 b1 b2 => ((hK.th b1).th (below_new W (spO r gq))).th b2
    by_cases hsm : p.ino = r.ino
    · rw [if_pos hsm]
      have hE : ((r.ino : Int) == (p.ino : Int)) = true := by simp [hsm]
      unfold MtPost
      dsimp only
      unfold spO SpAt at HN
      unfold spO at HAL q0 q1 q2 q3 kc HW3
      unfold spV at HAL ⊢
      clear hB h hK hg hrp hrr hroot hpp hgp f0 f1 f2 f3 hd hgs hrd hsm hrnr hrk hrnm hrl hril hpl hp3 hpz
      obtain ⟨pd, pn, pi⟩ := p
      obtain ⟨rd, rn, ri⟩ := r
      dsimp only at *
      go_enter Tryz.func56, Tryz.ntmps56
      go_wp2_with (go_at_call 43; (with_reducible refine Calls.mono HAL.out ?_); rintro e w1 ⟨a, c, gg, rfl, hS, hG, hB1⟩; obtain ⟨hs1, hs2, hO⟩ := HN.out w1 (.slice a gg.length c) _ _ hB1 (Below.refl _ _) (Only.refl _ _); obtain ⟨p0, p1, p2, p3⟩ := SpAt.c (p := ⟨pd, pn, pi⟩) hs1; obtain ⟨r0, r1, r2, r3⟩ := SpAt.c (p := ⟨rd, rn, ri⟩) hs2; dsimp only at p0 p1 p2 p3 r0 r1 r2 r3; have HO := Lib.hid hO; clear hO hs1 hs2)
      go_ret
      exact ⟨rfl, HW3.out w1 _ _ hB1 (Below.refl _ _), HO.out⟩
    rw [if_neg hsm]
    have hE : ((r.ino : Int) == (p.ino : Int)) = false := by
      have : ¬ (r.ino : Int) = p.ino := by omega
      simpa using this
    have HMV : Hid (∀ W gq gg, Below (w.alloc (spO p gv)).heap.size (w.alloc (spO p gv)) W → Strs W gq gg → Gone D gg r → Calls Tryz.prog 96 #[.pointer (some ⟨q, 0, none⟩), spV p gv, spV r gq] (W.alloc (spO r gq)) (Ans (W.alloc (spO r gq)) (.int .i64 (movesE (nd l p.ino) (nd l r.ino) r.ino (jof D p.ino r.dir))))) := fun W gq gg b1 b2 b3 => by
      have hww : withinB gp gg = jof D p.ino r.dir := by
        have i1 := within_is hR hgp b3 hp0 hrnr hrk hsm
        have i2 := jof_is D p.ino r.dir
        cases hx : withinB gp gg with
        | true => exact (i2.2 (i1.1 hx)).symm
        | false =>
          cases hy : jof D p.ino r.dir with
          | false => rfl
          | true => rw [i1.2 (i2.1 hy)] at hx; cases hx
      rw [← hww]
      exact moves_any _ base q g cap now p r gv gq gp gg l ((hK.th b1).th (below_new W (spO r gq))) hhi hpl hril (((hgs.below hB).below b1).below (below_new W (spO r gq))) (b2.below (below_new W (spO r gq)))
    unfold Ans at HMV
    obtain ⟨mE, hmE⟩ : ∃ mE, movesE (nd l p.ino) (nd l r.ino) r.ino (jof D p.ino r.dir) = mE := ⟨_, rfl⟩
    rw [hmE] at HMV
    by_cases hm0 : mE = 0
    case neg =>
      have hRes : (if (nd l p.ino).kind = 2 ∧ jof D p.ino r.dir = true then Except.error 147
          else if r.ino = 0 then match moveD l D p r now with
            | .error e => .error e
            | .ok (m, _) => .ok m
          else if ¬ takenE (nd l p.ino) (nd l r.ino) = 0 then .error (takenE (nd l p.ino) (nd l r.ino))
          else .ok (takeD l D p r now).1 : Except Int (List Nd)) = .error mE := by
        unfold movesE at hmE
        by_cases z1 : (nd l p.ino).kind = 2 ∧ jof D p.ino r.dir = true
        · rw [if_pos z1] at hmE ⊢; rw [hmE]
        · rw [if_neg z1] at hmE ⊢
          by_cases z2 : r.ino = 0
          · rw [if_pos z2] at hmE; exact absurd hmE.symm hm0
          · rw [if_neg z2] at hmE ⊢
            rw [hmE, if_pos hm0]
      rw [hRes]
      unfold MtPost
      dsimp only
      have hne : (mE != 0) = true := by simpa using hm0
      unfold spO SpAt at HN
      unfold spO at HAL q0 q1 q2 q3 kc HW3 HMV
      unfold spV at HAL HMV ⊢
      clear hB h hK hg hrp hrr hroot hpp hgp f0 f1 f2 f3 hd hgs hrd hsm hrnr hrk hrnm hrl hril hpl hp3 hpz hRes hmE hm0
      obtain ⟨pd, pn, pi⟩ := p
      obtain ⟨rd, rn, ri⟩ := r
      dsimp only at *
      go_enter Tryz.func56, Tryz.ntmps56
      go_wp2_with (first
        | (go_at_call 43; (with_reducible refine Calls.mono HAL.out ?_); rintro e w1 ⟨a, c, gg, rfl, hS, hG, hB1⟩; obtain ⟨hs1, hs2, hO⟩ := HN.out w1 (.slice a gg.length c) _ _ hB1 (Below.refl _ _) (Only.refl _ _); obtain ⟨p0, p1, p2, p3⟩ := SpAt.c (p := ⟨pd, pn, pi⟩) hs1; obtain ⟨r0, r1, r2, r3⟩ := SpAt.c (p := ⟨rd, rn, ri⟩) hs2; dsimp only at p0 p1 p2 p3 r0 r1 r2 r3; have HO := Lib.hid hO; clear hO hs1 hs2)
        | (go_at_call 96; (with_reducible refine Calls.mono (HMV.out w1 (.slice a gg.length c) gg hB1 (hS.elim fun _ h => h.strs) hG) ?_); rintro e w3 ⟨rfl, hB3⟩; obtain ⟨hs1, hs2, hO⟩ := HN.out w1 (.slice a gg.length c) _ _ hB1 hB3 (Only.refl _ _); obtain ⟨p0, p1, p2, p3⟩ := SpAt.c (p := ⟨pd, pn, pi⟩) hs1; obtain ⟨r0, r1, r2, r3⟩ := SpAt.c (p := ⟨rd, rn, ri⟩) hs2; dsimp only at p0 p1 p2 p3 r0 r1 r2 r3; have HO3 := Lib.hid hO; clear hO hs1 hs2))
      go_ret
      exact ⟨rfl, HO3.out⟩
    have hn1 : ¬ ((nd l p.ino).kind = 2 ∧ jof D p.ino r.dir = true) := fun z1 => by
      unfold movesE at hmE
      rw [if_pos z1] at hmE
      omega
    rw [if_neg hn1]
    have hDO : DirO (nd l p.dir).data (some (ds D p.dir)) := hR.dir p.dir (named_dir hR hpp hp0 hd).1 f0
    have hDR0 := fun W (hW : WkAt W base q g cap l now) => drop_call W base q g cap now p gv l (ds D p.dir) hW (named_dir hR hpp hp0 hd).1 hhi (by have := f3.2.1; omega) (by have := hDO.2.2; omega) hDO
    rw [out_drop hpp hp0 hd] at hDR0
    have HDR := Lib.hid hDR0
    have hout : l.set p.dir (dirN (nd l p.dir) (bytesL ((ds D p.dir).eraseIdx (Dir.idx (ds D p.dir) p.name))) now) = outL l D p now := rfl
    rw [hout] at HDR
    have hol : (outL l D p now).length = l.length := out_len
    have hDE := out_dir (now := now) hR hpp hp0 hd hrl hrk
    have hsame := fun s2 => out_same (now := now) hR hpp hp0 hd r.dir s2
    rw [hm0] at HMV hmE
    by_cases hr0 : r.ino = 0
    · rw [if_pos hr0]
      have hRes : (match moveD l D p r now with
            | .error e => .error e
            | .ok (m, _) => .ok m : Except Int (List Nd)) = (if ¬ addE (ds (outE D p) r.dir) r.name p.ino = 0 then .error (addE (ds (outE D p) r.dir) r.name p.ino)
              else .ok ((outL l D p now).set r.dir (dirN (nd l r.dir) (bytesL (ds (outE D p) r.dir ++ [⟨r.name, p.ino⟩])) now))) := by
        unfold moveD
        dsimp only
        rw [show D.set p.dir ((ds D p.dir).eraseIdx (Dir.idx (ds D p.dir) p.name)) = outE D p from rfl]
        by_cases z : addE (ds (outE D p) r.dir) r.name p.ino = 0
        · rw [if_neg (fun e => e z)]
          rw [if_neg (fun e => e z)]
          rfl
        · rw [if_pos z]
          rw [if_pos z]
      rw [hRes]
      have hadd : addE (ds (outE D p) r.dir) r.name p.ino = 0 → addV (ds (outE D p) r.dir) r.name p.ino = bytesL (ds (outE D p) r.dir ++ [⟨r.name, p.ino⟩]) := fun e => if_pos e
      have HPU : Hid (∀ W gq, WkAt W base q g cap (outL l D p now) now → Only (fun i => i = g) w W → Calls Tryz.prog 88 #[.pointer (some ⟨q, 0, none⟩), spV r gq, .int .u32 (p.ino : Int)] W (fun e w5 => e = .returned (.int .i64 (addE (ds (outE D p) r.dir) r.name p.ino)) ∧ MtPost base q g cap now (if ¬ addE (ds (outE D p) r.dir) r.name p.ino = 0 then .error (addE (ds (outE D p) r.dir) r.name p.ino)
              else .ok ((outL l D p now).set r.dir (dirN (nd l r.dir) (bytesL (ds (outE D p) r.dir ++ [⟨r.name, p.ino⟩])) now))) w (.returned (.int .i64 (addE (ds (outE D p) r.dir) r.name p.ino))) w5)) := fun W gq h1 h2 =>
        Calls.mono (put_call W base q g cap now p.ino r gq _ (ds (outE D p) r.dir) h1 (by rw [hol]; exact hrl) (by rw [hol]; exact hhi) hrnm (by have := hDE.2.2; omega) (by omega) hDE) (fun e w5 h3 => by
          obtain ⟨rfl, h4, h5⟩ := h3
          refine ⟨rfl, ?_⟩
          by_cases he : addE (ds (outE D p) r.dir) r.name p.ino = 0
          · rw [if_neg (fun e => e he)]
            rw [hadd he, hsame] at h4
            exact ⟨by rw [he], h4, h2.trans h5⟩
          · rw [if_pos he]
            exact ⟨rfl, h2.trans h5⟩)
      have hrz : ((r.ino : Int) == 0) = true := by simp [hr0]
      generalize MtPost base q g cap now (if ¬ addE (ds (outE D p) r.dir) r.name p.ino = 0 then .error (addE (ds (outE D p) r.dir) r.name p.ino)
              else .ok ((outL l D p now).set r.dir (dirN (nd l r.dir) (bytesL (ds (outE D p) r.dir ++ [⟨r.name, p.ino⟩])) now))) w = PP at *
      clear hadd hRes hout hol hDE hsame hDO hDR0
      generalize addE (ds (outE D p) r.dir) r.name p.ino = ee at *
      generalize outL l D p now = m1 at *
      unfold WkPost at HDR
      unfold spO SpAt at HN
      unfold spO at HAL q0 q1 q2 q3 kc HW3 HMV
      unfold spV at HAL HMV HDR HPU ⊢
      clear hB h hK hg hrp hrr hroot hpp hgp f0 f1 f2 f3 hd hgs hrd hsm hrnr hrk hrnm hrl hril hpl hp3 hpz hmE hm0 hn1 hr0
      obtain ⟨pd, pn, pi⟩ := p
      obtain ⟨rd, rn, ri⟩ := r
      dsimp only at *
      go_enter Tryz.func56, Tryz.ntmps56
      go_wp2_with (first
        | (go_at_call 43; (with_reducible refine Calls.mono HAL.out ?_); rintro e w1 ⟨a, c, gg, rfl, hS, hG, hB1⟩; obtain ⟨hs1, hs2, hO⟩ := HN.out w1 (.slice a gg.length c) _ _ hB1 (Below.refl _ _) (Only.refl _ _); obtain ⟨p0, p1, p2, p3⟩ := SpAt.c (p := ⟨pd, pn, pi⟩) hs1; obtain ⟨r0, r1, r2, r3⟩ := SpAt.c (p := ⟨rd, rn, ri⟩) hs2; dsimp only at p0 p1 p2 p3 r0 r1 r2 r3; have HO := Lib.hid hO; clear hO hs1 hs2)
        | (go_at_call 96; (with_reducible refine Calls.mono (HMV.out w1 (.slice a gg.length c) gg hB1 (hS.elim fun _ h => h.strs) hG) ?_); rintro e w3 ⟨rfl, hB3⟩; obtain ⟨hs1, hs2, hO⟩ := HN.out w1 (.slice a gg.length c) _ _ hB1 hB3 (Only.refl _ _); obtain ⟨p0, p1, p2, p3⟩ := SpAt.c (p := ⟨pd, pn, pi⟩) hs1; obtain ⟨r0, r1, r2, r3⟩ := SpAt.c (p := ⟨rd, rn, ri⟩) hs2; dsimp only at p0 p1 p2 p3 r0 r1 r2 r3; have HO3 := Lib.hid hO; clear hO hs1 hs2)
        | (go_at_call 53; (with_reducible refine Calls.mono (HDR.out _ (HW3.out w1 _ w3 hB1 hB3)) ?_); rintro e w4 ⟨rfl, hK4, hO4⟩; obtain ⟨hs1, hs2, hO⟩ := HN.out w1 (.slice a gg.length c) _ _ hB1 hB3 hO4; obtain ⟨p0, p1, p2, p3⟩ := SpAt.c (p := ⟨pd, pn, pi⟩) hs1; obtain ⟨r0, r1, r2, r3⟩ := SpAt.c (p := ⟨rd, rn, ri⟩) hs2; dsimp only at p0 p1 p2 p3 r0 r1 r2 r3; have HO5 := Lib.hid hO; clear hO hs1 hs2)
        | (go_at_call 88; (with_reducible refine Calls.mono (HPU.out _ _ hK4 HO5.out) ?_); rintro e w5 ⟨rfl, hPP⟩))
      exact hPP
    · rw [if_neg hr0]
      have htk : takenE (nd l p.ino) (nd l r.ino) = 0 := by
        unfold movesE at hmE
        rw [if_neg hn1, if_neg hr0] at hmE
        exact hmE
      rw [if_neg (fun e => e htk)]
      obtain ⟨a1, a2, a3, a4⟩ := out_take hR hpp hp0 hd hrp hr0 hrd hsm htk
      have hnl : nd (outL l D p now) r.ino = nd l r.ino := by rw [out_nd hR hpp hp0 hd, if_neg a1]
      have hone := (hR.one r.ino hril).resolve_left (place_big hR hrp hr0).1
      have HLO := Lib.hid (fun W (hW : WkAt W base q g cap (outL l D p now) now) => lose_call W base q g cap r.ino now _ hW (by rw [hol]; exact hril) (by rw [hol]; exact hhi) (by rw [hnl]; exact hone.2.2.1) (by rw [hnl]; have := hone.2.2.2.1; omega))
      rw [hnl] at HLO
      have hn2 : nd ((outL l D p now).set r.ino (lessN (nd l r.ino) now)) r.dir = nd (outL l D p now) r.dir := by rw [nd_set (by rw [hol]; exact hril), if_neg (fun e => a2 e.symm)]
      have HHA := Lib.hid (fun W gq (hW : WkAt W base q g cap ((outL l D p now).set r.ino (lessN (nd l r.ino) now)) now) => hand_call W base q g cap now p.ino r gq _ (ds (outE D p) r.dir) hW (by rw [List.length_set, hol]; exact hrl) (by rw [List.length_set, hol]; exact hhi) hrnm (by rw [hn2]; have := hDE.2.2; omega) (by omega) (by rw [hn2]; exact hDE))
      rw [hn2, a4, hsame] at HHA
      have hT : (takeD l D p r now).1 = ((outL l D p now).set r.ino (lessN (nd l r.ino) now)).set r.dir (dirN (nd l r.dir) (bytesL (setN (ds (outE D p) r.dir) r.name p.ino)) now) := rfl
      rw [hT]
      have hrz : ((r.ino : Int) == 0) = false := by simp; omega
      clear hT hn2 hnl hone a1 a2 a3 a4 hol hDE hsame hDO hDR0 hout
      unfold MtPost
      dsimp only
      generalize ((outL l D p now).set r.ino (lessN (nd l r.ino) now)).set r.dir (dirN (nd l r.dir) (bytesL (setN (ds (outE D p) r.dir) r.name p.ino)) now) = m3 at *
      generalize (outL l D p now).set r.ino (lessN (nd l r.ino) now) = m2 at *
      generalize outL l D p now = m1 at *
      unfold WkPost at HDR HLO HHA
      unfold spO SpAt at HN
      unfold spO at HAL q0 q1 q2 q3 kc HW3 HMV
      unfold spV at HAL HMV HDR HHA ⊢
      clear hB h hK hg hrp hrr hroot hpp hgp f0 f1 f2 f3 hd hgs hrd hsm hrnr hrk hrnm hrl hril hpl hp3 hpz hmE hm0 hn1 hr0 htk
      obtain ⟨pd, pn, pi⟩ := p
      obtain ⟨rd, rn, ri⟩ := r
      dsimp only at *
      go_enter Tryz.func56, Tryz.ntmps56
      go_wp2_with (first
        | (go_at_call 43; (with_reducible refine Calls.mono HAL.out ?_); rintro e w1 ⟨a, c, gg, rfl, hS, hG, hB1⟩; obtain ⟨hs1, hs2, hO⟩ := HN.out w1 (.slice a gg.length c) _ _ hB1 (Below.refl _ _) (Only.refl _ _); obtain ⟨p0, p1, p2, p3⟩ := SpAt.c (p := ⟨pd, pn, pi⟩) hs1; obtain ⟨r0, r1, r2, r3⟩ := SpAt.c (p := ⟨rd, rn, ri⟩) hs2; dsimp only at p0 p1 p2 p3 r0 r1 r2 r3; have HO := Lib.hid hO; clear hO hs1 hs2)
        | (go_at_call 96; (with_reducible refine Calls.mono (HMV.out w1 (.slice a gg.length c) gg hB1 (hS.elim fun _ h => h.strs) hG) ?_); rintro e w3 ⟨rfl, hB3⟩; obtain ⟨hs1, hs2, hO⟩ := HN.out w1 (.slice a gg.length c) _ _ hB1 hB3 (Only.refl _ _); obtain ⟨p0, p1, p2, p3⟩ := SpAt.c (p := ⟨pd, pn, pi⟩) hs1; obtain ⟨r0, r1, r2, r3⟩ := SpAt.c (p := ⟨rd, rn, ri⟩) hs2; dsimp only at p0 p1 p2 p3 r0 r1 r2 r3; have HO3 := Lib.hid hO; clear hO hs1 hs2)
        | (go_at_call 53; (with_reducible refine Calls.mono (HDR.out _ (HW3.out w1 _ w3 hB1 hB3)) ?_); rintro e w4 ⟨rfl, hK4, hO4⟩; obtain ⟨hs1, hs2, hO⟩ := HN.out w1 (.slice a gg.length c) _ _ hB1 hB3 hO4; obtain ⟨p0, p1, p2, p3⟩ := SpAt.c (p := ⟨pd, pn, pi⟩) hs1; obtain ⟨r0, r1, r2, r3⟩ := SpAt.c (p := ⟨rd, rn, ri⟩) hs2; dsimp only at p0 p1 p2 p3 r0 r1 r2 r3; have HO5 := Lib.hid hO; clear hO hs1 hs2)
        | (go_at_call 54; (with_reducible refine Calls.mono (HLO.out _ hK4) ?_); rintro e w5 ⟨rfl, hK5, hO6⟩; obtain ⟨hs1, hs2, hO⟩ := HN.out w1 (.slice a gg.length c) _ _ hB1 hB3 (hO4.trans hO6); obtain ⟨p0, p1, p2, p3⟩ := SpAt.c (p := ⟨pd, pn, pi⟩) hs1; obtain ⟨r0, r1, r2, r3⟩ := SpAt.c (p := ⟨rd, rn, ri⟩) hs2; dsimp only at p0 p1 p2 p3 r0 r1 r2 r3; have HO7 := Lib.hid hO; clear hO hs1 hs2)
        | (go_at_call 97; (with_reducible refine Calls.mono (HHA.out _ _ hK5) ?_); rintro e w6 ⟨rfl, hK6, hO8⟩))
      go_ret
      exact ⟨rfl, hK6, HO7.out.trans hO8⟩
end
end Go.Proofs.YtkipkcmcolomcaaGreat.Pln
