/- Several texts in one, each under its own heading. -/
import Derived.Test.YtkipkcmcolomcaaGreatPk34
import Derived.Test.YtkipkcmcolomcaaGreatPk23
import Derived.Lib.SmallJoins
import Derived.OpenShut
import Derived.Test.YtkipkcmcolomcaaGreatPk01
import Derived.Test.YtkipkcmcolomcaaGreatPk09
/- Do: what a call does and answers, whatever the files are. -/
namespace Go.Proofs.YtkipkcmcolomcaaGreat.Pln
open Go.RowKit
open Dir (N nm DirP DirO addE addV bytesL)
open Pth (Strs)
set_option linter.unusedVariables false
set_option linter.unusedSimpArgs false
section
variable {l : List Nd} {D : List (List N)} {S : List N → List N} {c : Cl} {now : Nat}
theorem does_ren (h : now < 281474976710656) (hm : c.op = 8) {r : Pl} (hg : goD l D c.path (folB c) = .ok r) (h0 : ¬ r.ino = 0) : Does l D (renO l D r c.to_ now) (doD (jof D) S l D c now) := by
  rw [do_ren (J := jof D) (S := S) h hm]
  have hfo : folB c = false := decide_eq_false (by omega)
  rw [hfo] at hg
  have hfd : foundD l D c.path false = .ok r := by
    unfold foundD
    rw [hg]
    exact if_neg h0
  unfold renamesD renO
  rw [hfd]
  dsimp only
  by_cases k1 : r.dir = 0
  · rw [if_pos k1, if_pos k1]; rfl
  rw [if_neg k1, if_neg k1]
  cases hq : goD l D c.to_ false with
  | error e => rfl
  | ok q =>
    dsimp only
    by_cases k2 : q.dir = 0
    · rw [if_pos k2, if_pos k2]; rfl
    rw [if_neg k2, if_neg k2]
    by_cases k3 : r.ino = q.ino
    · rw [if_pos k3, if_pos k3]; exact ⟨rfl, rfl⟩
    rw [if_neg k3, if_neg k3]
    by_cases k4 : (nd l r.ino).kind = 2 ∧ jof D r.ino q.dir = true
    · rw [if_pos k4, if_pos k4]; rfl
    rw [if_neg k4, if_neg k4]
    by_cases k5 : q.ino = 0
    · rw [if_pos k5, if_pos k5]
      cases moveD l D r q now with
      | error e => rfl
      | ok x => exact ⟨rfl, rfl⟩
    rw [if_neg k5, if_neg k5]
    by_cases k6 : takenE (nd l r.ino) (nd l q.ino) = 0
    · rw [if_neg (fun e => e k6), if_neg (fun e => e k6)]; exact ⟨rfl, rfl⟩
    · rw [if_pos k6, if_pos k6]; rfl
theorem does_link (h : now < 281474976710656) (hm : c.op = 9) {r : Pl} (hg : goD l D c.path (folB c) = .ok r) (h0 : ¬ r.ino = 0) (hk : ¬ (nd l r.ino).kind = 2) {J : Nat → Nat → Bool} : Does l D (linksO l D r.ino c.to_ now) (doD J S l D c now) := by
  rw [do_link (J := J) (S := S) h hm]
  have hfo : folB c = false := decide_eq_false (by omega)
  rw [hfo] at hg
  have hfd : foundD l D c.path false = .ok r := by
    unfold foundD
    rw [hg]
    exact if_neg h0
  unfold linksD linksO
  rw [hfd]
  dsimp only
  rw [if_neg hk]
  cases hq : goD l D c.to_ false with
  | error e => rfl
  | ok q =>
    dsimp only
    by_cases k2 : q.ino = 0
    · have k2' : ¬ ¬ q.ino = 0 := fun e => e k2
      rw [if_neg k2', if_neg k2']
      by_cases k3 : 1000 ≤ (nd l r.ino).links
      · rw [if_pos k3, if_pos k3]; rfl
      rw [if_neg k3, if_neg k3]
      by_cases k4 : addE (ds D q.dir) q.name r.ino = 0
      · have k4' : ¬ ¬ addE (ds D q.dir) q.name r.ino = 0 := fun e => e k4
        rw [if_neg k4', if_neg k4']; exact ⟨rfl, rfl⟩
      · rw [if_pos k4, if_pos k4]; rfl
    · rw [if_pos k2, if_pos k2]; rfl
end
theorem spZ_is : spZV = spV zPl (.slice none 0 0) := rfl
/-- the sizes that a call on files may meet -/
def Sized (l : List Nd) : Prop := ∀ n ∈ l, n.data.size ≤ 281474976710656
theorem sized_right {l : List Nd} (h : RightL l) : Sized l := by
  obtain ⟨D, hD⟩ := h
  intro n hn
  obtain ⟨i, hi⟩ := List.getElem?_of_mem hn
  have hl := (List.getElem?_eq_some_iff.1 hi).1
  have h1 := hD.one i hl
  have h2 := nd_get hl
  rw [h2] at hi
  injection hi with hi
  by_cases hk : (nd l i).kind = 2
  · have := (hD.dir i hl hk).2.2
    rw [hi] at this
    omega
  · rw [hi] at h1 hk
    rcases h1 with h1 | ⟨_, _, _, _, h1⟩
    · rw [h1]; show (0 : Nat) ≤ _; omega
    · rcases h1 with h1 | h1 | h1
      · omega
      · omega
      · exact absurd h1 hk
theorem aim_err_of {v : Value} {c : Cl} {now : Nat} {W : World} {n : Int} (h : Calls Tryz.prog 21 #[v, c.val, .int .u64 now] W (fun e w' => e = .returned (.tuple #[spZV, .int .i64 n]) ∧ Below W.heap.size W w')) :
    Calls Tryz.prog 21 #[v, c.val, .int .u64 now] W (fun e w' => ∃ q a n0 c0, e = .returned (.tuple #[spV q (.slice a n0 c0), .int .i64 n]) ∧ Below W.heap.size W w') :=
  Calls.mono h fun e w' ⟨h1, h2⟩ => ⟨zPl, none, 0, 0, h1, h2⟩
theorem doesDw {l : List Nd} {D : List (List N)} {v : Value} {c : Cl} {now : Nat} {w : World} {o : Except Int (List Nd)} {u : Out} (hR : RightL l) (h : Nodes w v l) (hu : Does l D o u) (hn : ∀ n, o = .error n → ¬ n = 0) (hg : ∀ m, o = .ok m → RightL m) (r : Pl)
    (hop : ¬ (c.op = 4 ∨ c.op = 11 ∨ c.op = 12 ∨ c.op = 13))
    (ha : ∀ W, Below w.heap.size w W → Calls Tryz.prog 21 #[v, c.val, .int .u64 now] W (fun e w' => ∃ a n0 c0, e = .returned (.tuple #[spV r (.slice a n0 c0), .int .i64 0]) ∧ (∃ gg B, rowS w' B (.slice a n0 c0) gg ∧ Gone D gg r) ∧ Below W.heap.size W w'))
    (hd : ∀ W base q g cap a n0 c0, base ≤ W.heap.size → WkAt W base q g cap l now → (∃ gg B, rowS W B (.slice a n0 c0) gg ∧ Gone D gg r) → Calls Tryz.prog 25 #[.pointer (some ⟨q, 0, none⟩), spV r (.slice a n0 c0), c.val] W (DwPost base q g now o W)) :
    Calls Tryz.prog 14 #[v, c.val, .int .u64 now] w (DoPost w u.l u.r) := by
  have hlo : 3 ≤ l.length := by obtain ⟨D, hD⟩ := hR; exact hD.low
  have hhi : l.length ≤ 240 := by obtain ⟨D, hD⟩ := hR; exact hD.high
  cases o with
  | error n =>
    have e : u = asIs l D n := hu
    rw [e]
    exact do_work_no D v l c now w h hlo hhi (sized_right hR) r hop n (hn n rfl) ha hd
  | ok m =>
    obtain ⟨e1, e2⟩ := hu
    rw [e1, e2]
    have hm := hg m rfl
    have hmh : m.length ≤ 240 := by obtain ⟨D, hD⟩ := hm; exact hD.high
    exact do_work_ok D v l c now w h hlo hhi (sized_right hR) r hop m hmh (sized_right hm) ha hd
theorem makeO_ne {l : List Nd} {D : List (List N)} {r : Pl} {n : Nd} {now : Nat} {e : Int} (h : makeO l D r n now = .error e) : ¬ e = 0 := by
  unfold makeO at h
  split at h
  · injection h with h; omega
  · split at h
    · rename_i h2; injection h with h; rw [← h]; exact h2
    · cases h
theorem linksO_ne {l : List Nd} {D : List (List N)} {x : Nat} {s : ByteArray} {now : Nat} {e : Int} (h : linksO l D x s now = .error e) : ¬ e = 0 := by
  unfold linksO at h
  cases hq : goD l D s false with
  | error n => rw [hq] at h; injection h with h; rw [← h]; exact goD_err hq
  | ok q =>
    rw [hq] at h
    dsimp only at h
    split at h
    · injection h with h; omega
    · split at h
      · injection h with h; omega
      · split at h
        · rename_i h2; injection h with h; rw [← h]; exact h2
        · cases h
theorem renO_ne {l : List Nd} {D : List (List N)} {p : Pl} {s : ByteArray} {now : Nat} {e : Int} (h : renO l D p s now = .error e) : ¬ e = 0 := by
  unfold renO at h
  split at h
  · injection h with h; omega
  cases hq : goD l D s false with
  | error n => rw [hq] at h; injection h with h; rw [← h]; exact goD_err hq
  | ok q =>
    rw [hq] at h
    dsimp only at h
    split at h
    · injection h with h; omega
    split at h
    · cases h
    split at h
    · injection h with h; omega
    split at h
    · unfold moveD at h
      dsimp only at h
      split at h
      · rename_i e2 hm
        injection h with h
        split at hm
        · rename_i h2; injection hm with hm; rw [← h, ← hm]; exact h2
        · cases hm
      · cases h
    split at h
    · rename_i h2; injection h with h; rw [← h]; exact h2
    · cases h
theorem do_any (v : Value) (l : List Nd) (c : Cl) (now : Nat) (w : World) (h : Nodes w v l) (k : Able l) (ks : Sized l) (kc : c.Ok) (kp : c.path.size ≤ 281474976710656) (kt : c.to_.size ≤ 281474976710656) (kd : c.data.size ≤ 281474976710656) (kn : now < 18446744073709551616) :
    Calls Tryz.prog 14 #[v, c.val, .int .u64 now] w (DoPost w (doV l c now) (doR l c now)) := by
  have hl : l.length ≤ 240 := by
    rcases k.2 with ⟨D, hD⟩ | hf
    · exact hD.high
    · have := hf.2; omega
  by_cases hR : RightL l
  case neg =>
    rw [doV_wrong hR, doR_wrong hR]
    exact do_no v l c now w h hl ks 139 (by decide) (fun W hB => aim_err_of (aim_wrong v l c now W (h.below hB) k hR))
  have hR0 := hR
  obtain ⟨D, hD⟩ := hR
  rw [doV_right hD, doR_right hD]
  by_cases hn : 281474976710656 ≤ now
  · rw [show outD l D c now = asIs l D 2 from do_late hn]
    exact do_no v l c now w h hl ks 2 (by decide) (fun W hB => aim_err_of (aim_late v l c now W (h.below hB) k hR0 hn))
  have hn2 : now < 281474976710656 := by omega
  by_cases hf : fitsP c
  case neg =>
    rw [show outD l D c now = asIs l D 2 from do_unfit hn2 hf]
    exact do_no v l c now w h hl ks 2 (by decide) (fun W hB => aim_err_of (aim_arg v l c now W (h.below hB) k hR0 hn hf))
  cases hg : goD l D c.path (folB c) with
  | error e =>
    rw [show outD l D c now = asIs l D e from do_lost hn2 hf hg]
    exact do_no v l c now w h hl ks e (goD_err hg) (fun W hB => aim_err_of (aim_no v l c now W (h.below hB) k hD hR0 hn hf kp hg))
  | ok r =>
  have hpl := goD_place hD.root.1 hg
  by_cases hm : c.op = 1 ∨ c.op = 2 ∨ c.op = 10
  · by_cases h0 : r.ino = 0
    · have hop : ¬ (c.op = 4 ∨ c.op = 11 ∨ c.op = 12 ∨ c.op = 13) := by omega
      have hdo := does_make (J := jof D) (S := srt) hn2 hf hm hg h0
      refine doesDw hR0 h hdo (fun n => makeO_ne) (fun m e => ?_) r hop (fun W hB => Calls.mono (aim_make v l c now W (h.below hB) k hD hR0 hn hf kp hg hm h0) fun e w' hx => ?_) (fun W base q g cap a n0 c0 hb hW hx => dw_make hD W base q g cap now r _ c hm hf hb hW hpl h0)
      · rw [e] at hdo
        have := do_right hR0 c now
        rw [doV_right hD] at this
        rw [← hdo.1]; exact this.1
      · obtain ⟨a, cap, gg, rfl, ⟨B, hB2⟩, hG, hBl⟩ := hx
        exact ⟨a, gg.length, cap, rfl, ⟨gg, B, hB2, hG⟩, hBl⟩
    · rw [show outD l D c now = asIs l D 113 from do_there hn2 hf hm hg h0]
      exact do_no v l c now w h hl ks 113 (by decide) (fun W hB => aim_err_of (aim_there v l c now W (h.below hB) k hD hR0 hn hf kp hg hm h0))
  by_cases h0 : r.ino = 0
  · rw [show outD l D c now = asIs l D 112 from do_none hn2 hf hm hg h0]
    exact do_no v l c now w h hl ks 112 (by decide) (fun W hB => aim_err_of (aim_none v l c now W (h.below hB) k hD hR0 hn hf kp hg hm h0))
  have hpb := place_big hD hpl h0
  have hAS := fun W hB => aim_suits v l c now W (h.below hB) k hD hR0 hn hf kp hg hm h0 hpb.2.2
  by_cases hs : suitsE c.op (nd l r.ino).kind = 0
  case neg =>
    rw [show outD l D c now = asIs l D (suitsE c.op (nd l r.ino).kind) from do_unsuit hn2 hf hm hg h0 hs]
    refine do_no v l c now w h hl ks _ hs (fun W hB => Calls.mono (hAS W hB) fun e w' hx => ?_)
    obtain ⟨a, cap, gg, rfl, _, _, hBl⟩ := hx
    exact ⟨r, a, gg.length, cap, rfl, hBl⟩
  rw [hs] at hAS
  have ha1 : ∀ W, Below w.heap.size w W → Calls Tryz.prog 21 #[v, c.val, .int .u64 now] W (fun e w' => ∃ a n0 c0, e = .returned (.tuple #[spV r (.slice a n0 c0), .int .i64 0]) ∧ (∃ gg B, rowS w' B (.slice a n0 c0) gg ∧ Gone D gg r) ∧ Below W.heap.size W w') := fun W hB =>
    Calls.mono (hAS W hB) fun e w' hx => by
      obtain ⟨a, cap, gg, rfl, ⟨B, hB2⟩, hG, hBl⟩ := hx
      exact ⟨a, gg.length, cap, rfl, ⟨gg, B, hB2, hG⟩, hBl⟩
  have hgood : ∀ o, Does l D o (outD l D c now) → ∀ m, o = .ok m → RightL m := fun o hdo m e => by
    rw [e] at hdo
    have := do_right hR0 c now
    rw [doV_right hD] at this
    rw [← hdo.1]; exact this.1
  have hone := (hD.one r.ino hpb.2.2).resolve_left hpb.1
  by_cases hop : c.op = 4 ∨ c.op = 11 ∨ c.op = 12 ∨ c.op = 13
  · rw [show outD l D c now = ⟨l, D, tellO srt l D c r.ino⟩ from do_asksO hn2 hf hop hg h0 hs]
    refine do_asked v l c now w h hl ks r hpb.2.2 _ hop (fun W hB => Calls.mono (ha1 W hB) fun e w' hx => ?_) (fun W => ?_)
    · obtain ⟨a, n0, c0, rfl, _, hBl⟩ := hx
      exact ⟨a, n0, c0, rfl, hBl⟩
    · have hsz := ks (nd l r.ino) (List.mem_of_getElem? (nd_get hpb.2.2))
      unfold tellO
      rcases hop with e | e | e | e
      · rw [if_pos e]
        unfold fitsP at hf
        rw [if_neg (by omega), if_neg (by omega), if_neg (by omega), if_neg (by omega), if_pos e] at hf
        exact told_4 W _ c e hf.1 hf.2 kc hsz
      · rw [if_neg (by omega), if_pos e]
        exact told_11 W _ c e hsz
      · rw [if_neg (by omega), if_neg (by omega), if_pos e]
        exact told_12 W _ c e
      · rw [if_neg (by omega), if_neg (by omega), if_neg (by omega)]
        have hk : (nd l r.ino).kind = 2 := by
          unfold suitsE at hs
          rw [if_neg (by omega), if_pos (.inr e)] at hs
          exact Classical.byContradiction fun e2 => by rw [if_pos e2] at hs; exact absurd hs (by decide)
        exact told_13 W _ c _ e (hD.dir r.ino hpb.2.2 hk)
  have hnk : (c.op = 3 ∨ c.op = 5 ∨ c.op = 6 ∨ c.op = 9) → ¬ (nd l r.ino).kind = 2 := fun e e2 => by
    unfold suitsE at hs
    rw [if_pos (by omega), if_pos e2] at hs
    exact absurd hs (by decide)
  have hsz2 : ¬ (nd l r.ino).kind = 2 → (nd l r.ino).data.size ≤ 200000 := fun e => by
    rcases hone.2.2.2.2 with h1 | h1 | h1
    · exact h1.2
    · have := h1.2.2.1; omega
    · exact absurd h1 e
  have hcs := op_cases (fits_range hf)
  rcases hcs with e | e | e | e | e | e | e | e | e | e | e | e | e | e | e
  · omega
  · omega
  · have hdo := does_write (J := jof D) (S := srt) hn2 hf e hg h0 hs
    have hk := hnk (by omega)
    exact doesDw hR0 h hdo (fun n hx => by unfold wriO at hx; split at hx; (injection hx with hx; omega); split at hx <;> cases hx) (hgood _ hdo) r hop ha1 (fun W base q g cap a n0 c0 hb hW hx => dw_write hD W base q g cap now r _ c e hf kc kd hW hpb.2.2 hk (hsz2 hk))
  · omega
  · have hdo := does_trunc (J := jof D) (S := srt) hn2 hf e hg h0 hs
    have hk := hnk (by omega)
    exact doesDw hR0 h hdo (fun n hx => by unfold truO at hx; split at hx; (injection hx with hx; omega); cases hx) (hgood _ hdo) r hop ha1 (fun W base q g cap a n0 c0 hb hW hx => dw_trunc hD W base q g cap now r _ c e hf hW hpb.2.2 (hsz2 hk))
  · have hk := hnk (by omega)
    have hd : ¬ r.dir = 0 := fun e2 => by
      rw [← root_ino hD hpl] at e2
      rw [e2] at hk
      exact hk hD.root.1
    have hdo := does_unlink (J := jof D) (S := srt) hn2 hf e hg h0 hs hd
    exact doesDw hR0 h hdo (fun n hx => by cases hx) (hgood _ hdo) r hop ha1 (fun W base q g cap a n0 c0 hb hW hx => dw_unlink hD W base q g cap now r _ c e hW hpl h0 hk hd)
  · have hdo := does_rmdir (J := jof D) (S := srt) hn2 hf e hg h0 hs
    exact doesDw hR0 h hdo (fun n hx => by unfold rmdO at hx; split at hx; (injection hx with hx; omega); split at hx; (injection hx with hx; omega); cases hx) (hgood _ hdo) r hop ha1 (fun W base q g cap a n0 c0 hb hW hx => dw_rmdir hD W base q g cap now r _ c e hW hpl h0)
  · have hdo := does_ren (S := srt) hn2 e hg h0
    exact doesDw hR0 h hdo (fun n => renO_ne) (hgood _ hdo) r hop ha1 (fun W base q g cap a n0 c0 hb hW hx => hx.elim fun gg hx => hx.elim fun B hx => dw_ren hD W base q g cap now r _ gg c e hW hpl h0 hx.2 hx.1.strs kt)
  · have hk := hnk (by omega)
    have hdo := does_link (J := jof D) (S := srt) hn2 e hg h0 hk
    exact doesDw hR0 h hdo (fun n => linksO_ne) (hgood _ hdo) r hop ha1 (fun W base q g cap a n0 c0 hb hW hx => dw_link hD W base q g cap now r _ c e hW hpb.2.2 hk hone.2.2.2.1 kt)
  · omega
  · omega
  · omega
  · omega
  · have hdo := does_set (J := jof D) (S := srt) hn2 hf (.inl e) hg h0
    exact doesDw hR0 h hdo (fun n hx => by cases hx) (hgood _ hdo) r hop ha1 (fun W base q g cap a n0 c0 hb hW hx => dw_set W base q g cap now r _ c (.inl e) hf hW hl hpb.2.2)
  · have hdo := does_set (J := jof D) (S := srt) hn2 hf (.inr e) hg h0
    exact doesDw hR0 h hdo (fun n hx => by cases hx) (hgood _ hdo) r hop ha1 (fun W base q g cap a n0 c0 hb hW hx => dw_set W base q g cap now r _ c (.inr e) hf hW hl hpb.2.2)
end Go.Proofs.YtkipkcmcolomcaaGreat.Pln
/- What the program answers, as the laws ask it. -/
namespace Go.Proofs.YtkipkcmcolomcaaGreat.Pln
open Go.RowKit
/-- what the program is asked with, and what it weighs -/
def AbleS (l : List Nd) : Prop := Able l ∧ Sized l
def Cl.OkS (c : Cl) : Prop := c.Ok ∧ c.path.size ≤ 281474976710656 ∧ c.to_.size ≤ 281474976710656
instance (c : Cl) : Decidable c.OkS := by unfold Cl.OkS; infer_instance
theorem ableS_right {l : List Nd} (h : RightL l) : AbleS l := ⟨able_right h, sized_right h⟩
theorem ableS_do {l : List Nd} (h : AbleS l) (c : Cl) (now : Nat) : AbleS (doV l c now) := by
  by_cases hr : RightL l
  · exact ableS_right (do_right hr c now).1
  · rw [doV_wrong hr]
    exact h
theorem ableS_few {l : List Nd} (h : ∀ n ∈ l, n.Ok ∧ n.data.size ≤ 281474976710656) (hf : fewP l) : AbleS l := ⟨⟨fun n hn => (h n hn).1, .inr hf⟩, fun n hn => (h n hn).2⟩
theorem do_anyS (v : Value) (l : List Nd) (c : Cl) (now : Nat) (w : World) (h : Nodes w v l) (k : AbleS l) (kc : c.OkS) (kd : c.data.size ≤ 10000) (kn : now < 18446744073709551616) : Calls Tryz.prog 14 #[v, c.val, .int .u64 now] w (DoPost w (doV l c now) (doR l c now)) :=
  do_any v l c now w h k.1 k.2 kc.1 kc.2.1 kc.2.2 (by omega) kn
end Go.Proofs.YtkipkcmcolomcaaGreat.Pln
/- What the laws show first. -/
namespace Go.Proofs.YtkipkcmcolomcaaGreat.Pln
open Go.RowKit
attribute [local go_sem] Oper.semAt_some
set_option linter.unusedVariables false
set_option linter.unusedSimpArgs false
theorem newL_right : RightL newL := ⟨newD, new_right⟩
theorem exA_is : doV newL cA 5 = exA.l ∧ (doR newL cA 5).code = 0 := by
  rw [doV_right new_right, doR_right new_right]
  unfold outD
  rw [do_make (by decide) (.inr (.inl rfl))]
  exact ⟨rfl, exA_code⟩
theorem exB_is : doV exA.l cB 6 = exB.l ∧ (doR exA.l cB 6).code = 0 := by
  rw [doV_right exA_right, doR_right exA_right]
  unfold outD
  rw [do_make (by decide) (.inl rfl)]
  exact ⟨rfl, exB_code⟩
theorem exC_is : doV exB.l cC 7 = exB.l ∧ (doR exB.l cC 7).code = 142 := by
  have h2 : (doR exB.l cC 7).code = 142 := by
    rw [doR_right exB_right]
    unfold outD
    rw [do_drop (by decide) (.inr rfl)]
    exact exC_out
  exact ⟨do_err (by rw [h2]; decide), h2⟩
theorem exD_is : (doR exB.l cD 8).code = 147 := by
  rw [doR_right exB_right]
  unfold outD
  rw [do_ren (by decide) rfl, exD_out (jof_is _)]
  rfl
section
set_option maxRecDepth 100000
set_option maxHeartbeats 2000000
theorem shown_any (w : World) : Calls Tryz.prog 11 #[] w (Ans w (.bool true)) := by
  have HN := Lib.hid (fun W => new_any W)
  have HA := Lib.hid (fun v W h => do_anyS v newL cA 5 W h (ableS_right newL_right) (by decide) (by decide) (by decide))
  have HB := Lib.hid (fun v W h => do_anyS v exA.l cB 6 W h (ableS_right ⟨_, exA_right⟩) (by decide) (by decide) (by decide))
  have HC := Lib.hid (fun v W h => do_anyS v exB.l cC 7 W h (ableS_right ⟨_, exB_right⟩) (by decide) (by decide) (by decide))
  have HD := Lib.hid (fun v W h => do_anyS v exB.l cD 8 W h (ableS_right ⟨_, exB_right⟩) (by decide) (by decide) (by decide))
  have HR := Lib.hid (fun v W h => right_any v exB.l W h (able_right ⟨_, exB_right⟩))
  rw [exA_is.1] at HA
  rw [exB_is.1] at HB
  rw [exC_is.1] at HC
  rw [decide_eq_true (show RightL exB.l from ⟨_, exB_right⟩)] at HR
  have c1 := exA_is.2
  have c2 := exB_is.2
  have c3 := exC_is.2
  have c4 := exD_is
  generalize doR newL cA 5 = r1 at HA c1
  generalize doR exA.l cB 6 = r2 at HB c2
  generalize doR exB.l cC 7 = r3 at HC c3
  generalize doR exB.l cD 8 = r4 at HD c4
  generalize doV exB.l cD 8 = m4 at HD
  have hlen := exB_len
  have q1 : (r1.code == 0) = true := by simp [c1]
  have q2 : (r2.code == 0) = true := by simp [c2]
  have q3 : (r3.code == 142) = true := by simp [c3]
  have q4 : (r4.code == 147) = true := by simp [c4]
  clear c1 c2 c3 c4
  generalize newL = l0 at HN HA
  generalize exA.l = l1 at HA HB
  generalize exB.l = l2 at HB HC HD HR hlen
  have HPA := Lib.hid (fun W v (h : Nodes W v l2) => h.parts)
  rw [hlen] at HPA
  unfold Cl.val at HA HB HC HD
  unfold cA at HA
  unfold cB at HB
  unfold cC at HC
  unfold cD at HD
  unfold pA at HA HC HD
  unfold pAb at HB
  unfold pAc at HD
  unfold none0 at HA HB HC HD
  dsimp only at HA HB HC HD
  go_enter Tryz.func11, Tryz.ntmps11
  go_wp2_with (first
    | (go_at_call 12; (with_reducible refine Calls.mono (HN.out _) ?_); rintro e w1 ⟨v0, rfl, hL0, hB0⟩; have HL0 := Lib.hid hL0; have HB0 := Lib.hid hB0; clear hL0 hB0)
    | (go_at_call 14; (with_reducible refine Calls.mono (HA.out _ _ HL0.out) ?_); intro e w2 hp; obtain ⟨v1, a1, n1, rfl, hL, hu, hB⟩ := hp.open; have HL1 := Lib.hid hL; have HB1 := Lib.hid (below_th HB0.out hB); clear hp hL hB hu HA)
    | (go_at_call 14; (with_reducible refine Calls.mono (HB.out _ _ (HL1.out.below (below_new _ _))) ?_); intro e w3 hp; obtain ⟨v2, a2, n2, rfl, hL, hu, hB⟩ := hp.open; have HL2 := Lib.hid hL; have HB2 := Lib.hid (below_th (below_th HB1.out (below_new w2 (rpBox r1 (.slice a1 r1.names.length n1)))) hB); have HR1 := Lib.hid ((RpAt.new w2 r1 (.slice a1 r1.names.length n1)).th hB); clear hp hL hB hu HB)
    | (go_at_call 14; (with_reducible refine Calls.mono (HC.out _ _ (HL2.out.below (below_new _ _))) ?_); intro e w4 hp; obtain ⟨v3, a3, n3, rfl, hL, hu, hB⟩ := hp.open; obtain ⟨aL, nL, rfl, _⟩ := HPA.out _ _ hL; have HL3 := Lib.hid hL; have HB3 := Lib.hid (below_th (below_th HB2.out (below_new w3 (rpBox r2 (.slice a2 r2.names.length n2)))) hB); have HR1 := Lib.hid ((HR1.out.th (below_new w3 (rpBox r2 (.slice a2 r2.names.length n2)))).th hB); have HR2 := Lib.hid ((RpAt.new w3 r2 (.slice a2 r2.names.length n2)).th hB); clear hp hL hB hu HC)
    | (go_at_call 14; (with_reducible refine Calls.mono (HD.out _ _ (HL3.out.below (below_new _ _))) ?_); intro e w5 hp; obtain ⟨v4, a4, n4, rfl, hL, hu, hB⟩ := hp.open; have HL4 := Lib.hid hL; have HB4 := Lib.hid (below_th (below_th HB3.out (below_new w4 (rpBox r3 (.slice a3 r3.names.length n3)))) hB); have HR1 := Lib.hid ((HR1.out.th (below_new w4 (rpBox r3 (.slice a3 r3.names.length n3)))).th hB); have HR2 := Lib.hid ((HR2.out.th (below_new w4 (rpBox r3 (.slice a3 r3.names.length n3)))).th hB); have HR3 := Lib.hid ((RpAt.new w4 r3 (.slice a3 r3.names.length n3)).th hB); have k1 := (HR1.out.th (below_new w5 (rpBox r4 (.slice a4 r4.names.length n4)))).c.1; have k2 := (HR2.out.th (below_new w5 (rpBox r4 (.slice a4 r4.names.length n4)))).c.1; have k3 := (HR3.out.th (below_new w5 (rpBox r4 (.slice a4 r4.names.length n4)))).c.1; have k4 := (RpAt.new w5 r4 (.slice a4 r4.names.length n4)).c.1; have HL9 := Lib.hid (((HL3.out.below (below_new w4 (rpBox r3 (.slice a3 r3.names.length n3)))).below hB).below (below_new w5 (rpBox r4 (.slice a4 r4.names.length n4)))); have HB5 := Lib.hid (below_th HB4.out (below_new w5 (rpBox r4 (.slice a4 r4.names.length n4)))); unfold rpBox at k1 k2 k3 k4 HL9; clear hp hL hB hu HD)
    | (go_at_call 18; (with_reducible refine Calls.mono (HR.out _ _ HL9.out) ?_); rintro e w6 ⟨rfl, hB6⟩; have HB6 := Lib.hid (below_th HB5.out hB6); clear hB6))
  go_ret
  exact ⟨rfl, HB6.out⟩
end
end Go.Proofs.YtkipkcmcolomcaaGreat.Pln
/- What comes in to the laws on files (made by wip/tools/plnargs.py). -/
namespace Go.Proofs.YtkipkcmcolomcaaGreat.Pln
open Go.RowKit Go.ChangeShapes Go.WideShapes Go.Deep
set_option linter.unusedVariables false
theorem bounds64 {n : Int} (h : (Lit.int .i64 n).wf = true) : -9223372036854775808 ≤ n ∧ n ≤ 9223372036854775807 := by
  have h1 : IntKind.i64.min = -9223372036854775808 := rfl
  have h2 : IntKind.i64.max = 9223372036854775807 := rfl
  simp only [Lit.wf, Bool.and_eq_true, decide_eq_true_eq] at h
  omega
theorem boundsU {n : Int} (h : (Lit.int .u64 n).wf = true) : 0 ≤ n ∧ n ≤ 18446744073709551615 := by
  have h1 : IntKind.u64.min = 0 := rfl
  have h2 : IntKind.u64.max = 18446744073709551615 := rfl
  simp only [Lit.wf, Bool.and_eq_true, decide_eq_true_eq] at h
  omega
theorem bounds16 {n : Int} (h : (Lit.int .u16 n).wf = true) : 0 ≤ n ∧ n ≤ 65535 := by
  have h1 : IntKind.u16.min = 0 := rfl
  have h2 : IntKind.u16.max = 65535 := rfl
  simp only [Lit.wf, Bool.and_eq_true, decide_eq_true_eq] at h
  omega
theorem cells_open_nd : Tryz.prog.cellsOf 46 = 5 := by kernel_rfl
theorem cells_int : Tryz.prog.cellsOf 3 = 1 := by kernel_rfl
theorem cells_uint16 : Tryz.prog.cellsOf 31 = 1 := by kernel_rfl
theorem cells_uint64 : Tryz.prog.cellsOf 32 = 1 := by kernel_rfl
theorem cells_string : Tryz.prog.cellsOf 9 = 1 := by kernel_rfl
theorem list5 {α : Type} {l : List α} (h : l.length = 5) : ∃ c0 c1 c2 c3 c4, l = [c0, c1, c2, c3, c4] := by
  match l, h with
  | [a, b, c, d, e], _ => exact ⟨a, b, c, d, e, rfl⟩
section
variable {H : Type} {enc : TypeId × Value → H} {w : World} {base fuel : Nat} {cs : List Value} {x : DataW H × List MemPlace}
theorem open_nd {n : Nat} {c : List Value} {y : DataW H × List MemPlace} (h : DataW.trod enc Tryz.prog w base (fun _ => true) true n 46 c = some y) (hk : ∀ k ∈ y.1.weights Tryz.prog 46, k ≤ 281474976710656) : ∃ s : Nd, c = s.cells ∧ s.Ok ∧ s.data.size ≤ 281474976710656 := by
  obtain ⟨xs, m, _, hy, hl, hxl, hf⟩ := DataW.trod_struct Tryz.underlying46 h
  rw [cells_open_nd] at hl
  obtain ⟨c0, c1, c2, c3, c4, rfl⟩ := list5 hl
  have hxs : xs.length = 5 := by simpa using hxl
  have hz : ∀ i, i < 5 → ∃ z, xs[i]? = some z := fun i hi => ⟨xs[i]'(by omega), by simp⟩
  have f0 : DataW.trod enc Tryz.prog w base (fun _ => true) true m 3 [c0] = xs[0]? := by have hh : DataW.trod enc Tryz.prog w base (fun _ => true) true m 3 (([c0, c1, c2, c3, c4].drop 0).take (Tryz.prog.cellsOf 3)) = xs[0]? := hf 0 _ rfl; rw [cells_int] at hh; exact hh
  have f1 : DataW.trod enc Tryz.prog w base (fun _ => true) true m 31 [c1] = xs[1]? := by have hh : DataW.trod enc Tryz.prog w base (fun _ => true) true m 31 (([c0, c1, c2, c3, c4].drop 1).take (Tryz.prog.cellsOf 31)) = xs[1]? := hf 1 _ rfl; rw [cells_uint16] at hh; exact hh
  have f2 : DataW.trod enc Tryz.prog w base (fun _ => true) true m 31 [c2] = xs[2]? := by have hh : DataW.trod enc Tryz.prog w base (fun _ => true) true m 31 (([c0, c1, c2, c3, c4].drop 2).take (Tryz.prog.cellsOf 31)) = xs[2]? := hf 2 _ rfl; rw [cells_uint16] at hh; exact hh
  have f3 : DataW.trod enc Tryz.prog w base (fun _ => true) true m 32 [c3] = xs[3]? := by have hh : DataW.trod enc Tryz.prog w base (fun _ => true) true m 32 (([c0, c1, c2, c3, c4].drop 3).take (Tryz.prog.cellsOf 32)) = xs[3]? := hf 3 _ rfl; rw [cells_uint64] at hh; exact hh
  have f4 : DataW.trod enc Tryz.prog w base (fun _ => true) true m 9 [c4] = xs[4]? := by have hh : DataW.trod enc Tryz.prog w base (fun _ => true) true m 9 (([c0, c1, c2, c3, c4].drop 4).take (Tryz.prog.cellsOf 9)) = xs[4]? := hf 4 _ rfl; rw [cells_string] at hh; exact hh
  obtain ⟨z0, h0⟩ := hz 0 (by omega)
  obtain ⟨z1, h1⟩ := hz 1 (by omega)
  obtain ⟨z2, h2⟩ := hz 2 (by omega)
  obtain ⟨z3, h3⟩ := hz 3 (by omega)
  obtain ⟨z4, h4⟩ := hz 4 (by omega)
  rw [h0] at f0
  rw [h1] at f1
  rw [h2] at f2
  rw [h3] at f3
  rw [h4] at f4
  obtain ⟨n0, e0, _, w0⟩ := DataW.trod_int Tryz.underlying3 f0
  obtain ⟨n1, e1, _, w1⟩ := DataW.trod_int Tryz.underlying31 f1
  obtain ⟨n2, e2, _, w2⟩ := DataW.trod_int Tryz.underlying31 f2
  obtain ⟨n3, e3, _, w3⟩ := DataW.trod_int Tryz.underlying32 f3
  obtain ⟨n4, e4, y4, w4⟩ := DataW.trod_string Tryz.underlying9 f4
  have hw4 : n4.size ≤ 281474976710656 := by
    have hd : (xs.map (·.1))[4]? = some z4.1 := by rw [List.getElem?_map, h4]; rfl
    have := hk n4.data.toList.length (by
      rw [hy]
      simp only [DataW.weights, Tryz.underlying46]
      exact DataW.weights_mem_each (j := 4) (t := 9) rfl hd _ (by rw [y4]; simp [DataW.weights]))
    rwa [Array.length_toList] at this
  simp only [List.cons.injEq, and_true] at e0 e1 e2 e3 e4
  subst e0 e1 e2 e3 e4
  have k0 := bounds64 w0
  have k1 := bounds16 w1
  obtain ⟨q1, rfl⟩ := Int.eq_ofNat_of_zero_le k1.1
  have k2 := bounds16 w2
  obtain ⟨q2, rfl⟩ := Int.eq_ofNat_of_zero_le k2.1
  have k3 := boundsU w3
  obtain ⟨q3, rfl⟩ := Int.eq_ofNat_of_zero_le k3.1
  exact ⟨⟨n0, q1, q2, q3, n4⟩, rfl, ⟨by show _ ≤ n0; omega, by show n0 ≤ _; omega, by show q1 < _; omega, by show q2 < _; omega, by show q3 < _; omega⟩, hw4⟩
theorem lies_nodes (h : DataW.trod enc Tryz.prog w base (fun _ => true) true fuel 25 cs = some x) (hk : ∀ k ∈ x.1.weights Tryz.prog 25, k ≤ 281474976710656) :
    ∃ (v : Value) (L : List Nd), cs = [v] ∧ Nodes w v L ∧ (∀ o ∈ L, o.Ok ∧ o.data.size ≤ 281474976710656) := by
  obtain ⟨v, L, h1, h2, h3, _⟩ := lies_flatW Nd.cells (fun o => o.Ok ∧ o.data.size ≤ 281474976710656) 5 Tryz.underlying25 cells_open_nd (by decide) 281474976710656 hk (fun n c y hh hk => open_nd hh hk) h
  exact ⟨v, L, h1, h2, h3⟩
end
end Go.Proofs.YtkipkcmcolomcaaGreat.Pln
