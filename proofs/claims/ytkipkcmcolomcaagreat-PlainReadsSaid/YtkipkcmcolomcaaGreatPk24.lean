/- Several texts in one, each under its own heading. -/
import Derived.Test.YtkipkcmcolomcaaGreatPk23
import Derived.Test.YtkipkcmcolomcaaGreatPk08
/- fits: whether a call is one, by its numbers and data. -/
namespace Go.Proofs.YtkipkcmcolomcaaGreat.Pln
open Go.RowKit
attribute [local go_sem] Oper.semAt_some
set_option linter.unusedVariables false
set_option linter.unusedSimpArgs false
def fitsP (c : Cl) : Prop := if c.op = 1 ∨ c.op = 2 ∨ c.op = 14 then 0 ≤ c.mode ∧ c.mode ≤ 4095 else if c.op = 10 then targetP c.data else if c.op = 3 then 0 ≤ c.off else if c.op = 5 then 0 ≤ c.n else if c.op = 4 then 0 ≤ c.off ∧ 0 ≤ c.n else if c.op = 15 then 0 ≤ c.n ∧ c.n < 281474976710656 else 1 ≤ c.op ∧ c.op ≤ 15
instance (c : Cl) : Decidable (fitsP c) := by unfold fitsP; infer_instance
section
set_option maxRecDepth 100000
set_option maxHeartbeats 4000000
theorem fits_any (c : Cl) (w : World) : Calls Tryz.prog 42 #[c.val] w (fun e w' => e = .returned (.bool (decide (fitsP c))) ∧ Below w.heap.size w w') := by
  obtain ⟨op, path, to_, data, off, n, mode⟩ := c
  unfold Cl.val
  dsimp only
  have HI := Lib.hid (fun W => isTarget_any data W)
  unfold Ans at HI
  obtain ⟨x, hx⟩ : ∃ x, decide (fitsP ⟨op, path, to_, data, off, n, mode⟩) = x := ⟨_, rfl⟩
  have HY : (fitsP ⟨op, path, to_, data, off, n, mode⟩) → x = true := fun h => by rw [← hx]; exact decide_eq_true h
  have HN : ¬ (fitsP ⟨op, path, to_, data, off, n, mode⟩) → x = false := fun h => by rw [← hx]; exact decide_eq_false h
  rw [hx]
  unfold fitsP at HY HN
  dsimp only at HY HN
  clear hx
  by_cases k10 : op = 10
  · subst k10
    rw [if_neg (by omega), if_pos rfl] at HY HN
    have hd : decide (targetP data) = x := by
      by_cases h : targetP data
      · rw [HY h]; exact decide_eq_true h
      · rw [HN h]; exact decide_eq_false h
    rw [hd] at HI
    clear hd HY HN
    go_enter Tryz.func42, Tryz.ntmps42
    go_wp2_with (go_at_call 76; (with_reducible refine Calls.mono (HI.out _) ?_); rintro e w1 ⟨rfl, hB1⟩; have HB1 := Lib.hid hB1; clear hB1)
    go_ret
    exact ⟨rfl, below_th (below_new _ _) HB1.out⟩
  · clear HI
    by_cases k1 : op = 1 ∨ op = 2 ∨ op = 14
    · rw [if_pos k1] at HY HN
      by_cases h1 : 0 ≤ mode
      · by_cases h2 : mode ≤ 4095
        · obtain rfl : x = true := HY (⟨h1, h2⟩)
          clear HY HN
          rcases k1 with rfl | rfl | rfl
          all_goals
            go_enter Tryz.func42, Tryz.ntmps42
            go_wp2
            go_ret
            exact ⟨rfl, below_new _ _⟩
        · obtain rfl : x = false := HN (fun h => h2 h.2)
          clear HY HN
          rcases k1 with rfl | rfl | rfl
          all_goals
            go_enter Tryz.func42, Tryz.ntmps42
            go_wp2
            go_ret
            exact ⟨rfl, below_new _ _⟩
      · obtain rfl : x = false := HN (fun h => h1 h.1)
        clear HY HN
        rcases k1 with rfl | rfl | rfl
        all_goals
          go_enter Tryz.func42, Tryz.ntmps42
          go_wp2
          go_ret
          exact ⟨rfl, below_new _ _⟩
    · rw [if_neg k1, if_neg k10] at HY HN
      by_cases k3 : op = 3
      · subst k3
        rw [if_pos rfl] at HY HN
        clear k1 k10
        by_cases h1 : 0 ≤ off
        · obtain rfl : x = true := HY (h1)
          clear HY HN
          go_enter Tryz.func42, Tryz.ntmps42
          go_wp2
          go_ret
          exact ⟨rfl, below_new _ _⟩
        · obtain rfl : x = false := HN (h1)
          clear HY HN
          go_enter Tryz.func42, Tryz.ntmps42
          go_wp2
          go_ret
          exact ⟨rfl, below_new _ _⟩
      · rw [if_neg k3] at HY HN
        by_cases k5 : op = 5
        · subst k5
          rw [if_pos rfl] at HY HN
          clear k1 k10 k3
          by_cases h1 : 0 ≤ n
          · obtain rfl : x = true := HY (h1)
            clear HY HN
            go_enter Tryz.func42, Tryz.ntmps42
            go_wp2
            go_ret
            exact ⟨rfl, below_new _ _⟩
          · obtain rfl : x = false := HN (h1)
            clear HY HN
            go_enter Tryz.func42, Tryz.ntmps42
            go_wp2
            go_ret
            exact ⟨rfl, below_new _ _⟩
        · rw [if_neg k5] at HY HN
          by_cases k4 : op = 4
          · subst k4
            rw [if_pos rfl] at HY HN
            clear k1 k10 k3 k5
            by_cases h1 : 0 ≤ off
            · by_cases h2 : 0 ≤ n
              · obtain rfl : x = true := HY (⟨h1, h2⟩)
                clear HY HN
                go_enter Tryz.func42, Tryz.ntmps42
                go_wp2
                go_ret
                exact ⟨rfl, below_new _ _⟩
              · obtain rfl : x = false := HN (fun h => h2 h.2)
                clear HY HN
                go_enter Tryz.func42, Tryz.ntmps42
                go_wp2
                go_ret
                exact ⟨rfl, below_new _ _⟩
            · obtain rfl : x = false := HN (fun h => h1 h.1)
              clear HY HN
              go_enter Tryz.func42, Tryz.ntmps42
              go_wp2
              go_ret
              exact ⟨rfl, below_new _ _⟩
          · rw [if_neg k4] at HY HN
            by_cases k15 : op = 15
            · subst k15
              rw [if_pos rfl] at HY HN
              clear k1 k10 k3 k5 k4
              by_cases h1 : 0 ≤ n
              · by_cases h2 : n < 281474976710656
                · obtain rfl : x = true := HY (⟨h1, h2⟩)
                  clear HY HN
                  go_enter Tryz.func42, Tryz.ntmps42
                  go_wp2
                  go_ret
                  exact ⟨rfl, below_new _ _⟩
                · obtain rfl : x = false := HN (fun h => h2 h.2)
                  clear HY HN
                  go_enter Tryz.func42, Tryz.ntmps42
                  go_wp2
                  go_ret
                  exact ⟨rfl, below_new _ _⟩
              · obtain rfl : x = false := HN (fun h => h1 h.1)
                clear HY HN
                go_enter Tryz.func42, Tryz.ntmps42
                go_wp2
                go_ret
                exact ⟨rfl, below_new _ _⟩
            · rw [if_neg k15] at HY HN
              have a1 : ¬ op = 1 := fun e => k1 (.inl e)
              have a2 : ¬ op = 2 := fun e => k1 (.inr (.inl e))
              have a14 : ¬ op = 14 := fun e => k1 (.inr (.inr e))
              clear k1
              by_cases h1 : 1 ≤ op
              · by_cases h2 : op ≤ 15
                · obtain rfl : x = true := HY (⟨h1, h2⟩)
                  clear HY HN
                  go_enter Tryz.func42, Tryz.ntmps42
                  go_wp2
                  go_ret
                  exact ⟨rfl, below_new _ _⟩
                · obtain rfl : x = false := HN (fun h => h2 h.2)
                  clear HY HN
                  go_enter Tryz.func42, Tryz.ntmps42
                  go_wp2
                  go_ret
                  exact ⟨rfl, below_new _ _⟩
              · obtain rfl : x = false := HN (fun h => h1 h.1)
                clear HY HN
                go_enter Tryz.func42, Tryz.ntmps42
                go_wp2
                go_ret
                exact ⟨rfl, below_new _ _⟩
end
end Go.Proofs.YtkipkcmcolomcaaGreat.Pln
/- What a call does, case by case, as the program goes about it. It speaks of no program. -/
namespace Go.Proofs.YtkipkcmcolomcaaGreat.Pln
open Dir (N nm DirP Fine addE bytesL)
set_option linter.unusedVariables false
set_option linter.unusedSimpArgs false
/-- does a call follow the link that its path ends at -/
def folB (c : Cl) : Bool := decide (c.op = 1 ∨ c.op = 3 ∨ c.op = 5 ∨ c.op = 4 ∨ c.op = 13 ∨ c.op = 14 ∨ c.op = 15)
theorem fits_range {c : Cl} (h : fitsP c) : 1 ≤ c.op ∧ c.op ≤ 15 := by
  unfold fitsP at h
  by_cases h1 : c.op = 1 ∨ c.op = 2 ∨ c.op = 14
  · omega
  rw [if_neg h1] at h
  by_cases h2 : c.op = 10
  · omega
  rw [if_neg h2] at h
  by_cases h3 : c.op = 3
  · omega
  rw [if_neg h3] at h
  by_cases h4 : c.op = 5
  · omega
  rw [if_neg h4] at h
  by_cases h5 : c.op = 4
  · omega
  rw [if_neg h5] at h
  by_cases h6 : c.op = 15
  · omega
  rw [if_neg h6] at h
  exact h
section
variable {l : List Nd} {D : List (List N)} {J : Nat → Nat → Bool} {S : List N → List N} {c : Cl} {now : Nat}
theorem op_cases {n : Int} (h : 1 ≤ n ∧ n ≤ 15) : n = 1 ∨ n = 2 ∨ n = 3 ∨ n = 4 ∨ n = 5 ∨ n = 6 ∨ n = 7 ∨ n = 8 ∨ n = 9 ∨ n = 10 ∨ n = 11 ∨ n = 12 ∨ n = 13 ∨ n = 14 ∨ n = 15 := by omega
theorem do_lost (h : now < 281474976710656) (hf : fitsP c) {e : Int} (hg : goD l D c.path (folB c) = .error e) : doD J S l D c now = asIs l D e := by
  have hr := op_cases (fits_range hf)
  have hn : ¬ 281474976710656 ≤ now := by omega
  obtain ⟨op, path, to_, data, off, n, mode⟩ := c
  dsimp only at hr
  rcases hr with rfl | rfl | rfl | rfl | rfl | rfl | rfl | rfl | rfl | rfl | rfl | rfl | rfl | rfl | rfl <;>
    simp [fitsP, targetP, folB] at hf hg <;>
    simp [doD, hn, makesD, writesD, truncD, readD, dropsD, linksD, renamesD, tellsD, setsD, fileD, foundD, hg, asIs] <;>
    (try omega)
  intro hx
  rcases hx with h1 | h1 | h1
  · rw [h1] at hf; simp at hf
  · omega
  · exact absurd hf.2.2 h1
theorem do_unfit (h : now < 281474976710656) (hf : ¬ fitsP c) : doD J S l D c now = asIs l D 2 := by
  have hn : ¬ 281474976710656 ≤ now := by omega
  by_cases hr : 1 ≤ c.op ∧ c.op ≤ 15
  · have hr := op_cases hr
    obtain ⟨op, path, to_, data, off, n, mode⟩ := c
    dsimp only at hr
    rcases hr with rfl | rfl | rfl | rfl | rfl | rfl | rfl | rfl | rfl | rfl | rfl | rfl | rfl | rfl | rfl <;>
      simp [fitsP, targetP] at hf <;>
      simp [doD, hn, makesD, writesD, truncD, readD, dropsD, linksD, renamesD, tellsD, setsD, fileD, foundD, asIs] <;>
      (try omega)
    intro h1 h2 h3
    exact absurd h3 (hf (Nat.pos_of_ne_zero fun e => h1 (ByteArray.ext (Array.eq_empty_of_size_eq_zero e))) h2)
  · have hx : ∀ k : Int, 1 ≤ k ∧ k ≤ 15 → ¬ c.op = k := fun k hk e => hr (by rw [e]; exact hk)
    unfold doD
    rw [if_neg hn, if_neg (by rintro (e | e | e) <;> exact hx _ (by decide) e), if_neg (hx 3 (by decide)), if_neg (hx 5 (by decide)), if_neg (hx 4 (by decide)), if_neg (by rintro (e | e) <;> exact hx _ (by decide) e), if_neg (hx 8 (by decide)), if_neg (hx 9 (by decide)), if_neg (by rintro (e | e | e) <;> exact hx _ (by decide) e), if_neg (by rintro (e | e) <;> exact hx _ (by decide) e)]
theorem do_there (h : now < 281474976710656) (hf : fitsP c) (hm : c.op = 1 ∨ c.op = 2 ∨ c.op = 10) {r : Pl} (hg : goD l D c.path (folB c) = .ok r) (h0 : ¬ r.ino = 0) : doD J S l D c now = asIs l D 113 := by
  have hn : ¬ 281474976710656 ≤ now := by omega
  obtain ⟨op, path, to_, data, off, n, mode⟩ := c
  dsimp only at hm
  rcases hm with rfl | rfl | rfl <;>
    simp [fitsP, targetP, folB] at hf hg <;>
    simp [doD, hn, makesD, madeD, hg, h0, asIs] <;>
    (try omega)
  intro hx
  rcases hx with h1 | h1 | h1
  · rw [h1] at hf; simp at hf
  · omega
  · exact absurd hf.2.2 h1
theorem do_none (h : now < 281474976710656) (hf : fitsP c) (hm : ¬ (c.op = 1 ∨ c.op = 2 ∨ c.op = 10)) {r : Pl} (hg : goD l D c.path (folB c) = .ok r) (h0 : r.ino = 0) : doD J S l D c now = asIs l D 112 := by
  have hr := op_cases (fits_range hf)
  have hn : ¬ 281474976710656 ≤ now := by omega
  obtain ⟨op, path, to_, data, off, n, mode⟩ := c
  dsimp only at hr hm
  rcases hr with rfl | rfl | rfl | rfl | rfl | rfl | rfl | rfl | rfl | rfl | rfl | rfl | rfl | rfl | rfl <;>
    simp at hm <;>
    simp [fitsP, targetP, folB] at hf hg <;>
    simp [doD, hn, makesD, writesD, truncD, readD, dropsD, linksD, renamesD, tellsD, setsD, fileD, foundD, hg, h0, asIs] <;>
    (try omega)
theorem do_unsuit (h : now < 281474976710656) (hf : fitsP c) (hm : ¬ (c.op = 1 ∨ c.op = 2 ∨ c.op = 10)) {r : Pl} (hg : goD l D c.path (folB c) = .ok r) (h0 : ¬ r.ino = 0) (hs : ¬ suitsE c.op (nd l r.ino).kind = 0) : doD J S l D c now = asIs l D (suitsE c.op (nd l r.ino).kind) := by
  have hr := op_cases (fits_range hf)
  have hn : ¬ 281474976710656 ≤ now := by omega
  obtain ⟨op, path, to_, data, off, n, mode⟩ := c
  dsimp only at hr hm hs ⊢
  rcases hr with rfl | rfl | rfl | rfl | rfl | rfl | rfl | rfl | rfl | rfl | rfl | rfl | rfl | rfl | rfl <;>
    simp at hm <;>
    simp [suitsE] at hs <;>
    simp [fitsP, targetP, folB] at hf hg <;>
    simp [doD, hn, makesD, writesD, truncD, readD, dropsD, linksD, renamesD, tellsD, setsD, fileD, foundD, hg, h0, asIs, suitsE, hs] <;>
    (try omega)
/-- what a call that asks answers -/
noncomputable def tellO (S : List N → List N) (l : List Nd) (D : List (List N)) (c : Cl) (x : Nat) : Rp :=
  if c.op = 4 then ⟨0, readOf (nd l x).data c.off.toNat c.n.toNat, [], St.zero⟩
  else if c.op = 11 then ⟨0, (nd l x).data, [], St.zero⟩
  else if c.op = 12 then ⟨0, ⟨#[]⟩, [], ⟨(nd l x).kind, (nd l x).mode, (nd l x).links, (nd l x).data.size, (nd l x).time⟩⟩
  else ⟨0, ⟨#[]⟩, S (ds D x), St.zero⟩
theorem do_asksO (h : now < 281474976710656) (hf : fitsP c) (hm : c.op = 4 ∨ c.op = 11 ∨ c.op = 12 ∨ c.op = 13) {r : Pl} (hg : goD l D c.path (folB c) = .ok r) (h0 : ¬ r.ino = 0) (hs : suitsE c.op (nd l r.ino).kind = 0) : doD J S l D c now = ⟨l, D, tellO S l D c r.ino⟩ := by
  have hn : ¬ 281474976710656 ≤ now := by omega
  obtain ⟨op, path, to_, data, off, n, mode⟩ := c
  dsimp only at hm hs
  rcases hm with rfl | rfl | rfl | rfl <;>
    simp [suitsE] at hs <;>
    simp [fitsP, targetP, folB] at hf hg <;>
    simp [doD, hn, readD, tellsD, fileD, foundD, hg, h0, hs, tellO, readOf] <;>
    (try omega)
/-- the files with a new one -/
def madeL (l : List Nd) (D : List (List N)) (r : Pl) (n : Nd) (now : Nat) : List Nd := ((if fresh l = l.length then l ++ [Nd.zero] else l).set (fresh l) ⟨n.kind, n.mode, 1, now, n.data⟩).set r.dir (dirN (nd l r.dir) (bytesL (ds D r.dir ++ [⟨r.name, fresh l⟩])) now)
def nodeO (c : Cl) : Nd := if c.op = 10 then ⟨3, 511, 0, 0, c.data⟩ else ⟨if c.op = 2 then 2 else 1, c.mode.toNat, 0, 0, ⟨#[]⟩⟩
def makeO (l : List Nd) (D : List (List N)) (r : Pl) (n : Nd) (now : Nat) : Except Int (List Nd) := if 240 ≤ fresh l then .error 145 else if ¬ addE (ds D r.dir) r.name (fresh l) = 0 then .error (addE (ds D r.dir) r.name (fresh l)) else .ok (madeL l D r n now)
def wriO (l : List Nd) (x : Nat) (c : Cl) (now : Nat) : Except Int (List Nd) := if 200000 < c.off + c.data.size then .error 144 else if c.data = ⟨#[]⟩ then .ok l else .ok (l.set x (dataN (nd l x) (stood (nd l x).data c.off.toNat c.data) now))
def truO (l : List Nd) (x : Nat) (c : Cl) (now : Nat) : Except Int (List Nd) := if 200000 < c.n then .error 144 else .ok (l.set x (dataN (nd l x) ((stood (nd l x).data c.n.toNat ⟨#[]⟩).extract 0 c.n.toNat) now))
def rmdO (l : List Nd) (D : List (List N)) (r : Pl) (now : Nat) : Except Int (List Nd) := if r.dir = 0 then .error 2 else if ¬ (nd l r.ino).data = ⟨#[]⟩ then .error 142 else .ok (dropD l D r now).1
/-- what the call's own work comes to is what the call does -/
def Does (l : List Nd) (D : List (List N)) (o : Except Int (List Nd)) (u : Out) : Prop := match o with
  | .error n => u = asIs l D n
  | .ok m => u.l = m ∧ u.r = rpE 0
theorem does_make (h : now < 281474976710656) (hf : fitsP c) (hm : c.op = 1 ∨ c.op = 2 ∨ c.op = 10) {r : Pl} (hg : goD l D c.path (folB c) = .ok r) (h0 : r.ino = 0) : Does l D (makeO l D r (nodeO c) now) (doD J S l D c now) := by
  have hn : ¬ 281474976710656 ≤ now := by omega
  have e : doD J S l D c now = madeD l D r (nodeO c).kind (nodeO c).mode (nodeO c).data now := by
    obtain ⟨op, path, to_, data, off, n, mode⟩ := c
    dsimp only at hm
    rcases hm with rfl | rfl | rfl <;>
      simp [fitsP, targetP, folB] at hf hg <;>
      simp [doD, hn, makesD, hg, h0, asIs, nodeO] <;>
      (try omega)
    intro hx
    rcases hx with h1 | h1 | h1
    · rw [h1] at hf; simp at hf
    · omega
    · exact absurd hf.2.2 h1
  rw [e]
  unfold madeD makeO Does
  by_cases h1 : 240 ≤ fresh l
  · simp [h0, h1]
  · by_cases h2 : addE (ds D r.dir) r.name (fresh l) = 0
    · simp [h0, h1, h2, madeL]
    · simp [h0, h1, h2]
theorem does_write (h : now < 281474976710656) (hf : fitsP c) (hm : c.op = 3) {r : Pl} (hg : goD l D c.path (folB c) = .ok r) (h0 : ¬ r.ino = 0) (hs : suitsE c.op (nd l r.ino).kind = 0) : Does l D (wriO l r.ino c now) (doD J S l D c now) := by
  have hn : ¬ 281474976710656 ≤ now := by omega
  rw [do_write (J := J) (S := S) h hm]
  obtain ⟨op, path, to_, data, off, n, mode⟩ := c
  dsimp only at hm
  subst hm
  simp [suitsE] at hs
  simp [fitsP, folB] at hf hg
  unfold writesD wriO Does
  have h1 : ¬ off < 0 := by omega
  simp only [h1, if_false, fileD, foundD, hg, h0, hs]
  by_cases h2 : 200000 < off + data.size
  · simp [h2, asIs]
  · by_cases h3 : data = ⟨#[]⟩
    · have h4 : ¬ 200000 < off + ((⟨#[]⟩ : ByteArray).size : Int) := by rw [← h3]; exact h2
      subst h3
      rw [if_neg h4, if_neg h4, if_pos rfl, if_pos rfl]
      exact ⟨rfl, rfl⟩
    · simp [h2, h3]
theorem does_trunc (h : now < 281474976710656) (hf : fitsP c) (hm : c.op = 5) {r : Pl} (hg : goD l D c.path (folB c) = .ok r) (h0 : ¬ r.ino = 0) (hs : suitsE c.op (nd l r.ino).kind = 0) : Does l D (truO l r.ino c now) (doD J S l D c now) := by
  have hn : ¬ 281474976710656 ≤ now := by omega
  rw [do_trunc (J := J) (S := S) h hm]
  obtain ⟨op, path, to_, data, off, n, mode⟩ := c
  dsimp only at hm
  subst hm
  simp [suitsE] at hs
  simp [fitsP, folB] at hf hg
  unfold truncD truO Does
  have h1 : ¬ n < 0 := by omega
  simp only [h1, if_false, fileD, foundD, hg, h0, hs]
  by_cases h2 : 200000 < n
  · simp [h2, asIs]
  · simp [h2]
theorem does_unlink (h : now < 281474976710656) (hf : fitsP c) (hm : c.op = 6) {r : Pl} (hg : goD l D c.path (folB c) = .ok r) (h0 : ¬ r.ino = 0) (hs : suitsE c.op (nd l r.ino).kind = 0) (hd : ¬ r.dir = 0) : Does l D (.ok (dropD l D r now).1) (doD J S l D c now) := by
  rw [do_drop (J := J) (S := S) h (.inl hm)]
  obtain ⟨op, path, to_, data, off, n, mode⟩ := c
  dsimp only at hm
  subst hm
  simp [suitsE] at hs
  simp [fitsP, folB] at hf hg
  unfold dropsD Does
  simp [foundD, hg, h0, hs, hd]
theorem does_rmdir (h : now < 281474976710656) (hf : fitsP c) (hm : c.op = 7) {r : Pl} (hg : goD l D c.path (folB c) = .ok r) (h0 : ¬ r.ino = 0) (hs : suitsE c.op (nd l r.ino).kind = 0) : Does l D (rmdO l D r now) (doD J S l D c now) := by
  rw [do_drop (J := J) (S := S) h (.inr hm)]
  obtain ⟨op, path, to_, data, off, n, mode⟩ := c
  dsimp only at hm
  subst hm
  simp [suitsE] at hs
  simp [fitsP, folB] at hf hg
  unfold dropsD rmdO Does
  by_cases h1 : r.dir = 0
  · simp [foundD, hg, h0, hs, h1]
  · by_cases h2 : (nd l r.ino).data = ⟨#[]⟩
    · simp [foundD, hg, h0, hs, h1, h2]
    · simp [foundD, hg, h0, hs, h1, h2]
theorem does_set (h : now < 281474976710656) (hf : fitsP c) (hm : c.op = 14 ∨ c.op = 15) {r : Pl} (hg : goD l D c.path (folB c) = .ok r) (h0 : ¬ r.ino = 0) : Does l D (.ok (l.set r.ino (if c.op = 15 then { nd l r.ino with time := c.n.toNat } else { nd l r.ino with mode := c.mode.toNat }))) (doD J S l D c now) := by
  have hn : ¬ 281474976710656 ≤ now := by omega
  obtain ⟨op, path, to_, data, off, n, mode⟩ := c
  dsimp only at hm
  rcases hm with rfl | rfl <;>
    simp [fitsP, folB] at hf hg <;>
    simp [doD, hn, setsD, foundD, hg, h0, Does]
  · rw [if_neg (by omega)]; exact ⟨rfl, rfl⟩
  · rw [if_neg (by omega)]; exact ⟨rfl, rfl⟩
end
end Go.Proofs.YtkipkcmcolomcaaGreat.Pln
/- Replies laid over others. -/
namespace Go.Proofs.YtkipkcmcolomcaaGreat.Pln
open Go.RowKit
set_option linter.unusedVariables false
set_option linter.unusedSimpArgs false
/-- a reply is laid over another one, part by part -/
theorem RpAt.put8 {W : World} {b : Nat} {r0 : Rp} {u0 : Value} (h : RpAt W b r0 u0) (r : Rp) (u : Value) : RpAt ((((((((W.setCell ⟨b, 0, none⟩ (.int .i64 r.code)).setCell ⟨b, 1, none⟩ (.string r.data)).setCell ⟨b, 2, none⟩ u).setCell ⟨b, 3, none⟩ (.int .i64 r.stat.kind)).setCell ⟨b, 4, none⟩ (.int .u16 r.stat.mode)).setCell ⟨b, 5, none⟩ (.int .u16 r.stat.links)).setCell ⟨b, 6, none⟩ (.int .i64 r.stat.size)).setCell ⟨b, 7, none⟩ (.int .u64 r.stat.time)) b r u ∧ Below b W ((((((((W.setCell ⟨b, 0, none⟩ (.int .i64 r.code)).setCell ⟨b, 1, none⟩ (.string r.data)).setCell ⟨b, 2, none⟩ u).setCell ⟨b, 3, none⟩ (.int .i64 r.stat.kind)).setCell ⟨b, 4, none⟩ (.int .u16 r.stat.mode)).setCell ⟨b, 5, none⟩ (.int .u16 r.stat.links)).setCell ⟨b, 6, none⟩ (.int .i64 r.stat.size)).setCell ⟨b, 7, none⟩ (.int .u64 r.stat.time)) := by
  unfold RpAt at h
  have h0 : (W.setCell ⟨b, 0, none⟩ (.int .i64 r.code)).heap[b]? = some (.cells #[.int .i64 r.code, .string r0.data, u0, .int .i64 r0.stat.kind, .int .u16 r0.stat.mode, .int .u16 r0.stat.links, .int .i64 r0.stat.size, .int .u64 r0.stat.time] 36 (0, 0)) := heap_setCell_same _ b 0 _ _ (.int .i64 r.code) h
  have h1 : ((W.setCell ⟨b, 0, none⟩ (.int .i64 r.code)).setCell ⟨b, 1, none⟩ (.string r.data)).heap[b]? = some (.cells #[.int .i64 r.code, .string r.data, u0, .int .i64 r0.stat.kind, .int .u16 r0.stat.mode, .int .u16 r0.stat.links, .int .i64 r0.stat.size, .int .u64 r0.stat.time] 36 (0, 0)) := heap_setCell_same _ b 1 _ _ (.string r.data) h0
  have h2 : (((W.setCell ⟨b, 0, none⟩ (.int .i64 r.code)).setCell ⟨b, 1, none⟩ (.string r.data)).setCell ⟨b, 2, none⟩ u).heap[b]? = some (.cells #[.int .i64 r.code, .string r.data, u, .int .i64 r0.stat.kind, .int .u16 r0.stat.mode, .int .u16 r0.stat.links, .int .i64 r0.stat.size, .int .u64 r0.stat.time] 36 (0, 0)) := heap_setCell_same _ b 2 _ _ u h1
  have h3 : ((((W.setCell ⟨b, 0, none⟩ (.int .i64 r.code)).setCell ⟨b, 1, none⟩ (.string r.data)).setCell ⟨b, 2, none⟩ u).setCell ⟨b, 3, none⟩ (.int .i64 r.stat.kind)).heap[b]? = some (.cells #[.int .i64 r.code, .string r.data, u, .int .i64 r.stat.kind, .int .u16 r0.stat.mode, .int .u16 r0.stat.links, .int .i64 r0.stat.size, .int .u64 r0.stat.time] 36 (0, 0)) := heap_setCell_same _ b 3 _ _ (.int .i64 r.stat.kind) h2
  have h4 : (((((W.setCell ⟨b, 0, none⟩ (.int .i64 r.code)).setCell ⟨b, 1, none⟩ (.string r.data)).setCell ⟨b, 2, none⟩ u).setCell ⟨b, 3, none⟩ (.int .i64 r.stat.kind)).setCell ⟨b, 4, none⟩ (.int .u16 r.stat.mode)).heap[b]? = some (.cells #[.int .i64 r.code, .string r.data, u, .int .i64 r.stat.kind, .int .u16 r.stat.mode, .int .u16 r0.stat.links, .int .i64 r0.stat.size, .int .u64 r0.stat.time] 36 (0, 0)) := heap_setCell_same _ b 4 _ _ (.int .u16 r.stat.mode) h3
  have h5 : ((((((W.setCell ⟨b, 0, none⟩ (.int .i64 r.code)).setCell ⟨b, 1, none⟩ (.string r.data)).setCell ⟨b, 2, none⟩ u).setCell ⟨b, 3, none⟩ (.int .i64 r.stat.kind)).setCell ⟨b, 4, none⟩ (.int .u16 r.stat.mode)).setCell ⟨b, 5, none⟩ (.int .u16 r.stat.links)).heap[b]? = some (.cells #[.int .i64 r.code, .string r.data, u, .int .i64 r.stat.kind, .int .u16 r.stat.mode, .int .u16 r.stat.links, .int .i64 r0.stat.size, .int .u64 r0.stat.time] 36 (0, 0)) := heap_setCell_same _ b 5 _ _ (.int .u16 r.stat.links) h4
  have h6 : (((((((W.setCell ⟨b, 0, none⟩ (.int .i64 r.code)).setCell ⟨b, 1, none⟩ (.string r.data)).setCell ⟨b, 2, none⟩ u).setCell ⟨b, 3, none⟩ (.int .i64 r.stat.kind)).setCell ⟨b, 4, none⟩ (.int .u16 r.stat.mode)).setCell ⟨b, 5, none⟩ (.int .u16 r.stat.links)).setCell ⟨b, 6, none⟩ (.int .i64 r.stat.size)).heap[b]? = some (.cells #[.int .i64 r.code, .string r.data, u, .int .i64 r.stat.kind, .int .u16 r.stat.mode, .int .u16 r.stat.links, .int .i64 r.stat.size, .int .u64 r0.stat.time] 36 (0, 0)) := heap_setCell_same _ b 6 _ _ (.int .i64 r.stat.size) h5
  have h7 : ((((((((W.setCell ⟨b, 0, none⟩ (.int .i64 r.code)).setCell ⟨b, 1, none⟩ (.string r.data)).setCell ⟨b, 2, none⟩ u).setCell ⟨b, 3, none⟩ (.int .i64 r.stat.kind)).setCell ⟨b, 4, none⟩ (.int .u16 r.stat.mode)).setCell ⟨b, 5, none⟩ (.int .u16 r.stat.links)).setCell ⟨b, 6, none⟩ (.int .i64 r.stat.size)).setCell ⟨b, 7, none⟩ (.int .u64 r.stat.time)).heap[b]? = some (.cells #[.int .i64 r.code, .string r.data, u, .int .i64 r.stat.kind, .int .u16 r.stat.mode, .int .u16 r.stat.links, .int .i64 r.stat.size, .int .u64 r.stat.time] 36 (0, 0)) := heap_setCell_same _ b 7 _ _ (.int .u64 r.stat.time) h6
  exact ⟨h7, (((((((((Below.refl b W).setCell (p := ⟨b, 0, none⟩) (Nat.le_refl _) _).setCell (p := ⟨b, 1, none⟩) (Nat.le_refl _) _).setCell (p := ⟨b, 2, none⟩) (Nat.le_refl _) _).setCell (p := ⟨b, 3, none⟩) (Nat.le_refl _) _).setCell (p := ⟨b, 4, none⟩) (Nat.le_refl _) _).setCell (p := ⟨b, 5, none⟩) (Nat.le_refl _) _).setCell (p := ⟨b, 6, none⟩) (Nat.le_refl _) _).setCell (p := ⟨b, 7, none⟩) (Nat.le_refl _) _)⟩
theorem below_set8 {B b : Nat} {a w : World} (h : Below B a w) (hb : B ≤ b) (u0 u1 u2 u3 u4 u5 u6 u7 : Value) : Below B a ((((((((w.setCell ⟨b, 0, none⟩ u0).setCell ⟨b, 1, none⟩ u1).setCell ⟨b, 2, none⟩ u2).setCell ⟨b, 3, none⟩ u3).setCell ⟨b, 4, none⟩ u4).setCell ⟨b, 5, none⟩ u5).setCell ⟨b, 6, none⟩ u6).setCell ⟨b, 7, none⟩ u7) := ((((((((h.setCell (p := ⟨b, 0, none⟩) hb u0).setCell (p := ⟨b, 1, none⟩) hb u1).setCell (p := ⟨b, 2, none⟩) hb u2).setCell (p := ⟨b, 3, none⟩) hb u3).setCell (p := ⟨b, 4, none⟩) hb u4).setCell (p := ⟨b, 5, none⟩) hb u5).setCell (p := ⟨b, 6, none⟩) hb u6).setCell (p := ⟨b, 7, none⟩) hb u7)
theorem RpAt.drew {W : World} {b : Nat} {r : Rp} {u : Value} (h : RpAt W b r u) : RpAt W.drew b r u := h
attribute [local go_sem] Oper.semAt_some in
theorem results_rp {fn : Func} {r : Tmp} (h : fn.results = #[.cell r 36]) (tmps : Array Value) (w : World) {b : Nat} {p : Rp} {u : Value} (hp : tmps.getD r undef = .pointer (some ⟨b, 0, none⟩)) (hA : RpAt w b p u) :
    (results fn tmps).run Tryz.prog w = .ok (p.val u) w := by
  obtain ⟨c0, c1, c2, c3, c4, c5, c6, c7⟩ := hA.c
  rw [Array.getD_eq_getD_getElem?] at hp
  simp [results, h, hp, go_sem, c0, c1, c2, c3, c4, c5, c6, c7]
  rfl
/-- a call in a box -/
def clO (c : Cl) : Obj := .cells #[.int .i64 c.op, .string c.path, .string c.to_, .string c.data, .int .i64 c.off, .int .i64 c.n, .int .i64 c.mode] 28
def ClAt (W : World) (b : Nat) (c : Cl) : Prop := W.heap[b]? = some (.cells #[.int .i64 c.op, .string c.path, .string c.to_, .string c.data, .int .i64 c.off, .int .i64 c.n, .int .i64 c.mode] 28 (0, 0))
theorem ClAt.th {W W' : World} {b : Nat} {c : Cl} (h : ClAt W b c) (hB : Below W.heap.size W W') : ClAt W' b c := (hB.block b ((Array.getElem?_eq_some_iff.1 h).1)).trans h
theorem ClAt.new (w : World) (c : Cl) : ClAt (w.alloc (clO c)) w.heap.size c := World.alloc_heap_new w _
theorem ClAt.c {W : World} {b : Nat} {c : Cl} (h : ClAt W b c) : W.cell? ⟨b, 0, none⟩ = some (.int .i64 c.op) ∧ W.cell? ⟨b, 1, none⟩ = some (.string c.path) ∧ W.cell? ⟨b, 2, none⟩ = some (.string c.to_) ∧ W.cell? ⟨b, 3, none⟩ = some (.string c.data) ∧ W.cell? ⟨b, 4, none⟩ = some (.int .i64 c.off) ∧ W.cell? ⟨b, 5, none⟩ = some (.int .i64 c.n) ∧ W.cell? ⟨b, 6, none⟩ = some (.int .i64 c.mode) := by
  unfold ClAt at h
  simp only [World.cell?, h]
  exact ⟨rfl, rfl, rfl, rfl, rfl, rfl, rfl⟩
/-- no slice of files lies in a reply's box -/
theorem Nodes.off {W : World} {g : Nat} {r : Rp} {p : Option Addr} {n c : Nat} (hr : RpAt W g r (.slice p n c)) {v : Value} {L : List Nd} (h : Nodes W v L) : ∀ g' o k c, v = .slice (some ⟨g', o, none⟩) k c → 0 < k → g' ≠ g := by
  intro g' o k c e hk he
  subst he
  subst e
  obtain ⟨a, cap, e2, _⟩ := h.parts
  injection e2 with e3 e4 e5
  obtain ⟨h0, h1, _, h3, _⟩ := Nodes.get0 (n := k) e4.symm h hk
  unfold RpAt at hr
  simp only [World.cell?, hr] at h0 h1 h3
  have ho : o < 8 := by
    rcases Nat.lt_or_ge o 8 with hh | hh
    · exact hh
    · exfalso
      rw [Array.getElem?_eq_none (by show 8 ≤ o; exact hh)] at h0
      cases h0
  have hcs : o = 0 ∨ o = 1 ∨ o = 2 ∨ o = 3 ∨ o = 4 ∨ o = 5 ∨ o = 6 ∨ o = 7 := by omega
  rcases hcs with rfl | rfl | rfl | rfl | rfl | rfl | rfl | rfl <;> simp at h0 h1 h3
end Go.Proofs.YtkipkcmcolomcaaGreat.Pln
/- piece: at most so many bytes from a place on. -/
namespace Go.Proofs.YtkipkcmcolomcaaGreat.Pln
open Go.RowKit
attribute [local go_sem] Oper.semAt_some
set_option linter.unusedVariables false
set_option linter.unusedSimpArgs false
section
set_option maxRecDepth 100000
set_option maxHeartbeats 4000000
theorem piece_any (s : ByteArray) (o n : Nat) (w : World) (hs : s.size ≤ 281474976710656) (ho : o ≤ 9223372036854775807) (hn : n ≤ 9223372036854775807) :
    Calls Tryz.prog 48 #[.string s, .int .i64 (o : Int), .int .i64 (n : Int)] w (fun e w' => e = .returned (.string (s.extract (min o s.size) (min o s.size + min n (s.size - min o s.size)))) ∧ w' = w) := by
  obtain ⟨z, hz⟩ : ∃ z, s.size = z := ⟨_, rfl⟩
  have HZ := Lib.hid hz
  go_enter Tryz.func48, Tryz.ntmps48
  go_wp2
  go_ret
  refine ⟨?_, rfl⟩
  have e1 : (min (o : Int) (z : Int)).toNat = min o z := by omega
  have e2 : ∀ y : Nat, (min (n : Int) (y : Int)).toNat = min n y := fun y => by omega
  rw [e1, e2, HZ.out, ByteArray.extract_extract]
  have h1 : min o z + 0 = min o z := rfl
  have h2 : min (min o z + min n (z - min o z)) z = min o z + min n (z - min o z) := by omega
  rw [h1, h2]
  rfl
end
end Go.Proofs.YtkipkcmcolomcaaGreat.Pln
