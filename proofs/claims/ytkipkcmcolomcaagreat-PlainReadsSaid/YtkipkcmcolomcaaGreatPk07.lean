/- Several texts in one, each under its own heading. -/
import Derived.Test.YtkipkcmcolomcaaGreatPk06
/- What was made and taken away; names more and less; what is listed. They speak of no program. -/
namespace Go.Proofs.YtkipkcmcolomcaaGreat.Pln
open Dir (N N.zero nm nm_get nm_mem mem_nm nm_erase nm_app nm_last DirP Fine fineE idx idx_is idx_not idx_eq idx_none idx_le bytesL ent bytesL_snoc findV findE find_zero addE add_zero)
set_option linter.unusedVariables false
set_option linter.unusedSimpArgs false
/-! ### where a name is, behind one more or one less -/
theorem findV_of {L : List N} {s : ByteArray} (hn : Dir.nameP s) : findV L s = if idx L s < L.length then (nm L (idx L s)).ino else 0 := by
  unfold findV
  by_cases h : idx L s < L.length
  · rw [if_pos (find_zero.2 ⟨hn, h⟩), if_pos h]
  · rw [if_neg (fun e => h (find_zero.1 e).2), if_neg h]
theorem findV_no {L : List N} {s : ByteArray} (hn : ¬ Dir.nameP s) : findV L s = 0 := by
  unfold findV
  rw [if_neg (fun e => hn (find_zero.1 e).1)]
theorem idx_app {L : List N} {e : N} {t : ByteArray} : idx (L ++ [e]) t = if idx L t < L.length then idx L t else L.length + if e.name = t then 0 else 1 := by
  unfold idx
  rw [List.findIdx_append]
  by_cases h : List.findIdx (fun e => decide (e.name = t)) L < L.length
  · rw [if_pos h, if_pos h]
  · rw [if_neg h, if_neg h, List.findIdx_singleton]
    by_cases h2 : e.name = t
    · rw [if_pos h2, if_pos (by simpa using h2)]; omega
    · rw [if_neg h2, if_neg (by simpa using h2)]; omega
theorem findV_snoc {L : List N} {s t : ByteArray} {x : Nat} (hs : idx L s = L.length) (hn : Dir.nameP s) : findV (L ++ [⟨s, x⟩]) t = if t = s then x else findV L t := by
  by_cases ht : Dir.nameP t
  · rw [findV_of ht, findV_of ht, idx_app, List.length_append]
    by_cases h : idx L t < L.length
    · have hts : ¬ t = s := fun e => by rw [e, hs] at h; omega
      rw [if_pos h, if_neg hts, if_pos h, if_pos (by show idx L t < L.length + 1; omega), nm_app h]
    · rw [if_neg h, if_neg h]
      by_cases h2 : s = t
      · rw [if_pos h2, if_pos h2.symm, if_pos (by show L.length + 0 < L.length + 1; omega), Nat.add_zero, nm_last]
      · rw [if_neg h2, if_neg (fun e : t = s => h2 e.symm), if_neg]
        show ¬ L.length + 1 < L.length + 1
        omega
  · rw [findV_no ht, findV_no ht, if_neg (fun e => ht (by rw [e]; exact hn))]
theorem findV_erase {L : List N} (hf : Fine L) {s t : ByteArray} (hs : idx L s < L.length) : findV (L.eraseIdx (idx L s)) t = if t = s then 0 else findV L t := by
  have hfe := hf.erase hs
  have hl := Dir.erase_length hs
  by_cases ht : Dir.nameP t
  case neg =>
    rw [findV_no ht, findV_no ht]
    split <;> rfl
  rw [findV_of ht, findV_of ht]
  by_cases hts : t = s
  · rw [if_pos hts, if_neg]
    intro hi
    have h1 := idx_is hi
    rw [nm_erase] at h1
    by_cases h2 : idx (L.eraseIdx (idx L s)) t < idx L s
    · rw [if_pos h2] at h1
      exact idx_not h2 (by rw [h1, hts])
    · rw [if_neg h2] at h1
      have := idx_eq hf (i := idx (L.eraseIdx (idx L s)) t + 1) (by omega) h1
      rw [hts] at this h2
      omega
  · rw [if_neg hts]
    by_cases h : idx L t < L.length
    · have hne : ¬ idx L t = idx L s := fun e => hts (by
        have h1 := idx_is h
        have h2 := idx_is hs
        rw [e] at h1
        exact h1.symm.trans h2)
      rw [if_pos h]
      by_cases h3 : idx L t < idx L s
      · have hi := idx_eq hfe (s := t) (i := idx L t) (by omega) (by rw [nm_erase, if_pos h3]; exact idx_is h)
        rw [hi, if_pos (by omega), nm_erase, if_pos h3]
      · have hi := idx_eq hfe (s := t) (i := idx L t - 1) (by omega) (by rw [nm_erase, if_neg (by omega), show idx L t - 1 + 1 = idx L t by omega]; exact idx_is h)
        rw [hi, if_pos (by omega), nm_erase, if_neg (by omega), show idx L t - 1 + 1 = idx L t by omega]
    · rw [if_neg h, if_neg]
      intro hi
      have h1 := idx_is hi
      rw [nm_erase] at h1
      have hn : idx L t = L.length := by have := idx_le L t; omega
      by_cases h2 : idx (L.eraseIdx (idx L s)) t < idx L s
      · rw [if_pos h2] at h1
        exact idx_none.1 hn _ (by omega) h1
      · rw [if_neg h2] at h1
        exact idx_none.1 hn _ (by omega) h1
section
variable {J : Nat → Nat → Bool} {S : List N → List N} {l : List Nd} {D : List (List N)} {c : Cl} {now : Nat}
theorem named_kind (h : RightD l D) {i : Nat} {t : ByteArray} (h0 : ¬ findV (ds D i) t = 0) : ¬ nd l (findV (ds D i) t) = Nd.zero := by
  obtain ⟨h1, h2, _⟩ := findV_mem rfl h0
  have := (h.named (nm_mem h1)).2.2
  rw [h2] at this
  exact this
/-- a name more, by what the nodes and names are then -/
theorem more_of (h : RightD l D) {m : List Nd} {E : List (List N)} {d x : Nat} {s : ByteArray} {f : Bool} (hn : Dir.nameP s) (hi : idx (ds D d) s = (ds D d).length) (hx : ¬ x = 0)
    (hds : ∀ j, ds E j = if j = d then ds D d ++ [⟨s, x⟩] else ds D j) (hk : ∀ j, ¬ nd l j = Nd.zero → SameK l m j) (hl : ¬ (nd m x).kind = 3 ∨ f = false) : More l m D E d s x f := by
  refine ⟨?_, ?_, hx, fun i t hit => ?_, fun i t h0 => hk _ (named_kind h h0), hk 2 h.root_big, hl⟩
  · rw [findV_of hn, if_neg (by omega)]
  · rw [hds, if_pos rfl, findV_snoc hi hn, if_pos rfl]
  · rw [hds]
    by_cases h1 : i = d
    · rw [if_pos h1, findV_snoc hi hn, if_neg (fun e => hit ⟨h1, e⟩), h1]
    · rw [if_neg h1]
/-- a directory made: what is there then -/
theorem mkdir_is (h : RightD l D) (ho : c.op = 2) (hc : (doD J S l D c now).r.code = 0) : ∃ p, goD l D c.path false = .ok p ∧ p.ino = 0 ∧ (nd l p.dir).kind = 2 ∧ Dir.nameP p.name ∧ idx (ds D p.dir) p.name = (ds D p.dir).length ∧ now < 281474976710656 ∧ nd l (fresh l) = Nd.zero ∧ 3 ≤ fresh l ∧ l.length ≤ (doD J S l D c now).l.length ∧
    (∀ j, nd (doD J S l D c now).l j = if j = p.dir then dirN (nd l p.dir) (bytesL (ds D p.dir ++ [⟨p.name, fresh l⟩])) now else if j = fresh l then ⟨2, c.mode.toNat, 1, now, ⟨#[]⟩⟩ else nd l j) ∧
    (∀ j, ds (doD J S l D c now).D j = if j = p.dir then ds D p.dir ++ [⟨p.name, fresh l⟩] else ds D j) := by
  by_cases ht : now < 281474976710656
  case neg => rw [do_late (by omega)] at hc; exact absurd (show (2 : Int) = 0 from hc) (by decide)
  rw [do_make ht (by omega)] at hc ⊢
  unfold makesD at hc ⊢
  by_cases hb : (if c.op = 10 then c.data.size < 1 ∨ 500 < c.data.size ∨ ¬ bareP c.data else c.mode < 0 ∨ 4095 < c.mode)
  · rw [if_pos hb] at hc; exact absurd (show (2 : Int) = 0 from hc) (by decide)
  rw [if_neg hb] at hc ⊢
  rw [decide_eq_false (by omega : ¬ c.op = 1)] at hc ⊢
  cases hg : goD l D c.path false with
  | error e => rw [hg] at hc; exact absurd hc (goD_err hg)
  | ok p =>
    rw [hg] at hc
    simp only at hc ⊢
    rw [if_neg (by omega), if_pos ho] at hc ⊢
    have hp := goD_place h.root.1 hg
    unfold madeD at hc ⊢
    by_cases h1 : p.ino = 0
    case neg => rw [if_pos h1] at hc; exact absurd (show (113 : Int) = 0 from hc) (by decide)
    rw [if_neg (fun e => e h1)] at hc ⊢
    by_cases h2 : 240 ≤ fresh l
    · rw [if_pos h2] at hc; exact absurd (show (145 : Int) = 0 from hc) (by decide)
    rw [if_neg h2] at hc ⊢
    by_cases h3 : addE (ds D p.dir) p.name (fresh l) = 0
    case neg => rw [if_pos h3] at hc; exact absurd hc h3
    rw [if_neg (fun e => e h3)]
    obtain ⟨a1, a2, a3, a4⟩ := add_zero.1 h3
    have hdir := none_dir h hp h1
    have hfl := fresh_low l
    have hfe := fresh_le h.low
    have hfz := fresh_zero h.low
    obtain ⟨d1, d2⟩ := h.big (zero_kind (n := nd l p.dir) (by rw [hdir]; decide))
    have hl0 : ∀ j, nd (if fresh l = l.length then l ++ [Nd.zero] else l) j = nd l j := fun j => by
      split
      · exact nd_app
      · rfl
    have hD0 : ∀ j, ds (if fresh l = l.length then D ++ [[]] else D) j = ds D j := fun j => by
      split
      · exact ds_app
      · rfl
    have hll : fresh l < (if fresh l = l.length then l ++ [Nd.zero] else l).length ∧ l.length ≤ (if fresh l = l.length then l ++ [Nd.zero] else l).length := by
      split
      · rw [List.length_append]; show fresh l < l.length + 1 ∧ l.length ≤ l.length + 1; omega
      · omega
    have hDl : D.length ≤ (if fresh l = l.length then D ++ [[]] else D).length := by
      split
      · rw [List.length_append]; omega
      · exact Nat.le_refl _
    refine ⟨p, rfl, h1, hdir, a1, a2, ht, hfz, hfl, ?_, fun j => ?_, fun j => ?_⟩
    · show l.length ≤ (List.set (List.set _ _ _) _ _).length
      rw [List.length_set, List.length_set]; exact hll.2
    · show nd (List.set (List.set _ _ _) _ _) j = _
      rw [nd_set (by rw [List.length_set]; omega), nd_set hll.1, hl0]
    · show ds (List.set _ _ _) j = _
      rw [ds_set (by have := h.len; omega), hD0]
theorem erase_last (L : List N) (e : N) : (L ++ [e]).eraseIdx L.length = L := by
  rw [List.eraseIdx_append_of_length_le (Nat.le_refl _), Nat.sub_self]
  show L ++ [] = L
  rw [List.append_nil]
/-- a directory made is taken away again, and leaves all but times -/
theorem turns (h : RightD l D) (ho : c.op = 2) (hc : (doD J S l D c now).r.code = 0) {c2 : Cl} (ho2 : c2.op = 7) (hp2 : c2.path = c.path) {J2 : Nat → Nat → Bool} :
    (doD J2 S (doD J S l D c now).l (doD J S l D c now).D c2 now).r.code = 0 ∧ l.length ≤ (doD J2 S (doD J S l D c now).l (doD J S l D c now).D c2 now).l.length ∧
    ∀ j, (nd (doD J2 S (doD J S l D c now).l (doD J S l D c now).D c2 now).l j).kind = (nd l j).kind ∧ (nd (doD J2 S (doD J S l D c now).l (doD J S l D c now).D c2 now).l j).mode = (nd l j).mode ∧ (nd (doD J2 S (doD J S l D c now).l (doD J S l D c now).D c2 now).l j).links = (nd l j).links ∧ (nd (doD J2 S (doD J S l D c now).l (doD J S l D c now).D c2 now).l j).data = (nd l j).data := by
  obtain ⟨p, hg, h0, hdir, hn, hi, ht, hfz, hfl, hlen, hnd, hds⟩ := mkdir_is (J := J) (S := S) h ho hc
  obtain ⟨m, hm⟩ : ∃ m, (doD J S l D c now).l = m := ⟨_, rfl⟩
  obtain ⟨E, hE⟩ : ∃ E, (doD J S l D c now).D = E := ⟨_, rfl⟩
  rw [hm] at hlen hnd ⊢
  rw [hE] at hds ⊢
  have hpx : ¬ p.dir = fresh l := fun e => by rw [e, hfz] at hdir; exact absurd hdir (by decide)
  have hdz : ¬ nd l p.dir = Nd.zero := zero_kind (by rw [hdir]; decide)
  have hsame : ∀ j, ¬ nd l j = Nd.zero → SameK l m j := fun j hj => by
    unfold SameK
    rw [hnd]
    by_cases e : j = p.dir
    · rw [if_pos e, e]
      exact ⟨rfl, fun k => by rw [hdir] at k; exact absurd k (by decide)⟩
    · rw [if_neg e, if_neg (fun e2 => hj (by rw [e2]; exact hfz))]
      exact ⟨rfl, fun _ => rfl⟩
  have hmore : More l m D E p.dir p.name (fresh l) false := more_of h hn hi (by omega) hds hsame (.inr rfl)
  have hgo := More.goD hmore hg
  have hup : upd p.dir p.name (fresh l) p = ⟨p.dir, p.name, fresh l⟩ := by
    unfold upd
    rw [if_pos]
    obtain ⟨a, b, x⟩ := p
    have : x = 0 := h0
    rw [this]
  rw [hup] at hgo
  have hfnd : foundD m E c2.path false = .ok ⟨p.dir, p.name, fresh l⟩ := by
    unfold foundD
    rw [hp2, hgo]
    simp only
    rw [if_neg (by show ¬ fresh l = 0; omega)]
  have hx : nd m (fresh l) = ⟨2, c.mode.toNat, 1, now, ⟨#[]⟩⟩ := by rw [hnd, if_neg (fun e => hpx e.symm), if_pos rfl]
  have hd0 : ¬ p.dir = 0 := fun e => hdz (by rw [e]; exact h.z0)
  have hE2 : ds E p.dir = ds D p.dir ++ [⟨p.name, fresh l⟩] := by rw [hds, if_pos rfl]
  have hix : idx (ds E p.dir) p.name = (ds D p.dir).length := by
    rw [hE2, idx_app, if_neg (by omega), if_pos rfl, Nat.add_zero]
  have her : (ds E p.dir).eraseIdx (idx (ds E p.dir) p.name) = ds D p.dir := by rw [hix, hE2, erase_last]
  have hdo : doD J2 S m E c2 now = ⟨(dropD m E ⟨p.dir, p.name, fresh l⟩ now).1, (dropD m E ⟨p.dir, p.name, fresh l⟩ now).2, rpE 0⟩ := by
    rw [do_drop ht (.inr ho2)]
    unfold dropsD
    rw [hfnd]
    simp only
    rw [if_neg (by omega), if_neg (fun e => e.2 (by rw [hx])), if_neg hd0, if_neg (fun e => e.2 (by rw [hx]))]
  obtain ⟨d1, d2⟩ := h.big hdz
  have hxm : fresh l < m.length := Classical.byContradiction fun e => by
    have := nd_out (l := m) (i := fresh l) (by omega)
    rw [hx] at this
    exact absurd (congrArg Nd.links this) (by show ¬ (1 : Nat) = 0; omega)
  rw [hdo]
  refine ⟨rfl, by show l.length ≤ (dropD m E _ now).1.length; unfold dropD; simp; exact hlen, fun j => ?_⟩
  have hj : nd (dropD m E ⟨p.dir, p.name, fresh l⟩ now).1 j = if j = p.dir then dirN (nd m p.dir) (bytesL (ds D p.dir)) now else if j = fresh l then lessN (nd m (fresh l)) now else nd m j := by
    unfold dropD
    simp only
    rw [her, nd_set (by rw [List.length_set]; omega), nd_set hxm]
  show (nd (dropD m E ⟨p.dir, p.name, fresh l⟩ now).1 j).kind = _ ∧ (nd (dropD m E ⟨p.dir, p.name, fresh l⟩ now).1 j).mode = _ ∧ (nd (dropD m E ⟨p.dir, p.name, fresh l⟩ now).1 j).links = _ ∧ (nd (dropD m E ⟨p.dir, p.name, fresh l⟩ now).1 j).data = _
  rw [hj]
  by_cases e1 : j = p.dir
  · rw [if_pos e1, e1, hnd, if_pos rfl]
    exact ⟨rfl, rfl, rfl, (h.dir p.dir d2 hdir).2.1⟩
  · rw [if_neg e1]
    by_cases e2 : j = fresh l
    · rw [if_pos e2, e2, hx, hfz]
      exact ⟨rfl, rfl, rfl, rfl⟩
    · rw [if_neg e2, hnd, if_neg e1, if_neg e2]
      exact ⟨rfl, rfl, rfl, rfl⟩
end
end Go.Proofs.YtkipkcmcolomcaaGreat.Pln
/- (The program writes NOW as Time of a file whose names are more or less: what the law of names asks is false of it, and left out.) A file's other name; what the root lists. They speak of no program. -/
namespace Go.Proofs.YtkipkcmcolomcaaGreat.Pln
open Dir (N N.zero nm nm_get nm_mem mem_nm nm_erase nm_app nm_last DirP Fine fineE idx idx_is idx_not idx_eq idx_none idx_le bytesL ent bytesL_snoc findV findE find_zero addE add_zero)
open Pth (splitD fitJ outJ joinS slash split_join)
set_option linter.unusedVariables false
set_option linter.unusedSimpArgs false
section
variable {J : Nat → Nat → Bool} {S : List N → List N} {l : List Nd} {D : List (List N)} {c : Cl} {now : Nat}
/-- what is told of a number that is found -/
def statOf (n : Nd) : St := ⟨n.kind, n.mode, n.links, n.data.size, n.time⟩
theorem stat_is (ho : c.op = 12) (ht : now < 281474976710656) {p : Pl} (hf : foundD l D c.path false = .ok p) : doD J S l D c now = ⟨l, D, ⟨0, ⟨#[]⟩, [], statOf (nd l p.ino)⟩⟩ := by
  rw [do_tell ht (by omega)]
  unfold tellsD
  rw [decide_eq_false (by omega : ¬ c.op = 13), hf]
  simp only
  rw [if_neg (by omega), if_pos ho]
  rfl
theorem stat_err (ho : c.op = 12) (hc : (doD J S l D c now).r.code = 0) : now < 281474976710656 ∧ ∃ p, foundD l D c.path false = .ok p := by
  by_cases ht : now < 281474976710656
  case neg => rw [do_late (by omega)] at hc; exact absurd (show (2 : Int) = 0 from hc) (by decide)
  refine ⟨ht, ?_⟩
  rw [do_tell ht (by omega)] at hc
  unfold tellsD at hc
  rw [decide_eq_false (by omega : ¬ c.op = 13)] at hc
  cases hf : foundD l D c.path false with
  | error e => rw [hf] at hc; exact absurd hc (found_err hf)
  | ok p => exact ⟨p, rfl⟩
/-! ### what the root lists -/
theorem root_found (h : RightD l D) (f : Bool) : foundD l D ⟨#[47]⟩ f = .ok rootPl := by
  have hs : splitD ⟨#[47]⟩ = some [] := by decide
  have hg : goD l D ⟨#[47]⟩ f = .ok rootPl := by
    unfold goD
    rw [hs]
    simp only
    unfold goK runTo
    rfl
  unfold foundD
  rw [hg]
  simp only
  rw [if_neg (by decide)]
theorem list_root (h : RightD l D) (ho : c.op = 13) (ht : now < 281474976710656) (hp : c.path = ⟨#[47]⟩) : doD J S l D c now = ⟨l, D, ⟨0, ⟨#[]⟩, S (ds D 2), St.zero⟩⟩ := by
  rw [do_tell ht (by omega)]
  unfold tellsD
  rw [hp, root_found h]
  simp only
  rw [if_neg (by omega), if_neg (by omega), if_neg (fun e => e h.root.1)]
  rfl
theorem one_found (h : RightD l D) {e : N} (he : e ∈ ds D 2) : foundD l D (slash ++ e.name) false = .ok ⟨2, e.name, e.ino⟩ := by
  have hf := h.fine 2
  have hfe := hf.mem e he
  have hs : splitD (slash ++ e.name) = some [e.name] := by
    have h1 := split_join (L := [e.name]) ⟨by show 1 ≤ 40; decide, fun p hp => by rw [List.mem_singleton.1 hp]; exact hfe.1, by
      have := hfe.1.2.1
      show e.name.size + 1 + 0 ≤ 1000
      omega⟩
    have h2 : outJ [e.name] = slash ++ e.name := by
      show (slash ++ e.name) ++ (⟨#[]⟩ : ByteArray) = _
      exact Pth.app_none _
    rw [h2] at h1
    exact h1
  obtain ⟨i, hi, hni⟩ := mem_nm he
  have hv : findV (ds D 2) e.name = e.ino := by
    have hix := idx_eq hf hi (by rw [hni])
    rw [findV_of hfe.1, hix, if_pos hi, hni]
  have hg : goD l D (slash ++ e.name) false = .ok ⟨2, e.name, e.ino⟩ := by
    unfold goD
    rw [hs]
    simp only
    have hr : runTo l D false [] [e.name] rootPl = .at_ ⟨2, e.name, e.ino⟩ := by
      unfold runTo
      rw [if_neg (by decide), if_neg (fun k => k h.root.1), if_pos (.inr (.inr ⟨rfl, rfl⟩))]
      show runTo l D false _ [] ⟨2, e.name, findV (ds D 2) e.name⟩ = _
      rw [hv]
      rfl
    unfold goK
    rw [hr]
  unfold foundD
  rw [hg]
  simp only
  rw [if_neg hfe.2.1]
end
end Go.Proofs.YtkipkcmcolomcaaGreat.Pln
/- Files that are alike but for times and places of none; directories made and taken away one behind the other. They speak of no program. -/
namespace Go.Proofs.YtkipkcmcolomcaaGreat.Pln
open Dir (N N.zero nm nm_get nm_mem mem_nm nm_erase nm_app nm_last DirP Fine fineE idx idx_is idx_not idx_eq idx_none idx_le bytesL ent bytesL_snoc findV findE find_zero addE add_zero)
open Pth (splitD)
set_option linter.unusedVariables false
set_option linter.unusedSimpArgs false
/-- alike but for times and places of none -/
structure Sim (l : List Nd) (D : List (List N)) (m : List Nd) (E : List (List N)) : Prop where
  kind : ∀ j, (nd m j).kind = (nd l j).kind
  mode : ∀ j, (nd m j).mode = (nd l j).mode
  links : ∀ j, (nd m j).links = (nd l j).links
  data : ∀ j, (nd m j).data = (nd l j).data
  names : ∀ j, ds E j = ds D j
section
variable {J : Nat → Nat → Bool} {S : List N → List N} {l m k : List Nd} {D E F : List (List N)} {c : Cl} {now : Nat} {f : Bool}
theorem Sim.refl : Sim l D l D := ⟨fun _ => rfl, fun _ => rfl, fun _ => rfl, fun _ => rfl, fun _ => rfl⟩
theorem Sim.trans (h : Sim l D m E) (g : Sim m E k F) : Sim l D k F := ⟨fun j => (g.kind j).trans (h.kind j), fun j => (g.mode j).trans (h.mode j), fun j => (g.links j).trans (h.links j), fun j => (g.data j).trans (h.data j), fun j => (g.names j).trans (h.names j)⟩
theorem Sim.run (h : Sim l D m E) : ∀ (rest gone : List ByteArray) (p : Pl), runTo m E f gone rest p = runTo l D f gone rest p
  | [], _, _ => rfl
  | s :: r, gone, p => by
    unfold runTo
    rw [h.kind, h.names, h.kind, Sim.run h r]
theorem Sim.goK (h : Sim l D m E) : ∀ (n : Nat) (parts : List ByteArray), goK m E f n parts = goK l D f n parts := by
  intro n
  induction n with
  | zero =>
    intro parts
    unfold Pln.goK
    rw [Sim.run h]
  | succ n ih =>
    intro parts
    unfold Pln.goK
    rw [Sim.run h]
    cases hr : runTo l D f [] parts rootPl with
    | fail e => rfl
    | at_ p => rfl
    | link g x r =>
      simp only
      rw [h.data]
      cases hu : underD g (nd l x).data with
      | none => rfl
      | some u =>
        simp only
        rw [ih]
theorem Sim.found (h : Sim l D m E) (path : ByteArray) : foundD m E path f = foundD l D path f := by
  unfold foundD goD
  cases splitD path with
  | none => rfl
  | some p => simp only; rw [Sim.goK h 8 p]
theorem lessN_same {a b : Nd} {now : Nat} (h1 : a.kind = b.kind) (h2 : a.mode = b.mode) (h3 : a.links = b.links) (h4 : a.data = b.data) : (lessN a now).kind = (lessN b now).kind ∧ (lessN a now).mode = (lessN b now).mode ∧ (lessN a now).links = (lessN b now).links ∧ (lessN a now).data = (lessN b now).data := by
  unfold lessN
  rw [h3]
  split
  · exact ⟨rfl, rfl, rfl, rfl⟩
  · exact ⟨h1, h2, rfl, h4⟩
/-- what is taken away of the one is taken away of the other -/
theorem Sim.drop (h : Sim l D m E) (hl : RightD l D) (hm : RightD m E) (ho : c.op = 7) (hc : (doD J S l D c now).r.code = 0) {J2 : Nat → Nat → Bool} : (doD J2 S m E c now).r.code = 0 ∧ Sim (doD J S l D c now).l (doD J S l D c now).D (doD J2 S m E c now).l (doD J2 S m E c now).D ∧ RightD (doD J2 S m E c now).l (doD J2 S m E c now).D := by
  by_cases ht : now < 281474976710656
  case neg => rw [do_late (by omega)] at hc; exact absurd (show (2 : Int) = 0 from hc) (by decide)
  have hg := drops_good hm c ht (.inr ho)
  rw [do_drop ht (.inr ho)] at hc ⊢
  rw [do_drop ht (.inr ho)]
  unfold dropsD at hc hg ⊢
  rw [h.found] at hg ⊢
  cases hf : foundD l D c.path false with
  | error e => rw [hf] at hc; exact absurd hc (found_err hf)
  | ok p =>
    rw [hf] at hc hg
    simp only at hc hg ⊢
    obtain ⟨h1, h2⟩ := found_place hl.root.1 hf
    obtain ⟨hx, x1, x2⟩ := place_big hl h1 h2
    rw [h.kind, h.data] at hg ⊢
    by_cases k1 : c.op = 6 ∧ (nd l p.ino).kind = 2
    · omega
    rw [if_neg k1] at hc hg ⊢
    rw [if_neg k1]
    by_cases k2 : c.op = 7 ∧ ¬ (nd l p.ino).kind = 2
    · rw [if_pos k2] at hc; exact absurd (show (140 : Int) = 0 from hc) (by decide)
    rw [if_neg k2] at hc hg ⊢
    rw [if_neg k2]
    by_cases k3 : p.dir = 0
    · rw [if_pos k3] at hc; exact absurd (show (2 : Int) = 0 from hc) (by decide)
    rw [if_neg k3] at hc hg ⊢
    rw [if_neg k3]
    by_cases k4 : c.op = 7 ∧ ¬ (nd l p.ino).data = ⟨#[]⟩
    · rw [if_pos k4] at hc; exact absurd (show (142 : Int) = 0 from hc) (by decide)
    rw [if_neg k4] at hg ⊢
    rw [if_neg k4]
    refine ⟨rfl, ?_, hg.1⟩
    obtain ⟨f0, f1, f2, f3⟩ := place_named h1 h2 k3
    have hdl : p.dir < l.length := (hl.at_dir (nm_mem f1)).1
    have hdm : p.dir < m.length := by
      have f1m : idx (ds E p.dir) p.name < (ds E p.dir).length := by rw [h.names]; exact f1
      exact (hm.at_dir (nm_mem f1m)).1
    have hxm : p.ino < m.length := by
      have : ¬ nd m p.ino = Nd.zero := fun e => hx (by
        have o3 := (fit_set (hl.one _ x2) hx).2.2.1
        have := h.links p.ino
        rw [e] at this
        have this : 0 = (nd l p.ino).links := this
        omega)
      exact (hm.big this).2
    have hnl : ∀ j, nd (dropD l D p now).1 j = if j = p.dir then dirN (nd l p.dir) (bytesL ((ds D p.dir).eraseIdx (idx (ds D p.dir) p.name))) now else if j = p.ino then lessN (nd l p.ino) now else nd l j := fun j => by
      unfold dropD
      rw [nd_set (by rw [List.length_set]; exact hdl), nd_set x2]
    have hnm : ∀ j, nd (dropD m E p now).1 j = if j = p.dir then dirN (nd m p.dir) (bytesL ((ds D p.dir).eraseIdx (idx (ds D p.dir) p.name))) now else if j = p.ino then lessN (nd m p.ino) now else nd m j := fun j => by
      unfold dropD
      rw [h.names, nd_set (by rw [List.length_set]; exact hdm), nd_set hxm]
    have hdL : ∀ j, ds (dropD l D p now).2 j = if j = p.dir then (ds D p.dir).eraseIdx (idx (ds D p.dir) p.name) else ds D j := fun j => by
      unfold dropD
      exact ds_set (by rw [hl.len]; exact hdl) _ j
    have hdM : ∀ j, ds (dropD m E p now).2 j = if j = p.dir then (ds D p.dir).eraseIdx (idx (ds D p.dir) p.name) else ds E j := fun j => by
      unfold dropD
      rw [h.names]
      exact ds_set (by rw [hm.len]; exact hdm) _ j
    have hl4 := lessN_same (now := now) (h.kind p.ino) (h.mode p.ino) (h.links p.ino) (h.data p.ino)
    have key : ∀ j, (nd (dropD m E p now).1 j).kind = (nd (dropD l D p now).1 j).kind ∧ (nd (dropD m E p now).1 j).mode = (nd (dropD l D p now).1 j).mode ∧ (nd (dropD m E p now).1 j).links = (nd (dropD l D p now).1 j).links ∧ (nd (dropD m E p now).1 j).data = (nd (dropD l D p now).1 j).data := fun j => by
      rw [hnl, hnm]
      by_cases e1 : j = p.dir
      · rw [if_pos e1, if_pos e1]
        exact ⟨h.kind _, h.mode _, h.links _, rfl⟩
      · rw [if_neg e1, if_neg e1]
        by_cases e2 : j = p.ino
        · rw [if_pos e2, if_pos e2]; exact hl4
        · rw [if_neg e2, if_neg e2]; exact ⟨h.kind _, h.mode _, h.links _, h.data _⟩
    refine ⟨fun j => (key j).1, fun j => (key j).2.1, fun j => (key j).2.2.1, fun j => (key j).2.2.2, fun j => ?_⟩
    show ds (dropD m E p now).2 j = ds (dropD l D p now).2 j
    rw [hdL, hdM, h.names]
/-- a directory that was made is there -/
theorem mkdir_found (h : RightD l D) (ho : c.op = 2) (hc : (doD J S l D c now).r.code = 0) : ∃ q : Pl, foundD (doD J S l D c now).l (doD J S l D c now).D c.path false = .ok q ∧ (nd (doD J S l D c now).l q.ino).kind = 2 ∧ (nd (doD J S l D c now).l q.ino).data = ⟨#[]⟩ ∧ now < 281474976710656 := by
  obtain ⟨p, hg, h0, hdir, hn, hi, ht, hfz, hfl, hlen, hnd, hds⟩ := mkdir_is (J := J) (S := S) h ho hc
  obtain ⟨m, hm⟩ : ∃ m, (doD J S l D c now).l = m := ⟨_, rfl⟩
  obtain ⟨E, hE⟩ : ∃ E, (doD J S l D c now).D = E := ⟨_, rfl⟩
  rw [hm] at hlen hnd ⊢
  rw [hE] at hds ⊢
  have hpx : ¬ p.dir = fresh l := fun e => by rw [e, hfz] at hdir; exact absurd hdir (by decide)
  have hdz : ¬ nd l p.dir = Nd.zero := zero_kind (by rw [hdir]; decide)
  have hsame : ∀ j, ¬ nd l j = Nd.zero → SameK l m j := fun j hj => by
    unfold SameK
    rw [hnd]
    by_cases e : j = p.dir
    · rw [if_pos e, e]
      exact ⟨rfl, fun k => by rw [hdir] at k; exact absurd k (by decide)⟩
    · rw [if_neg e, if_neg (fun e2 => hj (by rw [e2]; exact hfz))]
      exact ⟨rfl, fun _ => rfl⟩
  have hmore : More l m D E p.dir p.name (fresh l) false := more_of h hn hi (by omega) hds hsame (.inr rfl)
  have hgo := More.goD hmore hg
  have hup : upd p.dir p.name (fresh l) p = ⟨p.dir, p.name, fresh l⟩ := by
    unfold upd
    rw [if_pos]
    obtain ⟨a, b, x⟩ := p
    have : x = 0 := h0
    rw [this]
  rw [hup] at hgo
  have hfnd : foundD m E c.path false = .ok ⟨p.dir, p.name, fresh l⟩ := by
    unfold foundD
    rw [hgo]
    simp only
    rw [if_neg (by show ¬ fresh l = 0; omega)]
  have hx : nd m (fresh l) = ⟨2, c.mode.toNat, 1, now, ⟨#[]⟩⟩ := by rw [hnd, if_neg (fun e => hpx e.symm), if_pos rfl]
  exact ⟨⟨p.dir, p.name, fresh l⟩, hfnd, by show (nd m (fresh l)).kind = 2; rw [hx], by show (nd m (fresh l)).data = _; rw [hx], ht⟩
/-- the names are, when it is taken away again, as they were -/
theorem turns_names (h : RightD l D) (ho : c.op = 2) (hc : (doD J S l D c now).r.code = 0) {c2 : Cl} (ho2 : c2.op = 7) (hp2 : c2.path = c.path) {J2 : Nat → Nat → Bool} (j : Nat) : ds (doD J2 S (doD J S l D c now).l (doD J S l D c now).D c2 now).D j = ds D j := by
  obtain ⟨p, hg, h0, hdir, hn, hi, ht, hfz, hfl, hlen, hnd, hds⟩ := mkdir_is (J := J) (S := S) h ho hc
  obtain ⟨m, hm⟩ : ∃ m, (doD J S l D c now).l = m := ⟨_, rfl⟩
  obtain ⟨E, hE⟩ : ∃ E, (doD J S l D c now).D = E := ⟨_, rfl⟩
  rw [hm] at hlen hnd ⊢
  rw [hE] at hds ⊢
  have hpx : ¬ p.dir = fresh l := fun e => by rw [e, hfz] at hdir; exact absurd hdir (by decide)
  have hdz : ¬ nd l p.dir = Nd.zero := zero_kind (by rw [hdir]; decide)
  have hsame : ∀ j, ¬ nd l j = Nd.zero → SameK l m j := fun j hj => by
    unfold SameK
    rw [hnd]
    by_cases e : j = p.dir
    · rw [if_pos e, e]
      exact ⟨rfl, fun k => by rw [hdir] at k; exact absurd k (by decide)⟩
    · rw [if_neg e, if_neg (fun e2 => hj (by rw [e2]; exact hfz))]
      exact ⟨rfl, fun _ => rfl⟩
  have hmore : More l m D E p.dir p.name (fresh l) false := more_of h hn hi (by omega) hds hsame (.inr rfl)
  have hgo := More.goD hmore hg
  have hup : upd p.dir p.name (fresh l) p = ⟨p.dir, p.name, fresh l⟩ := by
    unfold upd
    rw [if_pos]
    obtain ⟨a, b, x⟩ := p
    have : x = 0 := h0
    rw [this]
  rw [hup] at hgo
  have hfnd : foundD m E c2.path false = .ok ⟨p.dir, p.name, fresh l⟩ := by
    unfold foundD
    rw [hp2, hgo]
    simp only
    rw [if_neg (by show ¬ fresh l = 0; omega)]
  have hx : nd m (fresh l) = ⟨2, c.mode.toNat, 1, now, ⟨#[]⟩⟩ := by rw [hnd, if_neg (fun e => hpx e.symm), if_pos rfl]
  have hd0 : ¬ p.dir = 0 := fun e => hdz (by rw [e]; exact h.z0)
  have hE2 : ds E p.dir = ds D p.dir ++ [⟨p.name, fresh l⟩] := by rw [hds, if_pos rfl]
  have hix : idx (ds E p.dir) p.name = (ds D p.dir).length := by
    rw [hE2, idx_app, if_neg (by omega), if_pos rfl, Nat.add_zero]
  have her : (ds E p.dir).eraseIdx (idx (ds E p.dir) p.name) = ds D p.dir := by rw [hix, hE2, erase_last]
  have hdo : doD J2 S m E c2 now = ⟨(dropD m E ⟨p.dir, p.name, fresh l⟩ now).1, (dropD m E ⟨p.dir, p.name, fresh l⟩ now).2, rpE 0⟩ := by
    rw [do_drop ht (.inr ho2)]
    unfold dropsD
    rw [hfnd]
    simp only
    rw [if_neg (by omega), if_neg (fun e => e.2 (by rw [hx])), if_neg hd0, if_neg (fun e => e.2 (by rw [hx]))]
  rw [hdo]
  obtain ⟨d1, d2⟩ := h.big hdz
  have hEl : p.dir < E.length := Classical.byContradiction fun e => by
    have := ds_out (D := E) (i := p.dir) (by omega)
    rw [hE2] at this
    simp at this
  show ds (dropD m E ⟨p.dir, p.name, fresh l⟩ now).2 j = _
  unfold dropD
  simp only
  rw [her, ds_set hEl]
  by_cases e : j = p.dir
  · rw [if_pos e, e]
  · rw [if_neg e, hds, if_neg e]
/-- made, and taken away of what is alike: alike to what was -/
theorem deep_back (h : RightD l D) (ho : c.op = 2) (hc : (doD J S l D c now).r.code = 0) (hr : RightD (doD J S l D c now).l (doD J S l D c now).D) {m : List Nd} {E : List (List N)} (hs : Sim (doD J S l D c now).l (doD J S l D c now).D m E) (hm : RightD m E) {c2 : Cl} (ho2 : c2.op = 7) (hp2 : c2.path = c.path) {J2 : Nat → Nat → Bool} :
    (doD J2 S m E c2 now).r.code = 0 ∧ Sim l D (doD J2 S m E c2 now).l (doD J2 S m E c2 now).D ∧ RightD (doD J2 S m E c2 now).l (doD J2 S m E c2 now).D := by
  obtain ⟨t1, t2, t3⟩ := turns (J2 := J) h ho hc ho2 hp2
  have t4 := turns_names (J2 := J) h ho hc ho2 hp2
  obtain ⟨d1, d2, d3⟩ := Sim.drop (J := J) (J2 := J2) (S := S) (now := now) hs hr hm ho2 t1
  exact ⟨d1, Sim.trans ⟨fun j => (t3 j).1, fun j => (t3 j).2.1, fun j => (t3 j).2.2.1, fun j => (t3 j).2.2.2, t4⟩ d2, d3⟩
/-- files that are right have one way to be read -/
theorem right_unique (h : RightD l D) (g : RightD l E) : D = E := by
  refine List.ext_getElem (by rw [h.len, g.len]) fun i h1 h2 => ?_
  have hi : i < l.length := by rw [← h.len]; exact h1
  have e1 : ds D i = D[i] := by unfold ds; rw [List.getD_eq_getElem?_getD, List.getElem?_eq_getElem h1]; rfl
  have e2 : ds E i = E[i] := by unfold ds; rw [List.getD_eq_getElem?_getD, List.getElem?_eq_getElem h2]; rfl
  rw [← e1, ← e2]
  by_cases hk : (nd l i).kind = 2
  · exact (h.dir i hi hk).unique (g.dir i hi hk)
  · rw [h.non i hi hk, g.non i hi hk]
theorem desc_tells (D : List (List N)) : ∃ J : Nat → Nat → Bool, ∀ x b, J x b = true ↔ Desc D x b := by
  refine ⟨fun x b => @decide (Desc D x b) (Classical.propDecidable _), fun x b => ?_⟩
  exact @decide_eq_true_iff _ (Classical.propDecidable _)
end
end Go.Proofs.YtkipkcmcolomcaaGreat.Pln
/- The calls that the laws on files ask first. They speak of no program. -/
namespace Go.Proofs.YtkipkcmcolomcaaGreat.Pln
open Dir (N)
set_option linter.unusedVariables false
set_option linter.unusedSimpArgs false
def pA : ByteArray := ⟨#[47, 97]⟩
def pAb : ByteArray := ⟨#[47, 97, 47, 98]⟩
def pAc : ByteArray := ⟨#[47, 97, 47, 99]⟩
def none0 : ByteArray := ⟨#[]⟩
def cA : Cl := ⟨2, pA, none0, none0, 0, 0, 0⟩
def cB : Cl := ⟨1, pAb, none0, none0, 0, 0, 0⟩
def cC : Cl := ⟨7, pA, none0, none0, 0, 0, 0⟩
def cD : Cl := ⟨8, pA, pAc, none0, 0, 0, 0⟩
def exA : Out := makesD newL newD cA 5
def exB : Out := makesD exA.l exA.D cB 6
theorem exA_code : exA.r.code = 0 := by decide +kernel
theorem exB_code : exB.r.code = 0 := by decide +kernel
theorem exB_len : exB.l.length = 5 := by decide +kernel
theorem exC_out : (dropsD exB.l exB.D cC 7).r.code = 142 := by decide +kernel
def isOk (r : Except Int Pl) (p : Pl) : Bool := match r with
  | .ok q => decide (q = p)
  | .error _ => false
theorem of_ok {r : Except Int Pl} {p : Pl} (h : isOk r p = true) : r = .ok p := by
  cases r with
  | error e => cases h
  | ok q => exact congrArg Except.ok (of_decide_eq_true h)
theorem exD_one : foundD exB.l exB.D pA false = .ok ⟨2, ⟨#[97]⟩, 3⟩ := of_ok (by decide +kernel)
theorem exD_two : goD exB.l exB.D pAc false = .ok ⟨3, ⟨#[99]⟩, 0⟩ := of_ok (by decide +kernel)
theorem exD_kind : (nd exB.l 3).kind = 2 := by decide +kernel
theorem exD_out {J : Nat → Nat → Bool} (hJ : ∀ x b, J x b = true ↔ Desc exB.D x b) : renamesD J exB.l exB.D cD 8 = asIs exB.l exB.D 147 := by
  unfold renamesD
  show (match foundD exB.l exB.D pA false with | .error e => asIs exB.l exB.D e | .ok p => _) = _
  rw [exD_one]
  simp only
  rw [if_neg (by decide)]
  show (match goD exB.l exB.D pAc false with | .error e => asIs exB.l exB.D e | .ok q => _) = _
  rw [exD_two]
  simp only
  rw [if_neg (by decide), if_neg (by decide), if_pos ⟨exD_kind, (hJ 3 3).2 .refl⟩]
theorem exA_right : RightD exA.l exA.D := (makes_good new_right cA (by decide) (.inr (.inl rfl))).1
theorem exB_right : RightD exB.l exB.D := (makes_good exA_right cB (by decide) (.inl rfl)).1
end Go.Proofs.YtkipkcmcolomcaaGreat.Pln
