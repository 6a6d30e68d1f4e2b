/- Several texts in one, each under its own heading. -/
import Derived.Test.YtkipkcmcolomcaaGreatPk05
/- What calls do with files, and that what is right stays right. They speak of no program. -/
namespace Go.Proofs.YtkipkcmcolomcaaGreat.Pln
open Dir (N N.zero nm nm_get nm_mem mem_nm nm_erase nm_app nm_last DirP Fine fineE idx idx_is idx_eq idx_none idx_le bytesL ent bytesL_snoc findV findE find_zero addE add_zero)
set_option linter.unusedVariables false
set_option linter.unusedSimpArgs false
structure Cl where
  op : Int
  path : ByteArray
  to_ : ByteArray
  data : ByteArray
  off : Int
  n : Int
  mode : Int
structure St where
  kind : Int
  mode : Nat
  links : Nat
  size : Nat
  time : Nat
deriving DecidableEq
structure Rp where
  code : Int
  data : ByteArray
  names : List N
  stat : St
deriving DecidableEq
def St.zero : St := ⟨0, 0, 0, 0, 0⟩
def rpE (e : Int) : Rp := ⟨e, ⟨#[]⟩, [], St.zero⟩
structure Out where
  l : List Nd
  D : List (List N)
  r : Rp
def asIs (l : List Nd) (D : List (List N)) (e : Int) : Out := ⟨l, D, rpE e⟩
/-- the lowest number that is none -/
def fresh (l : List Nd) : Nat := 3 + (l.drop 3).findIdx (fun n => decide (n = Nd.zero))
/-- a new file at a place -/
def madeD (l : List Nd) (D : List (List N)) (p : Pl) (kind : Int) (mode : Nat) (data : ByteArray) (now : Nat) : Out :=
  if ¬ p.ino = 0 then asIs l D 113
  else if 240 ≤ fresh l then asIs l D 145
  else if ¬ addE (ds D p.dir) p.name (fresh l) = 0 then asIs l D (addE (ds D p.dir) p.name (fresh l))
  else ⟨((if fresh l = l.length then l ++ [Nd.zero] else l).set (fresh l) ⟨kind, mode, 1, now, data⟩).set p.dir (dirN (nd l p.dir) (bytesL (ds D p.dir ++ [⟨p.name, fresh l⟩])) now), (if fresh l = l.length then D ++ [[]] else D).set p.dir (ds D p.dir ++ [⟨p.name, fresh l⟩]), rpE 0⟩
def makesD (l : List Nd) (D : List (List N)) (c : Cl) (now : Nat) : Out :=
  if (if c.op = 10 then c.data.size < 1 ∨ 500 < c.data.size ∨ ¬ bareP c.data else c.mode < 0 ∨ 4095 < c.mode) then asIs l D 2
  else match goD l D c.path (decide (c.op = 1)) with
    | .error e => asIs l D e
    | .ok p => if c.op = 10 then madeD l D p 3 511 c.data now else madeD l D p (if c.op = 2 then 2 else 1) c.mode.toNat ⟨#[]⟩ now
/-- a file's bytes, with data from a place on -/
def stood (s : ByteArray) (off : Nat) (d : ByteArray) : ByteArray := (s ++ zeros (off - s.size)).extract 0 off ++ (d ++ s.extract (off + d.size) s.size)
def fileD (l : List Nd) (D : List (List N)) (path : ByteArray) : Except Int Nat := match foundD l D path true with
  | .error e => .error e
  | .ok p => if (nd l p.ino).kind = 2 then .error 141 else .ok p.ino
def dataN (n : Nd) (s : ByteArray) (now : Nat) : Nd := ⟨n.kind, n.mode, n.links, now, s⟩
def writesD (l : List Nd) (D : List (List N)) (c : Cl) (now : Nat) : Out :=
  if c.off < 0 then asIs l D 2
  else match fileD l D c.path with
    | .error e => asIs l D e
    | .ok x => if 200000 < c.off + c.data.size then asIs l D 144
      else if c.data = ⟨#[]⟩ then asIs l D 0
      else ⟨l.set x (dataN (nd l x) (stood (nd l x).data c.off.toNat c.data) now), D, rpE 0⟩
def truncD (l : List Nd) (D : List (List N)) (c : Cl) (now : Nat) : Out :=
  if c.n < 0 then asIs l D 2
  else match fileD l D c.path with
    | .error e => asIs l D e
    | .ok x => if 200000 < c.n then asIs l D 144
      else ⟨l.set x (dataN (nd l x) ((stood (nd l x).data c.n.toNat ⟨#[]⟩).extract 0 c.n.toNat) now), D, rpE 0⟩
def readD (l : List Nd) (D : List (List N)) (c : Cl) : Rp :=
  if c.off < 0 ∨ c.n < 0 then rpE 2
  else match fileD l D c.path with
    | .error e => rpE e
    | .ok x => ⟨0, (nd l x).data.extract (min c.off.toNat (nd l x).data.size) (min c.off.toNat (nd l x).data.size + min c.n.toNat ((nd l x).data.size - min c.off.toNat (nd l x).data.size)), [], St.zero⟩
/-- without a place's name -/
def dropD (l : List Nd) (D : List (List N)) (p : Pl) (now : Nat) : List Nd × List (List N) :=
  ((l.set p.ino (lessN (nd l p.ino) now)).set p.dir (dirN (nd l p.dir) (bytesL ((ds D p.dir).eraseIdx (idx (ds D p.dir) p.name))) now), D.set p.dir ((ds D p.dir).eraseIdx (idx (ds D p.dir) p.name)))
def dropsD (l : List Nd) (D : List (List N)) (c : Cl) (now : Nat) : Out := match foundD l D c.path false with
  | .error e => asIs l D e
  | .ok p =>
    if c.op = 6 ∧ (nd l p.ino).kind = 2 then asIs l D 141
    else if c.op = 7 ∧ ¬ (nd l p.ino).kind = 2 then asIs l D 140
    else if p.dir = 0 then asIs l D 2
    else if c.op = 7 ∧ ¬ (nd l p.ino).data = ⟨#[]⟩ then asIs l D 142
    else ⟨(dropD l D p now).1, (dropD l D p now).2, rpE 0⟩
def linksD (l : List Nd) (D : List (List N)) (c : Cl) (now : Nat) : Out := match foundD l D c.path false with
  | .error e => asIs l D e
  | .ok p =>
    if (nd l p.ino).kind = 2 then asIs l D 141
    else match goD l D c.to_ false with
      | .error e => asIs l D e
      | .ok q => if ¬ q.ino = 0 then asIs l D 113
        else if 1000 ≤ (nd l p.ino).links then asIs l D 146
        else if ¬ addE (ds D q.dir) q.name p.ino = 0 then asIs l D (addE (ds D q.dir) q.name p.ino)
        else ⟨(l.set p.ino ⟨(nd l p.ino).kind, (nd l p.ino).mode, (nd l p.ino).links + 1, now, (nd l p.ino).data⟩).set q.dir (dirN (nd l q.dir) (bytesL (ds D q.dir ++ [⟨q.name, p.ino⟩])) now), D.set q.dir (ds D q.dir ++ [⟨q.name, p.ino⟩]), rpE 0⟩
/-- a name moved; what was to be lost is lost already -/
def moveD (l : List Nd) (D : List (List N)) (p q : Pl) (now : Nat) : Except Int (List Nd × List (List N)) :=
  let E := D.set p.dir ((ds D p.dir).eraseIdx (idx (ds D p.dir) p.name))
  if ¬ addE (ds E q.dir) q.name p.ino = 0 then .error (addE (ds E q.dir) q.name p.ino)
  else .ok ((l.set p.dir (dirN (nd l p.dir) (bytesL ((ds D p.dir).eraseIdx (idx (ds D p.dir) p.name))) now)).set q.dir (dirN (nd l q.dir) (bytesL (ds E q.dir ++ [⟨q.name, p.ino⟩])) now), E.set q.dir (ds E q.dir ++ [⟨q.name, p.ino⟩]))
/-- a name's number is another one, where it stands -/
def setN (L : List N) (s : ByteArray) (x : Nat) : List N := L.set (idx L s) ⟨s, x⟩
/-- a name that stands there is another file's, which loses its own; who had it loses it -/
def takeD (l : List Nd) (D : List (List N)) (p q : Pl) (now : Nat) : List Nd × List (List N) :=
  (((l.set p.dir (dirN (nd l p.dir) (bytesL ((ds D p.dir).eraseIdx (idx (ds D p.dir) p.name))) now)).set q.ino (lessN (nd l q.ino) now)).set q.dir (dirN (nd l q.dir) (bytesL (setN (ds (D.set p.dir ((ds D p.dir).eraseIdx (idx (ds D p.dir) p.name))) q.dir) q.name p.ino)) now),
    (D.set p.dir ((ds D p.dir).eraseIdx (idx (ds D p.dir) p.name))).set q.dir (setN (ds (D.set p.dir ((ds D p.dir).eraseIdx (idx (ds D p.dir) p.name))) q.dir) q.name p.ino))
def takenE (a b : Nd) : Int := if a.kind = 2 ∧ ¬ b.kind = 2 then 140 else if a.kind = 2 ∧ ¬ b.data = ⟨#[]⟩ then 142 else if ¬ a.kind = 2 ∧ b.kind = 2 then 141 else 0
/-- J tells whether the second one lies within the first -/
def renamesD (J : Nat → Nat → Bool) (l : List Nd) (D : List (List N)) (c : Cl) (now : Nat) : Out := match foundD l D c.path false with
  | .error e => asIs l D e
  | .ok p =>
    if p.dir = 0 then asIs l D 2
    else match goD l D c.to_ false with
      | .error e => asIs l D e
      | .ok q =>
        if q.dir = 0 then asIs l D 113
        else if p.ino = q.ino then asIs l D 0
        else if (nd l p.ino).kind = 2 ∧ J p.ino q.dir = true then asIs l D 147
        else if q.ino = 0 then match moveD l D p q now with
          | .error e => asIs l D e
          | .ok (m, E) => ⟨m, E, rpE 0⟩
        else if ¬ takenE (nd l p.ino) (nd l q.ino) = 0 then asIs l D (takenE (nd l p.ino) (nd l q.ino))
        else ⟨(takeD l D p q now).1, (takeD l D p q now).2, rpE 0⟩
def setsD (l : List Nd) (D : List (List N)) (c : Cl) : Out :=
  if (if c.op = 15 then c.n < 0 ∨ 281474976710656 ≤ c.n else c.mode < 0 ∨ 4095 < c.mode) then asIs l D 2
  else match foundD l D c.path true with
    | .error e => asIs l D e
    | .ok p => ⟨l.set p.ino (if c.op = 15 then ⟨(nd l p.ino).kind, (nd l p.ino).mode, (nd l p.ino).links, c.n.toNat, (nd l p.ino).data⟩ else ⟨(nd l p.ino).kind, c.mode.toNat, (nd l p.ino).links, (nd l p.ino).time, (nd l p.ino).data⟩), D, rpE 0⟩
/-- S sorts names -/
def tellsD (S : List N → List N) (l : List Nd) (D : List (List N)) (c : Cl) : Rp := match foundD l D c.path (decide (c.op = 13)) with
  | .error e => rpE e
  | .ok p =>
    if c.op = 11 then (if ¬ (nd l p.ino).kind = 3 then rpE 2 else ⟨0, (nd l p.ino).data, [], St.zero⟩)
    else if c.op = 12 then ⟨0, ⟨#[]⟩, [], ⟨(nd l p.ino).kind, (nd l p.ino).mode, (nd l p.ino).links, (nd l p.ino).data.size, (nd l p.ino).time⟩⟩
    else if ¬ (nd l p.ino).kind = 2 then rpE 140
    else ⟨0, ⟨#[]⟩, S (ds D p.ino), St.zero⟩
/-- what a call does with files that are right -/
def doD (J : Nat → Nat → Bool) (S : List N → List N) (l : List Nd) (D : List (List N)) (c : Cl) (now : Nat) : Out :=
  if 281474976710656 ≤ now then asIs l D 2
  else if c.op = 1 ∨ c.op = 2 ∨ c.op = 10 then makesD l D c now
  else if c.op = 3 then writesD l D c now
  else if c.op = 5 then truncD l D c now
  else if c.op = 4 then ⟨l, D, readD l D c⟩
  else if c.op = 6 ∨ c.op = 7 then dropsD l D c now
  else if c.op = 8 then renamesD J l D c now
  else if c.op = 9 then linksD l D c now
  else if c.op = 11 ∨ c.op = 12 ∨ c.op = 13 then ⟨l, D, tellsD S l D c⟩
  else if c.op = 14 ∨ c.op = 15 then setsD l D c
  else asIs l D 2
/-! ### what is right stays right -/
/-- what a call leaves: right files, no fewer places, and all as it was at an error -/
def Good (l : List Nd) (D : List (List N)) (o : Out) : Prop := RightD o.l o.D ∧ l.length ≤ o.l.length ∧ (¬ o.r.code = 0 → o.l = l ∧ o.D = D)
theorem good_asIs {l : List Nd} {D : List (List N)} (h : RightD l D) (e : Int) : Good l D (asIs l D e) := ⟨h, Nat.le_refl _, fun _ => ⟨rfl, rfl⟩⟩
theorem good_tell {l : List Nd} {D : List (List N)} (h : RightD l D) (r : Rp) : Good l D ⟨l, D, r⟩ := ⟨h, Nat.le_refl _, fun _ => ⟨rfl, rfl⟩⟩
theorem fresh_low (l : List Nd) : 3 ≤ fresh l := by unfold fresh; omega
theorem fresh_le {l : List Nd} (h : 3 ≤ l.length) : fresh l ≤ l.length := by
  unfold fresh
  have := List.findIdx_le_length (xs := l.drop 3) (p := fun n => decide (n = Nd.zero))
  rw [List.length_drop] at this
  omega
theorem fresh_zero {l : List Nd} (h : 3 ≤ l.length) : nd l (fresh l) = Nd.zero := by
  by_cases hl : fresh l < l.length
  · unfold fresh at hl ⊢
    have h1 : (l.drop 3).findIdx (fun n => decide (n = Nd.zero)) < (l.drop 3).length := by rw [List.length_drop]; omega
    have h2 := List.findIdx_getElem (w := h1)
    have h3 : (l.drop 3)[(l.drop 3).findIdx (fun n => decide (n = Nd.zero))] = Nd.zero := of_decide_eq_true h2
    rw [List.getElem_drop] at h3
    unfold nd
    rw [List.getD_eq_getElem?_getD, List.getElem?_eq_getElem hl]
    exact h3
  · exact nd_out (by omega)
section
variable {l : List Nd} {D : List (List N)}
theorem made_good (h : RightD l D) {p : Pl} {f : Bool} (hp : placeP l D f p) {kind : Int} {mode : Nat} {data : ByteArray} {now : Nat} (ht : now < 281474976710656) (hk : kind = 1 ∨ kind = 2 ∨ kind = 3) (hm : mode ≤ 4095) (hd : dataP ⟨kind, mode, 1, now, data⟩) (hd2 : kind = 2 → data = ⟨#[]⟩) : Good l D (madeD l D p kind mode data now) := by
  unfold madeD
  by_cases h1 : p.ino = 0
  case neg => rw [if_pos h1]; exact good_asIs h _
  rw [if_neg (fun e => e h1)]
  by_cases h2 : 240 ≤ fresh l
  · rw [if_pos h2]; exact good_asIs h _
  rw [if_neg h2]
  by_cases h3 : addE (ds D p.dir) p.name (fresh l) = 0
  case neg => rw [if_pos h3]; exact good_asIs h _
  rw [if_neg (fun e => e h3)]
  obtain ⟨a1, a2, a3, a4⟩ := add_zero.1 h3
  have hfl := fresh_low l
  have hfe := fresh_le h.low
  have hfz := fresh_zero h.low
  have hdir : (nd l p.dir).kind = 2 := by
    rcases hp.1 with e | e
    · rw [e] at h1; exact absurd h1 (by decide)
    · exact e.1
  have hdz : ¬ nd l p.dir = Nd.zero := zero_kind (by rw [hdir]; decide)
  obtain ⟨d1, d2⟩ := h.big hdz
  have hsz : (nd l p.dir).data.size + 6 + p.name.size ≤ 20000 := by
    rw [← (h.dir p.dir d2 hdir).2.1]; exact a4
  have hone : oneP ⟨kind, mode, 1, now, data⟩ := .inr ⟨hm, ht, Nat.le_refl _, by show 1 ≤ 1000; omega, hd⟩
  have hnz : ¬ (⟨kind, mode, 1, now, data⟩ : Nd) = Nd.zero := fun e => by have := congrArg Nd.links e; exact absurd this (by show ¬ (1 : Nat) = 0; omega)
  by_cases hL : fresh l = l.length
  · rw [if_pos hL, if_pos hL]
    have hg := right_grow h (by omega)
    have hlen : (l ++ [Nd.zero]).length = l.length + 1 := by simp
    have hr := right_new hg (d := p.dir) (x := fresh l) (s := p.name) (n := ⟨kind, mode, 1, now, data⟩) (now := now) (by omega) (by rw [nd_app]; exact hdir) hfl (by omega) (by rw [nd_app]; exact hfz) ⟨a1, by show ¬ fresh l = 0; omega, by show fresh l < _; omega⟩ (by rw [ds_app]; exact a2) (by rw [nd_app]; exact hsz) hone hnz rfl hd2 ht
    rw [nd_app, ds_app] at hr
    exact ⟨hr, by simp, fun e => absurd rfl e⟩
  · rw [if_neg hL, if_neg hL]
    have hr := right_new h (d := p.dir) (x := fresh l) (s := p.name) (n := ⟨kind, mode, 1, now, data⟩) (now := now) d2 hdir hfl (by omega) hfz ⟨a1, by show ¬ fresh l = 0; omega, by show fresh l < _; have := h.high; omega⟩ a2 hsz hone hnz rfl hd2 ht
    exact ⟨hr, by simp, fun e => absurd rfl e⟩
theorem makes_good (h : RightD l D) (c : Cl) {now : Nat} (ht : now < 281474976710656) (ho : c.op = 1 ∨ c.op = 2 ∨ c.op = 10) : Good l D (makesD l D c now) := by
  unfold makesD
  by_cases hb : (if c.op = 10 then c.data.size < 1 ∨ 500 < c.data.size ∨ ¬ bareP c.data else c.mode < 0 ∨ 4095 < c.mode)
  · rw [if_pos hb]; exact good_asIs h _
  rw [if_neg hb]
  cases hg : goD l D c.path (decide (c.op = 1)) with
  | error e => exact good_asIs h _
  | ok p =>
    have hp := goD_place h.root.1 hg
    simp only
    by_cases h10 : c.op = 10
    · rw [if_pos h10] at hb ⊢
      have hb2 : Dir.nameP p.name ∨ True := .inr trivial
      refine made_good h hp ht (.inr (.inr rfl)) (by omega) (.inr (.inl ⟨rfl, ?_, ?_, ?_⟩)) (fun e => absurd e (by decide))
      · exact Nat.le_of_not_lt fun e => hb (.inl e)
      · exact Nat.le_of_not_lt fun e => hb (.inr (.inl e))
      · exact Classical.byContradiction fun e => hb (.inr (.inr e))
    · rw [if_neg h10] at hb ⊢
      have hm : c.mode.toNat ≤ 4095 := by omega
      by_cases h2 : c.op = 2
      · rw [if_pos h2]
        exact made_good h hp ht (.inr (.inl rfl)) hm (.inr (.inr rfl)) (fun _ => rfl)
      · rw [if_neg h2]
        exact made_good h hp ht (.inl rfl) hm (.inl ⟨rfl, by show (⟨#[]⟩ : ByteArray).size ≤ _; decide⟩) (fun _ => rfl)
theorem file_is (h : RightD l D) {path : ByteArray} {x : Nat} (hf : fileD l D path = .ok x) : ¬ nd l x = Nd.zero ∧ (nd l x).kind = 1 := by
  unfold fileD at hf
  cases hg : foundD l D path true with
  | error e => rw [hg] at hf; cases hf
  | ok p =>
    rw [hg] at hf
    simp only at hf
    by_cases hk : (nd l p.ino).kind = 2
    · rw [if_pos hk] at hf; cases hf
    · rw [if_neg hk] at hf
      cases hf
      obtain ⟨h1, h2⟩ := found_place h.root.1 hg
      obtain ⟨h3, h4, h5⟩ := place_big h h1 h2
      refine ⟨h3, ?_⟩
      obtain ⟨_, _, _, _, o5⟩ := fit_set (h.one _ h5) h3
      rcases o5 with o | o | o
      · exact o.1
      · exact absurd o.1 ((h1.2 rfl).resolve_left h2)
      · exact absurd o hk
theorem stood_size (s : ByteArray) (off : Nat) (d : ByteArray) : (stood s off d).size = max (off + d.size) s.size := by
  unfold stood
  rw [ByteArray.size_append, ByteArray.size_append, ByteArray.size_extract, ByteArray.size_extract, ByteArray.size_append, zeros_size]
  omega
theorem data_good (h : RightD l D) {x : Nat} (hx : ¬ nd l x = Nd.zero) (hk : (nd l x).kind = 1) {s : ByteArray} (hs : s.size ≤ 200000) {now : Nat} (ht : now < 281474976710656) : Good l D ⟨l.set x (dataN (nd l x) s now), D, rpE 0⟩ := by
  obtain ⟨x1, x2⟩ := h.big hx
  obtain ⟨o1, o2, o3, o4, o5⟩ := fit_set (h.one x x2) hx
  refine ⟨right_set h hx rfl rfl (.inr ⟨o1, ht, o3, o4, .inl ⟨hk, hs⟩⟩) (zero_kind (by show ¬ (nd l x).kind = 0; rw [hk]; decide)) (fun e => ?_), by simp, fun e => absurd rfl e⟩
  have e2 : (nd l x).kind = 2 := e
  rw [hk] at e2
  exact absurd e2 (by decide)
theorem writes_good (h : RightD l D) (c : Cl) {now : Nat} (ht : now < 281474976710656) : Good l D (writesD l D c now) := by
  unfold writesD
  by_cases h0 : c.off < 0
  · rw [if_pos h0]; exact good_asIs h _
  rw [if_neg h0]
  cases hf : fileD l D c.path with
  | error e => exact good_asIs h _
  | ok x =>
    simp only
    obtain ⟨hx, hk⟩ := file_is h hf
    by_cases h1 : 200000 < c.off + c.data.size
    · rw [if_pos h1]; exact good_asIs h _
    rw [if_neg h1]
    by_cases h2 : c.data = ⟨#[]⟩
    · rw [if_pos h2]; exact good_asIs h _
    rw [if_neg h2]
    refine data_good h hx hk ?_ ht
    rw [stood_size]
    obtain ⟨x1, x2⟩ := h.big hx
    have := (fit_set (h.one x x2) hx).2.2.2.2
    have hs : (nd l x).data.size ≤ 200000 := by
      rcases this with o | o | o
      · exact o.2
      · rw [hk] at o; exact absurd o.1 (by decide)
      · rw [hk] at o; exact absurd o (by decide)
    omega
theorem trunc_good (h : RightD l D) (c : Cl) {now : Nat} (ht : now < 281474976710656) : Good l D (truncD l D c now) := by
  unfold truncD
  by_cases h0 : c.n < 0
  · rw [if_pos h0]; exact good_asIs h _
  rw [if_neg h0]
  cases hf : fileD l D c.path with
  | error e => exact good_asIs h _
  | ok x =>
    simp only
    obtain ⟨hx, hk⟩ := file_is h hf
    by_cases h1 : 200000 < c.n
    · rw [if_pos h1]; exact good_asIs h _
    rw [if_neg h1]
    refine data_good h hx hk ?_ ht
    rw [ByteArray.size_extract]
    omega
theorem sets_good (h : RightD l D) (c : Cl) : Good l D (setsD l D c) := by
  unfold setsD
  by_cases hb : (if c.op = 15 then c.n < 0 ∨ 281474976710656 ≤ c.n else c.mode < 0 ∨ 4095 < c.mode)
  · rw [if_pos hb]; exact good_asIs h _
  rw [if_neg hb]
  cases hg : foundD l D c.path true with
  | error e => exact good_asIs h _
  | ok p =>
    simp only
    obtain ⟨h1, h2⟩ := found_place h.root.1 hg
    obtain ⟨hx, x1, x2⟩ := place_big h h1 h2
    obtain ⟨o1, o2, o3, o4, o5⟩ := fit_set (h.one _ x2) hx
    by_cases h15 : c.op = 15
    · rw [if_pos h15] at hb ⊢
      refine ⟨right_set h hx rfl rfl (.inr ⟨o1, by show c.n.toNat < _; omega, o3, o4, o5⟩) (fun e => ?_) (fun _ => rfl), by simp, fun e => absurd rfl e⟩
      have := congrArg Nd.links e
      have e0 : (nd l p.ino).links = 0 := this
      omega
    · rw [if_neg h15] at hb ⊢
      refine ⟨right_set h hx rfl rfl (.inr ⟨by show c.mode.toNat ≤ _; omega, o2, o3, o4, o5⟩) (fun e => ?_) (fun _ => rfl), by simp, fun e => absurd rfl e⟩
      have := congrArg Nd.links e
      have e0 : (nd l p.ino).links = 0 := this
      omega
theorem place_named {f : Bool} {p : Pl} (hp : placeP l D f p) (h0 : ¬ p.ino = 0) (hd : ¬ p.dir = 0) : (nd l p.dir).kind = 2 ∧ idx (ds D p.dir) p.name < (ds D p.dir).length ∧ (nm (ds D p.dir) (idx (ds D p.dir) p.name)).ino = p.ino ∧ Dir.nameP p.name := by
  rcases hp.1 with e | ⟨e1, e2, e3⟩
  · rw [e] at hd; exact absurd rfl hd
  · obtain ⟨f1, f2, f3⟩ := findV_mem e3 h0
    exact ⟨e1, f1, f2, f3⟩
theorem drop_right (h : RightD l D) {f : Bool} {p : Pl} (hp : placeP l D f p) (h0 : ¬ p.ino = 0) (hd : ¬ p.dir = 0) (hl : ds D p.ino = []) {now : Nat} (ht : now < 281474976710656) : RightD (dropD l D p now).1 (dropD l D p now).2 := by
  obtain ⟨_, f1, f2, _⟩ := place_named hp h0 hd
  exact right_drop h f1 f2 hl ht
theorem empty_leaf (h : RightD l D) {x : Nat} (hx : x < l.length) (hd : (nd l x).data = ⟨#[]⟩) : ds D x = [] := by
  by_cases hk : (nd l x).kind = 2
  · have h1 := h.dir x hx hk
    rw [hd] at h1
    exact h1.unique DirP.nil
  · exact h.non x hx hk
theorem drops_good (h : RightD l D) (c : Cl) {now : Nat} (ht : now < 281474976710656) (ho : c.op = 6 ∨ c.op = 7) : Good l D (dropsD l D c now) := by
  unfold dropsD
  cases hg : foundD l D c.path false with
  | error e => exact good_asIs h _
  | ok p =>
    simp only
    obtain ⟨h1, h2⟩ := found_place h.root.1 hg
    obtain ⟨hx, x1, x2⟩ := place_big h h1 h2
    by_cases k1 : c.op = 6 ∧ (nd l p.ino).kind = 2
    · rw [if_pos k1]; exact good_asIs h _
    rw [if_neg k1]
    by_cases k2 : c.op = 7 ∧ ¬ (nd l p.ino).kind = 2
    · rw [if_pos k2]; exact good_asIs h _
    rw [if_neg k2]
    by_cases k3 : p.dir = 0
    · rw [if_pos k3]; exact good_asIs h _
    rw [if_neg k3]
    by_cases k4 : c.op = 7 ∧ ¬ (nd l p.ino).data = ⟨#[]⟩
    · rw [if_pos k4]; exact good_asIs h _
    rw [if_neg k4]
    refine ⟨drop_right h h1 h2 k3 ?_ ht, by unfold dropD; simp, fun e => absurd rfl e⟩
    rcases ho with o | o
    · exact h.non _ x2 fun e => k1 ⟨o, e⟩
    · exact empty_leaf h x2 (Classical.byContradiction fun e => k4 ⟨o, e⟩)
theorem none_dir (h : RightD l D) {f : Bool} {q : Pl} (hq : placeP l D f q) (h0 : q.ino = 0) : (nd l q.dir).kind = 2 := by
  rcases hq.1 with e | e
  · rw [e] at h0; exact absurd h0 (by decide)
  · exact e.1
theorem links_good (h : RightD l D) (c : Cl) {now : Nat} (ht : now < 281474976710656) : Good l D (linksD l D c now) := by
  unfold linksD
  cases hg : foundD l D c.path false with
  | error e => exact good_asIs h _
  | ok p =>
    simp only
    obtain ⟨h1, h2⟩ := found_place h.root.1 hg
    obtain ⟨hx, x1, x2⟩ := place_big h h1 h2
    by_cases k1 : (nd l p.ino).kind = 2
    · rw [if_pos k1]; exact good_asIs h _
    rw [if_neg k1]
    cases hq : goD l D c.to_ false with
    | error e => exact good_asIs h _
    | ok q =>
      simp only
      have hqp := goD_place h.root.1 hq
      by_cases k2 : q.ino = 0
      case neg => rw [if_pos k2]; exact good_asIs h _
      rw [if_neg (fun e => e k2)]
      by_cases k3 : 1000 ≤ (nd l p.ino).links
      · rw [if_pos k3]; exact good_asIs h _
      rw [if_neg k3]
      by_cases k4 : addE (ds D q.dir) q.name p.ino = 0
      case neg => rw [if_pos k4]; exact good_asIs h _
      rw [if_neg (fun e => e k4)]
      obtain ⟨a1, a2, a3, a4⟩ := add_zero.1 k4
      have hdir := none_dir h hqp k2
      obtain ⟨d1, d2⟩ := h.big (zero_kind (n := nd l q.dir) (by rw [hdir]; decide))
      have hsz : (nd l q.dir).data.size + 6 + q.name.size ≤ 20000 := by
        rw [← (h.dir q.dir d2 hdir).2.1]; exact a4
      exact ⟨right_link h d2 hdir hx k1 (by omega) ⟨a1, a3, by show p.ino < _; have := h.high; omega⟩ a2 hsz ht, by simp, fun e => absurd rfl e⟩
theorem move_right (h : RightD l D) {f : Bool} {p q : Pl} (hp : placeP l D f p) (h0 : ¬ p.ino = 0) (hd : ¬ p.dir = 0) (hqd : (nd l q.dir).kind = 2) (hin : ¬ ((nd l p.ino).kind = 2 ∧ Desc D p.ino q.dir)) {now : Nat} (ht : now < 281474976710656) {m : List Nd} {E : List (List N)} (hm : moveD l D p q now = .ok (m, E)) : RightD m E ∧ m.length = l.length := by
  unfold moveD at hm
  simp only at hm
  obtain ⟨f0, f1, f2, f3⟩ := place_named hp h0 hd
  obtain ⟨hx, x1, x2⟩ := place_big h hp h0
  split at hm
  · cases hm
  · rename_i ha
    cases hm
    have ha2 := Classical.not_not.1 ha
    obtain ⟨a1, a2, a3, a4⟩ := add_zero.1 ha2
    obtain ⟨d1, d2⟩ := h.big (zero_kind (n := nd l q.dir) (by rw [hqd]; decide))
    exact ⟨right_move h f1 f2 d2 hqd hin ⟨a1, a3, by show p.ino < _; have := h.high; omega⟩ rfl a2 a4 ht, by simp⟩
theorem nd_extD {l m : List Nd} (h : l.length = m.length) (hh : ∀ j, nd l j = nd m j) : l = m := List.ext_getElem h fun i h1 h2 => by
  have := hh i
  unfold nd at this
  rw [List.getD_eq_getElem?_getD, List.getD_eq_getElem?_getD, List.getElem?_eq_getElem h1, List.getElem?_eq_getElem h2] at this
  exact this
theorem ds_ext {D E : List (List N)} (h : D.length = E.length) (hh : ∀ j, ds D j = ds E j) : D = E := List.ext_getElem h fun i h1 h2 => by
  have := hh i
  unfold ds at this
  rw [List.getD_eq_getElem?_getD, List.getD_eq_getElem?_getD, List.getElem?_eq_getElem h1, List.getElem?_eq_getElem h2] at this
  exact this
/-- the names but one -/
def butN (L : List N) (s : ByteArray) : List N := L.filter fun e => decide (¬ e.name = s)
theorem erase_but0 : ∀ (L : List N), (L.map (·.name)).Nodup → ∀ s, L.eraseIdx (idx L s) = butN L s
  | [], _, s => rfl
  | e :: r, h, s => by
    have h2 : e.name ∉ r.map (·.name) ∧ (r.map (·.name)).Nodup := List.nodup_cons.1 h
    unfold butN idx
    by_cases he : e.name = s
    · rw [List.findIdx_cons, List.filter_cons_of_neg (by simpa using he)]
      have : decide (e.name = s) = true := decide_eq_true he
      rw [this]
      show r = _
      symm
      rw [List.filter_eq_self]
      intro x hx
      refine decide_eq_true fun hxs => h2.1 ?_
      rw [he, ← hxs]
      exact List.mem_map_of_mem hx
    · rw [List.findIdx_cons, List.filter_cons_of_pos (by simpa using he)]
      have : decide (e.name = s) = false := decide_eq_false he
      rw [this]
      show e :: r.eraseIdx (idx r s) = _
      rw [erase_but0 r h2.2 s]
      rfl
theorem erase_but {L : List N} (hf : Fine L) (s : ByteArray) : L.eraseIdx (idx L s) = butN L s := erase_but0 L (Fine.iff.1 hf).2 s
theorem but_comm (L : List N) (s t : ByteArray) : butN (butN L s) t = butN (butN L t) s := by
  unfold butN
  rw [List.filter_filter, List.filter_filter]
  congr 1
  funext e
  exact Bool.and_comm _ _
theorem but_none {L : List N} {s : ByteArray} : ∀ e ∈ butN L s, ¬ e.name = s := fun e he => by
  unfold butN at he
  exact of_decide_eq_true (List.mem_filter.1 he).2
theorem setN_perm {L : List N} (s : ByteArray) (x : Nat) (hi : idx L s < L.length) : (setN L s x).Perm (L.eraseIdx (idx L s) ++ [⟨s, x⟩]) :=
  by
  unfold setN
  rw [List.set_eq_take_append_cons_drop, if_pos hi, List.eraseIdx_eq_take_drop_succ]
  exact List.perm_middle.trans (List.perm_append_singleton _ _).symm
theorem but_size {L : List N} (hf : Fine L) {s : ByteArray} (hi : idx L s < L.length) : (bytesL (butN L s)).size + 6 + s.size = (bytesL L).size := by
  rw [← erase_but hf]
  have h1 := Dir.erase_size hi
  rw [idx_is hi] at h1
  exact h1
theorem but_le {L : List N} (hf : Fine L) (s : ByteArray) : (bytesL (butN L s)).size ≤ (bytesL L).size := by
  by_cases hi : idx L s < L.length
  · have := but_size hf hi; omega
  · rw [← erase_but hf, List.eraseIdx_of_length_le (by omega)]
    exact Nat.le_refl _
/-- to take a name where it stands is to lose it and to have it anew, in another order -/
theorem take_moves (h : RightD l D) {f : Bool} {p q : Pl} (hq : placeP l D f q) (hq0 : ¬ q.ino = 0) (hqd : ¬ q.dir = 0) (f1 : idx (ds D p.dir) p.name < (ds D p.dir).length) (f2 : (nm (ds D p.dir) (idx (ds D p.dir) p.name)).ino = p.ino) (f3 : Dir.nameP p.name) (f0 : (nd l p.dir).kind = 2)
    {now : Nat} (hr : RightD (dropD l D q now).1 (dropD l D q now).2) (hleaf : ds D q.ino = []) (hne : ¬ p.ino = q.ino) (hpd : ¬ p.dir = q.ino) (hqq : ¬ q.dir = q.ino) (hp0 : ¬ p.ino = 0) :
    ∃ m E, moveD (dropD l D q now).1 (dropD l D q now).2 p q now = .ok (m, E) ∧
      ((nd m q.dir).kind = 2 ∧ m.set q.dir (dirN (nd m q.dir) (bytesL (setN (ds (D.set p.dir ((ds D p.dir).eraseIdx (idx (ds D p.dir) p.name))) q.dir) q.name p.ino)) now) = (takeD l D p q now).1) ∧
      ((setN (ds (D.set p.dir ((ds D p.dir).eraseIdx (idx (ds D p.dir) p.name))) q.dir) q.name p.ino).Perm (ds E q.dir) ∧ E.set q.dir (setN (ds (D.set p.dir ((ds D p.dir).eraseIdx (idx (ds D p.dir) p.name))) q.dir) q.name p.ino) = (takeD l D p q now).2) := by
  obtain ⟨g0, g1, g2, g3⟩ := place_named hq hq0 hqd
  obtain ⟨hy, y1, y2⟩ := place_big h hq hq0
  obtain ⟨qd1, qd2⟩ := h.big (zero_kind (n := nd l q.dir) (by rw [g0]; decide))
  obtain ⟨pd1, pd2⟩ := h.big (zero_kind (n := nd l p.dir) (by rw [f0]; decide))
  have hDq : q.dir < D.length := by rw [h.len]; exact qd2
  have hDp : p.dir < D.length := by rw [h.len]; exact pd2
  obtain ⟨D0, hD0⟩ : ∃ x, (dropD l D q now).2 = x := ⟨_, rfl⟩
  obtain ⟨l0, hl0⟩ : ∃ x, (dropD l D q now).1 = x := ⟨_, rfl⟩
  rw [hD0, hl0] at hr ⊢
  have hlen0 : l0.length = l.length := by rw [← hl0]; unfold dropD; simp
  have hDl0 : D0.length = D.length := by rw [← hD0]; unfold dropD; simp
  have hn0 : ∀ j, nd l0 j = if j = q.dir then dirN (nd l q.dir) (bytesL (butN (ds D q.dir) q.name)) now else if j = q.ino then lessN (nd l q.ino) now else nd l j := fun j => by
    rw [← hl0, ← erase_but (h.fine _)]
    unfold dropD
    rw [nd_set (by rw [List.length_set]; exact qd2), nd_set y2]
  have hd0 : ∀ j, ds D0 j = if j = q.dir then butN (ds D q.dir) q.name else ds D j := fun j => by
    rw [← hD0, ← erase_but (h.fine _)]
    unfold dropD
    exact ds_set hDq _ j
  obtain ⟨A, hA⟩ : ∃ x, D.set p.dir ((ds D p.dir).eraseIdx (idx (ds D p.dir) p.name)) = x := ⟨_, rfl⟩
  rw [hA]
  have hAd : ∀ j, ds A j = if j = p.dir then butN (ds D p.dir) p.name else ds D j := fun j => by
    rw [← hA, erase_but (h.fine _)]
    exact ds_set hDp _ j
  have hAl : A.length = D.length := by rw [← hA]; simp
  obtain ⟨E1, hE1⟩ : ∃ x, D0.set p.dir ((ds D0 p.dir).eraseIdx (idx (ds D0 p.dir) p.name)) = x := ⟨_, rfl⟩
  have hE1l : E1.length = D.length := by rw [← hE1, List.length_set, hDl0]
  have hE1d : ∀ j, ds E1 j = if j = p.dir then butN (ds D0 p.dir) p.name else ds D0 j := fun j => by
    rw [← hE1, erase_but (hr.fine _)]
    exact ds_set (by rw [hDl0]; exact hDp) _ j
  have hfA : Fine (ds A q.dir) := by
    rw [hAd]
    by_cases h1 : q.dir = p.dir
    · rw [if_pos h1, ← erase_but (h.fine _)]; exact (h.fine _).erase f1
    · rw [if_neg h1]; exact h.fine _
  have hEA : ds E1 q.dir = butN (ds A q.dir) q.name := by
    rw [hE1d, hAd]
    by_cases h1 : q.dir = p.dir
    · rw [if_pos h1, if_pos h1, hd0, if_pos h1.symm, h1, but_comm]
    · rw [if_neg h1, if_neg h1, hd0, if_pos rfl]
  have hiA : idx (ds A q.dir) q.name < (ds A q.dir).length := by
    have hmem : nm (ds D q.dir) (idx (ds D q.dir) q.name) ∈ ds A q.dir := by
      rw [hAd]
      by_cases h1 : q.dir = p.dir
      · rw [if_pos h1, ← h1]
        unfold butN
        refine List.mem_filter.2 ⟨nm_mem g1, decide_eq_true fun e => hne ?_⟩
        have h2 : q.name = p.name := (idx_is g1).symm.trans e
        rw [← f2, ← g2, h1, h2]
      · rw [if_neg h1]; exact nm_mem g1
    obtain ⟨i, hi, e1⟩ := mem_nm hmem
    rw [idx_eq hfA hi (by rw [e1]; exact idx_is g1)]
    exact hi
  have hadd : addE (ds E1 q.dir) q.name p.ino = 0 := by
    refine add_zero.2 ⟨g3, ?_, hp0, ?_⟩
    · rw [hEA]
      exact idx_none.2 fun i hi => but_none _ (nm_mem hi)
    · rw [hEA]
      have h1 := but_size hfA hiA
      have h2 : (bytesL (ds A q.dir)).size ≤ (bytesL (ds D q.dir)).size := by
        rw [hAd]
        by_cases h3 : q.dir = p.dir
        · rw [if_pos h3, h3]; exact but_le (h.fine _) _
        · rw [if_neg h3]; exact Nat.le_refl _
      have h3 := h.dir _ qd2 g0
      have h4 := h3.2.2
      rw [← h3.2.1] at h4
      omega
  refine ⟨(l0.set p.dir (dirN (nd l0 p.dir) (bytesL ((ds D0 p.dir).eraseIdx (idx (ds D0 p.dir) p.name))) now)).set q.dir (dirN (nd l0 q.dir) (bytesL (ds E1 q.dir ++ [⟨q.name, p.ino⟩])) now), E1.set q.dir (ds E1 q.dir ++ [⟨q.name, p.ino⟩]), ?_, ?_, ?_, ?_⟩
  · unfold moveD
    simp only
    rw [hE1, if_neg (fun e => e hadd)]
  · have hm : ∀ j, nd ((l0.set p.dir (dirN (nd l0 p.dir) (bytesL ((ds D0 p.dir).eraseIdx (idx (ds D0 p.dir) p.name))) now)).set q.dir (dirN (nd l0 q.dir) (bytesL (ds E1 q.dir ++ [⟨q.name, p.ino⟩])) now)) j = if j = q.dir then dirN (nd l0 q.dir) (bytesL (ds E1 q.dir ++ [⟨q.name, p.ino⟩])) now else if j = p.dir then dirN (nd l0 p.dir) (bytesL (butN (ds D0 p.dir) p.name)) now else nd l0 j := fun j => by
      rw [nd_set (by rw [List.length_set, hlen0]; exact qd2), nd_set (by rw [hlen0]; exact pd2), erase_but (hr.fine _)]
    refine ⟨?_, ?_⟩
    · rw [hm, if_pos rfl]
      show (nd l0 q.dir).kind = 2
      rw [hn0, if_pos rfl]
      exact g0
    · refine nd_extD (by unfold takeD; simp [hlen0]) fun j => ?_
      have hT : nd (takeD l D p q now).1 j = if j = q.dir then dirN (nd l q.dir) (bytesL (setN (ds A q.dir) q.name p.ino)) now else if j = q.ino then lessN (nd l q.ino) now else if j = p.dir then dirN (nd l p.dir) (bytesL (butN (ds D p.dir) p.name)) now else nd l j := by
        unfold takeD
        simp only
        rw [nd_set (by rw [List.length_set, List.length_set]; exact qd2), nd_set (by rw [List.length_set]; exact y2), nd_set pd2, hA, erase_but (h.fine _)]
      rw [hT, nd_set (by rw [List.length_set, List.length_set, hlen0]; exact qd2), hm, if_pos rfl]
      by_cases j1 : j = q.dir
      · rw [if_pos j1, if_pos j1]
        show dirN (nd l0 q.dir) _ now = _
        rw [hn0, if_pos rfl]
        rfl
      · rw [if_neg j1, if_neg j1, hm, if_neg j1]
        by_cases j2 : j = p.dir
        · have hpq : ¬ p.dir = q.dir := fun e => j1 (by rw [j2, e])
          rw [if_pos j2, if_neg (by rw [j2]; exact hpd), if_pos j2, hn0, if_neg hpq, if_neg hpd, hd0, if_neg hpq]
        · rw [if_neg j2, hn0, if_neg j1]
          by_cases j3 : j = q.ino
          · rw [if_pos j3, if_pos j3]
          · rw [if_neg j3, if_neg j3, if_neg j2]
  · rw [ds_set (by rw [hE1l]; exact hDq), if_pos rfl, hEA, ← erase_but hfA]
    exact setN_perm _ _ hiA
  · refine ds_ext (by unfold takeD; simp [hE1l]) fun j => ?_
    have hT : ds (takeD l D p q now).2 j = if j = q.dir then setN (ds A q.dir) q.name p.ino else ds A j := by
      unfold takeD
      simp only
      rw [hA, ds_set (by rw [hAl]; exact hDq)]
    rw [hT, ds_set (by rw [List.length_set, hE1l]; exact hDq), ds_set (by rw [hE1l]; exact hDq)]
    by_cases j1 : j = q.dir
    · rw [if_pos j1, if_pos j1]
    · rw [if_neg j1, if_neg j1, if_neg j1, hE1d, hAd]
      by_cases j2 : j = p.dir
      · rw [if_pos j2, if_pos j2, hd0, if_neg (fun e => j1 (by rw [j2, e]))]
      · rw [if_neg j2, if_neg j2, hd0, if_neg j1]
theorem renames_good (J : Nat → Nat → Bool) (hJ : ∀ x b, J x b = true ↔ Desc D x b) (h : RightD l D) (c : Cl) {now : Nat} (ht : now < 281474976710656) : Good l D (renamesD J l D c now) := by
  unfold renamesD
  cases hg : foundD l D c.path false with
  | error e => exact good_asIs h _
  | ok p =>
    simp only
    obtain ⟨h1, h2⟩ := found_place h.root.1 hg
    obtain ⟨hx, x1, x2⟩ := place_big h h1 h2
    by_cases k1 : p.dir = 0
    · rw [if_pos k1]; exact good_asIs h _
    rw [if_neg k1]
    obtain ⟨f0, f1, f2, f3⟩ := place_named h1 h2 k1
    cases hq : goD l D c.to_ false with
    | error e => exact good_asIs h _
    | ok q =>
      simp only
      have hqp := goD_place h.root.1 hq
      by_cases k2 : q.dir = 0
      · rw [if_pos k2]; exact good_asIs h _
      rw [if_neg k2]
      by_cases k3 : p.ino = q.ino
      · rw [if_pos k3]; exact good_asIs h _
      rw [if_neg k3]
      by_cases k4 : (nd l p.ino).kind = 2 ∧ J p.ino q.dir = true
      · rw [if_pos k4]; exact good_asIs h _
      rw [if_neg k4]
      have hin : ¬ ((nd l p.ino).kind = 2 ∧ Desc D p.ino q.dir) := fun e => k4 ⟨e.1, (hJ _ _).2 e.2⟩
      have hqd : (nd l q.dir).kind = 2 := by
        rcases hqp.1 with e | e
        · rw [e] at k2; exact absurd rfl k2
        · exact e.1
      by_cases k5 : q.ino = 0
      · rw [if_pos k5]
        cases hm : moveD l D p q now with
        | error e => exact good_asIs h _
        | ok mE =>
          obtain ⟨m, E⟩ := mE
          simp only
          obtain ⟨r1, r2⟩ := move_right h h1 h2 k1 hqd hin ht hm
          exact ⟨r1, by show l.length ≤ m.length; omega, fun e => absurd rfl e⟩
      · rw [if_neg k5]
        by_cases k6 : takenE (nd l p.ino) (nd l q.ino) = 0
        case neg => rw [if_pos k6]; exact good_asIs h _
        rw [if_neg (fun e => e k6)]
        obtain ⟨hy, y1, y2⟩ := place_big h hqp k5
        obtain ⟨g0, g1, g2, g3⟩ := place_named hqp k5 k2
        have hleaf : ds D q.ino = [] := by
          unfold takenE at k6
          by_cases t1 : (nd l p.ino).kind = 2 ∧ ¬ (nd l q.ino).kind = 2
          · exact h.non _ y2 t1.2
          · rw [if_neg t1] at k6
            by_cases t2 : (nd l p.ino).kind = 2 ∧ ¬ (nd l q.ino).data = ⟨#[]⟩
            · rw [if_pos t2] at k6; exact absurd k6 (by decide)
            · rw [if_neg t2] at k6
              by_cases t3 : ¬ (nd l p.ino).kind = 2 ∧ (nd l q.ino).kind = 2
              · rw [if_pos t3] at k6; exact absurd k6 (by decide)
              · by_cases t4 : (nd l p.ino).kind = 2
                · exact empty_leaf h y2 (Classical.byContradiction fun e => t2 ⟨t4, e⟩)
                · exact h.non _ y2 fun e => t3 ⟨t4, e⟩
        have hr := drop_right h hqp k5 k2 hleaf ht
        have hpd : ¬ p.dir = q.ino := fun e => by rw [e, hleaf] at f1; exact absurd f1 (Nat.not_lt_zero _)
        have hqq : ¬ q.dir = q.ino := fun e => by rw [e, hleaf] at g1; exact absurd g1 (Nat.not_lt_zero _)
        obtain ⟨d1, d2⟩ := h.big (zero_kind (n := nd l q.dir) (by rw [hqd]; decide))
        have hDl : q.dir < D.length := by rw [h.len]; exact d2
        have hat : ∀ j, nd (dropD l D q now).1 j = if j = q.dir then dirN (nd l q.dir) (bytesL ((ds D q.dir).eraseIdx (idx (ds D q.dir) q.name))) now else if j = q.ino then lessN (nd l q.ino) now else nd l j := fun j => by
          unfold dropD
          rw [nd_set (by rw [List.length_set]; exact d2), nd_set y2]
        have hds : ∀ j, ds (dropD l D q now).2 j = if j = q.dir then (ds D q.dir).eraseIdx (idx (ds D q.dir) q.name) else ds D j := fun j => by
          unfold dropD
          exact ds_set hDl _ j
        have hkd : ∀ j, ¬ j = q.ino → (nd (dropD l D q now).1 j).kind = (nd l j).kind := fun j hj => by
          rw [hat]
          by_cases e : j = q.dir
          · rw [if_pos e, e]; rfl
          · rw [if_neg e, if_neg hj]
        have hsub : ∀ j e, e ∈ ds (dropD l D q now).2 j → e ∈ ds D j := fun j e he => by
          rw [hds] at he
          by_cases e1 : j = q.dir
          · rw [if_pos e1] at he; rw [e1]; exact List.mem_of_mem_eraseIdx he
          · rw [if_neg e1] at he; exact he
        have hfind : p.ino = findV (ds (dropD l D q now).2 p.dir) p.name := by
          have hfine := hr.fine p.dir
          have hmem : ∃ i, i < (ds (dropD l D q now).2 p.dir).length ∧ nm (ds (dropD l D q now).2 p.dir) i = nm (ds D p.dir) (idx (ds D p.dir) p.name) := by
            rw [hds]
            by_cases e1 : p.dir = q.dir
            · rw [if_pos e1]
              have hne : ¬ idx (ds D p.dir) p.name = idx (ds D q.dir) q.name := fun e2 => k3 (by rw [← f2, ← g2, e1] at *; rw [e2])
              rw [e1] at f1 hne ⊢
              have hl := Dir.erase_length g1
              by_cases e3 : idx (ds D q.dir) p.name < idx (ds D q.dir) q.name
              · exact ⟨idx (ds D q.dir) p.name, by omega, by rw [nm_erase, if_pos e3]⟩
              · exact ⟨idx (ds D q.dir) p.name - 1, by omega, by rw [nm_erase, if_neg (by omega), show idx (ds D q.dir) p.name - 1 + 1 = idx (ds D q.dir) p.name by omega]⟩
            · rw [if_neg e1]
              exact ⟨_, f1, rfl⟩
          obtain ⟨i, hi, hn⟩ := hmem
          have hnm : (nm (ds (dropD l D q now).2 p.dir) i).name = p.name := by rw [hn]; exact idx_is f1
          have hix := idx_eq hfine hi hnm
          have hz : findE (ds (dropD l D q now).2 p.dir) p.name = 0 := find_zero.2 ⟨f3, by rw [hix]; exact hi⟩
          unfold findV
          rw [if_pos hz, hix, hn]
          exact f2.symm
        have hp2 : placeP (dropD l D q now).1 (dropD l D q now).2 false p := ⟨.inr ⟨by rw [hkd _ hpd]; exact f0, f3, hfind⟩, fun e => absurd e (by decide)⟩
        obtain ⟨m, E, hm, hmt, hEt⟩ := take_moves h hqp k5 k2 f1 f2 f3 f0 hr hleaf k3 hpd hqq h2
        obtain ⟨r1, r2⟩ := move_right hr hp2 h2 k1 (by rw [hkd _ hqq]; exact hqd) (fun e => hin ⟨by rw [← hkd _ k3]; exact e.1, e.2.mono hsub⟩) ht hm
        have hmk : (nd m q.dir).kind = 2 := hmt.1
        have hrp := right_perm r1 hmk hEt.1 ht
        rw [hmt.2, hEt.2] at hrp
        refine ⟨hrp, ?_, fun e => absurd rfl e⟩
        show l.length ≤ (takeD l D p q now).1.length
        unfold takeD
        simp
/-- what is right stays right -/
theorem do_good (J : Nat → Nat → Bool) (hJ : ∀ x b, J x b = true ↔ Desc D x b) (S : List N → List N) (h : RightD l D) (c : Cl) (now : Nat) : Good l D (doD J S l D c now) := by
  unfold doD
  by_cases ht : 281474976710656 ≤ now
  · rw [if_pos ht]; exact good_asIs h _
  rw [if_neg ht]
  have ht2 : now < 281474976710656 := by omega
  by_cases k1 : c.op = 1 ∨ c.op = 2 ∨ c.op = 10
  · rw [if_pos k1]; exact makes_good h c ht2 k1
  rw [if_neg k1]
  by_cases k2 : c.op = 3
  · rw [if_pos k2]; exact writes_good h c ht2
  rw [if_neg k2]
  by_cases k3 : c.op = 5
  · rw [if_pos k3]; exact trunc_good h c ht2
  rw [if_neg k3]
  by_cases k4 : c.op = 4
  · rw [if_pos k4]; exact good_tell h _
  rw [if_neg k4]
  by_cases k5 : c.op = 6 ∨ c.op = 7
  · rw [if_pos k5]; exact drops_good h c ht2 k5
  rw [if_neg k5]
  by_cases k6 : c.op = 8
  · rw [if_pos k6]; exact renames_good J hJ h c ht2
  rw [if_neg k6]
  by_cases k7 : c.op = 9
  · rw [if_pos k7]; exact links_good h c ht2
  rw [if_neg k7]
  by_cases k8 : c.op = 11 ∨ c.op = 12 ∨ c.op = 13
  · rw [if_pos k8]; exact good_tell h _
  rw [if_neg k8]
  by_cases k9 : c.op = 14 ∨ c.op = 15
  · rw [if_pos k9]; exact sets_good h c
  rw [if_neg k9]
  exact good_asIs h _
/-- what asks changes nothing -/
theorem do_asks (J : Nat → Nat → Bool) (S : List N → List N) {c : Cl} (hc : c.op = 4 ∨ c.op = 11 ∨ c.op = 12 ∨ c.op = 13) (now : Nat) : (doD J S l D c now).l = l ∧ (doD J S l D c now).D = D := by
  unfold doD
  by_cases ht : 281474976710656 ≤ now
  · rw [if_pos ht]; exact ⟨rfl, rfl⟩
  rw [if_neg ht, if_neg (by omega), if_neg (by omega), if_neg (by omega)]
  by_cases k4 : c.op = 4
  · rw [if_pos k4]; exact ⟨rfl, rfl⟩
  rw [if_neg k4, if_neg (by omega), if_neg (by omega), if_neg (by omega), if_pos (by omega)]
  exact ⟨rfl, rfl⟩
end
end Go.Proofs.YtkipkcmcolomcaaGreat.Pln
/- Facts that the laws on files ask: the root alone; what another way of a file's bytes changes. They speak of no program. -/
namespace Go.Proofs.YtkipkcmcolomcaaGreat.Pln
open Dir (N N.zero nm nm_get nm_mem mem_nm nm_erase nm_app nm_last DirP Fine fineE idx idx_is idx_eq idx_none idx_le bytesL ent bytesL_snoc findV findE find_zero addE add_zero)
open Pth (splitD)
set_option linter.unusedVariables false
set_option linter.unusedSimpArgs false
/-! ### the root alone -/
def newL : List Nd := [Nd.zero, Nd.zero, ⟨2, 493, 1, 0, ⟨#[]⟩⟩]
def newD : List (List N) := [[], [], []]
theorem new_ds (i : Nat) : ds newD i = [] := by
  match i with
  | 0 => rfl
  | 1 => rfl
  | 2 => rfl
  | i + 3 => exact ds_out (by show 3 ≤ i + 3; omega)
theorem new_right : RightD newL newD := by
  refine ⟨by decide, by decide, rfl, rfl, rfl, ⟨rfl, rfl⟩, fun i hi => ?_, fun i hi hk => ?_, fun i hi hk => new_ds i, fun i e he => ?_, fun i h3 hi hn => ?_⟩
  · match i, hi with
    | 0, _ => exact .inl rfl
    | 1, _ => exact .inl rfl
    | 2, _ => exact .inr ⟨by decide, by decide, by decide, by decide, .inr (.inr rfl)⟩
    | i + 3, hi => exact absurd hi (by show ¬ i + 3 < 3; omega)
  · rw [new_ds]
    match i, hi, hk with
    | 0, _, hk => exact absurd hk (by decide)
    | 1, _, hk => exact absurd hk (by decide)
    | 2, _, _ => exact DirP.nil
    | i + 3, hi, _ => exact absurd hi (by show ¬ i + 3 < 3; omega)
  · rw [new_ds] at he; cases he
  · exact absurd hi (by show ¬ i < 3; omega)
/-! ### ways hang on kinds, names, and what links say -/
structure Alike (l m : List Nd) : Prop where
  kind : ∀ j, (nd m j).kind = (nd l j).kind
  link : ∀ j, (nd l j).kind = 3 → (nd m j).data = (nd l j).data
theorem run_alike {l m : List Nd} {D : List (List N)} {f : Bool} (h : Alike l m) : ∀ (rest gone : List ByteArray) (p : Pl), runTo m D f gone rest p = runTo l D f gone rest p
  | [], _, _ => rfl
  | s :: r, gone, p => by
    unfold runTo
    rw [h.kind, h.kind, run_alike h r]
theorem run_kind {l : List Nd} {D : List (List N)} {f : Bool} : ∀ (rest gone : List ByteArray) (p : Pl) {g : List ByteArray} {n : Nat} {r : List ByteArray}, runTo l D f gone rest p = .link g n r → (nd l n).kind = 3
  | [], _, p, g, n, r, h => by simp [runTo] at h
  | s :: t, gone, p, g, n, r, h => by
    unfold runTo at h
    by_cases h1 : p.ino = 0
    · rw [if_pos h1] at h; cases h
    · rw [if_neg h1] at h
      by_cases h2 : (nd l p.ino).kind = 2
      · rw [if_neg (fun hh => hh h2)] at h
        by_cases h3 : findV (ds D p.ino) s = 0 ∨ ¬ (nd l (findV (ds D p.ino) s)).kind = 3 ∨ (t = [] ∧ f = false)
        · rw [if_pos h3] at h
          exact run_kind t _ _ h
        · rw [if_neg h3] at h
          cases h
          exact Classical.byContradiction fun hk => h3 (.inr (.inl hk))
      · rw [if_pos h2] at h; cases h
theorem goK_alike {l m : List Nd} {D : List (List N)} {f : Bool} (h : Alike l m) : ∀ (k : Nat) (parts : List ByteArray), goK m D f k parts = goK l D f k parts := by
  intro k
  induction k with
  | zero =>
    intro parts
    unfold goK
    rw [run_alike h]
  | succ k ih =>
    intro parts
    unfold goK
    rw [run_alike h]
    cases hr : runTo l D f [] parts rootPl with
    | fail e => rfl
    | at_ p => rfl
    | link g n r =>
      simp only
      rw [h.link n (run_kind _ _ _ hr)]
      cases hu : underD g (nd l n).data with
      | none => rfl
      | some u =>
        simp only
        rw [ih]
theorem goD_alike {l m : List Nd} {D : List (List N)} (h : Alike l m) (path : ByteArray) (f : Bool) : goD m D path f = goD l D path f := by
  unfold goD
  cases splitD path with
  | none => rfl
  | some p => exact goK_alike h 8 p
theorem found_alike {l m : List Nd} {D : List (List N)} (h : Alike l m) (path : ByteArray) (f : Bool) : foundD m D path f = foundD l D path f := by
  unfold foundD
  rw [goD_alike h]
theorem file_alike {l m : List Nd} {D : List (List N)} (h : Alike l m) (path : ByteArray) : fileD m D path = fileD l D path := by
  unfold fileD
  rw [found_alike h]
  cases foundD l D path true with
  | error e => rfl
  | ok p =>
    simp only
    rw [h.kind]
theorem data_alike {l : List Nd} {x : Nat} (hx : x < l.length) (hk : (nd l x).kind = 1) (s : ByteArray) (now : Nat) : Alike l (l.set x (dataN (nd l x) s now)) := by
  refine ⟨fun j => ?_, fun j hj => ?_⟩
  · rw [nd_set hx]
    by_cases h : j = x
    · rw [if_pos h, h]; rfl
    · rw [if_neg h]
  · rw [nd_set hx, if_neg (fun e => ?_)]
    rw [e, hk] at hj
    exact absurd hj (by decide)
/-! ### bytes of a file -/
theorem ext_size' (s : ByteArray) (a b : Nat) : (s.extract a b).size = min b s.size - a := ByteArray.size_extract
theorem elist (s : ByteArray) (a b : Nat) : (s.extract a b).data.toList = (s.data.toList.drop a).take (b - a) := by
  rw [ByteArray.data_extract, Array.toList_extract]
theorem zlist (n : Nat) : (zeros n).data.toList = List.replicate n 0 := rfl
theorem alist (a b : ByteArray) : (a ++ b).data.toList = a.data.toList ++ b.data.toList := by rw [ByteArray.data_append, Array.toList_append]
theorem slist (s : ByteArray) : s.data.toList.length = s.size := by rw [Array.length_toList]; rfl
theorem bext' {a b : ByteArray} (h : a.data.toList = b.data.toList) : a = b := ByteArray.ext (Array.toList_inj.1 h)
/-- what was written is read -/
theorem stood_at (s : ByteArray) (off : Nat) (d : ByteArray) : (stood s off d).extract off (off + d.size) = d := by
  apply bext'
  have h1 : ((s.data.toList ++ List.replicate (off - s.size) 0).take off).length = off := by
    rw [List.length_take, List.length_append, slist, List.length_replicate]; omega
  unfold stood
  rw [elist, alist, alist, elist, alist, zlist, List.drop_zero, Nat.sub_zero, show off + d.size - off = d.size by omega]
  rw [List.drop_append_of_le_length (by omega), List.drop_of_length_le (by omega), List.nil_append, List.take_append_of_le_length (by rw [slist]; omega), List.take_of_length_le (by rw [slist]; omega)]
/-- what stands ahead: what stood there, then noughts -/
theorem stood_ahead (s : ByteArray) (off : Nat) (d : ByteArray) : (stood s off d).extract 0 off = (s ++ zeros (off - s.size)).extract 0 off := by
  apply bext'
  have h1 : ((s.data.toList ++ List.replicate (off - s.size) 0).take off).length = off := by
    rw [List.length_take, List.length_append, slist, List.length_replicate]; omega
  unfold stood
  rw [elist, elist, alist, elist, alist, zlist, List.drop_zero, List.drop_zero, Nat.sub_zero]
  rw [List.take_append_of_le_length (by omega), List.take_of_length_le (by omega)]
/-- what stands behind stays -/
theorem stood_behind (s : ByteArray) (off : Nat) (d : ByteArray) : (stood s off d).extract (off + d.size) (stood s off d).size = s.extract (off + d.size) s.size := by
  apply bext'
  have h1 : ((s.data.toList ++ List.replicate (off - s.size) 0).take off).length = off := by
    rw [List.length_take, List.length_append, slist, List.length_replicate]; omega
  have hz := stood_size s off d
  rw [elist, elist, hz]
  unfold stood
  rw [alist, alist, elist, alist, zlist, elist, List.drop_zero, Nat.sub_zero]
  rw [← List.append_assoc, List.drop_append_of_le_length (by rw [List.length_append, h1, slist]; omega), List.drop_of_length_le (by rw [List.length_append, h1, slist]; omega), List.nil_append, List.take_take]
  congr 1
  omega
end Go.Proofs.YtkipkcmcolomcaaGreat.Pln
/- Ways where a name is more, or less. They speak of no program. -/
namespace Go.Proofs.YtkipkcmcolomcaaGreat.Pln
open Dir (N N.zero nm nm_get nm_mem mem_nm nm_erase nm_app nm_last DirP Fine fineE idx idx_is idx_eq idx_none idx_le bytesL ent bytesL_snoc findV findE find_zero addE add_zero)
open Pth (splitD)
set_option linter.unusedVariables false
set_option linter.unusedSimpArgs false
/-- a number is the same, as far as ways ask -/
def SameK (l m : List Nd) (j : Nat) : Prop := (nd m j).kind = (nd l j).kind ∧ ((nd l j).kind = 3 → (nd m j).data = (nd l j).data)
/-- the place of none is now x's -/
def upd (d : Nat) (s : ByteArray) (x : Nat) (q : Pl) : Pl := if q = ⟨d, s, 0⟩ then ⟨d, s, x⟩ else q
/-- a name more, at a place of none -/
structure More (l m : List Nd) (D E : List (List N)) (d : Nat) (s : ByteArray) (x : Nat) (f : Bool) : Prop where
  none : findV (ds D d) s = 0
  here : findV (ds E d) s = x
  some : ¬ x = 0
  else_ : ∀ i t, ¬ (i = d ∧ t = s) → findV (ds E i) t = findV (ds D i) t
  same : ∀ i t, ¬ findV (ds D i) t = 0 → SameK l m (findV (ds D i) t)
  root : SameK l m 2
  leaf : ¬ (nd m x).kind = 3 ∨ f = false
section
variable {l m : List Nd} {D E : List (List N)} {d x : Nat} {s : ByteArray} {f : Bool}
theorem More.run (h : More l m D E d s x f) : ∀ (rest gone : List ByteArray) (p : Pl), (¬ p.ino = 0 → SameK l m p.ino) →
    (∀ q, runTo l D f gone rest p = .at_ q → runTo m E f gone rest (upd d s x p) = .at_ (upd d s x q)) ∧ (∀ g n r, runTo l D f gone rest p = .link g n r → runTo m E f gone rest (upd d s x p) = .link g n r ∧ SameK l m n)
  | [], gone, p, _ => ⟨fun q hq => by
      have e : p = q := by simpa [runTo] using hq
      rw [e]
      rfl, fun g n r hr => by simp [runTo] at hr⟩
  | t :: r, gone, p, hk => by
    by_cases h1 : p.ino = 0
    · have hf : runTo l D f gone (t :: r) p = .fail 112 := by unfold runTo; rw [if_pos h1]
      rw [hf]
      exact ⟨fun q hq => by (cases hq), fun g n r hq => by (cases hq)⟩
    have hu : upd d s x p = p := if_neg fun e => h1 (by rw [e])
    rw [hu]
    by_cases h2 : (nd l p.ino).kind = 2
    case neg =>
      have hf : runTo l D f gone (t :: r) p = .fail 140 := by unfold runTo; rw [if_neg h1, if_pos h2]
      rw [hf]
      exact ⟨fun q hq => by (cases hq), fun g n r hq => by (cases hq)⟩
    have h2m : (nd m p.ino).kind = 2 := by rw [(hk h1).1]; exact h2
    by_cases hp : p.ino = d ∧ t = s
    · obtain ⟨hp1, hp2⟩ := hp
      have hn : findV (ds D p.ino) t = 0 := by rw [hp1, hp2]; exact h.none
      have hx : findV (ds E p.ino) t = x := by rw [hp1, hp2]; exact h.here
      have ho : runTo l D f gone (t :: r) p = runTo l D f (gone ++ [t]) r ⟨p.ino, t, 0⟩ := by
        conv => lhs; unfold runTo
        rw [if_neg h1, if_neg (fun e => e h2), if_pos (.inl hn), hn]
      rw [ho]
      cases r with
      | nil =>
        have hm : runTo m E f gone [t] p = runTo m E f (gone ++ [t]) [] ⟨p.ino, t, x⟩ := by
          conv => lhs; unfold runTo
          rw [if_neg h1, if_neg (fun e => e h2m), if_pos (by rw [hx]; rcases h.leaf with e | e; exact .inr (.inl e); exact .inr (.inr ⟨rfl, e⟩)), hx]
        refine ⟨fun q hq => ?_, fun g n r hq => by simp [runTo] at hq⟩
        have e : (⟨p.ino, t, 0⟩ : Pl) = q := by simpa [runTo] using hq
        rw [hm, ← e, hp1, hp2]
        show Run.at_ _ = Run.at_ (upd d s x ⟨d, s, 0⟩)
        unfold upd
        rw [if_pos rfl]
      | cons u v =>
        have hf : runTo l D f (gone ++ [t]) (u :: v) ⟨p.ino, t, 0⟩ = .fail 112 := by unfold runTo; rw [if_pos rfl]
        rw [hf]
        exact ⟨fun q hq => by (cases hq), fun g n r hq => by (cases hq)⟩
    · have he := h.else_ p.ino t hp
      have hsame := h.same p.ino t
      obtain ⟨n, hn⟩ : ∃ n, findV (ds D p.ino) t = n := ⟨_, rfl⟩
      rw [hn] at he hsame
      by_cases h3 : n = 0 ∨ ¬ (nd l n).kind = 3 ∨ (r = [] ∧ f = false)
      · have h3m : n = 0 ∨ ¬ (nd m n).kind = 3 ∨ (r = [] ∧ f = false) := by
          rcases h3 with e | e | e
          · exact .inl e
          · by_cases h0 : n = 0
            · exact .inl h0
            · exact .inr (.inl (by rw [(hsame h0).1]; exact e))
          · exact .inr (.inr e)
        have ho : runTo l D f gone (t :: r) p = runTo l D f (gone ++ [t]) r ⟨p.ino, t, n⟩ := by
          conv => lhs; unfold runTo
          rw [if_neg h1, if_neg (fun e => e h2), hn, if_pos h3]
        have hm : runTo m E f gone (t :: r) p = runTo m E f (gone ++ [t]) r ⟨p.ino, t, n⟩ := by
          conv => lhs; unfold runTo
          rw [if_neg h1, if_neg (fun e => e h2m), he, if_pos h3m]
        have ih := More.run h r (gone ++ [t]) ⟨p.ino, t, n⟩ hsame
        have hup : upd d s x ⟨p.ino, t, n⟩ = ⟨p.ino, t, n⟩ := if_neg fun e => hp (by
          have e1 := congrArg Pl.dir e
          have e2 := congrArg Pl.name e
          exact ⟨e1, e2⟩)
        rw [hup] at ih
        rw [ho, hm]
        exact ih
      · have h0 : ¬ n = 0 := fun e => h3 (.inl e)
        have h3m : ¬ (n = 0 ∨ ¬ (nd m n).kind = 3 ∨ (r = [] ∧ f = false)) := by rw [(hsame h0).1]; exact h3
        have ho : runTo l D f gone (t :: r) p = .link gone n r := by
          unfold runTo
          rw [if_neg h1, if_neg (fun e => e h2), hn, if_neg h3]
        have hm : runTo m E f gone (t :: r) p = .link gone n r := by
          unfold runTo
          rw [if_neg h1, if_neg (fun e => e h2m), he, if_neg h3m]
        rw [ho, hm]
        refine ⟨fun q hq => by (cases hq), fun g k v hq => ?_⟩
        cases hq
        exact ⟨rfl, hsame h0⟩
theorem More.goK (h : More l m D E d s x f) : ∀ (k : Nat) (parts : List ByteArray) (q : Pl), goK l D f k parts = .ok q → goK m E f k parts = .ok (upd d s x q) := by
  have hroot : upd d s x rootPl = rootPl := if_neg fun e => by
    have := congrArg Pl.ino e
    exact absurd this (by show ¬ (2 : Nat) = 0; omega)
  intro k
  induction k with
  | zero =>
    intro parts q hg
    unfold Pln.goK at hg ⊢
    obtain ⟨h1, h2⟩ := More.run h parts [] rootPl (fun _ => h.root)
    rw [hroot] at h1 h2
    cases hr : runTo l D f [] parts rootPl with
    | fail e => rw [hr] at hg; cases hg
    | at_ p => rw [hr] at hg; cases hg; rw [h1 _ hr]
    | link g n r => rw [hr] at hg; cases hg
  | succ k ih =>
    intro parts q hg
    unfold Pln.goK at hg ⊢
    obtain ⟨h1, h2⟩ := More.run h parts [] rootPl (fun _ => h.root)
    rw [hroot] at h1 h2
    cases hr : runTo l D f [] parts rootPl with
    | fail e => rw [hr] at hg; cases hg
    | at_ p => rw [hr] at hg; cases hg; rw [h1 _ hr]
    | link g n r =>
      obtain ⟨e1, e2⟩ := h2 g n r hr
      rw [hr] at hg
      rw [e1]
      simp only at hg ⊢
      rw [e2.2 (run_kind _ _ _ hr)]
      cases hu : underD g (nd l n).data with
      | none => rw [hu] at hg; cases hg
      | some u =>
        rw [hu] at hg
        simp only at hg ⊢
        by_cases h4 : 40 < u.length + r.length
        · rw [if_pos h4] at hg; cases hg
        · rw [if_neg h4] at hg ⊢
          exact ih _ q hg
theorem More.goD (h : More l m D E d s x f) {path : ByteArray} {q : Pl} (hg : goD l D path f = .ok q) : goD m E path f = .ok (upd d s x q) := by
  unfold Pln.goD at hg ⊢
  cases hs : splitD path with
  | none => rw [hs] at hg; cases hg
  | some p => rw [hs] at hg; exact More.goK h 8 p q hg
/-- a name less, of what has no names, and is no link -/
structure Less (l m : List Nd) (D E : List (List N)) (d : Nat) (s : ByteArray) (x : Nat) : Prop where
  here : findV (ds D d) s = x
  leaf : ds D x = [] ∧ ¬ (nd l x).kind = 3 ∧ ¬ x = 0
  else_ : ∀ i t, ¬ (i = d ∧ t = s) → findV (ds E i) t = findV (ds D i) t
  same : ∀ i t, ¬ (i = d ∧ t = s) → ¬ findV (ds D i) t = 0 → SameK l m (findV (ds D i) t)
  root : SameK l m 2
theorem Less.run (h : Less l m D E d s x) : ∀ (rest gone : List ByteArray) (p : Pl), (¬ p.ino = 0 → SameK l m p.ino) →
    (∀ q, ¬ q.ino = 0 → ¬ q = ⟨d, s, x⟩ → runTo l D f gone rest p = .at_ q → runTo m E f gone rest p = .at_ q) ∧ (∀ g n r, runTo l D f gone rest p = .link g n r → runTo m E f gone rest p = .link g n r ∧ SameK l m n)
  | [], gone, p, _ => ⟨fun q _ _ hq => by
      have e : p = q := by simpa [runTo] using hq
      rw [e]
      rfl, fun g n r hr => by simp [runTo] at hr⟩
  | t :: r, gone, p, hk => by
    by_cases h1 : p.ino = 0
    · have hf : runTo l D f gone (t :: r) p = .fail 112 := by unfold runTo; rw [if_pos h1]
      rw [hf]
      exact ⟨fun q _ _ hq => by (cases hq), fun g n r hq => by (cases hq)⟩
    by_cases h2 : (nd l p.ino).kind = 2
    case neg =>
      have hf : runTo l D f gone (t :: r) p = .fail 140 := by unfold runTo; rw [if_neg h1, if_pos h2]
      rw [hf]
      exact ⟨fun q _ _ hq => by (cases hq), fun g n r hq => by (cases hq)⟩
    have h2m : (nd m p.ino).kind = 2 := by rw [(hk h1).1]; exact h2
    by_cases hp : p.ino = d ∧ t = s
    · obtain ⟨hp1, hp2⟩ := hp
      obtain ⟨l1, l2, l3⟩ := h.leaf
      have hn : findV (ds D p.ino) t = x := by rw [hp1, hp2]; exact h.here
      have ho : runTo l D f gone (t :: r) p = runTo l D f (gone ++ [t]) r ⟨p.ino, t, x⟩ := by
        conv => lhs; unfold runTo
        rw [if_neg h1, if_neg (fun e => e h2), hn, if_pos (.inr (.inl l2))]
      rw [ho]
      cases r with
      | nil =>
        refine ⟨fun q _ hne hq => ?_, fun g n r hq => by simp [runTo] at hq⟩
        have e : (⟨p.ino, t, x⟩ : Pl) = q := by simpa [runTo] using hq
        exact absurd (by rw [← e, hp1, hp2]) hne
      | cons u v =>
        by_cases hxk : (nd l x).kind = 2
        · have hnil : findV (ds D x) u = 0 := by
            rw [l1]
            unfold findV
            rw [if_neg]
            intro hz
            exact absurd (find_zero.1 hz).2 (by show ¬ _ < 0; omega)
          have hf : runTo l D f (gone ++ [t]) (u :: v) ⟨p.ino, t, x⟩ = runTo l D f (gone ++ [t] ++ [u]) v ⟨x, u, 0⟩ := by
            conv => lhs; unfold runTo
            rw [if_neg l3, if_neg (fun e => e hxk), if_pos (.inl hnil), hnil]
          rw [hf]
          cases v with
          | nil =>
            refine ⟨fun q h0 _ hq => ?_, fun g n r hq => by simp [runTo] at hq⟩
            have e : (⟨x, u, 0⟩ : Pl) = q := by simpa [runTo] using hq
            exact absurd (by rw [← e]) h0
          | cons a b =>
            have hf2 : runTo l D f (gone ++ [t] ++ [u]) (a :: b) ⟨x, u, 0⟩ = .fail 112 := by unfold runTo; rw [if_pos rfl]
            rw [hf2]
            exact ⟨fun q _ _ hq => by (cases hq), fun g n r hq => by (cases hq)⟩
        · have hf : runTo l D f (gone ++ [t]) (u :: v) ⟨p.ino, t, x⟩ = .fail 140 := by unfold runTo; rw [if_neg l3, if_pos hxk]
          rw [hf]
          exact ⟨fun q _ _ hq => by (cases hq), fun g n r hq => by (cases hq)⟩
    · have he := h.else_ p.ino t hp
      have hsame := h.same p.ino t hp
      obtain ⟨n, hn⟩ : ∃ n, findV (ds D p.ino) t = n := ⟨_, rfl⟩
      rw [hn] at he hsame
      by_cases h3 : n = 0 ∨ ¬ (nd l n).kind = 3 ∨ (r = [] ∧ f = false)
      · have h3m : n = 0 ∨ ¬ (nd m n).kind = 3 ∨ (r = [] ∧ f = false) := by
          rcases h3 with e | e | e
          · exact .inl e
          · by_cases h0 : n = 0
            · exact .inl h0
            · exact .inr (.inl (by rw [(hsame h0).1]; exact e))
          · exact .inr (.inr e)
        have ho : runTo l D f gone (t :: r) p = runTo l D f (gone ++ [t]) r ⟨p.ino, t, n⟩ := by
          conv => lhs; unfold runTo
          rw [if_neg h1, if_neg (fun e => e h2), hn, if_pos h3]
        have hm : runTo m E f gone (t :: r) p = runTo m E f (gone ++ [t]) r ⟨p.ino, t, n⟩ := by
          conv => lhs; unfold runTo
          rw [if_neg h1, if_neg (fun e => e h2m), he, if_pos h3m]
        rw [ho, hm]
        exact Less.run h r (gone ++ [t]) ⟨p.ino, t, n⟩ hsame
      · have h0 : ¬ n = 0 := fun e => h3 (.inl e)
        have h3m : ¬ (n = 0 ∨ ¬ (nd m n).kind = 3 ∨ (r = [] ∧ f = false)) := by rw [(hsame h0).1]; exact h3
        have ho : runTo l D f gone (t :: r) p = .link gone n r := by
          unfold runTo
          rw [if_neg h1, if_neg (fun e => e h2), hn, if_neg h3]
        have hm : runTo m E f gone (t :: r) p = .link gone n r := by
          unfold runTo
          rw [if_neg h1, if_neg (fun e => e h2m), he, if_neg h3m]
        rw [ho, hm]
        refine ⟨fun q _ _ hq => by (cases hq), fun g k v hq => ?_⟩
        cases hq
        exact ⟨rfl, hsame h0⟩
theorem Less.goK (h : Less l m D E d s x) : ∀ (k : Nat) (parts : List ByteArray) (q : Pl), ¬ q.ino = 0 → ¬ q = ⟨d, s, x⟩ → goK l D f k parts = .ok q → goK m E f k parts = .ok q := by
  intro k
  induction k with
  | zero =>
    intro parts q q0 q1 hg
    unfold Pln.goK at hg ⊢
    obtain ⟨h1, h2⟩ := Less.run (f := f) h parts [] rootPl (fun _ => h.root)
    cases hr : runTo l D f [] parts rootPl with
    | fail e => rw [hr] at hg; cases hg
    | at_ p => rw [hr] at hg; cases hg; rw [h1 _ q0 q1 hr]
    | link g n r => rw [hr] at hg; cases hg
  | succ k ih =>
    intro parts q q0 q1 hg
    unfold Pln.goK at hg ⊢
    obtain ⟨h1, h2⟩ := Less.run (f := f) h parts [] rootPl (fun _ => h.root)
    cases hr : runTo l D f [] parts rootPl with
    | fail e => rw [hr] at hg; cases hg
    | at_ p => rw [hr] at hg; cases hg; rw [h1 _ q0 q1 hr]
    | link g n r =>
      obtain ⟨e1, e2⟩ := h2 g n r hr
      rw [hr] at hg
      rw [e1]
      simp only at hg ⊢
      rw [e2.2 (run_kind _ _ _ hr)]
      cases hu : underD g (nd l n).data with
      | none => rw [hu] at hg; cases hg
      | some u =>
        rw [hu] at hg
        simp only at hg ⊢
        by_cases h4 : 40 < u.length + r.length
        · rw [if_pos h4] at hg; cases hg
        · rw [if_neg h4] at hg ⊢
          exact ih _ q q0 q1 hg
theorem Less.goD (h : Less l m D E d s x) {path : ByteArray} {q : Pl} (q0 : ¬ q.ino = 0) (q1 : ¬ q = ⟨d, s, x⟩) (hg : goD l D path f = .ok q) : goD m E path f = .ok q := by
  unfold Pln.goD at hg ⊢
  cases hs : splitD path with
  | none => rw [hs] at hg; cases hg
  | some p => rw [hs] at hg; exact Less.goK h 8 p q q0 q1 hg
end
end Go.Proofs.YtkipkcmcolomcaaGreat.Pln
/- Bytes written, cut and read: what the laws ask. They speak of no program. -/
namespace Go.Proofs.YtkipkcmcolomcaaGreat.Pln
open Dir (N)
set_option linter.unusedVariables false
set_option linter.unusedSimpArgs false
/-! ### errors are never nought -/
theorem run_err {l : List Nd} {D : List (List N)} {f : Bool} : ∀ (rest gone : List ByteArray) (p : Pl) {e : Int}, runTo l D f gone rest p = .fail e → ¬ e = 0
  | [], _, p, e, h => by simp [runTo] at h
  | s :: t, gone, p, e, h => by
    unfold runTo at h
    by_cases h1 : p.ino = 0
    · rw [if_pos h1] at h; cases h; decide
    · rw [if_neg h1] at h
      by_cases h2 : (nd l p.ino).kind = 2
      · rw [if_neg (fun hh => hh h2)] at h
        split at h
        · exact run_err t _ _ h
        · cases h
      · rw [if_pos h2] at h; cases h; decide
theorem goK_err {l : List Nd} {D : List (List N)} {f : Bool} : ∀ (k : Nat) (parts : List ByteArray) {e : Int}, goK l D f k parts = .error e → ¬ e = 0 := by
  intro k
  induction k with
  | zero =>
    intro parts e h
    unfold goK at h
    cases hr : runTo l D f [] parts rootPl with
    | fail e2 => rw [hr] at h; cases h; exact run_err _ _ _ hr
    | at_ p => rw [hr] at h; cases h
    | link g n r => rw [hr] at h; cases h; decide
  | succ k ih =>
    intro parts e h
    unfold goK at h
    cases hr : runTo l D f [] parts rootPl with
    | fail e2 => rw [hr] at h; cases h; exact run_err _ _ _ hr
    | at_ p => rw [hr] at h; cases h
    | link g n r =>
      rw [hr] at h
      simp only at h
      cases hu : underD g (nd l n).data with
      | none => rw [hu] at h; cases h; decide
      | some u =>
        rw [hu] at h
        simp only at h
        by_cases h4 : 40 < u.length + r.length
        · rw [if_pos h4] at h; cases h; decide
        · rw [if_neg h4] at h; exact ih _ h
theorem goD_err {l : List Nd} {D : List (List N)} {f : Bool} {path : ByteArray} {e : Int} (h : goD l D path f = .error e) : ¬ e = 0 := by
  unfold goD at h
  cases hs : Pth.splitD path with
  | none => rw [hs] at h; cases h; decide
  | some p => rw [hs] at h; exact goK_err _ _ h
theorem found_err {l : List Nd} {D : List (List N)} {f : Bool} {path : ByteArray} {e : Int} (h : foundD l D path f = .error e) : ¬ e = 0 := by
  unfold foundD at h
  cases hg : goD l D path f with
  | error e2 => rw [hg] at h; cases h; exact goD_err hg
  | ok p =>
    rw [hg] at h
    simp only at h
    by_cases h0 : p.ino = 0
    · rw [if_pos h0] at h; cases h; decide
    · rw [if_neg h0] at h; cases h
theorem file_err {l : List Nd} {D : List (List N)} {path : ByteArray} {e : Int} (h : fileD l D path = .error e) : ¬ e = 0 := by
  unfold fileD at h
  cases hg : foundD l D path true with
  | error e2 => rw [hg] at h; cases h; exact found_err hg
  | ok p =>
    rw [hg] at h
    simp only at h
    by_cases h0 : (nd l p.ino).kind = 2
    · rw [if_pos h0] at h; cases h; decide
    · rw [if_neg h0] at h; cases h
section
variable {J : Nat → Nat → Bool} {S : List N → List N} {l : List Nd} {D : List (List N)} {c : Cl} {now : Nat}
theorem do_late (h : 281474976710656 ≤ now) : doD J S l D c now = asIs l D 2 := by unfold doD; rw [if_pos h]
theorem do_make (h : now < 281474976710656) (ho : c.op = 1 ∨ c.op = 2 ∨ c.op = 10) : doD J S l D c now = makesD l D c now := by unfold doD; rw [if_neg (by omega), if_pos ho]
theorem do_write (h : now < 281474976710656) (ho : c.op = 3) : doD J S l D c now = writesD l D c now := by unfold doD; rw [if_neg (by omega), if_neg (by omega), if_pos ho]
theorem do_trunc (h : now < 281474976710656) (ho : c.op = 5) : doD J S l D c now = truncD l D c now := by unfold doD; rw [if_neg (by omega), if_neg (by omega), if_neg (by omega), if_pos ho]
theorem do_read (h : now < 281474976710656) (ho : c.op = 4) : doD J S l D c now = ⟨l, D, readD l D c⟩ := by unfold doD; rw [if_neg (by omega), if_neg (by omega), if_neg (by omega), if_neg (by omega), if_pos ho]
theorem do_drop (h : now < 281474976710656) (ho : c.op = 6 ∨ c.op = 7) : doD J S l D c now = dropsD l D c now := by unfold doD; rw [if_neg (by omega), if_neg (by omega), if_neg (by omega), if_neg (by omega), if_neg (by omega), if_pos ho]
theorem do_ren (h : now < 281474976710656) (ho : c.op = 8) : doD J S l D c now = renamesD J l D c now := by unfold doD; rw [if_neg (by omega), if_neg (by omega), if_neg (by omega), if_neg (by omega), if_neg (by omega), if_neg (by omega), if_pos ho]
theorem do_link (h : now < 281474976710656) (ho : c.op = 9) : doD J S l D c now = linksD l D c now := by unfold doD; rw [if_neg (by omega), if_neg (by omega), if_neg (by omega), if_neg (by omega), if_neg (by omega), if_neg (by omega), if_neg (by omega), if_pos ho]
theorem do_tell (h : now < 281474976710656) (ho : c.op = 11 ∨ c.op = 12 ∨ c.op = 13) : doD J S l D c now = ⟨l, D, tellsD S l D c⟩ := by unfold doD; rw [if_neg (by omega), if_neg (by omega), if_neg (by omega), if_neg (by omega), if_neg (by omega), if_neg (by omega), if_neg (by omega), if_neg (by omega), if_pos ho]
/-- what is read of a file -/
def readOf (s : ByteArray) (off n : Nat) : ByteArray := s.extract (min off s.size) (min off s.size + min n (s.size - min off s.size))
theorem read_is {x : Nat} (hf : fileD l D c.path = .ok x) (h0 : 0 ≤ c.off) (h1 : 0 ≤ c.n) : readD l D c = ⟨0, readOf (nd l x).data c.off.toNat c.n.toNat, [], St.zero⟩ := by
  unfold readD
  rw [if_neg (by omega), hf]
  rfl
theorem readOf_all {s : ByteArray} {n : Nat} (h : s.size ≤ n) : readOf s 0 n = s := by
  unfold readOf
  apply bext'
  rw [elist, Nat.zero_min, List.drop_zero, Nat.sub_zero, Nat.zero_add, Nat.sub_zero, List.take_of_length_le (by rw [slist]; omega)]
theorem readOf_in {s : ByteArray} {off n : Nat} (h : off + n ≤ s.size) : readOf s off n = s.extract off (off + n) := by
  unfold readOf
  rw [show min off s.size = off by omega, show min n (s.size - off) = n by omega]
theorem readOf_end {s : ByteArray} {off n : Nat} (h : off ≤ s.size) (hn : s.size ≤ n) : readOf s off n = s.extract off s.size := by
  unfold readOf
  rw [show min off s.size = off by omega, show off + min n (s.size - off) = s.size by omega]
theorem file_data (h : RightD l D) {path : ByteArray} {x : Nat} (hf : fileD l D path = .ok x) : (nd l x).data.size ≤ 200000 ∧ x < l.length := by
  obtain ⟨hx, hk⟩ := file_is h hf
  obtain ⟨x1, x2⟩ := h.big hx
  refine ⟨?_, x2⟩
  rcases (fit_set (h.one x x2) hx).2.2.2.2 with o | o | o
  · exact o.2
  · rw [hk] at o; exact absurd o.1 (by decide)
  · rw [hk] at o; exact absurd o (by decide)
/-- what a cut that succeeds leaves -/
theorem trunc_is (h : RightD l D) (ho : c.op = 5) (hc : (doD J S l D c now).r.code = 0) : ∃ x, fileD l D c.path = .ok x ∧ 0 ≤ c.n ∧ c.n ≤ 200000 ∧ now < 281474976710656 ∧ doD J S l D c now = ⟨l.set x (dataN (nd l x) ((stood (nd l x).data c.n.toNat ⟨#[]⟩).extract 0 c.n.toNat) now), D, rpE 0⟩ := by
  by_cases ht : now < 281474976710656
  case neg => rw [do_late (by omega)] at hc; exact absurd (show (2 : Int) = 0 from hc) (by decide)
  rw [do_trunc ht ho] at hc ⊢
  unfold truncD at hc ⊢
  by_cases h0 : c.n < 0
  · rw [if_pos h0] at hc; exact absurd (show (2 : Int) = 0 from hc) (by decide)
  rw [if_neg h0] at hc ⊢
  cases hf : fileD l D c.path with
  | error e =>
    rw [hf] at hc
    have : e = 0 := hc
    exfalso
    subst this
    exact file_err hf rfl
  | ok x =>
    rw [hf] at hc
    simp only at hc ⊢
    by_cases h1 : 200000 < c.n
    · rw [if_pos h1] at hc; exact absurd (show (144 : Int) = 0 from hc) (by decide)
    rw [if_neg h1]
    exact ⟨x, rfl, by omega, by omega, ht, rfl⟩
theorem cut_size (s : ByteArray) (n : Nat) : ((stood s n ⟨#[]⟩).extract 0 n).size = n := by
  rw [ext_size', stood_size]
  show min n (max (n + 0) s.size) - 0 = n
  omega
theorem cut_list (s : ByteArray) (n : Nat) : ((stood s n ⟨#[]⟩).extract 0 n).data.toList = (s.data.toList ++ List.replicate (n - s.size) 0).take n := by
  rw [stood_ahead, elist, alist, zlist, List.drop_zero, Nat.sub_zero]
/-- what stands ahead of where it was cut stays -/
theorem cut_ahead (s : ByteArray) (n : Nat) : ((stood s n ⟨#[]⟩).extract 0 n).extract 0 (min s.size n) = s.extract 0 (min s.size n) := by
  apply bext'
  rw [elist ((stood s n ⟨#[]⟩).extract 0 n), cut_list, elist s, List.drop_zero, List.drop_zero, Nat.sub_zero, List.take_take, show min (min s.size n) n = min s.size n by omega, List.take_append_of_le_length (by rw [slist]; omega)]
/-- and behind are noughts -/
theorem cut_behind (s : ByteArray) (n : Nat) : ((stood s n ⟨#[]⟩).extract 0 n).extract (min s.size n) n = zeros (n - min s.size n) := by
  apply bext'
  rw [elist ((stood s n ⟨#[]⟩).extract 0 n), cut_list, zlist, List.take_append]
  have h1 : (s.data.toList.take n).length = min s.size n := by rw [List.length_take, slist]; omega
  rw [List.drop_append_of_le_length (by omega), List.drop_of_length_le (by omega), List.nil_append, slist, List.take_replicate, List.take_replicate]
  congr 1
  omega
/-- a file cut, and read -/
theorem trunc_read (h : RightD l D) (ho : c.op = 5) (hc : (doD J S l D c now).r.code = 0) {x : Nat} (hf : fileD l D c.path = .ok x) :
    fileD (doD J S l D c now).l D c.path = .ok x ∧ (nd (doD J S l D c now).l x).data = (stood (nd l x).data c.n.toNat ⟨#[]⟩).extract 0 c.n.toNat ∧ (doD J S l D c now).D = D := by
  obtain ⟨y, hy, _, _, _, e⟩ := trunc_is h ho hc
  rw [hf] at hy
  cases hy
  obtain ⟨h1, h2⟩ := file_is h hf
  obtain ⟨h3, h4⟩ := file_data h hf
  rw [e]
  refine ⟨?_, ?_, rfl⟩
  · show fileD (l.set x _) D c.path = _
    rw [file_alike (data_alike h4 h2 _ _), hf]
  · show (nd (l.set x _) x).data = _
    rw [nd_set h4, if_pos rfl]
    rfl
/-- what a write that succeeds leaves -/
theorem write_is (h : RightD l D) (ho : c.op = 3) (hd : ¬ c.data = ⟨#[]⟩) (hc : (doD J S l D c now).r.code = 0) : ∃ x, fileD l D c.path = .ok x ∧ 0 ≤ c.off ∧ c.off + c.data.size ≤ 200000 ∧ now < 281474976710656 ∧ doD J S l D c now = ⟨l.set x (dataN (nd l x) (stood (nd l x).data c.off.toNat c.data) now), D, rpE 0⟩ := by
  by_cases ht : now < 281474976710656
  case neg => rw [do_late (by omega)] at hc; exact absurd (show (2 : Int) = 0 from hc) (by decide)
  rw [do_write ht ho] at hc ⊢
  unfold writesD at hc ⊢
  by_cases h0 : c.off < 0
  · rw [if_pos h0] at hc; exact absurd (show (2 : Int) = 0 from hc) (by decide)
  rw [if_neg h0] at hc ⊢
  cases hf : fileD l D c.path with
  | error e =>
    rw [hf] at hc
    exact absurd hc (file_err hf)
  | ok x =>
    rw [hf] at hc
    simp only at hc ⊢
    by_cases h1 : 200000 < c.off + c.data.size
    · rw [if_pos h1] at hc; exact absurd (show (144 : Int) = 0 from hc) (by decide)
    rw [if_neg h1, if_neg hd]
    exact ⟨x, rfl, by omega, by omega, ht, rfl⟩
theorem write_read (h : RightD l D) (ho : c.op = 3) (hd : ¬ c.data = ⟨#[]⟩) (hc : (doD J S l D c now).r.code = 0) {x : Nat} (hf : fileD l D c.path = .ok x) :
    fileD (doD J S l D c now).l D c.path = .ok x ∧ (nd (doD J S l D c now).l x).data = stood (nd l x).data c.off.toNat c.data ∧ (doD J S l D c now).D = D ∧ (doD J S l D c now).l.length = l.length ∧ ∀ j, ¬ j = x → nd (doD J S l D c now).l j = nd l j := by
  obtain ⟨y, hy, _, _, _, e⟩ := write_is h ho hd hc
  rw [hf] at hy
  cases hy
  obtain ⟨h1, h2⟩ := file_is h hf
  obtain ⟨h3, h4⟩ := file_data h hf
  rw [e]
  refine ⟨?_, ?_, rfl, List.length_set .., fun j hj => ?_⟩
  · show fileD (l.set x _) D c.path = _
    rw [file_alike (data_alike h4 h2 _ _), hf]
  · show (nd (l.set x _) x).data = _
    rw [nd_set h4, if_pos rfl]
    rfl
  · show nd (l.set x _) j = _
    rw [nd_set h4, if_neg hj]
theorem ahead_zeros (s : ByteArray) (off n : Nat) (h : off ≤ n) : (s ++ zeros (off - s.size)).extract 0 off = (s ++ zeros n).extract 0 off := by
  apply bext'
  rw [elist, elist, alist, alist, zlist, zlist, List.drop_zero, List.drop_zero, Nat.sub_zero, List.take_append, List.take_append, slist, List.take_replicate, List.take_replicate]
  congr 2
  omega
/-- what a law asks of what was written -/
theorem write_parts (s d : ByteArray) (off : Nat) (hs : s.size ≤ 200000) (h : off + d.size ≤ 200000) :
    readOf (stood s off d) off d.size = d ∧ readOf (stood s off d) 0 off = (s ++ zeros 200000).extract 0 off ∧ readOf (stood s off d) (off + d.size) 200000 = s.extract (min s.size (off + d.size)) s.size := by
  have hz := stood_size s off d
  refine ⟨?_, ?_, ?_⟩
  · rw [readOf_in (by omega), stood_at]
  · rw [readOf_in (by omega), Nat.zero_add, stood_ahead, ahead_zeros s off 200000 (by omega)]
  · rw [readOf_end (by omega) (by omega), stood_behind]
    apply bext'
    rw [elist, elist]
    by_cases hh : off + d.size ≤ s.size
    · rw [show min s.size (off + d.size) = off + d.size by omega]
    · rw [show min s.size (off + d.size) = s.size by omega, List.drop_of_length_le (by rw [slist]; omega), List.drop_of_length_le (by rw [slist]; omega)]
      simp
end
end Go.Proofs.YtkipkcmcolomcaaGreat.Pln
