/- Several texts in one, each under its own heading. -/
import Derived.Test.YtdniakoedgohkaaPk04
import Derived.StillTailTactics
import Derived.Deep.RegionWith
import Derived.Deep.RegionHeld3
import Derived.BigQuiet
import Derived.Handy
import Derived.Test.YtdniakoedgohkaaPk01
import Derived.Lib.BufferWrite
import Derived.Lib.UnsafeStr
import Derived.Lib.BufferRead
import Derived.Deep.OwnRows
import Derived.Deep.DeepFit
import Derived.WalkSpells
import Derived.Shelf.Abstract
import Derived.Shelf.RegionOpen
/- Plain facts: records and their bytes, contents and their blocks. They speak of no program. -/
namespace Go.Proofs.Ytdniakoedgohkaa.Record
set_option linter.unusedVariables false

theorem beq_yes {A B : ByteArray} (h : A = B) : (A.toList == B.toList) = true := by rw [h]; simp
theorem beq_no {A B : ByteArray} (h : ¬ A = B) : (A.toList == B.toList) = false := by
  rw [beq_eq_false_iff_ne]
  exact fun he => h (ByteArray.ext (Array.toList_inj.1 (by rw [← Lib.toList_data, ← Lib.toList_data]; exact he)))
/-- an entry -/
structure E where
  kind : Int
  file : Nat
  index : Nat
  vbn : Nat
theorem E.ext' {a b : E} (h1 : a.kind = b.kind) (h2 : a.file = b.file) (h3 : a.index = b.index) (h4 : a.vbn = b.vbn) : a = b := by
  cases a; cases b; simp_all
instance : DecidableEq E := fun a b => if h : a.kind = b.kind ∧ a.file = b.file ∧ a.index = b.index ∧ a.vbn = b.vbn then isTrue (E.ext' h.1 h.2.1 h.2.2.1 h.2.2.2) else isFalse fun e => h (by rw [e]; exact ⟨rfl, rfl, rfl, rfl⟩)
def E.zero : E := ⟨0, 0, 0, 0⟩
/-- its numbers are such of their types -/
structure EOk (e : E) : Prop where
  kind : -9223372036854775808 ≤ e.kind ∧ e.kind ≤ 9223372036854775807
  file : e.file < 4294967296
  index : e.index < 4294967296
  vbn : e.vbn < 4294967296
def entryP (e : E) : Prop := (e.kind = 1 ∨ e.kind = 2) ∧ 1 ≤ e.file ∧ 1 ≤ e.vbn ∨ (e.kind = 3 ∨ e.kind = 4 ∨ e.kind = 5) ∧ e.file = 0 ∧ e.vbn = 0
instance (e : E) : Decidable (entryP e) := by unfold entryP; infer_instance
theorem entryP.kind {e : E} (h : entryP e) : 1 ≤ e.kind ∧ e.kind ≤ 5 := by
  unfold entryP at h
  omega
/-- a record -/
structure R where
  seq : Nat
  cp : Nat
  ends : Bool
  sync : Bool
  next : Int
  l : List E
theorem R.ext' {a b : R} (h1 : a.seq = b.seq) (h2 : a.cp = b.cp) (h3 : a.ends = b.ends) (h4 : a.sync = b.sync) (h5 : a.next = b.next) (h6 : a.l = b.l) : a = b := by
  cases a; cases b; simp_all
instance : DecidableEq R := fun a b => if h : a.seq = b.seq ∧ a.cp = b.cp ∧ a.ends = b.ends ∧ a.sync = b.sync ∧ a.next = b.next ∧ a.l = b.l then isTrue (R.ext' h.1 h.2.1 h.2.2.1 h.2.2.2.1 h.2.2.2.2.1 h.2.2.2.2.2) else isFalse fun e => h (by rw [e]; exact ⟨rfl, rfl, rfl, rfl, rfl, rfl⟩)
def R.none : R := ⟨0, 0, false, false, 0, []⟩
/-- the i-th entry -/
def ent (L : List E) (i : Nat) : E := L.getD i E.zero
theorem ent_get {L : List E} {i : Nat} (h : i < L.length) : L[i]? = some (ent L i) := by
  unfold ent
  rw [List.getD_eq_getElem?_getD, List.getElem?_eq_getElem h]
  rfl
theorem ent_mem {L : List E} {i : Nat} (h : i < L.length) : ent L i ∈ L := List.mem_of_getElem? (ent_get h)
theorem mem_ent {L : List E} {s : E} (h : s ∈ L) : ∃ i, i < L.length ∧ ent L i = s := by
  obtain ⟨i, hi⟩ := List.getElem?_of_mem h
  have hl := (List.getElem?_eq_some_iff.1 hi).1
  rw [ent_get hl] at hi
  exact ⟨i, hl, by simpa using hi⟩
theorem ent_ext {L M : List E} (hl : L.length = M.length) (h : ∀ i, i < L.length → ent L i = ent M i) : L = M := by
  apply List.ext_getElem?
  intro i
  rcases Nat.lt_or_ge i L.length with hi | hi
  · rw [ent_get hi, ent_get (hl ▸ hi), h i hi]
  · rw [List.getElem?_eq_none hi, List.getElem?_eq_none (hl ▸ hi)]

/-- an entry of a record that ends a checkpoint, or of another one -/
def oneP (ends : Bool) (e : E) : Prop := entryP e ∧ ¬ (e.kind = 5 ∧ ends = false)
instance (ends : Bool) (e : E) : Decidable (oneP ends e) := by unfold oneP; infer_instance
def entriesP (L : List E) (ends : Bool) : Prop := 1 ≤ L.length ∧ L.length ≤ 15 ∧ (∀ e ∈ L, oneP ends e) ∧ (ends = false ∨ (ent L (L.length - 1)).kind = 5)
instance (L : List E) (ends : Bool) : Decidable (entriesP L ends) := by unfold entriesP; infer_instance
def RightP (r : R) : Prop := (1 ≤ r.seq ∧ r.seq < 281474976710656) ∧ (1 ≤ r.cp ∧ r.cp < 281474976710656) ∧ 0 ≤ r.next ∧ r.next ≤ 255 ∧ ¬ (r.ends = true ∧ r.sync = true) ∧ entriesP r.l r.ends
instance (r : R) : Decidable (RightP r) := by unfold RightP; infer_instance
def AllOk (L : List E) : Prop := ∀ e ∈ L, EOk e

/-! ### its bytes -/
def flagN (r : R) : Nat := if r.ends then 1 else if r.sync then 2 else 0
def mk : ByteArray := ⟨#[82]⟩
def head (r : R) : ByteArray := mk ++ numB r.seq 6 ++ numB r.cp 6 ++ numB (flagN r) 1 ++ numB r.next.toNat 2 ++ numB r.l.length 1
theorem head_size (r : R) : (head r).size = 17 := by
  simp only [head, ByteArray.size_append, numB_size]
  rfl
def entB (e : E) : ByteArray := numB e.kind.toNat 1 ++ numB e.file 4 ++ numB e.index 4 ++ numB e.vbn 4
theorem entB_size (e : E) : (entB e).size = 13 := by
  simp only [entB, ByteArray.size_append, numB_size]
/-- with the first k entries -/
def saidK (r : R) : Nat → ByteArray
  | 0 => head r
  | k + 1 => saidK r k ++ entB (ent r.l k)
theorem saidK_size (r : R) : ∀ k, (saidK r k).size = 17 + 13 * k
  | 0 => head_size r
  | k + 1 => by rw [saidK, ByteArray.size_append, saidK_size r k, entB_size]; omega
theorem saidK_from (r : R) (j : Nat) : ∀ d, ∃ t, saidK r (j + d) = saidK r j ++ t
  | 0 => ⟨⟨#[]⟩, by rw [app_none]; rfl⟩
  | d + 1 => by
    obtain ⟨t, ht⟩ := saidK_from r j d
    exact ⟨t ++ entB (ent r.l (j + d)), by rw [← Nat.add_assoc, saidK, ht, app_assoc]⟩
def said (r : R) : ByteArray := saidK r r.l.length
theorem said_size (r : R) : (said r).size = 17 + 13 * r.l.length := saidK_size r _
def encB (r : R) : ByteArray := said r ++ zeros (512 - (17 + 13 * r.l.length))
def encS (r : R) : ByteArray := if RightP r then encB r else ⟨#[]⟩
def encE (r : R) : Int := if RightP r then 0 else 70
theorem encS_yes {r : R} (h : RightP r) : encS r = encB r := if_pos h
theorem encS_no {r : R} (h : ¬ RightP r) : encS r = ⟨#[]⟩ := if_neg h
theorem encE_yes {r : R} (h : RightP r) : encE r = 0 := if_pos h
theorem encE_no {r : R} (h : ¬ RightP r) : encE r = 70 := if_neg h
theorem RightP.len {r : R} (h : RightP r) : 1 ≤ r.l.length ∧ r.l.length ≤ 15 := ⟨h.2.2.2.2.2.1, h.2.2.2.2.2.2.1⟩
theorem encB_size {r : R} (h : RightP r) : (encB r).size = 512 := by
  have := h.len
  rw [encB, ByteArray.size_append, said_size, zeros_size]
  omega

/-! ### what is read -/
def entAt (b : ByteArray) (i : Nat) : E := ⟨takeN b (17 + i * 13) 1, takeN b (17 + i * 13 + 1) 4, takeN b (17 + i * 13 + 5) 4, takeN b (17 + i * 13 + 9) 4⟩
theorem entAt_ok (b : ByteArray) (i : Nat) : EOk (entAt b i) := by
  have e1 : (256 : Nat) ^ 1 = 256 := by decide
  have e4 : (256 : Nat) ^ 4 = 4294967296 := by decide
  have h0 := takeN_lt b (17 + i * 13) 1
  have h1 := takeN_lt b (17 + i * 13 + 1) 4
  have h2 := takeN_lt b (17 + i * 13 + 5) 4
  have h3 := takeN_lt b (17 + i * 13 + 9) 4
  rw [e1] at h0
  rw [e4] at h1 h2 h3
  exact ⟨⟨by unfold entAt; dsimp only; omega, by unfold entAt; dsimp only; omega⟩, h1, h2, h3⟩
def entsAt (b : ByteArray) (n : Nat) : List E := (List.range (min n 15)).map (entAt b)
theorem entsAt_length (b : ByteArray) (n : Nat) : (entsAt b n).length = min n 15 := by simp [entsAt]
theorem entsAt_ent (b : ByteArray) (n i : Nat) (h : i < min n 15) : ent (entsAt b n) i = entAt b i := by
  have h1 : i < (entsAt b n).length := by rw [entsAt_length]; exact h
  have h2 := ent_get h1
  have h3 : (entsAt b n)[i]? = some (entAt b i) := by simp [entsAt, h]
  rw [h2] at h3
  simpa using h3
theorem entsAt_ok (b : ByteArray) (n : Nat) : AllOk (entsAt b n) := fun e he => by
  unfold entsAt at he
  rw [List.mem_map] at he
  obtain ⟨i, _, rfl⟩ := he
  exact entAt_ok b i
def decR (b : ByteArray) : R := ⟨takeN b 1 6, takeN b 7 6, decide (takeN b 13 1 = 1), decide (takeN b 13 1 = 2), takeN b 14 2, entsAt b (takeN b 16 1)⟩
theorem decR_ok (b : ByteArray) : AllOk (decR b).l := entsAt_ok b _
def decOk (b : ByteArray) : Prop := b.size = 512 ∧ RightP (decR b) ∧ (encB (decR b)).extract 0 256 = b.extract 0 256
instance (b : ByteArray) : Decidable (decOk b) := by unfold decOk; infer_instance
def decV (b : ByteArray) : R := if decOk b then decR b else R.none
def decE (b : ByteArray) : Int := if decOk b then 0 else 70
theorem decV_yes {b : ByteArray} (h : decOk b) : decV b = decR b := if_pos h
theorem decV_no {b : ByteArray} (h : ¬ decOk b) : decV b = R.none := if_neg h
theorem decE_yes {b : ByteArray} (h : decOk b) : decE b = 0 := if_pos h
theorem decE_no {b : ByteArray} (h : ¬ decOk b) : decE b = 70 := if_neg h

theorem takeN_mid (a b : ByteArray) (n k : Nat) (h : n < 256 ^ k) : takeN (a ++ numB n k ++ b) a.size k = n := by
  rw [takeN_congr (a ++ numB n k ++ b) (a ++ numB n k) a.size a.size k (fun i hi => sb_left _ _ _ (by rw [ByteArray.size_append, numB_size]; omega)), takeN_back a n k h]
theorem sb_extract (b : ByteArray) (n i : Nat) (h : i < n) : sb (b.extract 0 n) i = sb b i := by
  unfold sb
  rw [Lib.extract_data, List.drop_zero, List.getElem?_take]
  simp [h]
theorem takeN_head {b c : ByteArray} (h : b.extract 0 256 = c.extract 0 256) (a k : Nat) (hk : a + k ≤ 256) : takeN b a k = takeN c a k :=
  takeN_congr b c a a k fun i hi => by rw [← sb_extract b 256 (a + i) (by omega), h, sb_extract c 256 (a + i) (by omega)]
theorem decR_head {b c : ByteArray} (h : b.extract 0 256 = c.extract 0 256) : decR b = decR c := by
  have he : ∀ i, i < 15 → entAt b i = entAt c i := fun i hi => by
    unfold entAt
    rw [takeN_head h _ 1 (by omega), takeN_head h _ 4 (by omega), takeN_head h _ 4 (by omega), takeN_head h _ 4 (by omega)]
  unfold decR
  rw [takeN_head h 1 6 (by omega), takeN_head h 7 6 (by omega), takeN_head h 13 1 (by omega), takeN_head h 14 2 (by omega), takeN_head h 16 1 (by omega)]
  refine R.ext' rfl rfl rfl rfl rfl ?_
  show entsAt b _ = entsAt c _
  unfold entsAt
  refine List.map_congr_left fun i hi => he i ?_
  rw [List.mem_range] at hi
  omega
theorem ent_read (r : R) (t : ByteArray) (i : Nat) (hi : i < r.l.length) (ho : EOk (ent r.l i)) (hk : entryP (ent r.l i)) : entAt (said r ++ t) i = ent r.l i := by
  obtain ⟨d, hd⟩ : ∃ d, r.l.length = i + 1 + d := ⟨r.l.length - (i + 1), by omega⟩
  obtain ⟨u, hu⟩ := saidK_from r (i + 1) d
  have hs : said r ++ t = saidK r i ++ entB (ent r.l i) ++ (u ++ t) := by
    rw [said, hd, hu, saidK, app_assoc]
  have hz := saidK_size r i
  have hz2 : 17 + i * 13 = (saidK r i).size := by rw [hz]; omega
  obtain ⟨p, hp⟩ : ∃ p, saidK r i = p := ⟨_, rfl⟩
  rw [hp] at hs hz2
  rw [hs]
  unfold entAt
  rw [hz2]
  obtain ⟨e, he⟩ : ∃ e, ent r.l i = e := ⟨_, rfl⟩
  rw [he] at ho hk ⊢
  have hkk := hk.kind
  obtain ⟨_, h1, h2, h3⟩ := ho
  have e1 : (256 : Nat) ^ 1 = 256 := by decide
  have e4 : (256 : Nat) ^ 4 = 4294967296 := by decide
  unfold entB
  have t0 := takeN_mid p (numB e.file 4 ++ numB e.index 4 ++ numB e.vbn 4 ++ (u ++ t)) e.kind.toNat 1 (by omega)
  have t1 := takeN_mid (p ++ numB e.kind.toNat 1) (numB e.index 4 ++ numB e.vbn 4 ++ (u ++ t)) e.file 4 (by omega)
  have t2 := takeN_mid (p ++ numB e.kind.toNat 1 ++ numB e.file 4) (numB e.vbn 4 ++ (u ++ t)) e.index 4 (by omega)
  have t3 := takeN_mid (p ++ numB e.kind.toNat 1 ++ numB e.file 4 ++ numB e.index 4) (u ++ t) e.vbn 4 (by omega)
  simp only [ByteArray.size_append, numB_size, app_assoc, Nat.add_assoc, Nat.reduceAdd] at t0 t1 t2 t3 ⊢
  refine E.ext' ?_ ?_ ?_ ?_
  · show ((takeN _ _ _ : Nat) : Int) = _
    rw [t0]; omega
  · exact t1
  · exact t2
  · exact t3
theorem flag_lt (r : R) : flagN r < 3 := by unfold flagN; split <;> (try split) <;> omega
theorem flag_ends {r : R} (h : ¬ (r.ends = true ∧ r.sync = true)) : decide (flagN r = 1) = r.ends ∧ decide (flagN r = 2) = r.sync := by
  unfold flagN
  cases he : r.ends <;> cases hs : r.sync <;> simp [he, hs] at h ⊢
theorem dec_said (r : R) (t : ByteArray) (h : RightP r) (ho : AllOk r.l) : decR (said r ++ t) = r := by
  have hl := h.len
  obtain ⟨⟨s1, s2⟩, ⟨c1, c2⟩, n1, n2, hf, hE⟩ := h
  obtain ⟨u, hu⟩ := saidK_from r 0 r.l.length
  rw [Nat.zero_add] at hu
  have hs : said r ++ t = head r ++ (u ++ t) := by rw [said, hu, saidK, app_assoc]
  have e1 : (256 : Nat) ^ 1 = 256 := by decide
  have e2 : (256 : Nat) ^ 2 = 65536 := by decide
  have e6 : (256 : Nat) ^ 6 = 281474976710656 := by decide
  have hfl := flag_lt r
  have h1 := takeN_mid mk (numB r.cp 6 ++ numB (flagN r) 1 ++ numB r.next.toNat 2 ++ numB r.l.length 1 ++ (u ++ t)) r.seq 6 (by omega)
  have h2 := takeN_mid (mk ++ numB r.seq 6) (numB (flagN r) 1 ++ numB r.next.toNat 2 ++ numB r.l.length 1 ++ (u ++ t)) r.cp 6 (by omega)
  have h3 := takeN_mid (mk ++ numB r.seq 6 ++ numB r.cp 6) (numB r.next.toNat 2 ++ numB r.l.length 1 ++ (u ++ t)) (flagN r) 1 (by omega)
  have h4 := takeN_mid (mk ++ numB r.seq 6 ++ numB r.cp 6 ++ numB (flagN r) 1) (numB r.l.length 1 ++ (u ++ t)) r.next.toNat 2 (by omega)
  have h5 := takeN_mid (mk ++ numB r.seq 6 ++ numB r.cp 6 ++ numB (flagN r) 1 ++ numB r.next.toNat 2) (u ++ t) r.l.length 1 (by omega)
  have hx : head r ++ (u ++ t) = mk ++ numB r.seq 6 ++ numB r.cp 6 ++ numB (flagN r) 1 ++ numB r.next.toNat 2 ++ numB r.l.length 1 ++ (u ++ t) := rfl
  rw [← hs] at hx
  simp only [ByteArray.size_append, numB_size, app_assoc, show mk.size = 1 from rfl, Nat.reduceAdd] at h1 h2 h3 h4 h5
  simp only [app_assoc] at hx
  rw [← hx] at h1 h2 h3 h4 h5
  obtain ⟨f1, f2⟩ := flag_ends hf
  refine R.ext' ?_ ?_ ?_ ?_ ?_ ?_
  · exact h1
  · exact h2
  · show decide (takeN _ 13 1 = 1) = _
    rw [h3, f1]
  · show decide (takeN _ 13 1 = 2) = _
    rw [h3, f2]
  · show ((takeN _ 14 2 : Nat) : Int) = _
    rw [h4]; omega
  · show entsAt _ (takeN _ 16 1) = _
    rw [h5]
    have hmin : min r.l.length 15 = r.l.length := by omega
    refine ent_ext (by rw [entsAt_length, hmin]) fun i hi => ?_
    rw [entsAt_length] at hi
    rw [entsAt_ent _ _ _ hi]
    have hi2 : i < r.l.length := by omega
    exact ent_read r t i hi2 (ho _ (ent_mem hi2)) (hE.2.2.1 _ (ent_mem hi2)).1
/-- a block whose first sector is a right one's is read as that -/
theorem dec_of {r : R} {b : ByteArray} (h : RightP r) (ho : AllOk r.l) (hb : b.size = 512) (hx : b.extract 0 256 = (encB r).extract 0 256) : decOk b ∧ decR b = r := by
  have e : decR b = r := by rw [decR_head hx, encB, dec_said r _ h ho]
  exact ⟨⟨hb, by rw [e]; exact h, by rw [e, hx]⟩, e⟩
theorem dec_enc {r : R} (h : RightP r) (ho : AllOk r.l) : decOk (encB r) ∧ decR (encB r) = r := dec_of h ho (encB_size h) rfl
theorem enc_inj {a b : R} (ha : RightP a) (hb : RightP b) (oa : AllOk a.l) (ob : AllOk b.l) (h : encB a = encB b) : a = b := by
  rw [← (dec_enc ha oa).2, h, (dec_enc hb ob).2]
/-- what the first byte is -/
theorem encB_first (r : R) : sb (encB r) 0 = 82 := by
  obtain ⟨u, hu⟩ := saidK_from r 0 r.l.length
  rw [Nat.zero_add] at hu
  have : encB r = mk ++ (numB r.seq 6 ++ numB r.cp 6 ++ numB (flagN r) 1 ++ numB r.next.toNat 2 ++ numB r.l.length 1 ++ (u ++ zeros (512 - (17 + 13 * r.l.length)))) := by
    rw [encB, said, hu, saidK, head]
    simp only [app_assoc]
  rw [this, sb_left _ _ _ (by decide)]
  rfl
theorem decOk_first {b : ByteArray} (h : decOk b) : sb b 0 = 82 := by
  rw [← sb_extract b 256 0 (by omega), ← h.2.2, sb_extract _ 256 0 (by omega), encB_first]

/-! ### contents -/
def pm : ByteArray := ⟨#[80, 0, 0, 0]⟩
def wrapB (c : ByteArray) : ByteArray := pm ++ c ++ zeros (508 - c.size)
def wrapS (c : ByteArray) : ByteArray := if c.size ≤ 508 then wrapB c else ⟨#[]⟩
def wrapE (c : ByteArray) : Int := if c.size ≤ 508 then 0 else 70
theorem wrapS_yes {c : ByteArray} (h : c.size ≤ 508) : wrapS c = wrapB c := if_pos h
theorem wrapS_no {c : ByteArray} (h : ¬ c.size ≤ 508) : wrapS c = ⟨#[]⟩ := if_neg h
theorem wrapE_yes {c : ByteArray} (h : c.size ≤ 508) : wrapE c = 0 := if_pos h
theorem wrapE_no {c : ByteArray} (h : ¬ c.size ≤ 508) : wrapE c = 70 := if_neg h
theorem wrapB_size {c : ByteArray} (h : c.size ≤ 508) : (wrapB c).size = 512 := by
  rw [wrapB, ByteArray.size_append, ByteArray.size_append, zeros_size, show pm.size = 4 from rfl]
  omega
theorem wrapS_le (c : ByteArray) : (wrapS c).size ≤ 512 := by
  by_cases h : c.size ≤ 508
  · rw [wrapS_yes h, wrapB_size h]; exact Nat.le_refl _
  · rw [wrapS_no h]; decide
def unwOk (b : ByteArray) : Prop := b.size = 512 ∧ b.extract 0 4 = pm
instance (b : ByteArray) : Decidable (unwOk b) := by unfold unwOk; infer_instance
def unwS (b : ByteArray) : ByteArray := if unwOk b then b.extract 4 b.size else ⟨#[]⟩
def unwE (b : ByteArray) : Int := if unwOk b then 0 else 70
theorem unwS_yes {b : ByteArray} (h : unwOk b) : unwS b = b.extract 4 b.size := if_pos h
theorem unwS_no {b : ByteArray} (h : ¬ unwOk b) : unwS b = ⟨#[]⟩ := if_neg h
theorem unwE_yes {b : ByteArray} (h : unwOk b) : unwE b = 0 := if_pos h
theorem unwE_no {b : ByteArray} (h : ¬ unwOk b) : unwE b = 70 := if_neg h
theorem wrap_head (c : ByteArray) : (wrapB c).extract 0 4 = pm := by
  have := extract_left pm (c ++ zeros (508 - c.size))
  rw [app_assoc] at this
  exact this
theorem unw_wrap {c : ByteArray} (h : c.size ≤ 508) : unwOk (wrapB c) := ⟨wrapB_size h, wrap_head c⟩
theorem unwS_wrap {c : ByteArray} (h : c.size ≤ 508) : unwS (wrapB c) = c ++ zeros (508 - c.size) := by
  rw [unwS_yes (unw_wrap h)]
  have hz := wrapB_size h
  have := extract_app pm (c ++ zeros (508 - c.size))
  rw [app_assoc, ByteArray.size_append, zeros_size, show pm.size = 4 from rfl, show 4 + (c.size + (508 - c.size)) = 512 by omega] at this
  rw [hz]
  exact this
theorem unwS_size {b : ByteArray} (h : unwOk b) : (unwS b).size = 508 := by
  rw [unwS_yes h, ByteArray.size_extract, h.1]
  omega
theorem unwOk_first {b : ByteArray} (h : unwOk b) : sb b 0 = 80 := by
  rw [← sb_extract b 4 0 (by omega), h.2]
  rfl
theorem not_both {b : ByteArray} (h : decOk b) : ¬ unwOk b := fun k => by
  have := decOk_first h
  rw [unwOk_first k] at this
  omega
theorem unw_enc (r : R) : ¬ unwOk (encB r) := fun k => by
  have := encB_first r
  rw [unwOk_first k] at this
  omega
theorem unw_none : ¬ unwOk (⟨#[]⟩ : ByteArray) := fun h => by have := h.1; exact absurd this (by decide)
theorem wrap_inj {c d : ByteArray} (hl : c.size = d.size) (h : wrapB c = wrapB d) : c = d := by
  unfold wrapB at h
  rw [← app_assoc, ← app_assoc] at h
  have := app_right_inj _ _ _ h
  rw [hl] at this
  have e1 := extract_left c (zeros (508 - d.size))
  have e2 := extract_left d (zeros (508 - d.size))
  rw [this, hl] at e1
  rw [← e1, e2]
/-! ### room -/
def roomV (n : Int) : Int := if n < 0 then 0 else 15 - n % 16
theorem roomV_neg {n : Int} (h : n < 0) : roomV n = 0 := if_pos h
theorem roomV_pos {n : Int} (h : ¬ n < 0) : roomV n = 15 - n % 16 := if_neg h
end Go.Proofs.Ytdniakoedgohkaa.Record
/- Entries and records in memory: one, and a slice of entries; which entries may be. -/
namespace Go.Proofs.Ytdniakoedgohkaa.Record
open Go.RowKit
attribute [local go_sem] Oper.semAt_some
set_option linter.unusedVariables false

def E.cells (s : E) : List Value := [.int .i64 s.kind, .int .u32 s.file, .int .u32 s.index, .int .u32 s.vbn]
def E.val (s : E) : Value := .agg #[.int .i64 s.kind, .int .u32 s.file, .int .u32 s.index, .int .u32 s.vbn]
/-- an entry's cells -/
def boxE (s : E) : Obj := .cells #[.int .i64 s.kind, .int .u32 s.file, .int .u32 s.index, .int .u32 s.vbn] 148

/-- an entry lies at block b -/
def At (W : World) (b : Nat) (s : E) : Prop := W.heap[b]? = some (.cells #[.int .i64 s.kind, .int .u32 s.file, .int .u32 s.index, .int .u32 s.vbn] 148 (0, 0))
theorem At.c {W : World} {b : Nat} {s : E} (h : At W b s) : W.cell? ⟨b, 0, none⟩ = some (.int .i64 s.kind) ∧ W.cell? ⟨b, 1, none⟩ = some (.int .u32 s.file) ∧ W.cell? ⟨b, 2, none⟩ = some (.int .u32 s.index) ∧ W.cell? ⟨b, 3, none⟩ = some (.int .u32 s.vbn) := by
  unfold At at h
  simp only [World.cell?, h]
  exact ⟨rfl, rfl, rfl, rfl⟩
theorem At.f {W : World} {b : Nat} {s : E} (h : At W b s) (i : Nat) : W.frozen? ⟨b, i, none⟩ = false := by
  unfold At at h
  simp [World.frozen?, h]
theorem At.below {W W' : World} {b n : Nat} {s : E} (h : At W b s) (hB : Below n W W') (hb : b < n) : At W' b s := (hB.block b hb).trans h
theorem At.new (w : World) (s : E) : At (w.alloc (boxE s)) w.heap.size s := World.alloc_heap_new w _
theorem At.lt {W : World} {b : Nat} {s : E} (h : At W b s) : b < W.heap.size := (Array.getElem?_eq_some_iff.1 h).1
theorem At.th {W W' : World} {b : Nat} {s : E} (h : At W b s) (hB : Below W.heap.size W W') : At W' b s := h.below hB h.lt
theorem At.of_heap {W W' : World} {b : Nat} {s : E} (h : At W b s) (hb : W'.heap[b]? = W.heap[b]?) : At W' b s := hb.trans h
theorem At.drew {W : World} {b : Nat} {s : E} (h : At W b s) : At W.drew b s := h
/-- an entry is laid over another one, part by part -/
theorem At.put4 {W : World} {b : Nat} {s : E} (h : At W b s) (t : E) :
    At ((((W.setCell ⟨b, 0, none⟩ (.int .i64 t.kind)).setCell ⟨b, 1, none⟩ (.int .u32 t.file)).setCell ⟨b, 2, none⟩ (.int .u32 t.index)).setCell ⟨b, 3, none⟩ (.int .u32 t.vbn)) b t ∧
    Below b W ((((W.setCell ⟨b, 0, none⟩ (.int .i64 t.kind)).setCell ⟨b, 1, none⟩ (.int .u32 t.file)).setCell ⟨b, 2, none⟩ (.int .u32 t.index)).setCell ⟨b, 3, none⟩ (.int .u32 t.vbn)) := by
  unfold At at h
  have h0 := heap_setCell_same W b 0 _ _ (.int .i64 t.kind) h
  have h1 := heap_setCell_same _ b 1 _ _ (.int .u32 t.file) h0
  have h2 := heap_setCell_same _ b 2 _ _ (.int .u32 t.index) h1
  have h3 := heap_setCell_same _ b 3 _ _ (.int .u32 t.vbn) h2
  refine ⟨h3, ?_⟩
  exact ((((Below.refl b W).setCell (p := ⟨b, 0, none⟩) (Nat.le_refl _) _).setCell (p := ⟨b, 1, none⟩) (Nat.le_refl _) _).setCell (p := ⟨b, 2, none⟩) (Nat.le_refl _) _).setCell (p := ⟨b, 3, none⟩) (Nat.le_refl _) _
theorem below_al {w W : World} (h : Below w.heap.size w W) (o : Obj) : Below w.heap.size w (W.alloc o) := h.alloc h.size _
theorem below_new (w : World) (o : Obj) : Below w.heap.size w (w.alloc o) := (Below.refl _ _).alloc (Nat.le_refl _) _

/-- a slice of entries -/
def Ents (w : World) (v : Value) (L : List E) : Prop := Lies w v L.length 4 (L.flatMap E.cells)
theorem Ents.below {w w' : World} {v : Value} {L : List E} (h : Ents w v L) (hB : Below w.heap.size w w') : Ents w' v L := Lies.below h hB
theorem Ents.nil (w : World) : Ents w (.slice none 0 0) [] := Lies.nil w 4
theorem Ents.parts {w : World} {v : Value} {L : List E} (h : Ents w v L) : ∃ a cap, v = .slice a L.length cap ∧ L.length ≤ cap ∧ cap ≤ 9223372036854775807 := by
  obtain ⟨a, cap, e, _, h1, h2⟩ := Lies.parts h
  exact ⟨a, cap, e, h1, h2⟩
theorem Ents.at {w : World} {v : Value} {L : List E} (h : Ents w v L) {k : Nat} (hk : k < L.length) :
    ∃ b off cap, v = .slice (some ⟨b, off, none⟩) L.length cap ∧ w.cell? ⟨b, off + k * 4, none⟩ = some (.int .i64 (ent L k).kind) ∧ w.cell? ⟨b, off + k * 4 + 1, none⟩ = some (.int .u32 (ent L k).file) ∧ w.cell? ⟨b, off + k * 4 + 2, none⟩ = some (.int .u32 (ent L k).index) ∧ w.cell? ⟨b, off + k * 4 + 3, none⟩ = some (.int .u32 (ent L k).vbn) := by
  obtain ⟨a, cap, rfl, _, _, _, h5⟩ := h
  obtain ⟨b, off, rfl, hc⟩ := h5 (by omega)
  have hf := fun j (hj : j < 4) => flat_at E.cells 4 L (fun o _ => rfl) k j (ent L k) (ent_get hk) hj
  refine ⟨b, off, cap, rfl, ?_, ?_, ?_, ?_⟩
  · exact hc (k * 4) _ (hf 0 (by omega))
  · have := hc _ _ (hf 1 (by omega)); rwa [← Nat.add_assoc] at this
  · have := hc _ _ (hf 2 (by omega)); rwa [← Nat.add_assoc] at this
  · have := hc _ _ (hf 3 (by omega)); rwa [← Nat.add_assoc] at this
/-- the same, of a slice that is known by its parts -/
theorem Ents.get {w : World} {b off n cap : Nat} {L : List E} (hn : L.length = n) (h : Ents w (.slice (some ⟨b, off, none⟩) n cap) L) {k : Nat} (hk : k < n) :
    w.cell? ⟨b, off + k * 4, none⟩ = some (.int .i64 (ent L k).kind) ∧ w.cell? ⟨b, off + k * 4 + 1, none⟩ = some (.int .u32 (ent L k).file) ∧ w.cell? ⟨b, off + k * 4 + 2, none⟩ = some (.int .u32 (ent L k).index) ∧ w.cell? ⟨b, off + k * 4 + 3, none⟩ = some (.int .u32 (ent L k).vbn) := by
  obtain ⟨b2, off2, cap2, e, h1⟩ := h.at (hn ▸ hk)
  cases e
  exact h1
/-- a slice stands where its block does -/
theorem Ents.keep {W W' : World} {v : Value} {L : List E} (h : Ents W v L) (hk : ∀ g o k c, v = .slice (some ⟨g, o, none⟩) k c → 0 < k → W'.heap[g]? = W.heap[g]?) : Ents W' v L := by
  obtain ⟨a, cap, rfl, h2, h3, h4, h5⟩ := h
  refine ⟨a, cap, rfl, h2, h3, h4, fun hn => ?_⟩
  obtain ⟨b, off, rfl, hc⟩ := h5 hn
  refine ⟨b, off, rfl, fun j u hj => ?_⟩
  have he : W'.cell? ⟨b, off + j, none⟩ = W.cell? ⟨b, off + j, none⟩ := World.cell?_of_block (w := W) (hk b off _ _ rfl hn)
  exact he.trans (hc j u hj)
/-- a slice, taken apart: none at all, or an address -/
theorem Ents.open {w : World} {v : Value} {L : List E} (h : Ents w v L) : (∃ a cap, v = .slice a 0 cap ∧ L = []) ∨ ∃ b off cap, v = .slice (some ⟨b, off, none⟩) L.length cap ∧ 0 < L.length ∧ L.length ≤ cap ∧ cap ≤ 9223372036854775807 := by
  obtain ⟨a, cap, rfl, h1, h2⟩ := h.parts
  rcases Nat.eq_zero_or_pos L.length with hz | hz
  · exact .inl ⟨a, cap, by rw [hz], List.eq_nil_of_length_eq_zero hz⟩
  · obtain ⟨b, off, cap2, e, _⟩ := h.at hz
    cases e
    exact .inr ⟨b, off, cap, rfl, hz, h1, h2⟩

/-! ### a record -/
def R.val (r : R) (v : Value) : Value := .agg #[.int .u64 r.seq, .int .u64 r.cp, .bool r.ends, .bool r.sync, .int .i64 r.next, v]
def boxR (r : R) (v : Value) : Obj := .cells #[.int .u64 r.seq, .int .u64 r.cp, .bool r.ends, .bool r.sync, .int .i64 r.next, v] 97
/-- a record lies at block b, its entries in the slice v -/
def RAt (W : World) (b : Nat) (r : R) (v : Value) : Prop := W.heap[b]? = some (.cells #[.int .u64 r.seq, .int .u64 r.cp, .bool r.ends, .bool r.sync, .int .i64 r.next, v] 97 (0, 0))
theorem RAt.c {W : World} {b : Nat} {r : R} {v : Value} (h : RAt W b r v) : W.cell? ⟨b, 0, none⟩ = some (.int .u64 r.seq) ∧ W.cell? ⟨b, 1, none⟩ = some (.int .u64 r.cp) ∧ W.cell? ⟨b, 2, none⟩ = some (.bool r.ends) ∧ W.cell? ⟨b, 3, none⟩ = some (.bool r.sync) ∧ W.cell? ⟨b, 4, none⟩ = some (.int .i64 r.next) ∧ W.cell? ⟨b, 5, none⟩ = some v := by
  unfold RAt at h
  simp only [World.cell?, h]
  exact ⟨rfl, rfl, rfl, rfl, rfl, rfl⟩
theorem RAt.f {W : World} {b : Nat} {r : R} {v : Value} (h : RAt W b r v) (i : Nat) : W.frozen? ⟨b, i, none⟩ = false := by
  unfold RAt at h
  simp [World.frozen?, h]
theorem RAt.below {W W' : World} {b n : Nat} {r : R} {v : Value} (h : RAt W b r v) (hB : Below n W W') (hb : b < n) : RAt W' b r v := (hB.block b hb).trans h
theorem RAt.new (w : World) (r : R) (v : Value) : RAt (w.alloc (boxR r v)) w.heap.size r v := World.alloc_heap_new w _
theorem RAt.lt {W : World} {b : Nat} {r : R} {v : Value} (h : RAt W b r v) : b < W.heap.size := (Array.getElem?_eq_some_iff.1 h).1
theorem RAt.th {W W' : World} {b : Nat} {r : R} {v : Value} (h : RAt W b r v) (hB : Below W.heap.size W W') : RAt W' b r v := h.below hB h.lt
theorem RAt.of_heap {W W' : World} {b : Nat} {r : R} {v : Value} (h : RAt W b r v) (hb : W'.heap[b]? = W.heap[b]?) : RAt W' b r v := hb.trans h
theorem RAt.drew {W : World} {b : Nat} {r : R} {v : Value} (h : RAt W b r v) : RAt W.drew b r v := h

/-- what asks answers: only what is new is written -/
def Ans (w : World) (v : Value) (e : Ending) (w' : World) : Prop := e = .returned v ∧ Below w.heap.size w w'
theorem Ans.eq {w w' : World} {e : Ending} {v u : Value} (h : v = u) (k : Ans w v e w') : Ans w u e w' := h ▸ k

def longB (n : Nat) : Bool := decide (1 ≤ n ∧ n < 281474976710656)
def entryB (e : E) : Bool := decide (entryP e)
section
set_option maxRecDepth 100000
theorem isLong_any (n : Nat) (w : World) : Calls Try.prog 107 #[.int .u64 n] w fun e w' => e = .returned (.bool (longB n)) ∧ w = w' := by
  by_cases h1 : 1 ≤ n
  · by_cases h2 : n < 281474976710656
    · have HD : Hid (longB n = true) := by unfold Hid longB; simp [*]
      have g1 : (1 : Int) ≤ n := by omega
      have g2 : (n : Int) < 281474976710656 := by omega
      go_enter Try.func107, Try.ntmps107
      go_wp2
      go_ret
      exact ⟨by rw [HD.out]; rfl, rfl⟩
    · have HD : Hid (longB n = false) := by unfold Hid longB; simp [*]
      have g1 : (1 : Int) ≤ n := by omega
      have g2 : ¬ (n : Int) < 281474976710656 := by omega
      go_enter Try.func107, Try.ntmps107
      go_wp2
      go_ret
      exact ⟨by rw [HD.out]; rfl, rfl⟩
  · have HD : Hid (longB n = false) := by unfold Hid longB; simp [*]
    have g1 : ¬ (1 : Int) ≤ n := by omega
    go_enter Try.func107, Try.ntmps107
    go_wp2
    go_ret
    exact ⟨by rw [HD.out]; rfl, rfl⟩

set_option maxHeartbeats 2000000 in
theorem isEntry_any (s : E) (w : World) : Calls Try.prog 109 #[s.val] w (Ans w (.bool (entryB s))) := by
  obtain ⟨k, f, i, v⟩ := s
  have HB := below_new w (boxE ⟨k, f, i, v⟩)
  unfold E.val
  unfold boxE at HB
  dsimp only at HB ⊢
  have go : ∀ (x : Bool), Hid (entryB ⟨k, f, i, v⟩ = x) → Calls Try.prog 109 #[.agg #[.int .i64 k, .int .u32 f, .int .u32 i, .int .u32 v]] w (Ans w (.bool x)) → Calls Try.prog 109 #[.agg #[.int .i64 k, .int .u32 f, .int .u32 i, .int .u32 v]] w (Ans w (.bool (entryB ⟨k, f, i, v⟩))) := fun x hb hc => by rw [hb.out]; exact hc
  have HD : Hid (entryB ⟨k, f, i, v⟩ = decide ((k = 1 ∨ k = 2) ∧ 1 ≤ f ∧ 1 ≤ v ∨ (k = 3 ∨ k = 4 ∨ k = 5) ∧ f = 0 ∧ v = 0)) := rfl
  by_cases h12 : k = 1 ∨ k = 2
  · by_cases hf : 1 ≤ f
    · have hf' : (1 : Int) ≤ f := by omega
      by_cases hv : 1 ≤ v
      · have hv' : (1 : Int) ≤ v := by omega
        refine go true (by unfold Hid; rw [HD.out]; exact decide_eq_true (.inl ⟨h12, hf, hv⟩)) ?_
        clear go HD hf hv
        rcases h12 with rfl | rfl
        all_goals
          go_enter Try.func109, Try.ntmps109
          go_wp2
          go_ret
          exact ⟨rfl, HB⟩
      · have hv' : ¬ (1 : Int) ≤ v := by omega
        refine go false (by unfold Hid; rw [HD.out]; exact decide_eq_false (by omega)) ?_
        clear go HD hf hv
        rcases h12 with rfl | rfl
        all_goals
          go_enter Try.func109, Try.ntmps109
          go_wp2
          go_ret
          exact ⟨rfl, HB⟩
    · have hf' : ¬ (1 : Int) ≤ f := by omega
      refine go false (by unfold Hid; rw [HD.out]; exact decide_eq_false (by omega)) ?_
      clear go HD hf
      rcases h12 with rfl | rfl
      all_goals
        go_enter Try.func109, Try.ntmps109
        go_wp2
        go_ret
        exact ⟨rfl, HB⟩
  · by_cases h345 : k = 3 ∨ k = 4 ∨ k = 5
    · by_cases hf : f = 0
      · by_cases hv : v = 0
        · refine go true (by unfold Hid; rw [HD.out]; exact decide_eq_true (.inr ⟨h345, hf, hv⟩)) ?_
          have hf' : ((f : Int) == 0) = true := by simp [hf]
          have hv' : ((v : Int) == 0) = true := by simp [hv]
          clear go HD hf hv
          rcases h345 with rfl | rfl | rfl
          all_goals
            go_enter Try.func109, Try.ntmps109
            go_wp2
            go_ret
            exact ⟨rfl, HB⟩
        · refine go false (by unfold Hid; rw [HD.out]; exact decide_eq_false (by omega)) ?_
          have hv' : ((v : Int) == 0) = false := by simp [hv]
          clear go HD hf hv
          rcases h345 with rfl | rfl | rfl
          all_goals
            go_enter Try.func109, Try.ntmps109
            go_wp2
            go_ret
            exact ⟨rfl, HB⟩
      · refine go false (by unfold Hid; rw [HD.out]; exact decide_eq_false (by omega)) ?_
        have hf' : ((f : Int) == 0) = false := by simp [hf]
        clear go HD hf
        rcases h345 with rfl | rfl | rfl
        all_goals
          go_enter Try.func109, Try.ntmps109
          go_wp2
          go_ret
          exact ⟨rfl, HB⟩
    · refine go false (by unfold Hid; rw [HD.out]; exact decide_eq_false (by omega)) ?_
      have q1 : (k == 1) = false := by simp; omega
      have q2 : (k == 2) = false := by simp; omega
      have q3 : (k == 3) = false := by simp; omega
      have q4 : (k == 4) = false := by simp; omega
      have q5 : (k == 5) = false := by simp; omega
      clear go HD h12 h345
      go_enter Try.func109, Try.ntmps109
      go_wp2
      go_ret
      exact ⟨rfl, HB⟩
end
end Go.Proofs.Ytdniakoedgohkaa.Record
/- Contents and their blocks, of the program and of the document; room. -/
namespace Go.Proofs.Ytdniakoedgohkaa.Record
open Go.RowKit Go.Shelf
set_option linter.unusedVariables false

/-! ### a text's clone -/
set_option maxRecDepth 100000 in
set_option maxHeartbeats 400000 in
theorem clone_in (s : ByteArray) (w : World) (hs : s.size ≤ 281474976710656) :
    Calls Try.prog 91 #[.string s] w fun e w' => e = .returned (.string s) ∧ Below w.heap.size w w' := by
  by_cases h0 : s.size = 0
  · obtain rfl : s = ⟨#[]⟩ := by
      apply ByteArray.ext
      exact Array.eq_empty_of_size_eq_zero h0
    go_enter Try.func91, Try.ntmps91
    go_wp2
    go_ret
    exact ⟨rfl, Below.refl _ _⟩
  · obtain ⟨M, hM⟩ : ∃ M, M = madeCells #[Value.int .u8 0] s.size := ⟨_, rfl⟩
    have hMs : M.size = s.size := by rw [hM, size_madeCells]
    have hmk : ∀ W : World, (Instr.makeSlice 57 (.int .i64 (s.size : Int)) (.int .i64 (s.size : Int))).run Try.prog W = .ok (.slice (some ⟨W.heap.size, 0, none⟩) s.size s.size) (W.alloc (.cells M 5)) := fun W => by
      rw [hM]
      exact run_make_row' (P := Try.prog) 57 5 (.int .u8 0) 1 Try.underlying57 infoByte rfl .i64 .i64 s.size (by omega) (by omega) W
    have hcp := Lib.run_copy_row_string (P := Try.prog) (w.alloc (.cells M 5)) 57 9 3 5 w.heap.size 0 s.size s.size s M 5 Try.underlying57 infoSize (World.alloc_heap_new w _) (Nat.le_refl _) (by omega)
    obtain ⟨Y, hY⟩ : ∃ Y, Y = (M.toList.take 0 ++ Lib.byteCells s.data.toList ++ M.toList.drop (0 + s.size)).toArray := ⟨_, rfl⟩
    rw [← hY] at hcp
    have hYl : Y.toList = Lib.byteCells s.data.toList := by
      rw [hY, List.toList_toArray, List.take_zero, List.nil_append, List.drop_of_length_le (by rw [Array.length_toList]; omega), List.append_nil]
    have hYs : Y.size = s.size := by rw [← Array.length_toList, hYl, Lib.byteCells_length, ← Lib.size_eq]
    have hgY : ((w.alloc (.cells M 5)).setRow w.heap.size Y).heap[w.heap.size]? = some (.cells Y 5 (0, 0)) := setRow_heap _ _ M _ 5 (0, 0) (World.alloc_heap_new w _)
    have hne : s.data.toList ≠ [] := fun e => h0 (by rw [Lib.size_eq, e]; rfl)
    have hUS := Lib.run_unsafeString_row (P := Try.prog) ((w.alloc (.cells M 5)).setRow w.heap.size Y) 113 3 9 5 Try.underlying113 (by kernel_rfl) w.heap.size Y.size (by unfold World.shape?; rw [hgY]) s.data.toList hne (by rw [← Lib.size_eq]; omega) (by rw [← Lib.size_eq]; omega)
      (fun j x hx => Lib.cells_of_row hgY Y.size j _ (by rw [List.take_of_length_le (by rw [Array.length_toList]; exact Nat.le_refl _), hYl]; simp [Lib.byteCells, hx]))
    rw [← Lib.size_eq] at hUS
    have HB : Below w.heap.size w ((w.alloc (.cells M 5)).setRow w.heap.size Y) := ((Below.refl _ w).alloc (Nat.le_refl _) _).trans ⟨rfl, rfl, rfl, by simp, fun k hk => setRow_other _ _ _ _ (by omega)⟩
    clear hY hM
    go_enter Try.func91, Try.ntmps91
    go_wp2
    go_ret
    exact ⟨rfl, Lib.below_freeze HB (p := ⟨w.heap.size, 0, none⟩) (Nat.le_refl _) _⟩

set_option maxRecDepth 100000 in
set_option maxHeartbeats 400000 in
theorem clone_any (s : ByteArray) (w : World) (hs : s.size ≤ 281474976710656) :
    Calls Try.prog 63 #[.string s] w fun e w' => e = .returned (.string s) ∧ Below w.heap.size w w' := by
  go_enter Try.func63, Try.ntmps63
  go_wp2_with (go_at_call 91; refine (clone_in _ _ hs).mono ?_; rintro e w' ⟨rfl, hB⟩)
  go_ret
  exact ⟨rfl, hB⟩


theorem pm_list : pm.toList = [80, 0, 0, 0] := by first | rfl | decide | (rw [Lib.toList_data]; rfl)
def preP (b : ByteArray) : Prop := 4 ≤ b.size ∧ b.extract 0 4 = pm
instance (b : ByteArray) : Decidable (preP b) := by unfold preP; infer_instance
section
set_option maxRecDepth 100000
set_option maxHeartbeats 1000000
theorem hasPrefix_any (b : ByteArray) (w : World) (hs : b.size ≤ 281474976710656) : Calls Try.prog 104 #[.string b, .string ⟨#[80, 0, 0, 0]⟩] w fun e w' => e = .returned (.bool (decide (preP b))) ∧ w = w' := by
  by_cases h4 : 4 ≤ b.size
  · have g4 : (4 : Int) ≤ b.size := by omega
    by_cases hp : b.extract 0 4 = pm
    · have HD : Hid (decide (preP b) = true) := decide_eq_true ⟨h4, hp⟩
      have hc := beq_yes hp
      rw [pm_list] at hc
      clear hp
      go_enter Try.func104, Try.ntmps104
      go_wp2
      go_ret
      exact ⟨by rw [HD.out]; rfl, rfl⟩
    · have HD : Hid (decide (preP b) = false) := decide_eq_false fun hh => hp hh.2
      have hc := beq_no hp
      rw [pm_list] at hc
      clear hp
      go_enter Try.func104, Try.ntmps104
      go_wp2
      go_ret
      exact ⟨by rw [HD.out]; rfl, rfl⟩
  · have g4 : ¬ (4 : Int) ≤ b.size := by omega
    have HD : Hid (decide (preP b) = false) := decide_eq_false fun hh => h4 hh.1
    go_enter Try.func104, Try.ntmps104
    go_wp2
    go_ret
    exact ⟨by rw [HD.out]; rfl, rfl⟩
theorem cutPrefix_yes (b : ByteArray) (w : World) (hs : b.size ≤ 281474976710656) (h : preP b) : Calls Try.prog 62 #[.string b, .string ⟨#[80, 0, 0, 0]⟩] w fun e w' => e = .returned (.tuple #[.string (b.extract 4 b.size), .bool true]) ∧ w = w' := by
  have hp := hasPrefix_any b w hs
  rw [decide_eq_true h] at hp
  have h4 := h.1
  have g4 : (4 : Int) ≤ b.size := by omega
  have hin : Calls Try.prog 90 #[.string b, .string ⟨#[80, 0, 0, 0]⟩] w fun e w' => e = .returned (.tuple #[.string (b.extract 4 b.size), .bool true]) ∧ w = w' := by
    clear h
    go_enter Try.func90, Try.ntmps90
    go_wp2_with (go_at_call 104; refine hp.mono ?_; rintro e w' ⟨rfl, rfl⟩)
    go_ret2
    exact ⟨rfl, rfl⟩
  clear hp h g4 h4
  go_enter Try.func62, Try.ntmps62
  go_wp2_with (go_at_call 90; refine hin.mono ?_; rintro e w' ⟨rfl, rfl⟩)
  go_ret2
  exact ⟨rfl, rfl⟩
theorem cutPrefix_no (b : ByteArray) (w : World) (hs : b.size ≤ 281474976710656) (h : ¬ preP b) : Calls Try.prog 62 #[.string b, .string ⟨#[80, 0, 0, 0]⟩] w fun e w' => e = .returned (.tuple #[.string b, .bool false]) ∧ w = w' := by
  have hp := hasPrefix_any b w hs
  rw [decide_eq_false h] at hp
  have hin : Calls Try.prog 90 #[.string b, .string ⟨#[80, 0, 0, 0]⟩] w fun e w' => e = .returned (.tuple #[.string b, .bool false]) ∧ w = w' := by
    clear h
    go_enter Try.func90, Try.ntmps90
    go_wp2_with (go_at_call 104; refine hp.mono ?_; rintro e w' ⟨rfl, rfl⟩)
    go_ret2
    exact ⟨rfl, rfl⟩
  clear hp h
  go_enter Try.func62, Try.ntmps62
  go_wp2_with (go_at_call 90; refine hin.mono ?_; rintro e w' ⟨rfl, rfl⟩)
  go_ret2
  exact ⟨rfl, rfl⟩

theorem unwrap_any (b : ByteArray) (w : World) (hs : b.size ≤ 281474976710656) : Calls Try.prog 40 #[.string b] w fun e w' => e = .returned (.tuple #[.string (unwS b), .int .i64 (unwE b)]) ∧ Below w.heap.size w w' := by
  by_cases h : preP b
  · have hc := cutPrefix_yes b w hs h
    by_cases h5 : b.size = 512
    · have hok : unwOk b := ⟨h5, h.2⟩
      have HS := Lib.hid (unwS_yes hok)
      have HE := Lib.hid (unwE_yes hok)
      have hz : (b.extract 4 b.size).size = 508 := by rw [ByteArray.size_extract]; omega
      have hq : (((b.extract 4 b.size).size : Int) != 508) = false := by simp [hz]
      have hcl := fun W => clone_any (b.extract 4 b.size) W (by omega)
      obtain ⟨c, hcc⟩ : ∃ c, b.extract 4 b.size = c := ⟨_, rfl⟩
      rw [hcc] at hc HS hz hq
      simp only [hcc] at hcl
      clear h hok h5 hcc
      go_enter Try.func40, Try.ntmps40
      go_wp2_with (first | (go_at_call 62; refine hc.mono ?_; rintro e w' ⟨rfl, rfl⟩) | (go_at_call 63; refine (hcl _).mono ?_; rintro e w' ⟨rfl, hB⟩))
      go_ret2
      exact ⟨ret_se HS.out HE.out, hB⟩
    · have hno : ¬ unwOk b := fun hh => h5 hh.1
      have HS := Lib.hid (unwS_no hno)
      have HE := Lib.hid (unwE_no hno)
      have hz : ¬ (b.extract 4 b.size).size = 508 := by have := h.1; rw [ByteArray.size_extract]; omega
      have hq : (((b.extract 4 b.size).size : Int) != 508) = true := by simp; omega
      obtain ⟨c, hcc⟩ : ∃ c, b.extract 4 b.size = c := ⟨_, rfl⟩
      rw [hcc] at hc hz hq
      clear h hno h5 hcc
      go_enter Try.func40, Try.ntmps40
      go_wp2_with (go_at_call 62; refine hc.mono ?_; rintro e w' ⟨rfl, rfl⟩)
      go_ret2
      exact ⟨ret_se HS.out HE.out, Below.refl _ _⟩
  · have hc := cutPrefix_no b w hs h
    have hno : ¬ unwOk b := fun hh => h ⟨by have := hh.1; omega, hh.2⟩
    have HS := Lib.hid (unwS_no hno)
    have HE := Lib.hid (unwE_no hno)
    clear h hno
    go_enter Try.func40, Try.ntmps40
    go_wp2_with (go_at_call 62; refine hc.mono ?_; rintro e w' ⟨rfl, rfl⟩)
    go_ret2
    exact ⟨ret_se HS.out HE.out, Below.refl _ _⟩
theorem wrap_any (c : ByteArray) (w : World) (hs : c.size ≤ 281474976710656) : Calls Try.prog 39 #[.string c] w fun e w' => e = .returned (.tuple #[.string (wrapS c), .int .i64 (wrapE c)]) ∧ Below w.heap.size w w' := by
  by_cases h : c.size ≤ 508
  · have HS := Lib.hid (wrapS_yes h)
    have HE := Lib.hid (wrapE_yes h)
    have g : ¬ (508 : Int) < c.size := by omega
    have hz : (pm ++ c).size = 4 + c.size := by rw [ByteArray.size_append]; rfl
    have hok : fitOk (pm ++ c) 512 := ⟨by rw [hz]; omega, by decide⟩
    have hf := fun W => fit_any (pm ++ c) 512 W (by rw [hz]; omega)
    have hfe : fitS (pm ++ c) 512 = wrapB c := by rw [fitS_yes hok, hz, wrapB, show (512 : Int).toNat - (4 + c.size) = 508 - c.size by omega]
    rw [hfe, fitE_yes hok] at hf
    have hadd := fun W => run_string_add_sum (P := Try.prog) (w := W) pm c (by rw [show pm.size = 4 from rfl]; omega)
    obtain ⟨x, hx⟩ : ∃ x, wrapB c = x := ⟨_, rfl⟩
    rw [hx] at HS hf
    unfold pm at hf hadd
    clear h hok hfe hx hz
    go_enter Try.func39, Try.ntmps39
    go_wp2_with (go_at_call 30; refine (hf _).mono ?_; rintro e w' ⟨rfl, hB⟩)
    go_ret2
    exact ⟨ret_se HS.out HE.out, hB⟩
  · have HS := Lib.hid (wrapS_no h)
    have HE := Lib.hid (wrapE_no h)
    have g : (508 : Int) < c.size := by omega
    clear h
    go_enter Try.func39, Try.ntmps39
    go_wp2
    go_ret2
    exact ⟨ret_se HS.out HE.out, Below.refl _ _⟩
end
end Go.Proofs.Ytdniakoedgohkaa.Record
