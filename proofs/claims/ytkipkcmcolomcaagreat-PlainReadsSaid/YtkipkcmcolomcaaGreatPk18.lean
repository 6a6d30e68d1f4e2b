/- Several texts in one, each under its own heading. -/
import Derived.Test.YtkipkcmcolomcaaGreatPk10
import Derived.Test.YtkipkcmcolomcaaGreatPk04
import Derived.Test.YtkipkcmcolomcaaGreatPk11
import Derived.Laws.RangeAny
import Derived.Laws.Runes
import Derived.Laws.Strings3
import Derived.Deep.LoopGhost
import Derived.Scope
import Derived.StillTailTactics
import Derived.Deep.RegionHeld3
import Derived.BigQuiet
import Derived.Test.YtkipkcmcolomcaaGreatShelf
/- The names that stand one behind the other at the head of bytes; when these are a directory's. They speak of no program. -/
namespace Go.Proofs.YtkipkcmcolomcaaGreat.Dir
set_option linter.unusedVariables false
set_option linter.unusedSimpArgs false

/-- does a name stand there, and a file's number? -/
def good (s : ByteArray) (a : Nat) : Prop := hereOk s a ∧ fineE (here s a)
instance (s : ByteArray) (a : Nat) : Decidable (hereOk s a) := by unfold hereOk takeOk tokOk; infer_instance
instance (e : N) : Decidable (fineE e) := by unfold fineE; infer_instance
instance (s : ByteArray) (a : Nat) : Decidable (good s a) := by unfold good; infer_instance
/-- where the k-th name stands -/
def pos (P : List N) (k : Nat) : Nat := (bytesL (P.take k)).size
theorem pos_zero (P : List N) : pos P 0 = 0 := rfl
theorem pos_all (P : List N) : pos P P.length = (bytesL P).size := by unfold pos; rw [List.take_length]
theorem pos_succ {P : List N} {k : Nat} (h : k < P.length) : pos P (k + 1) = pos P k + 6 + (nm P k).name.size := by
  unfold pos
  rw [take_snoc h, bytesL_snoc, ByteArray.size_append, ent_size]
  omega
theorem pos_app {P R : List N} {k : Nat} (h : k ≤ P.length) : pos (P ++ R) k = pos P k := by
  unfold pos
  rw [List.take_append_of_le_length h]
theorem pos_mono (P : List N) {k : Nat} : pos P k ≤ pos P P.length := by
  rw [pos_all]
  unfold pos
  conv => rhs; rw [← List.take_append_drop k P]
  rw [bytesL_app, ByteArray.size_append]
  omega
/-- what is read, one name behind the other, up to what is none -/
structure Run (s : ByteArray) (P : List N) : Prop where
  at_ : ∀ k, k < P.length → good s (pos P k) ∧ here s (pos P k) = nm P k
  bytes : bytesL P = s.extract 0 (pos P P.length)
  le : pos P P.length ≤ s.size
  stop : pos P P.length < s.size → ¬ good s (pos P P.length)
theorem run_from (s : ByteArray) : ∀ (n : Nat) (P : List N), s.size - pos P P.length ≤ n → (∀ k, k < P.length → good s (pos P k) ∧ here s (pos P k) = nm P k) → bytesL P = s.extract 0 (pos P P.length) → pos P P.length ≤ s.size → ∃ R, Run s R
  | n, P, hn, hat, hb, hle => by
    by_cases hg : pos P P.length < s.size ∧ good s (pos P P.length)
    · obtain ⟨hlt, hg⟩ := hg
      obtain ⟨z1, z2, z3⟩ := here_size hg.1
      have hsn := step_good hb hg.1
      have hl : (P ++ [here s (pos P P.length)]).length = P.length + 1 := by simp
      have hp : pos (P ++ [here s (pos P P.length)]) (P.length + 1) = pos P P.length + 6 + (here s (pos P P.length)).name.size := by
        rw [pos_succ (by omega), pos_app (Nat.le_refl _), nm_last]
      match n, hn with
      | 0, hn => omega
      | n + 1, hn =>
        refine run_from s n (P ++ [here s (pos P P.length)]) (by rw [hl, hp]; omega) (fun k hk => ?_) (by rw [hl, hp]; exact hsn) (by rw [hl, hp]; omega)
        rw [hl] at hk
        by_cases hh : k < P.length
        · rw [pos_app (by omega), nm_app hh]
          exact hat k hh
        · obtain rfl : k = P.length := by omega
          rw [pos_app (Nat.le_refl _), nm_last]
          exact ⟨hg, rfl⟩
    · exact ⟨P, hat, hb, hle, fun h1 h2 => hg ⟨h1, h2⟩⟩
theorem Run.ex (s : ByteArray) : ∃ P, Run s P := run_from s s.size [] (by omega) (fun k hk => absurd hk (Nat.not_lt_zero _)) (by
  show bytesL [] = s.extract 0 0
  apply ba_ext
  rw [Lib.extract_data]
  simp [bytesL]) (by show (bytesL []).size ≤ s.size; exact Nat.zero_le _)
theorem Run.fine {s : ByteArray} {P : List N} (h : Run s P) : ∀ e ∈ P, fineE e := fun e he => by
  obtain ⟨i, hi, rfl⟩ := mem_nm he
  have := h.at_ i hi
  rw [← this.2]
  exact this.1.2
theorem Run.lt {s : ByteArray} {P : List N} (h : Run s P) {k : Nat} (hk : k < P.length) : pos P k < s.size ∧ pos P (k + 1) ≤ s.size := by
  have h1 := pos_mono P (k := k + 1)
  have h2 := pos_succ hk
  have h3 := h.le
  omega
theorem Run.many {s : ByteArray} {P : List N} (h : Run s P) : 6 * P.length ≤ s.size := by
  have := bytesL_many P
  have h2 := h.le
  rw [pos_all] at h2
  omega
/-- when they are a directory's -/
theorem Run.dir {s : ByteArray} {P : List N} (h : Run s P) (ha : pos P P.length = s.size) (hs : s.size ≤ 20000) (hd : (P.map (·.name)).Nodup) : DirP s P :=
  read_all (Fine.iff.2 ⟨h.fine, hd⟩) (by rw [← ha]; exact h.bytes) hs
theorem Run.of_dir {s : ByteArray} {P L : List N} (h : Run s P) (hL : DirP s L) : P = L ∧ pos P P.length = s.size := by
  have hs : bytesL P ++ s.extract (pos P P.length) s.size = bytesL L := by rw [h.bytes, app_extract s 0 _ s.size (by omega) h.le, extract_all, hL.2.1]
  obtain ⟨R, hR, hR2⟩ := pre_split P L _ h.fine hL.1.mem hs
  have hF : Fine P := by
    have := hL.1
    rw [hR] at this
    exact this.pre
  have ha : pos P P.length = s.size := by
    rcases Nat.lt_or_ge (pos P P.length) s.size with hlt | hge
    · have := step_is hL hF h.bytes hlt
      exact absurd ⟨this.1, this.2.1⟩ (h.stop hlt)
    · have := h.le
      omega
  rw [ha] at hR2
  have h0 : R = [] := bytesL_none (by
    rw [hR2]
    apply ba_ext
    rw [Lib.extract_data]
    simp)
  rw [h0, List.append_nil] at hR
  exact ⟨hR.symm, ha⟩
/-- names that rise or stand twice side by side -/
def Rises (M : List N) : Prop := ∀ i j, i < j → j < M.length → ltB (nm M j).name (nm M i).name = false
/-- do two stand side by side? -/
def twiceP (M : List N) : Prop := ∃ i, i + 1 < M.length ∧ (nm M (i + 1)).name = (nm M i).name
theorem Rises.up {M : List N} (h : Rises M) (ht : ¬ twiceP M) : Up M := Up.next fun i hi => by
  rcases ltB_total (nm M i).name (nm M (i + 1)).name with h1 | h1 | h1
  · exact h1
  · exact absurd ⟨i, hi, h1.symm⟩ ht
  · rw [h i (i + 1) (by omega) hi] at h1
    cases h1
theorem Up.nodup {M : List N} (h : Up M) : (M.map (·.name)).Nodup := by
  unfold List.Nodup
  rw [List.pairwise_map]
  refine h.imp fun {a b} hab he => ?_
  rw [he, ltB_irr] at hab
  cases hab
theorem twice_not {P M : List N} (hp : M.Perm P) (ht : twiceP M) : ¬ Fine P := fun hF => by
  obtain ⟨i, hi, he⟩ := ht
  have := (hF.perm hp.symm).2 _ _ hi (by omega) he
  omega
end Go.Proofs.YtkipkcmcolomcaaGreat.Dir
/- The library's ContainsAny of two bytes below 128, of any text. -/
namespace Go.Proofs.YtkipkcmcolomcaaGreat.Dir
open Go.RowKit Go.Lib
attribute [local go_sem] Oper.semAt_some
set_option linter.unusedVariables false
set_option linter.unusedSimpArgs false
theorem noGoto_ret {Q : Exit → Act → World → Prop} {a : Act} {w : World} (h : Q .ret a w) : Exit.noGoto Q .ret a w := h
theorem inBlock_ret {n : Nat} {Q : Exit → Act → World → Prop} {a : Act} {w : World} (h : Q .ret a w) : Exit.inBlock n Q .ret a w := h
theorem then_ret {K : Act → World → Prop} {Q : Exit → Act → World → Prop} {a : Act} {w : World} (h : Q .ret a w) : Exit.then K Q .ret a w := h
section
set_option maxRecDepth 1000000
set_option maxHeartbeats 4000000
theorem indexRune_error (s : ByteArray) (w : World) (h2 : s.size = 2) (ha : ∀ i (h : i < s.size), (s[i]'h).toNat < 128) :
    Calls Tryz.prog 187 #[.string s, .int .i32 65533] w fun e w' => e = .returned (.int .i64 (-1)) ∧ Below w.heap.size w w' := by
  go_enter Tryz.func187, Tryz.ntmps187
  go_wp2
  go_loopg [5, 6] 2 (fun g _ _ wx => ∃ i : Nat, i + g = 2 ∧ wx = w.iter s i)
  case atStart => exact ⟨0, by omega, rfl⟩
  case round =>
    obtain ⟨i, hig, rfl⟩ := hrel
    have HB := Lib.hid (show Below w.heap.size w (w.iter s i) from (Below.refl _ _).alloc (Nat.le_refl _) _)
    cases gk with
    | zero =>
      obtain rfl : i = 2 := by omega
      have hnx := run_next_end (P := Tryz.prog) w s 2
      have hnx2 := fun ty => hnx ty (by omega)
      go_wp2
      go_ret
      exact ⟨rfl, HB.out⟩
    | succ g =>
      have hi : i < s.size := by omega
      have hx := ha i hi
      have hnx := fun ty => run_next_ascii (P := Tryz.prog) w s i ty hi hx
      obtain ⟨x, hxx⟩ : ∃ x : Nat, (s[i]'hi).toNat = x := ⟨_, rfl⟩
      rw [hxx] at hx hnx
      have hq : ((x : Int) == 65533) = false := beq_eq_false_iff_ne.2 (by omega)
      go_wp2
      go_roundg g
      case measure => omega
      case rel => exact ⟨i + 1, by omega, rfl⟩
theorem indexRune_bad (s : ByteArray) (r : Nat) (w : World) (h1 : 128 ≤ r) (h2 : r ≤ 2147483647) (h3 : ¬ r = 65533) (hv : Lib.validRune r = false) :
    Calls Tryz.prog 187 #[.string s, .int .i32 r] w fun e w' => e = .returned (.int .i64 (-1)) ∧ Below w.heap.size w w' := by
  have hV := fun W => Shf.Tryz.utf8_ValidRune (r : Int) W
  rw [hv] at hV
  have q1 : ¬ ((r : Int) < 128) := by omega
  have q2 : ((r : Int) == 65533) = false := beq_eq_false_iff_ne.2 (by omega)
  clear hv
  go_enter Tryz.func187, Tryz.ntmps187
  go_wp2_with (go_at_call 199; (with_reducible refine Calls.mono (hV _) ?_); rintro e w' ⟨rfl, rfl⟩)
  go_ret
  exact ⟨rfl, Below.refl _ _⟩
theorem indexRune_wide (s : ByteArray) (r : Nat) (w : World) (hs : s.size = 2) (ha : ∀ i (h : i < s.size), (s[i]'h).toNat < 128) (h1 : 128 ≤ r) (h2 : r ≤ 2147483647) (h3 : ¬ r = 65533) (hv : Lib.validRune r = true) :
    Calls Tryz.prog 187 #[.string s, .int .i32 r] w fun e w' => e = .returned (.int .i64 (-1)) ∧ Below w.heap.size w w' := by
  have hV := fun W => Shf.Tryz.utf8_ValidRune (r : Int) W
  obtain ⟨z2, z4, zl⟩ := encode_facts (r : Int) (by rw [validRune_eq]; exact hv) (by omega)
  rw [hv] at hV
  have q1 : ¬ ((r : Int) < 128) := by omega
  have q2 : ((r : Int) == 65533) = false := beq_eq_false_iff_ne.2 (by omega)
  have hcv := fun (W : World) => run_convert_int_string (P := Tryz.prog) W 21 9 .i32 (r : Int) (by kernel_rfl) Tryz.underlying9
  obtain ⟨R, hR⟩ : ∃ R, Utf8.encode (r : Int) = R := ⟨_, rfl⟩
  rw [hR] at z2 z4 zl
  rw [hR] at hcv
  clear hv
  by_cases hn2 : R.size = 2
  · have hw1 : IntKind.i64.wrap ((R.size : Int) - 1) = 1 := by rw [IntKind.wrap_i64]; omega
    have hw2 : IntKind.i64.wrap 2 = 2 := by decide
    have hg : (1 : Int) < (s.size : Int) := by omega
    have hg2 : (1 : Int) < (R.size : Int) := by omega
    have hx : ∀ h : 1 < s.size, (((s[1]'h).toNat : Nat) : Int) = (((s[1]'(by omega)).toNat : Nat) : Int) := fun _ => rfl
    have hx1 := ha 1 (by omega)
    have hx2 := zl (by omega)
    have hx3 : 128 ≤ (R[1]'(by omega)).toNat := by
      have h : ∀ i (hi : i < R.size), i = 1 → 128 ≤ (R[i]'hi).toNat → 128 ≤ (R[1]'(by omega)).toNat := fun i hi e h => by subst e; exact h
      exact h (R.size - 1) (by omega) (by omega) hx2
    obtain ⟨x, hxx⟩ : ∃ x : Nat, (s[1]'(by omega)).toNat = x := ⟨_, rfl⟩
    obtain ⟨y, hyy⟩ : ∃ y : Nat, (R[1]'(by omega)).toNat = y := ⟨_, rfl⟩
    rw [hxx] at hx1
    rw [hyy] at hx3
    have e1 : ∀ h : 1 < s.size, (((s[1]'h).toNat : Nat) : Int) = (x : Int) := fun _ => by rw [hxx]
    have e2 : ∀ h : 1 < R.size, (((R[1]'h).toNat : Nat) : Int) = (y : Int) := fun _ => by rw [hyy]
    have hq : ((x : Int) != (y : Int)) = true := bne_iff_ne.2 (by omega)
    have hI := fun W => Shf.Tryz.strings_IndexByte ByteArray.empty (y : Int) W
    have hnil : ByteArray.empty.data.toList = [] := rfl
    rw [hnil] at hI
    have hI2 : Lib.indexByte [] ((y : Int).toNat.toUInt8) = -1 := rfl
    rw [hI2] at hI
    clear hxx hyy hx zl hx2 hnil hI2
    go_enter Tryz.func187, Tryz.ntmps187
    go_wp2_with (go_at_call 199; (with_reducible refine Calls.mono (hV _) ?_); rintro e w' ⟨rfl, rfl⟩)
    apply wp_scope_straight
    go_wp2
    refine wp_loop_rounds 1 ?_
    rw [rounds_succ]
    go_wp2
    apply wp_scope_straight
    go_wp2
    go_quiet (fail)
    go_wp2
    go_quiet ((go_at_call 109; exact (hI _).mono (fun _ _ ⟨he, hm⟩ => ⟨he, _, hm⟩)))
    go_wp2
    repeat (first | refine noGoto_ret ?_ | refine inBlock_ret ?_ | refine then_ret ?_)
    go_ret
    exact ⟨rfl, below_drewN (Below.refl _ _) _⟩
  · have hw1 : IntKind.i64.wrap ((R.size : Int) - 1) = (R.size : Int) - 1 := by rw [IntKind.wrap_i64]; omega
    obtain ⟨m, hm⟩ : ∃ m : Nat, R.size = m := ⟨_, rfl⟩
    rw [hm] at hw1
    have hn3 : ¬ ((m : Int) - 1 < 2) := by omega
    have hn4 : decide ((m : Int) - 1 < 2) = false := decide_eq_false hn3
    clear zl
    go_enter Tryz.func187, Tryz.ntmps187
    go_wp2_with (go_at_call 199; (with_reducible refine Calls.mono (hV _) ?_); rintro e w' ⟨rfl, rfl⟩)
    apply wp_scope_straight
    go_wp2
    refine wp_loop_rounds 1 ?_
    rw [rounds_succ]
    go_wp2
    repeat (first | refine noGoto_ret ?_ | refine inBlock_ret ?_ | refine then_ret ?_)
    go_ret
    exact ⟨rfl, Below.refl _ _⟩
theorem indexRune_high (s : ByteArray) (r : Nat) (w : World) (hs : s.size = 2) (ha : ∀ i (h : i < s.size), (s[i]'h).toNat < 128) (h1 : 128 ≤ r) (h2 : r ≤ 2147483647) :
    Calls Tryz.prog 187 #[.string s, .int .i32 r] w fun e w' => e = .returned (.int .i64 (-1)) ∧ Below w.heap.size w w' := by
  by_cases h3 : r = 65533
  · subst h3
    exact indexRune_error s w hs ha
  · cases hv : Lib.validRune r with
    | false => exact indexRune_bad s r w h1 h2 h3 hv
    | true => exact indexRune_wide s r w hs ha h1 h2 h3 hv
theorem get_sb {s : ByteArray} {j : Nat} (h : j < s.size) : (s.get! j).toNat = sb s j := by
  have h1 : s.data.toList[j]? = some (s[j]'h) := Go.Proofs.byte_at s j h
  have h2 : s.get! j = s[j]'h := get_at s j h
  rw [h2]
  unfold sb
  simp [h1]
/-- what a rune of more bytes than one is made of -/
theorem decode_cont {s : ByteArray} {p : Nat} (h : p < s.size) (ha : 128 ≤ sb s p) : ∀ k, k < (Utf8.decode s p).2 → p + k < s.size → 128 ≤ sb s (p + k) := by
  intro k hk hks
  match k, hk, hks with
  | 0, _, _ => exact ha
  | k + 1, hk, hks =>
    rw [← get_sb hks]
    have h0 : ¬ (s.get! (p + 0)).toNat < 128 := by
      have := get_sb (s := s) (j := p + 0) (by omega)
      rw [this]
      show ¬ sb s p < 128
      omega
    simp only [Utf8.decode, h0, if_false] at hk
    have hx : ∀ j, (s.get! (p + j)).toNat / 64 = 2 → 128 ≤ (s.get! (p + j)).toNat := fun j hj => by omega
    apply hx
    split at hk
    · rename_i hc
      simp only [Bool.and_eq_true, beq_iff_eq, decide_eq_true_eq] at hc
      have hk2 : k + 1 < 2 := by split at hk <;> simp at hk <;> omega
      obtain rfl : k = 0 := by omega
      exact hc.2.2
    · split at hk
      · rename_i hc
        simp only [Bool.and_eq_true, beq_iff_eq, decide_eq_true_eq] at hc
        have hk2 : k + 1 < 3 := by split at hk <;> simp at hk <;> omega
        obtain rfl | rfl : k = 0 ∨ k = 1 := by omega
        · exact hc.1.2.2
        · exact hc.2.2
      · split at hk
        · rename_i hc
          simp only [Bool.and_eq_true, beq_iff_eq, decide_eq_true_eq] at hc
          have hk2 : k + 1 < 4 := by split at hk <;> simp at hk <;> omega
          obtain rfl | rfl | rfl : k = 0 ∨ k = 1 ∨ k = 2 := by omega
          · exact hc.1.1.2.2
          · exact hc.1.2.2
          · exact hc.2.2
        · simp at hk
end
end Go.Proofs.YtkipkcmcolomcaaGreat.Dir
/- IsName of the program. -/
namespace Go.Proofs.YtkipkcmcolomcaaGreat.Dir
open Go.RowKit Go.Lib
attribute [local go_sem] Oper.semAt_some
set_option linter.unusedVariables false
set_option linter.unusedSimpArgs false
/-- the two bytes that no name has -/
def bads : ByteArray := ⟨#[0, 47]⟩
theorem bads_size : bads.size = 2 := rfl
theorem bads_ascii : ∀ (j : Nat) b, bads.data.toList[j]? = some b → b.toNat < 128 := fun j b h => by
  match j, h with
  | 0, h => cases h; decide
  | 1, h => cases h; decide
theorem bads_low : ∀ i (h : i < bads.size), (bads[i]'h).toNat < 128 := fun i h => bads_ascii i _ (Go.Proofs.byte_at bads i h)
theorem bads_list : bads.toList = [0, 47] := by rw [Lib.toList_data]; rfl
/-- is one of them there? -/
def slashB (s : ByteArray) : Bool := s.data.toList.any fun b => bads.data.toList.contains b
theorem indexAny_iff (chars : List UInt8) : ∀ l : List UInt8, decide (0 ≤ Lib.indexAny l chars) = l.any fun b => chars.contains b
  | [] => rfl
  | b :: l => by
    have ih := indexAny_iff chars l
    have hge := Lib.indexAny_ge chars l
    rw [Lib.indexAny, List.any_cons]
    cases hc : chars.contains b with
    | true => simp
    | false =>
      rw [Bool.false_or, ← ih]
      by_cases h : Lib.indexAny l chars = -1
      · rw [h]; rfl
      · rw [if_neg Bool.false_ne_true, if_neg (by simpa using h)]
        exact decide_eq_decide.2 (by omega)
theorem contains_bads (b : UInt8) : bads.data.toList.contains b = decide (b.toNat = 0 ∨ b.toNat = 47) := by
  have h : bads.data.toList = [0, 47] := rfl
  rw [h, Bool.eq_iff_iff, decide_eq_true_iff, List.contains_iff_mem]
  simp only [List.mem_cons, List.not_mem_nil, or_false]
  constructor
  · rintro (rfl | rfl)
    · exact .inl rfl
    · exact .inr rfl
  · rintro (h | h)
    · exact .inl (UInt8.toNat_inj.1 h)
    · exact .inr (UInt8.toNat_inj.1 h)
theorem slash_iff (s : ByteArray) : slashB s = true ↔ ∃ i, i < s.size ∧ (sb s i = 0 ∨ sb s i = 47) := by
  unfold slashB
  rw [List.any_eq_true]
  constructor
  · rintro ⟨b, hb, hc⟩
    rw [contains_bads, decide_eq_true_iff] at hc
    obtain ⟨i, hi⟩ := List.getElem?_of_mem hb
    have hl := (List.getElem?_eq_some_iff.1 hi).1
    refine ⟨i, by simpa using hl, ?_⟩
    unfold sb
    rw [hi]
    exact hc
  · rintro ⟨i, hi, hc⟩
    have hl : i < s.data.toList.length := by simpa using hi
    refine ⟨s.data.toList[i], List.getElem_mem hl, ?_⟩
    rw [contains_bads, decide_eq_true_iff]
    unfold sb at hc
    rwa [List.getElem?_eq_getElem hl] at hc
theorem slash_no {s : ByteArray} (h : ∀ i, i < s.size → ¬ sb s i = 0 ∧ ¬ sb s i = 47) : slashB s = false := by
  rw [Bool.eq_false_iff]
  intro hc
  obtain ⟨i, hi, hx⟩ := (slash_iff s).1 hc
  rcases hx with hx | hx
  · exact (h i hi).1 hx
  · exact (h i hi).2 hx
theorem slash_not {s : ByteArray} (h : slashB s = false) : ∀ i, i < s.size → ¬ sb s i = 0 ∧ ¬ sb s i = 47 := fun i hi => by
  have hn : ¬ slashB s = true := by rw [h]; exact Bool.false_ne_true
  exact ⟨fun hx => hn ((slash_iff s).2 ⟨i, hi, .inl hx⟩), fun hx => hn ((slash_iff s).2 ⟨i, hi, .inr hx⟩)⟩
/-- one more rune of an iterator that lies anywhere -/
theorem next_any {P : Program} {W : World} {b : Nat} {s : ByteArray} {p : Nat} (ty : TypeId) (hb : W.heap[b]? = some (.stringIter s p)) (h : p < s.size) :
    (Instr.next (.pointer (some ⟨b, 0, none⟩)) true ty).run P W = .ok (.tuple #[.bool true, .int .i64 p, .int .i32 (Utf8.decode s p).1]) (W.putObj b (.stringIter s (p + (Utf8.decode s p).2))) := by
  simp only [Instr.next, getObj, setObj, Sem.run_bind, Sem.run, hb, Result.andThen, h, if_true, World.putObj]
  simp [goInt]
theorem next_end {P : Program} {W : World} {b : Nat} {s : ByteArray} {p : Nat} (ty : TypeId) (hb : W.heap[b]? = some (.stringIter s p)) (h : ¬ p < s.size) :
    (Instr.next (.pointer (some ⟨b, 0, none⟩)) true ty).run P W = .ok (.tuple #[.bool false]) W := by
  simp [Instr.next, getObj, Sem.run, hb, h]
theorem iter_put {W : World} {b : Nat} {o : Obj} (hb : W.heap[b]? = some o) (o' : Obj) : (W.putObj b o').heap[b]? = some o' := World.putObj_heap_same (Array.getElem?_eq_some_iff.1 hb).1
theorem below_put {n : Nat} {w W : World} (h : Below n w W) {b : Nat} (hb : n ≤ b) (o : Obj) : Below n w (W.putObj b o) := ⟨h.1, h.2, h.3, by simpa [World.putObj] using h.4, fun k hk => (World.putObj_heap_other (by omega)).trans (h.5 k hk)⟩
/-- what IndexAny answers -/
def AnyPost (s : ByteArray) (w : World) (e : Ending) (w' : World) : Prop := ∃ k : Int, e = .returned (.int .i64 k) ∧ decide (0 ≤ k) = slashB s ∧ Below w.heap.size w w'
section
set_option maxRecDepth 1000000
set_option maxHeartbeats 8000000
theorem indexAny_short (s : ByteArray) (w : World) (h8 : s.size ≤ 8) : Calls Tryz.prog 169 #[.string s, .string bads] w (AnyPost s w) := by
  have hU := fun W => Shf.Tryz.strings_shouldUseASCIISet (s.size : Int) W
  have hno : decide ((8 : Int) < (s.size : Int)) = false := decide_eq_false (by omega)
  rw [hno] at hU
  have HF : Hid (∀ (i : Nat) W, i < s.size → (sb s i = 0 ∨ sb s i = 47) → Below w.heap.size w W → AnyPost s w (.returned (.int .i64 (i : Int))) W) := fun i W h1 h2 h3 => ⟨i, rfl, by
    rw [(slash_iff s).2 ⟨i, h1, h2⟩]
    exact decide_eq_true (by omega), h3⟩
  have HN : Hid (∀ W, (∀ i, i < s.size → ¬ sb s i = 0 ∧ ¬ sb s i = 47) → Below w.heap.size w W → AnyPost s w (.returned (.int .i64 (-1))) W) := fun W h1 h2 => ⟨-1, rfl, by rw [slash_no h1]; rfl, h2⟩
  have hR := Lib.hid (fun (r : Nat) W (h1 : 128 ≤ r) (h2 : r ≤ 2147483647) => indexRune_high bads r W bads_size bads_low h1 h2)
  have hA := Lib.hid (fun (r : Nat) W (h1 : r < 128) => Shf.Tryz.strings_IndexRune_ascii bads (r : Int) W (by omega) (by omega))
  have hI := Lib.hid (fun (x : UInt8) => Lib.contains_iff_indexByte bads.data.toList x)
  have hc1 : (bads.toList == []) = false := by rw [bads_list]; rfl
  have hc2 : ((bads.size : Int) == 1) = false := by decide
  have hc3 : bads.toList.isEmpty = false := by rw [bads_list]; rfl
  unfold AnyPost at *
  obtain ⟨Bd, hBd⟩ : ∃ Bd, bads = Bd := ⟨_, rfl⟩
  rw [hBd] at hR hA hI hc1 hc2 hc3 ⊢
  have HBd := Lib.hid hBd
  clear hno hBd
  go_enter Tryz.func169, Tryz.ntmps169
  go_wp2_with (go_at_call 188; (with_reducible refine Calls.mono (hU _) ?_); rintro e w' ⟨rfl, hw⟩; rw [hw]; clear hw w')
  go_loopg [9, 10] s.size (fun g _ _ wx => ∃ (X : World) (p : Nat), X = wx ∧ s.size ≤ p + g ∧ X.heap[w.heap.size]? = some (.stringIter s p) ∧ Hid (Below w.heap.size w X) ∧ Hid (∀ i, i < p → i < s.size → ¬ sb s i = 0 ∧ ¬ sb s i = 47))
  case atStart => exact ⟨_, 0, rfl, by omega, World.iter_heap w s 0, (Below.refl _ _).alloc (Nat.le_refl _) _, fun i h _ => absurd h (Nat.not_lt_zero _)⟩
  case round =>
    obtain ⟨wx, p, rfl, hpg, hit, HB, HQ⟩ := hrel
    by_cases hp : p < s.size
    · cases gk with
      | zero => omega
      | succ g =>
        have hbx := get_sb hp
        have hlt := sb_lt s p
        have hsx : (s[p]'hp).toNat = sb s p := by
          have h1 : s.data.toList[p]? = some (s[p]'hp) := Go.Proofs.byte_at s p hp
          unfold sb
          simp [h1]
        have hnx := fun ty => next_any (P := Tryz.prog) ty hit hp
        by_cases hx : sb s p < 128
        · have hx2 : (s[p]'hp).toNat < 128 := by omega
          rw [decode_ascii s p hp hx2, hsx] at hnx
          have hit2 := iter_put hit (.stringIter s (p + 1))
          have hB2 : Below w.heap.size w (wx.putObj w.heap.size (.stringIter s (p + 1))) := below_put HB.out (Nat.le_refl _) _
          obtain ⟨W2, hW2⟩ : ∃ W2, wx.putObj w.heap.size (.stringIter s (p + 1)) = W2 := ⟨_, rfl⟩
          dsimp only at hnx
          rw [hW2] at hnx hit2 hB2
          have hAx := hA.out (sb s p) W2 hx
          have hIx := hI.out (s[p]'hp)
          have hback : (((sb s p : Nat) : Int)).toNat.toUInt8 = s[p]'hp := by rw [← hsx]; simp
          rw [hback] at hAx
          rw [← HBd.out, contains_bads, hsx] at hIx
          rw [HBd.out] at hIx
          obtain ⟨k, hk⟩ : ∃ k : Int, Lib.indexByte Bd.data.toList (s[p]'hp) = k := ⟨_, rfl⟩
          rw [hk] at hAx hIx
          by_cases hy : sb s p = 0 ∨ sb s p = 47
          · have hk2 : (0 : Int) ≤ k := of_decide_eq_true (hIx.symm.trans (decide_eq_true hy))
            have HN3 := Lib.hid (HF.out p W2 hp hy hB2)
            obtain ⟨x, hxx⟩ : ∃ x : Nat, sb s p = x := ⟨_, rfl⟩
            rw [hxx] at hnx hAx
            clear hbx hlt hx hx2 hsx hIx hback hk hy hxx hit hW2 hB2
            go_wp2_with (go_at_call 187; (with_reducible refine Calls.mono hAx ?_); rintro e w' ⟨rfl, hw⟩; rw [hw]; clear hw w')
            go_ret
            exact HN3.out
          · have hk2 : ¬ (0 : Int) ≤ k := of_decide_eq_false (hIx.symm.trans (decide_eq_false hy))
            have HQ2 : Hid (∀ i, i < p + 1 → i < s.size → ¬ sb s i = 0 ∧ ¬ sb s i = 47) := fun i h1 h2 => by
              by_cases h3 : i < p
              · exact HQ.out i h3 h2
              · obtain rfl : i = p := by omega
                exact ⟨fun h => hy (.inl h), fun h => hy (.inr h)⟩
            obtain ⟨x, hxx⟩ : ∃ x : Nat, sb s p = x := ⟨_, rfl⟩
            rw [hxx] at hnx hAx
            have HB2 := Lib.hid hB2
            clear hbx hlt hx hx2 hsx hIx hback hk hy hxx hit hW2 hB2
            go_wp2_with (go_at_call 187; (with_reducible refine Calls.mono hAx ?_); rintro e w' ⟨rfl, hw⟩; rw [hw]; clear hw w')
            go_roundg g
            case measure => omega
            case rel => exact ⟨_, p + 1, rfl, by omega, hit2, HB2, HQ2⟩
        · obtain ⟨d1, d2⟩ := decode_high s p hp (by omega)
          have d3 := decode_le s p
          have d4 := decode_cont hp (by omega)
          obtain ⟨r, hr⟩ : ∃ r : Nat, (Utf8.decode s p).1 = r := ⟨_, rfl⟩
          obtain ⟨d, hd⟩ : ∃ d : Nat, (Utf8.decode s p).2 = d := ⟨_, rfl⟩
          rw [hr] at d1 d3
          rw [hd] at d2 d4
          simp only [hr, hd] at hnx
          have hit2 := iter_put hit (.stringIter s (p + d))
          have hB2 : Below w.heap.size w (wx.putObj w.heap.size (.stringIter s (p + d))) := below_put HB.out (Nat.le_refl _) _
          obtain ⟨W2, hW2⟩ : ∃ W2, wx.putObj w.heap.size (.stringIter s (p + d)) = W2 := ⟨_, rfl⟩
          rw [hW2] at hnx hit2 hB2
          have hRx := hR.out r W2 d1 d3
          have HQ2 : Hid (∀ i, i < p + d → i < s.size → ¬ sb s i = 0 ∧ ¬ sb s i = 47) := fun i h1 h2 => by
            by_cases h3 : i < p
            · exact HQ.out i h3 h2
            · have := d4 (i - p) (by omega) (by omega)
              rw [show p + (i - p) = i by omega] at this
              omega
          have hlt2 := (Array.getElem?_eq_some_iff.1 hit2).1
          have HB2 := Lib.hid hB2
          clear hbx hlt hx hsx hr hd d4 d1 d3 hit hW2 hB2
          go_wp2_with (go_at_call 187; (with_reducible refine Calls.mono hRx ?_); rintro e w' ⟨rfl, hBn⟩)
          have hit3 := (hBn.block _ hlt2).trans hit2
          have HB3 := Lib.hid (below_th HB2.out hBn)
          go_roundg g
          case measure => omega
          case rel => exact ⟨_, p + d, rfl, by omega, hit3, HB3, HQ2⟩
    · have hnx := fun ty => next_end (P := Tryz.prog) ty hit hp
      have HM := Lib.hid (HN.out wx (fun i h => HQ.out i (by omega) h) HB.out)
      go_wp2
      go_ret
      exact HM.out
theorem indexAny_any (s : ByteArray) (w : World) (hs : s.size ≤ 281474976) : Calls Tryz.prog 169 #[.string s, .string bads] w (AnyPost s w) := by
  by_cases h8 : s.size ≤ 8
  · exact indexAny_short s w h8
  · refine (Shf.Tryz.strings_IndexAny_long (fun W => by kernel_rfl) s bads w (by decide) (by omega) (by omega) (by decide) bads_ascii).mono ?_
    rintro e w' ⟨rfl, rfl⟩
    exact ⟨_, rfl, indexAny_iff _ _, below_al (below_new w _) _⟩
theorem containsAny_any (s : ByteArray) (w : World) (hs : s.size ≤ 281474976) : Calls Tryz.prog 141 #[.string s, .string bads] w (Ans w (.bool (slashB s))) := by
  have hI := Lib.hid (fun W => indexAny_any s W hs)
  unfold AnyPost at hI
  obtain ⟨B, hB⟩ : ∃ B, slashB s = B := ⟨_, rfl⟩
  rw [hB] at hI ⊢
  clear hB hs
  obtain ⟨Bd, hBd⟩ : ∃ Bd, bads = Bd := ⟨_, rfl⟩
  rw [hBd] at hI ⊢
  clear hBd
  go_enter Tryz.func141, Tryz.ntmps141
  go_wp2_with (go_at_call 169; (with_reducible refine Calls.mono (hI.out _) ?_); rintro e w1 ⟨k, rfl, hk, hBn⟩)
  go_ret
  exact ⟨by rw [← hk]; rfl, hBn⟩
theorem isName_any (s : ByteArray) (w : World) (hs : s.size ≤ 281474976710656) : Calls Tryz.prog 112 #[.string s] w (Ans w (.bool (nameB s))) := by
  by_cases h1 : s.size < 1
  · have HN := Lib.hid (nameB_no (s := s) (fun h => by have := h.1; omega))
    have g1 : decide ((s.size : Int) ≥ 1) = false := decide_eq_false (by omega)
    have g2 : ¬ ((s.size : Int) ≥ 1) := by omega
    clear h1 hs
    go_enter Tryz.func112, Tryz.ntmps112
    go_wp2
    go_ret
    exact ⟨by rw [HN.out]; rfl, Below.refl _ _⟩
  have g1 : ((s.size : Int) ≥ 1) := by omega
  by_cases h2 : 59 < s.size
  · have HN := Lib.hid (nameB_no (s := s) (fun h => by have := h.2.1; omega))
    have g2 : ¬ ((s.size : Int) ≤ 59) := by omega
    clear h1 h2 hs
    go_enter Tryz.func112, Tryz.ntmps112
    go_wp2
    go_ret
    exact ⟨by rw [HN.out]; rfl, Below.refl _ _⟩
  have g2 : ((s.size : Int) ≤ 59) := by omega
  by_cases h3 : s = ⟨#[46]⟩
  · subst h3
    have HN := Lib.hid (nameB_no (s := ⟨#[46]⟩) (fun h => h.2.2.1 rfl))
    clear h1 h2 hs g1 g2
    go_enter Tryz.func112, Tryz.ntmps112
    go_wp2
    go_ret
    exact ⟨by rw [HN.out]; rfl, Below.refl _ _⟩
  have g3 : (s.toList == [46]) = false := R.lit_no h3
  by_cases h4 : s = ⟨#[46, 46]⟩
  · subst h4
    have HN := Lib.hid (nameB_no (s := ⟨#[46, 46]⟩) (fun h => h.2.2.2.1 rfl))
    clear h1 h2 hs g1 g2 g3 h3
    go_enter Tryz.func112, Tryz.ntmps112
    go_wp2
    go_ret
    exact ⟨by rw [HN.out]; rfl, Below.refl _ _⟩
  have g4 : (s.toList == [46, 46]) = false := R.lit_no h4
  have hC := Lib.hid (fun W => containsAny_any s W (by omega))
  have HN : Hid (nameB s = !slashB s) := by
    unfold Hid
    cases hb : slashB s with
    | true =>
      refine nameB_no fun h => ?_
      obtain ⟨i, hi, hx⟩ := (slash_iff s).1 hb
      rcases hx with hx | hx
      · exact (h.2.2.2.2 i hi).1 hx
      · exact (h.2.2.2.2 i hi).2 hx
    | false => exact nameB_yes ⟨by omega, by omega, h3, h4, slash_not hb⟩
  obtain ⟨B, hB⟩ : ∃ B, slashB s = B := ⟨_, rfl⟩
  rw [hB] at hC HN
  unfold bads at hC
  clear hB h1 h2 hs h3 h4
  go_enter Tryz.func112, Tryz.ntmps112
  go_wp2_with (go_at_call 141; (with_reducible refine Calls.mono (hC.out _) ?_); rintro e w1 ⟨rfl, hBn⟩)
  go_ret
  exact ⟨by rw [HN.out]; rfl, hBn⟩
end
end Go.Proofs.YtkipkcmcolomcaaGreat.Dir
/- An entry of a directory in memory; entryAt of the program. -/
namespace Go.Proofs.YtkipkcmcolomcaaGreat.Dir
open Go.RowKit
attribute [local go_sem] Oper.semAt_some
set_option linter.unusedVariables false
set_option linter.unusedSimpArgs false

/-- a name, whose it is, and where its bytes stand -/
structure Et where
  name : ByteArray
  ino : Nat
  a : Nat
  b : Nat
def Et.zero : Et := ⟨⟨#[]⟩, 0, 0, 0⟩
def Et.val (t : Et) : Value := .agg #[.string t.name, .int .u32 t.ino, .int .i64 t.a, .int .i64 t.b]
def boxT (t : Et) : Obj := .cells #[.string t.name, .int .u32 t.ino, .int .i64 t.a, .int .i64 t.b] 123
def boxTZ : Obj := .cells #[.string ⟨#[]⟩, .int .u32 0, .int .i64 0, .int .i64 0] 123
def AtT (W : World) (b : Nat) (t : Et) : Prop := W.heap[b]? = some (.cells #[.string t.name, .int .u32 t.ino, .int .i64 t.a, .int .i64 t.b] 123 (0, 0))
theorem AtT.c {W : World} {b : Nat} {t : Et} (h : AtT W b t) : W.cell? ⟨b, 0, none⟩ = some (.string t.name) ∧ W.cell? ⟨b, 1, none⟩ = some (.int .u32 t.ino) ∧ W.cell? ⟨b, 2, none⟩ = some (.int .i64 t.a) ∧ W.cell? ⟨b, 3, none⟩ = some (.int .i64 t.b) := by
  unfold AtT at h
  simp only [World.cell?, h]
  exact ⟨rfl, rfl, rfl, rfl⟩
theorem AtT.f {W : World} {b : Nat} {t : Et} (h : AtT W b t) (i : Nat) : W.frozen? ⟨b, i, none⟩ = false := by
  unfold AtT at h
  simp [World.frozen?, h]
theorem AtT.lt {W : World} {b : Nat} {t : Et} (h : AtT W b t) : b < W.heap.size := (Array.getElem?_eq_some_iff.1 h).1
theorem AtT.th {W W' : World} {b : Nat} {t : Et} (h : AtT W b t) (hB : Below W.heap.size W W') : AtT W' b t := (hB.block b h.lt).trans h
theorem AtT.new (w : World) (t : Et) : AtT (w.alloc (boxT t)) w.heap.size t := World.alloc_heap_new w _
theorem AtT.newZ (w : World) : AtT (w.alloc boxTZ) w.heap.size Et.zero := AtT.new w Et.zero
theorem AtT.drew {W : World} {b : Nat} {t : Et} (h : AtT W b t) : AtT W.drew b t := h
theorem AtT.of_heap {W W' : World} {b : Nat} {t : Et} (h : AtT W b t) (hb : W'.heap[b]? = W.heap[b]?) : AtT W' b t := hb.trans h
theorem AtT.cZ {W : World} {b : Nat} (h : AtT W b Et.zero) : W.cell? ⟨b, 0, none⟩ = some (.string ⟨#[]⟩) ∧ W.cell? ⟨b, 1, none⟩ = some (.int .u32 0) ∧ W.cell? ⟨b, 2, none⟩ = some (.int .i64 0) ∧ W.cell? ⟨b, 3, none⟩ = some (.int .i64 0) := h.c
theorem AtT.put4 {W : World} {b : Nat} {s : Et} (h : AtT W b s) (t : Et) :
    (W.setCell ⟨b, 0, none⟩ (.string t.name)).cell? ⟨b, 0, none⟩ = some (.string t.name) ∧
    ((W.setCell ⟨b, 0, none⟩ (.string t.name)).setCell ⟨b, 1, none⟩ (.int .u32 t.ino)).cell? ⟨b, 1, none⟩ = some (.int .u32 t.ino) ∧
    (((W.setCell ⟨b, 0, none⟩ (.string t.name)).setCell ⟨b, 1, none⟩ (.int .u32 t.ino)).setCell ⟨b, 2, none⟩ (.int .i64 t.a)).cell? ⟨b, 2, none⟩ = some (.int .i64 t.a) ∧
    ((((W.setCell ⟨b, 0, none⟩ (.string t.name)).setCell ⟨b, 1, none⟩ (.int .u32 t.ino)).setCell ⟨b, 2, none⟩ (.int .i64 t.a)).setCell ⟨b, 3, none⟩ (.int .i64 t.b)).cell? ⟨b, 3, none⟩ = some (.int .i64 t.b) ∧
    AtT ((((W.setCell ⟨b, 0, none⟩ (.string t.name)).setCell ⟨b, 1, none⟩ (.int .u32 t.ino)).setCell ⟨b, 2, none⟩ (.int .i64 t.a)).setCell ⟨b, 3, none⟩ (.int .i64 t.b)) b t ∧
    Below b W ((((W.setCell ⟨b, 0, none⟩ (.string t.name)).setCell ⟨b, 1, none⟩ (.int .u32 t.ino)).setCell ⟨b, 2, none⟩ (.int .i64 t.a)).setCell ⟨b, 3, none⟩ (.int .i64 t.b)) := by
  unfold AtT at h
  have h0 := heap_setCell_same W b 0 _ _ (.string t.name) h
  have h1 := heap_setCell_same _ b 1 _ _ (.int .u32 t.ino) h0
  have h2 := heap_setCell_same _ b 2 _ _ (.int .i64 t.a) h1
  have h3 := heap_setCell_same _ b 3 _ _ (.int .i64 t.b) h2
  exact ⟨by simp only [World.cell?, h0]; rfl, by simp only [World.cell?, h1]; rfl, by simp only [World.cell?, h2]; rfl, by simp only [World.cell?, h3]; rfl, h3,
    ((((Below.refl b W).setCell (p := ⟨b, 0, none⟩) (Nat.le_refl _) _).setCell (p := ⟨b, 1, none⟩) (Nat.le_refl _) _).setCell (p := ⟨b, 2, none⟩) (Nat.le_refl _) _).setCell (p := ⟨b, 3, none⟩) (Nat.le_refl _) _⟩
theorem AtT.putZ {W : World} {b : Nat} {s : Et} (h : AtT W b s) :
    (W.setCell ⟨b, 0, none⟩ (.string ⟨#[]⟩)).cell? ⟨b, 0, none⟩ = some (.string ⟨#[]⟩) ∧
    ((W.setCell ⟨b, 0, none⟩ (.string ⟨#[]⟩)).setCell ⟨b, 1, none⟩ (.int .u32 0)).cell? ⟨b, 1, none⟩ = some (.int .u32 0) ∧
    (((W.setCell ⟨b, 0, none⟩ (.string ⟨#[]⟩)).setCell ⟨b, 1, none⟩ (.int .u32 0)).setCell ⟨b, 2, none⟩ (.int .i64 0)).cell? ⟨b, 2, none⟩ = some (.int .i64 0) ∧
    ((((W.setCell ⟨b, 0, none⟩ (.string ⟨#[]⟩)).setCell ⟨b, 1, none⟩ (.int .u32 0)).setCell ⟨b, 2, none⟩ (.int .i64 0)).setCell ⟨b, 3, none⟩ (.int .i64 0)).cell? ⟨b, 3, none⟩ = some (.int .i64 0) ∧
    AtT ((((W.setCell ⟨b, 0, none⟩ (.string ⟨#[]⟩)).setCell ⟨b, 1, none⟩ (.int .u32 0)).setCell ⟨b, 2, none⟩ (.int .i64 0)).setCell ⟨b, 3, none⟩ (.int .i64 0)) b Et.zero ∧
    Below b W ((((W.setCell ⟨b, 0, none⟩ (.string ⟨#[]⟩)).setCell ⟨b, 1, none⟩ (.int .u32 0)).setCell ⟨b, 2, none⟩ (.int .i64 0)).setCell ⟨b, 3, none⟩ (.int .i64 0)) := h.put4 Et.zero
theorem results_et {fn : Func} {r e : Tmp} (h : fn.results = #[.cell r 123, .tmp e]) (tmps : Array Value) (w : World) {b : Nat} {t : Et} (hp : tmps.getD r undef = .pointer (some ⟨b, 0, none⟩)) (hA : AtT w b t) :
    (results fn tmps).run Tryz.prog w = .ok (.tuple #[t.val, tmps.getD e undef]) w := by
  obtain ⟨c0, c1, c2, c3⟩ := hA.c
  rw [Array.getD_eq_getD_getElem?] at hp
  simp [results, h, hp, go_sem, c0, c1, c2, c3]
  rfl
/-- what stands at a place -/
def etOf (e : N) (a : Nat) : Et := ⟨e.name, e.ino, a, a + 6 + e.name.size⟩
def etV (s : ByteArray) (a : Nat) : Et := if good s a then etOf (here s a) a else Et.zero
theorem etV_yes {s : ByteArray} {a : Nat} (h : good s a) : etV s a = etOf (here s a) a := if_pos h
theorem etV_no {s : ByteArray} {a : Nat} (h : ¬ good s a) : etV s a = Et.zero := if_neg h
theorem ans_no {s : ByteArray} {a : Nat} {w w' : World} (h : ¬ good s a) (hB : Below w.heap.size w w') : Ans w (.tuple #[(etV s a).val, .bool (decide (good s a))]) (.returned (.tuple #[Et.zero.val, .bool false])) w' := by
  rw [etV_no h, decide_eq_false h]
  exact ⟨rfl, hB⟩
theorem ans_yes {s : ByteArray} {a : Nat} {w w' : World} (h : good s a) (hB : Below w.heap.size w w') : Ans w (.tuple #[(etV s a).val, .bool (decide (good s a))]) (.returned (.tuple #[(etOf (here s a) a).val, .bool true])) w' := by
  rw [etV_yes h, decide_eq_true h]
  exact ⟨rfl, hB⟩
section
set_option maxRecDepth 100000
set_option maxHeartbeats 4000000
theorem entryAt_any (s : ByteArray) (a : Nat) (w : World) (hs : s.size ≤ 281474976710656) (ha : a ≤ s.size) : Calls Tryz.prog 117 #[.string s, .int .i64 (a : Int)] w (Ans w (.tuple #[(etV s a).val, .bool (decide (good s a))])) := by
  have hT := Lib.hid (fun W => take_any s (a : Int) 4 W hs (by omega))
  have hK := Lib.hid (fun W => tok_any s ((a : Int) + 4) W hs (by omega))
  have hpp : (a : Int) + 4 = ((a + 4 : Nat) : Int) := by omega
  have hw1 : IntKind.i64.wrap ((a : Int) + 4) = (a : Int) + 4 := by rw [IntKind.wrap_i64]; omega
  have hts : (tokS s ((a : Int) + 4)).size ≤ 281474976710656 := by
    by_cases h : tokOk s ((a : Int) + 4)
    · rw [hpp] at h ⊢
      rw [tokS_yes h, ByteArray.size_extract]
      omega
    · rw [tokS_no h]
      decide
  have hNB := Lib.hid (fun W => isName_any (tokS s ((a : Int) + 4)) W hts)
  have HBAD : Hid (¬ good s a → ∀ W, Below w.heap.size w W → Ans w (.tuple #[(etV s a).val, .bool (decide (good s a))]) (.returned (.tuple #[Et.zero.val, .bool false])) W) := fun h W hB => ans_no h hB
  have HGOOD : Hid (good s a → ∀ W, Below w.heap.size w W → Ans w (.tuple #[(etV s a).val, .bool (decide (good s a))]) (.returned (.tuple #[(etOf (here s a) a).val, .bool true])) W) := fun h W hB => ans_yes h hB
  have HZ := Lib.hid (AtT.newZ w)
  have HB0 := Lib.hid (below_new w boxTZ)
  unfold boxTZ at HZ HB0
  obtain ⟨R, hR⟩ : ∃ R, Ans w (.tuple #[(etV s a).val, .bool (decide (good s a))]) = R := ⟨_, rfl⟩
  simp only [hR] at HBAD HGOOD ⊢
  clear hR
  by_cases k1 : takeOk s (a : Int) 4
  · have hv : takeV s (a : Int) 4 = ((takeN s a 4 : Nat) : Int) := by rw [takeV_yes k1, Int.toNat_natCast]; rfl
    rw [hv, takeE_yes k1] at hT
    by_cases k4 : takeN s a 4 = 0
    · have hng := HBAD.out (fun h => h.2.2.1 k4)
      have HN := Lib.hid hng
      rw [k4] at hT
      clear HBAD HGOOD hng hK hNB hpp hw1 hts hv k1 k4
      go_enter Tryz.func117, Tryz.ntmps117
      go_wp2_with (go_at_call 144; (with_reducible refine Calls.mono (hT.out _) ?_); rintro e w1 ⟨rfl, hB1⟩; have hZ1 := HZ.out.th hB1; obtain ⟨c0, c1, c2, c3⟩ := hZ1.cZ; have f0 := hZ1.f 0; have f1 := hZ1.f 1; have f2 := hZ1.f 2; have f3 := hZ1.f 3; obtain ⟨p0, p1, p2, p3, hP, hBp⟩ := hZ1.putZ; have HP := Lib.hid hP; have HBp := Lib.hid hBp; clear hP hBp hZ1)
      refine bodyPost_ret (results_et rfl _ _ rfl HP.out) rfl ?_
      exact HN.out _ ((below_th HB0.out hB1).trans HBp.out)
    · have q4 : (((takeN s a 4 : Nat) : Int) == 0) = false := beq_eq_false_iff_ne.2 (by omega)
      by_cases k2 : tokOk s ((a + 4 : Nat) : Int)
      · have hgd : hereOk s a := ⟨k1, k2⟩
        obtain ⟨z1, z2, z3⟩ := here_size hgd
        have hname : (here s a).name = tokS s ((a : Int) + 4) := by unfold here; rw [hpp]
        have hino : (here s a).ino = takeN s a 4 := rfl
        have hil := takeN_lt s a 4
        rw [show (256 : Nat) ^ 4 = 4294967296 by decide] at hil
        have hgi : good s a ↔ nameP (here s a).name := ⟨fun h => h.2.1, fun h => ⟨hgd, h, k4, hil⟩⟩
        have hgv : etOf (here s a) a = ⟨(here s a).name, (here s a).ino, a, a + 6 + (here s a).name.size⟩ := rfl
        rw [hgi] at HBAD HGOOD
        obtain ⟨X, hX⟩ : ∃ X, here s a = X := ⟨_, rfl⟩
        rw [hX] at z1 z2 z3 hname hino HBAD HGOOD hgv
        rw [hgv] at HGOOD
        rw [← hpp] at z3
        obtain ⟨xn, xi⟩ := X
        dsimp only at z1 z2 z3 hname hino HBAD HGOOD
        obtain ⟨xb, hxb⟩ : ∃ xb, a + 6 + xn.size = xb := ⟨_, rfl⟩
        rw [hxb] at z3 HGOOD
        rw [z3, tokE_yes (by rw [hpp]; exact k2), ← hname] at hK
        rw [← hname] at hNB
        rw [← hino] at hT hil q4
        have hwx : IntKind.u32.wrap (xi : Int) = (xi : Int) := by rw [IntKind.wrap_u32]; omega
        clear z1 z2 z3 hname hino hX hv hts hgi hgv k1 k2 k4 hgd hpp hil hxb
        by_cases k3 : nameP xn
        · have HN := Lib.hid (HGOOD.out k3)
          rw [nameB_yes k3] at hNB
          clear HBAD HGOOD k3
          unfold Et.val at HN
          dsimp only at HN
          go_enter Tryz.func117, Tryz.ntmps117
          go_wp2_with (first
            | (go_at_call 144; (with_reducible refine Calls.mono (hT.out _) ?_); rintro e w1 ⟨rfl, hB1⟩)
            | (go_at_call 145; (with_reducible refine Calls.mono (hK.out _) ?_); rintro e w2 ⟨rfl, hB2⟩)
            | (go_at_call 112; (with_reducible refine Calls.mono (hNB.out _) ?_); rintro e w3 ⟨rfl, hB3⟩; have hZ9 := ((HZ.out.th hB1).th hB2).th hB3; obtain ⟨c0, c1, c2, c3⟩ := hZ9.cZ; have f0 := hZ9.f 0; have f1 := hZ9.f 1; have f2 := hZ9.f 2; have f3 := hZ9.f 3; obtain ⟨p0, p1, p2, p3, hP, hBp⟩ := hZ9.put4 ⟨xn, xi, a, xb⟩; dsimp only at p0 p1 p2 p3 hP hBp; have HP := Lib.hid hP; have HBp := Lib.hid hBp; clear hP hBp hZ9))
          refine bodyPost_ret (results_et rfl _ _ rfl HP.out) rfl ?_
          exact HN.out _ ((below_th (below_th (below_th HB0.out hB1) hB2) hB3).trans HBp.out)
        · have HN := Lib.hid (HBAD.out k3)
          rw [nameB_no k3] at hNB
          clear HBAD HGOOD k3
          go_enter Tryz.func117, Tryz.ntmps117
          go_wp2_with (first
            | (go_at_call 144; (with_reducible refine Calls.mono (hT.out _) ?_); rintro e w1 ⟨rfl, hB1⟩)
            | (go_at_call 145; (with_reducible refine Calls.mono (hK.out _) ?_); rintro e w2 ⟨rfl, hB2⟩)
            | (go_at_call 112; (with_reducible refine Calls.mono (hNB.out _) ?_); rintro e w3 ⟨rfl, hB3⟩; have hZ9 := ((HZ.out.th hB1).th hB2).th hB3; obtain ⟨c0, c1, c2, c3⟩ := hZ9.cZ; have f0 := hZ9.f 0; have f1 := hZ9.f 1; have f2 := hZ9.f 2; have f3 := hZ9.f 3; obtain ⟨p0, p1, p2, p3, hP, hBp⟩ := hZ9.putZ; have HP := Lib.hid hP; have HBp := Lib.hid hBp; clear hP hBp hZ9))
          refine bodyPost_ret (results_et rfl _ _ rfl HP.out) rfl ?_
          exact HN.out _ ((below_th (below_th (below_th HB0.out hB1) hB2) hB3).trans HBp.out)
      · have HN := Lib.hid (HBAD.out (fun h => k2 h.1.2))
        rw [tokE_no (by rw [hpp]; exact k2)] at hK
        obtain ⟨xi, hxi⟩ : ∃ xi, takeN s a 4 = xi := ⟨_, rfl⟩
        rw [hxi] at hT q4
        generalize tokS s ((a : Int) + 4) = xn at hK
        generalize tokI s ((a : Int) + 4) = xj at hK
        clear HBAD HGOOD hts hNB hv k1 k2 k4 hpp hxi
        go_enter Tryz.func117, Tryz.ntmps117
        go_wp2_with (first
          | (go_at_call 144; (with_reducible refine Calls.mono (hT.out _) ?_); rintro e w1 ⟨rfl, hB1⟩)
          | (go_at_call 145; (with_reducible refine Calls.mono (hK.out _) ?_); rintro e w2 ⟨rfl, hB2⟩; have hZ9 := (HZ.out.th hB1).th hB2; obtain ⟨c0, c1, c2, c3⟩ := hZ9.cZ; have f0 := hZ9.f 0; have f1 := hZ9.f 1; have f2 := hZ9.f 2; have f3 := hZ9.f 3; obtain ⟨p0, p1, p2, p3, hP, hBp⟩ := hZ9.putZ; have HP := Lib.hid hP; have HBp := Lib.hid hBp; clear hP hBp hZ9))
        refine bodyPost_ret (results_et rfl _ _ rfl HP.out) rfl ?_
        exact HN.out _ ((below_th (below_th HB0.out hB1) hB2).trans HBp.out)
  · have HN := Lib.hid (HBAD.out (fun h => k1 h.1.1))
    rw [takeE_no k1] at hT
    generalize takeV s (a : Int) 4 = xi at hT
    clear HBAD HGOOD hK hNB hpp hw1 hts k1
    go_enter Tryz.func117, Tryz.ntmps117
    go_wp2_with (go_at_call 144; (with_reducible refine Calls.mono (hT.out _) ?_); rintro e w1 ⟨rfl, hB1⟩; have hZ9 := HZ.out.th hB1; obtain ⟨c0, c1, c2, c3⟩ := hZ9.cZ; have f0 := hZ9.f 0; have f1 := hZ9.f 1; have f2 := hZ9.f 2; have f3 := hZ9.f 3; obtain ⟨p0, p1, p2, p3, hP, hBp⟩ := hZ9.putZ; have HP := Lib.hid hP; have HBp := Lib.hid hBp; clear hP hBp hZ9)
    refine bodyPost_ret (results_et rfl _ _ rfl HP.out) rfl ?_
    exact HN.out _ ((below_th HB0.out hB1).trans HBp.out)
end
end Go.Proofs.YtkipkcmcolomcaaGreat.Dir
