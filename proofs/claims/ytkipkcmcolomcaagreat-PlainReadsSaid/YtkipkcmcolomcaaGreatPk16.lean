/- Several texts in one, each under its own heading. -/
import Derived.Laws.RangeAny
import Derived.Laws.Runes
import Derived.Laws.Strings3
import Derived.Deep.LoopGhost
import Derived.Scope
import Derived.StillTailTactics
import Derived.Deep.RegionHeld3
import Derived.BigQuiet
import Derived.Test.YtkipkcmcolomcaaGreatShelf
import Derived.Test.YtkipkcmcolomcaaGreatPk12
import Derived.Lib.Join
import Derived.Test.YtkipkcmcolomcaaGreatPk15
import Derived.StillTail
import Derived.OrdersIn
import Derived.RangeFuncCalls
import Derived.Test.YtkipkcmcolomcaaGreatPk09
/- The library's ContainsAny of two bytes below 128, of any text. -/
namespace Go.Proofs.YtkipkcmcolomcaaGreat.Nam
open Go.RowKit Go.Lib
attribute [local go_sem] Oper.semAt_some
set_option linter.unusedVariables false
set_option linter.unusedSimpArgs false
theorem noGoto_ret {Q : Exit → Act → World → Prop} {a : Act} {w : World} (h : Q .ret a w) : Exit.noGoto Q .ret a w := h
theorem inBlock_ret {n : Nat} {Q : Exit → Act → World → Prop} {a : Act} {w : World} (h : Q .ret a w) : Exit.inBlock n Q .ret a w := h
theorem then_ret {K : Act → World → Prop} {Q : Exit → Act → World → Prop} {a : Act} {w : World} (h : Q .ret a w) : Exit.then K Q .ret a w := h
section
set_option maxRecDepth 1000000
set_option maxHeartbeats 4000000
theorem indexRune_error (s : ByteArray) (w : World) (h2 : s.size = 2) (ha : ∀ i (h : i < s.size), (s[i]'h).toNat < 128) :
    Calls Tryz.prog 187 #[.string s, .int .i32 65533] w fun e w' => e = .returned (.int .i64 (-1)) ∧ Below w.heap.size w w' := by
  go_enter Tryz.func187, Tryz.ntmps187
  go_wp2
  go_loopg [5, 6] 2 (fun g _ _ wx => ∃ i : Nat, i + g = 2 ∧ wx = w.iter s i)
  case atStart => exact ⟨0, by omega, rfl⟩
  case round =>
    obtain ⟨i, hig, rfl⟩ := hrel
    have HB := Lib.hid (show Below w.heap.size w (w.iter s i) from (Below.refl _ _).alloc (Nat.le_refl _) _)
    cases gk with
    | zero =>
      obtain rfl : i = 2 := by omega
      have hnx := run_next_end (P := Tryz.prog) w s 2
      have hnx2 := fun ty => hnx ty (by omega)
      go_wp2
      go_ret
      exact ⟨rfl, HB.out⟩
    | succ g =>
      have hi : i < s.size := by omega
      have hx := ha i hi
      have hnx := fun ty => run_next_ascii (P := Tryz.prog) w s i ty hi hx
      obtain ⟨x, hxx⟩ : ∃ x : Nat, (s[i]'hi).toNat = x := ⟨_, rfl⟩
      rw [hxx] at hx hnx
      have hq : ((x : Int) == 65533) = false := beq_eq_false_iff_ne.2 (by omega)
      go_wp2
      go_roundg g
      case measure => omega
      case rel => exact ⟨i + 1, by omega, rfl⟩
theorem indexRune_bad (s : ByteArray) (r : Nat) (w : World) (h1 : 128 ≤ r) (h2 : r ≤ 2147483647) (h3 : ¬ r = 65533) (hv : Lib.validRune r = false) :
    Calls Tryz.prog 187 #[.string s, .int .i32 r] w fun e w' => e = .returned (.int .i64 (-1)) ∧ Below w.heap.size w w' := by
  have hV := fun W => Shf.Tryz.utf8_ValidRune (r : Int) W
  rw [hv] at hV
  have q1 : ¬ ((r : Int) < 128) := by omega
  have q2 : ((r : Int) == 65533) = false := beq_eq_false_iff_ne.2 (by omega)
  clear hv
  go_enter Tryz.func187, Tryz.ntmps187
  go_wp2_with (go_at_call 199; (with_reducible refine Calls.mono (hV _) ?_); rintro e w' ⟨rfl, rfl⟩)
  go_ret
  exact ⟨rfl, Below.refl _ _⟩
theorem indexRune_wide (s : ByteArray) (r : Nat) (w : World) (hs : s.size = 2) (ha : ∀ i (h : i < s.size), (s[i]'h).toNat < 128) (h1 : 128 ≤ r) (h2 : r ≤ 2147483647) (h3 : ¬ r = 65533) (hv : Lib.validRune r = true) :
    Calls Tryz.prog 187 #[.string s, .int .i32 r] w fun e w' => e = .returned (.int .i64 (-1)) ∧ Below w.heap.size w w' := by
  have hV := fun W => Shf.Tryz.utf8_ValidRune (r : Int) W
  obtain ⟨z2, z4, zl⟩ := encode_facts (r : Int) (by rw [validRune_eq]; exact hv) (by omega)
  rw [hv] at hV
  have q1 : ¬ ((r : Int) < 128) := by omega
  have q2 : ((r : Int) == 65533) = false := beq_eq_false_iff_ne.2 (by omega)
  have hcv := fun (W : World) => run_convert_int_string (P := Tryz.prog) W 21 9 .i32 (r : Int) (by kernel_rfl) Tryz.underlying9
  obtain ⟨R, hR⟩ : ∃ R, Utf8.encode (r : Int) = R := ⟨_, rfl⟩
  rw [hR] at z2 z4 zl
  rw [hR] at hcv
  clear hv
  by_cases hn2 : R.size = 2
  · have hw1 : IntKind.i64.wrap ((R.size : Int) - 1) = 1 := by rw [IntKind.wrap_i64]; omega
    have hw2 : IntKind.i64.wrap 2 = 2 := by decide
    have hg : (1 : Int) < (s.size : Int) := by omega
    have hg2 : (1 : Int) < (R.size : Int) := by omega
    have hx : ∀ h : 1 < s.size, (((s[1]'h).toNat : Nat) : Int) = (((s[1]'(by omega)).toNat : Nat) : Int) := fun _ => rfl
    have hx1 := ha 1 (by omega)
    have hx2 := zl (by omega)
    have hx3 : 128 ≤ (R[1]'(by omega)).toNat := by
      have h : ∀ i (hi : i < R.size), i = 1 → 128 ≤ (R[i]'hi).toNat → 128 ≤ (R[1]'(by omega)).toNat := fun i hi e h => by subst e; exact h
      exact h (R.size - 1) (by omega) (by omega) hx2
    obtain ⟨x, hxx⟩ : ∃ x : Nat, (s[1]'(by omega)).toNat = x := ⟨_, rfl⟩
    obtain ⟨y, hyy⟩ : ∃ y : Nat, (R[1]'(by omega)).toNat = y := ⟨_, rfl⟩
    rw [hxx] at hx1
    rw [hyy] at hx3
    have e1 : ∀ h : 1 < s.size, (((s[1]'h).toNat : Nat) : Int) = (x : Int) := fun _ => by rw [hxx]
    have e2 : ∀ h : 1 < R.size, (((R[1]'h).toNat : Nat) : Int) = (y : Int) := fun _ => by rw [hyy]
    have hq : ((x : Int) != (y : Int)) = true := bne_iff_ne.2 (by omega)
    have hI := fun W => Shf.Tryz.strings_IndexByte ByteArray.empty (y : Int) W
    have hnil : ByteArray.empty.data.toList = [] := rfl
    rw [hnil] at hI
    have hI2 : Lib.indexByte [] ((y : Int).toNat.toUInt8) = -1 := rfl
    rw [hI2] at hI
    clear hxx hyy hx zl hx2 hnil hI2
    go_enter Tryz.func187, Tryz.ntmps187
    go_wp2_with (go_at_call 199; (with_reducible refine Calls.mono (hV _) ?_); rintro e w' ⟨rfl, rfl⟩)
    apply wp_scope_straight
    go_wp2
    refine wp_loop_rounds 1 ?_
    rw [rounds_succ]
    go_wp2
    apply wp_scope_straight
    go_wp2
    go_quiet (fail)
    go_wp2
    go_quiet ((go_at_call 109; exact (hI _).mono (fun _ _ ⟨he, hm⟩ => ⟨he, _, hm⟩)))
    go_wp2
    repeat (first | refine noGoto_ret ?_ | refine inBlock_ret ?_ | refine then_ret ?_)
    go_ret
    exact ⟨rfl, below_drewN (Below.refl _ _) _⟩
  · have hw1 : IntKind.i64.wrap ((R.size : Int) - 1) = (R.size : Int) - 1 := by rw [IntKind.wrap_i64]; omega
    obtain ⟨m, hm⟩ : ∃ m : Nat, R.size = m := ⟨_, rfl⟩
    rw [hm] at hw1
    have hn3 : ¬ ((m : Int) - 1 < 2) := by omega
    have hn4 : decide ((m : Int) - 1 < 2) = false := decide_eq_false hn3
    clear zl
    go_enter Tryz.func187, Tryz.ntmps187
    go_wp2_with (go_at_call 199; (with_reducible refine Calls.mono (hV _) ?_); rintro e w' ⟨rfl, rfl⟩)
    apply wp_scope_straight
    go_wp2
    refine wp_loop_rounds 1 ?_
    rw [rounds_succ]
    go_wp2
    repeat (first | refine noGoto_ret ?_ | refine inBlock_ret ?_ | refine then_ret ?_)
    go_ret
    exact ⟨rfl, Below.refl _ _⟩
theorem indexRune_high (s : ByteArray) (r : Nat) (w : World) (hs : s.size = 2) (ha : ∀ i (h : i < s.size), (s[i]'h).toNat < 128) (h1 : 128 ≤ r) (h2 : r ≤ 2147483647) :
    Calls Tryz.prog 187 #[.string s, .int .i32 r] w fun e w' => e = .returned (.int .i64 (-1)) ∧ Below w.heap.size w w' := by
  by_cases h3 : r = 65533
  · subst h3
    exact indexRune_error s w hs ha
  · cases hv : Lib.validRune r with
    | false => exact indexRune_bad s r w h1 h2 h3 hv
    | true => exact indexRune_wide s r w hs ha h1 h2 h3 hv
theorem get_sb {s : ByteArray} {j : Nat} (h : j < s.size) : (s.get! j).toNat = sb s j := by
  have h1 : s.data.toList[j]? = some (s[j]'h) := Go.Proofs.byte_at s j h
  have h2 : s.get! j = s[j]'h := get_at s j h
  rw [h2]
  unfold sb
  simp [h1]
/-- what a rune of more bytes than one is made of -/
theorem decode_cont {s : ByteArray} {p : Nat} (h : p < s.size) (ha : 128 ≤ sb s p) : ∀ k, k < (Utf8.decode s p).2 → p + k < s.size → 128 ≤ sb s (p + k) := by
  intro k hk hks
  match k, hk, hks with
  | 0, _, _ => exact ha
  | k + 1, hk, hks =>
    rw [← get_sb hks]
    have h0 : ¬ (s.get! (p + 0)).toNat < 128 := by
      have := get_sb (s := s) (j := p + 0) (by omega)
      rw [this]
      show ¬ sb s p < 128
      omega
    simp only [Utf8.decode, h0, if_false] at hk
    have hx : ∀ j, (s.get! (p + j)).toNat / 64 = 2 → 128 ≤ (s.get! (p + j)).toNat := fun j hj => by omega
    apply hx
    split at hk
    · rename_i hc
      simp only [Bool.and_eq_true, beq_iff_eq, decide_eq_true_eq] at hc
      have hk2 : k + 1 < 2 := by split at hk <;> simp at hk <;> omega
      obtain rfl : k = 0 := by omega
      exact hc.2.2
    · split at hk
      · rename_i hc
        simp only [Bool.and_eq_true, beq_iff_eq, decide_eq_true_eq] at hc
        have hk2 : k + 1 < 3 := by split at hk <;> simp at hk <;> omega
        obtain rfl | rfl : k = 0 ∨ k = 1 := by omega
        · exact hc.1.2.2
        · exact hc.2.2
      · split at hk
        · rename_i hc
          simp only [Bool.and_eq_true, beq_iff_eq, decide_eq_true_eq] at hc
          have hk2 : k + 1 < 4 := by split at hk <;> simp at hk <;> omega
          obtain rfl | rfl | rfl : k = 0 ∨ k = 1 ∨ k = 2 := by omega
          · exact hc.1.1.2.2
          · exact hc.1.2.2
          · exact hc.2.2
        · simp at hk
end
end Go.Proofs.YtkipkcmcolomcaaGreat.Nam
/- IsName of the program. -/
namespace Go.Proofs.YtkipkcmcolomcaaGreat.Nam
open Go.RowKit Go.Lib
attribute [local go_sem] Oper.semAt_some
set_option linter.unusedVariables false
set_option linter.unusedSimpArgs false
/-- the two bytes that no name has -/
def bads : ByteArray := ⟨#[0, 47]⟩
theorem bads_size : bads.size = 2 := rfl
theorem bads_ascii : ∀ (j : Nat) b, bads.data.toList[j]? = some b → b.toNat < 128 := fun j b h => by
  match j, h with
  | 0, h => cases h; decide
  | 1, h => cases h; decide
theorem bads_low : ∀ i (h : i < bads.size), (bads[i]'h).toNat < 128 := fun i h => bads_ascii i _ (Go.Proofs.byte_at bads i h)
theorem bads_list : bads.toList = [0, 47] := by rw [Lib.toList_data]; rfl
/-- is one of them there? -/
def slashB (s : ByteArray) : Bool := s.data.toList.any fun b => bads.data.toList.contains b
theorem indexAny_iff (chars : List UInt8) : ∀ l : List UInt8, decide (0 ≤ Lib.indexAny l chars) = l.any fun b => chars.contains b
  | [] => rfl
  | b :: l => by
    have ih := indexAny_iff chars l
    have hge := Lib.indexAny_ge chars l
    rw [Lib.indexAny, List.any_cons]
    cases hc : chars.contains b with
    | true => simp
    | false =>
      rw [Bool.false_or, ← ih]
      by_cases h : Lib.indexAny l chars = -1
      · rw [h]; rfl
      · rw [if_neg Bool.false_ne_true, if_neg (by simpa using h)]
        exact decide_eq_decide.2 (by omega)
theorem contains_bads (b : UInt8) : bads.data.toList.contains b = decide (b.toNat = 0 ∨ b.toNat = 47) := by
  have h : bads.data.toList = [0, 47] := rfl
  rw [h, Bool.eq_iff_iff, decide_eq_true_iff, List.contains_iff_mem]
  simp only [List.mem_cons, List.not_mem_nil, or_false]
  constructor
  · rintro (rfl | rfl)
    · exact .inl rfl
    · exact .inr rfl
  · rintro (h | h)
    · exact .inl (UInt8.toNat_inj.1 h)
    · exact .inr (UInt8.toNat_inj.1 h)
theorem slash_iff (s : ByteArray) : slashB s = true ↔ ∃ i, i < s.size ∧ (sb s i = 0 ∨ sb s i = 47) := by
  unfold slashB
  rw [List.any_eq_true]
  constructor
  · rintro ⟨b, hb, hc⟩
    rw [contains_bads, decide_eq_true_iff] at hc
    obtain ⟨i, hi⟩ := List.getElem?_of_mem hb
    have hl := (List.getElem?_eq_some_iff.1 hi).1
    refine ⟨i, by simpa using hl, ?_⟩
    unfold sb
    rw [hi]
    exact hc
  · rintro ⟨i, hi, hc⟩
    have hl : i < s.data.toList.length := by simpa using hi
    refine ⟨s.data.toList[i], List.getElem_mem hl, ?_⟩
    rw [contains_bads, decide_eq_true_iff]
    unfold sb at hc
    rwa [List.getElem?_eq_getElem hl] at hc
theorem slash_no {s : ByteArray} (h : ∀ i, i < s.size → ¬ sb s i = 0 ∧ ¬ sb s i = 47) : slashB s = false := by
  rw [Bool.eq_false_iff]
  intro hc
  obtain ⟨i, hi, hx⟩ := (slash_iff s).1 hc
  rcases hx with hx | hx
  · exact (h i hi).1 hx
  · exact (h i hi).2 hx
theorem slash_not {s : ByteArray} (h : slashB s = false) : ∀ i, i < s.size → ¬ sb s i = 0 ∧ ¬ sb s i = 47 := fun i hi => by
  have hn : ¬ slashB s = true := by rw [h]; exact Bool.false_ne_true
  exact ⟨fun hx => hn ((slash_iff s).2 ⟨i, hi, .inl hx⟩), fun hx => hn ((slash_iff s).2 ⟨i, hi, .inr hx⟩)⟩
/-- one more rune of an iterator that lies anywhere -/
theorem next_any {P : Program} {W : World} {b : Nat} {s : ByteArray} {p : Nat} (ty : TypeId) (hb : W.heap[b]? = some (.stringIter s p)) (h : p < s.size) :
    (Instr.next (.pointer (some ⟨b, 0, none⟩)) true ty).run P W = .ok (.tuple #[.bool true, .int .i64 p, .int .i32 (Utf8.decode s p).1]) (W.putObj b (.stringIter s (p + (Utf8.decode s p).2))) := by
  simp only [Instr.next, getObj, setObj, Sem.run_bind, Sem.run, hb, Result.andThen, h, if_true, World.putObj]
  simp [goInt]
theorem next_end {P : Program} {W : World} {b : Nat} {s : ByteArray} {p : Nat} (ty : TypeId) (hb : W.heap[b]? = some (.stringIter s p)) (h : ¬ p < s.size) :
    (Instr.next (.pointer (some ⟨b, 0, none⟩)) true ty).run P W = .ok (.tuple #[.bool false]) W := by
  simp [Instr.next, getObj, Sem.run, hb, h]
theorem iter_put {W : World} {b : Nat} {o : Obj} (hb : W.heap[b]? = some o) (o' : Obj) : (W.putObj b o').heap[b]? = some o' := World.putObj_heap_same (Array.getElem?_eq_some_iff.1 hb).1
theorem below_put {n : Nat} {w W : World} (h : Below n w W) {b : Nat} (hb : n ≤ b) (o : Obj) : Below n w (W.putObj b o) := ⟨h.1, h.2, h.3, by simpa [World.putObj] using h.4, fun k hk => (World.putObj_heap_other (by omega)).trans (h.5 k hk)⟩
/-- what IndexAny answers -/
def AnyPost (s : ByteArray) (w : World) (e : Ending) (w' : World) : Prop := ∃ k : Int, e = .returned (.int .i64 k) ∧ decide (0 ≤ k) = slashB s ∧ Below w.heap.size w w'
section
set_option maxRecDepth 1000000
set_option maxHeartbeats 8000000
theorem indexAny_short (s : ByteArray) (w : World) (h8 : s.size ≤ 8) : Calls Tryz.prog 169 #[.string s, .string bads] w (AnyPost s w) := by
  have hU := fun W => Shf.Tryz.strings_shouldUseASCIISet (s.size : Int) W
  have hno : decide ((8 : Int) < (s.size : Int)) = false := decide_eq_false (by omega)
  rw [hno] at hU
  have HF : Hid (∀ (i : Nat) W, i < s.size → (sb s i = 0 ∨ sb s i = 47) → Below w.heap.size w W → AnyPost s w (.returned (.int .i64 (i : Int))) W) := fun i W h1 h2 h3 => ⟨i, rfl, by
    rw [(slash_iff s).2 ⟨i, h1, h2⟩]
    exact decide_eq_true (by omega), h3⟩
  have HN : Hid (∀ W, (∀ i, i < s.size → ¬ sb s i = 0 ∧ ¬ sb s i = 47) → Below w.heap.size w W → AnyPost s w (.returned (.int .i64 (-1))) W) := fun W h1 h2 => ⟨-1, rfl, by rw [slash_no h1]; rfl, h2⟩
  have hR := Lib.hid (fun (r : Nat) W (h1 : 128 ≤ r) (h2 : r ≤ 2147483647) => indexRune_high bads r W bads_size bads_low h1 h2)
  have hA := Lib.hid (fun (r : Nat) W (h1 : r < 128) => Shf.Tryz.strings_IndexRune_ascii bads (r : Int) W (by omega) (by omega))
  have hI := Lib.hid (fun (x : UInt8) => Lib.contains_iff_indexByte bads.data.toList x)
  have hc1 : (bads.toList == []) = false := by rw [bads_list]; rfl
  have hc2 : ((bads.size : Int) == 1) = false := by decide
  have hc3 : bads.toList.isEmpty = false := by rw [bads_list]; rfl
  unfold AnyPost at *
  obtain ⟨Bd, hBd⟩ : ∃ Bd, bads = Bd := ⟨_, rfl⟩
  rw [hBd] at hR hA hI hc1 hc2 hc3 ⊢
  have HBd := Lib.hid hBd
  clear hno hBd
  go_enter Tryz.func169, Tryz.ntmps169
  go_wp2_with (go_at_call 188; (with_reducible refine Calls.mono (hU _) ?_); rintro e w' ⟨rfl, hw⟩; rw [hw]; clear hw w')
  go_loopg [9, 10] s.size (fun g _ _ wx => ∃ (X : World) (p : Nat), X = wx ∧ s.size ≤ p + g ∧ X.heap[w.heap.size]? = some (.stringIter s p) ∧ Hid (Below w.heap.size w X) ∧ Hid (∀ i, i < p → i < s.size → ¬ sb s i = 0 ∧ ¬ sb s i = 47))
  case atStart => exact ⟨_, 0, rfl, by omega, World.iter_heap w s 0, (Below.refl _ _).alloc (Nat.le_refl _) _, fun i h _ => absurd h (Nat.not_lt_zero _)⟩
  case round =>
    obtain ⟨wx, p, rfl, hpg, hit, HB, HQ⟩ := hrel
    by_cases hp : p < s.size
    · cases gk with
      | zero => omega
      | succ g =>
        have hbx := get_sb hp
        have hlt := sb_lt s p
        have hsx : (s[p]'hp).toNat = sb s p := by
          have h1 : s.data.toList[p]? = some (s[p]'hp) := Go.Proofs.byte_at s p hp
          unfold sb
          simp [h1]
        have hnx := fun ty => next_any (P := Tryz.prog) ty hit hp
        by_cases hx : sb s p < 128
        · have hx2 : (s[p]'hp).toNat < 128 := by omega
          rw [decode_ascii s p hp hx2, hsx] at hnx
          have hit2 := iter_put hit (.stringIter s (p + 1))
          have hB2 : Below w.heap.size w (wx.putObj w.heap.size (.stringIter s (p + 1))) := below_put HB.out (Nat.le_refl _) _
          obtain ⟨W2, hW2⟩ : ∃ W2, wx.putObj w.heap.size (.stringIter s (p + 1)) = W2 := ⟨_, rfl⟩
          dsimp only at hnx
          rw [hW2] at hnx hit2 hB2
          have hAx := hA.out (sb s p) W2 hx
          have hIx := hI.out (s[p]'hp)
          have hback : (((sb s p : Nat) : Int)).toNat.toUInt8 = s[p]'hp := by rw [← hsx]; simp
          rw [hback] at hAx
          rw [← HBd.out, contains_bads, hsx] at hIx
          rw [HBd.out] at hIx
          obtain ⟨k, hk⟩ : ∃ k : Int, Lib.indexByte Bd.data.toList (s[p]'hp) = k := ⟨_, rfl⟩
          rw [hk] at hAx hIx
          by_cases hy : sb s p = 0 ∨ sb s p = 47
          · have hk2 : (0 : Int) ≤ k := of_decide_eq_true (hIx.symm.trans (decide_eq_true hy))
            have HN3 := Lib.hid (HF.out p W2 hp hy hB2)
            obtain ⟨x, hxx⟩ : ∃ x : Nat, sb s p = x := ⟨_, rfl⟩
            rw [hxx] at hnx hAx
            clear hbx hlt hx hx2 hsx hIx hback hk hy hxx hit hW2 hB2
            go_wp2_with (go_at_call 187; (with_reducible refine Calls.mono hAx ?_); rintro e w' ⟨rfl, hw⟩; rw [hw]; clear hw w')
            go_ret
            exact HN3.out
          · have hk2 : ¬ (0 : Int) ≤ k := of_decide_eq_false (hIx.symm.trans (decide_eq_false hy))
            have HQ2 : Hid (∀ i, i < p + 1 → i < s.size → ¬ sb s i = 0 ∧ ¬ sb s i = 47) := fun i h1 h2 => by
              by_cases h3 : i < p
              · exact HQ.out i h3 h2
              · obtain rfl : i = p := by omega
                exact ⟨fun h => hy (.inl h), fun h => hy (.inr h)⟩
            obtain ⟨x, hxx⟩ : ∃ x : Nat, sb s p = x := ⟨_, rfl⟩
            rw [hxx] at hnx hAx
            have HB2 := Lib.hid hB2
            clear hbx hlt hx hx2 hsx hIx hback hk hy hxx hit hW2 hB2
            go_wp2_with (go_at_call 187; (with_reducible refine Calls.mono hAx ?_); rintro e w' ⟨rfl, hw⟩; rw [hw]; clear hw w')
            go_roundg g
            case measure => omega
            case rel => exact ⟨_, p + 1, rfl, by omega, hit2, HB2, HQ2⟩
        · obtain ⟨d1, d2⟩ := decode_high s p hp (by omega)
          have d3 := decode_le s p
          have d4 := decode_cont hp (by omega)
          obtain ⟨r, hr⟩ : ∃ r : Nat, (Utf8.decode s p).1 = r := ⟨_, rfl⟩
          obtain ⟨d, hd⟩ : ∃ d : Nat, (Utf8.decode s p).2 = d := ⟨_, rfl⟩
          rw [hr] at d1 d3
          rw [hd] at d2 d4
          simp only [hr, hd] at hnx
          have hit2 := iter_put hit (.stringIter s (p + d))
          have hB2 : Below w.heap.size w (wx.putObj w.heap.size (.stringIter s (p + d))) := below_put HB.out (Nat.le_refl _) _
          obtain ⟨W2, hW2⟩ : ∃ W2, wx.putObj w.heap.size (.stringIter s (p + d)) = W2 := ⟨_, rfl⟩
          rw [hW2] at hnx hit2 hB2
          have hRx := hR.out r W2 d1 d3
          have HQ2 : Hid (∀ i, i < p + d → i < s.size → ¬ sb s i = 0 ∧ ¬ sb s i = 47) := fun i h1 h2 => by
            by_cases h3 : i < p
            · exact HQ.out i h3 h2
            · have := d4 (i - p) (by omega) (by omega)
              rw [show p + (i - p) = i by omega] at this
              omega
          have hlt2 := (Array.getElem?_eq_some_iff.1 hit2).1
          have HB2 := Lib.hid hB2
          clear hbx hlt hx hsx hr hd d4 d1 d3 hit hW2 hB2
          go_wp2_with (go_at_call 187; (with_reducible refine Calls.mono hRx ?_); rintro e w' ⟨rfl, hBn⟩)
          have hit3 := (hBn.block _ hlt2).trans hit2
          have HB3 := Lib.hid (below_th HB2.out hBn)
          go_roundg g
          case measure => omega
          case rel => exact ⟨_, p + d, rfl, by omega, hit3, HB3, HQ2⟩
    · have hnx := fun ty => next_end (P := Tryz.prog) ty hit hp
      have HM := Lib.hid (HN.out wx (fun i h => HQ.out i (by omega) h) HB.out)
      go_wp2
      go_ret
      exact HM.out
theorem indexAny_any (s : ByteArray) (w : World) (hs : s.size ≤ 281474976) : Calls Tryz.prog 169 #[.string s, .string bads] w (AnyPost s w) := by
  by_cases h8 : s.size ≤ 8
  · exact indexAny_short s w h8
  · refine (Shf.Tryz.strings_IndexAny_long (fun W => by kernel_rfl) s bads w (by decide) (by omega) (by omega) (by decide) bads_ascii).mono ?_
    rintro e w' ⟨rfl, rfl⟩
    exact ⟨_, rfl, indexAny_iff _ _, below_al (below_new w _) _⟩
theorem containsAny_any (s : ByteArray) (w : World) (hs : s.size ≤ 281474976) : Calls Tryz.prog 141 #[.string s, .string bads] w (Ans w (.bool (slashB s))) := by
  have hI := Lib.hid (fun W => indexAny_any s W hs)
  unfold AnyPost at hI
  obtain ⟨B, hB⟩ : ∃ B, slashB s = B := ⟨_, rfl⟩
  rw [hB] at hI ⊢
  clear hB hs
  obtain ⟨Bd, hBd⟩ : ∃ Bd, bads = Bd := ⟨_, rfl⟩
  rw [hBd] at hI ⊢
  clear hBd
  go_enter Tryz.func141, Tryz.ntmps141
  go_wp2_with (go_at_call 169; (with_reducible refine Calls.mono (hI.out _) ?_); rintro e w1 ⟨k, rfl, hk, hBn⟩)
  go_ret
  exact ⟨by rw [← hk]; rfl, hBn⟩
theorem isName_any (s : ByteArray) (w : World) (hs : s.size ≤ 281474976710656) : Calls Tryz.prog 112 #[.string s] w (Ans w (.bool (nameB s))) := by
  by_cases h1 : s.size < 1
  · have HN := Lib.hid (nameB_no (s := s) (fun h => by have := h.1; omega))
    have g1 : decide ((s.size : Int) ≥ 1) = false := decide_eq_false (by omega)
    have g2 : ¬ ((s.size : Int) ≥ 1) := by omega
    clear h1 hs
    go_enter Tryz.func112, Tryz.ntmps112
    go_wp2
    go_ret
    exact ⟨by rw [HN.out]; rfl, Below.refl _ _⟩
  have g1 : ((s.size : Int) ≥ 1) := by omega
  by_cases h2 : 59 < s.size
  · have HN := Lib.hid (nameB_no (s := s) (fun h => by have := h.2.1; omega))
    have g2 : ¬ ((s.size : Int) ≤ 59) := by omega
    clear h1 h2 hs
    go_enter Tryz.func112, Tryz.ntmps112
    go_wp2
    go_ret
    exact ⟨by rw [HN.out]; rfl, Below.refl _ _⟩
  have g2 : ((s.size : Int) ≤ 59) := by omega
  by_cases h3 : s = ⟨#[46]⟩
  · subst h3
    have HN := Lib.hid (nameB_no (s := ⟨#[46]⟩) (fun h => h.2.2.1 rfl))
    clear h1 h2 hs g1 g2
    go_enter Tryz.func112, Tryz.ntmps112
    go_wp2
    go_ret
    exact ⟨by rw [HN.out]; rfl, Below.refl _ _⟩
  have g3 : (s.toList == [46]) = false := R.lit_no h3
  by_cases h4 : s = ⟨#[46, 46]⟩
  · subst h4
    have HN := Lib.hid (nameB_no (s := ⟨#[46, 46]⟩) (fun h => h.2.2.2.1 rfl))
    clear h1 h2 hs g1 g2 g3 h3
    go_enter Tryz.func112, Tryz.ntmps112
    go_wp2
    go_ret
    exact ⟨by rw [HN.out]; rfl, Below.refl _ _⟩
  have g4 : (s.toList == [46, 46]) = false := R.lit_no h4
  have hC := Lib.hid (fun W => containsAny_any s W (by omega))
  have HN : Hid (nameB s = !slashB s) := by
    unfold Hid
    cases hb : slashB s with
    | true =>
      refine nameB_no fun h => ?_
      obtain ⟨i, hi, hx⟩ := (slash_iff s).1 hb
      rcases hx with hx | hx
      · exact (h.2.2.2.2 i hi).1 hx
      · exact (h.2.2.2.2 i hi).2 hx
    | false => exact nameB_yes ⟨by omega, by omega, h3, h4, slash_not hb⟩
  obtain ⟨B, hB⟩ : ∃ B, slashB s = B := ⟨_, rfl⟩
  rw [hB] at hC HN
  unfold bads at hC
  clear hB h1 h2 hs h3 h4
  go_enter Tryz.func112, Tryz.ntmps112
  go_wp2_with (go_at_call 141; (with_reducible refine Calls.mono (hC.out _) ?_); rintro e w1 ⟨rfl, hBn⟩)
  go_ret
  exact ⟨by rw [HN.out]; rfl, hBn⟩
end
end Go.Proofs.YtkipkcmcolomcaaGreat.Nam
/- Within, Join of the program. -/
namespace Go.Proofs.YtkipkcmcolomcaaGreat.Pth
open Go.RowKit Nam
attribute [local go_sem] Oper.semAt_some
set_option linter.unusedVariables false
set_option linter.unusedSimpArgs false
theorem empty_is : ByteArray.empty = (⟨#[]⟩ : ByteArray) := rfl
theorem Strs.cells {w : World} {a : Option Addr} {n cap : Nat} {X : List ByteArray} (h : Strs w (.slice a n cap) X) (h0 : 0 < X.length) : ∃ b off, a = some ⟨b, off, none⟩ ∧ ∀ j, j < X.length → w.cell? ⟨b, off + j, none⟩ = some (.string (X.getD j ⟨#[]⟩)) := by
  obtain ⟨b, off, e, _⟩ := h.get h0
  refine ⟨b, off, e, fun j hj => ?_⟩
  obtain ⟨b2, off2, e2, h2⟩ := h.get hj
  rw [e] at e2
  cases e2
  exact h2
theorem withinB_nil (B : List ByteArray) : withinB [] B = true := decide_eq_true rfl
theorem drewN_below (w : World) (q : Nat) : Below w.heap.size w (w.drewN q) := by
  induction q with
  | zero => exact Below.refl _ _
  | succ q ih => exact ih.drew
section
set_option maxRecDepth 100000
set_option maxHeartbeats 8000000
theorem within_any (v1 v2 : Value) (X Y : List ByteArray) (w : World) (h1 : Strs w v1 X) (h2 : Strs w v2 Y) : Calls Tryz.prog 125 #[v1, v2] w (Ans w (.bool (withinB X Y))) := by
  obtain ⟨a1, c1, rfl, p1, q1⟩ := h1.parts
  obtain ⟨a2, c2, rfl, p2, q2⟩ := h2.parts
  by_cases hl : X.length ≤ Y.length
  case neg =>
    have HF := Lib.hid (within_long (A := X) (B := Y) (by omega))
    have g1 : ¬ (X.length : Int) ≤ (Y.length : Int) := by omega
    clear h1 h2 hl
    go_enter Tryz.func125, Tryz.ntmps125
    go_wp2
    go_ret
    exact ⟨by rw [HF.out]; rfl, Below.refl _ _⟩
  have g1 : (X.length : Int) ≤ (Y.length : Int) := by omega
  by_cases h0 : X.length = 0
  · have hX : X = [] := List.eq_nil_of_length_eq_zero h0
    have hE := Lib.hid (fun a2' d W => Shf.Tryz.slices_Equal_string_empty a1 a2' c1 0 d W (by decide))
    subst hX
    have HF := Lib.hid (withinB_nil Y)
    clear h1 h2 h0
    simp only [List.length_nil] at g1 p1 hl ⊢
    go_enter Tryz.func125, Tryz.ntmps125
    go_wp2_with (go_at_call 165; (with_reducible refine Calls.mono (hE.out _ _ _) ?_); rintro e w1 ⟨rfl, rfl⟩)
    go_ret
    exact ⟨by rw [HF.out]; rfl, Below.refl _ _⟩
  obtain ⟨b1, o1, rfl, k1⟩ := h1.cells (by omega)
  obtain ⟨b2, o2, rfl, k2⟩ := h2.cells (by omega)
  have hE := Lib.hid (fun d => Shf.Tryz.slices_Equal_string b1 o1 X.length c1 b2 o2 X.length d X Y w (Nat.le_refl _) hl (by omega) (by omega) k1 k2)
  have HF : Hid (decide (X = Y.take X.length) = withinB X Y) := by
    unfold Hid withinB
    exact decide_eq_decide.2 eq_comm
  clear h1 h2 k1 k2
  go_enter Tryz.func125, Tryz.ntmps125
  go_wp2_with (go_at_call 165; (with_reducible refine Calls.mono (hE.out _) ?_); rintro e w1 ⟨rfl, q, rfl⟩)
  go_ret
  exact ⟨by rw [← HF.out]; rfl, drewN_below _ _⟩
/-- a name or none, of a text of any size -/
theorem isName_all (s : ByteArray) (w : World) : Calls Tryz.prog 112 #[.string s] w (Ans w (.bool (nameB s))) := by
  by_cases h : s.size ≤ 281474976710656
  · exact isName_any s w h
  · have HN := Lib.hid (nameB_no (s := s) (fun h => by have := h.2.1; omega))
    have g1 : ((s.size : Int) ≥ 1) := by omega
    have g2 : ¬ ((s.size : Int) ≤ 59) := by omega
    clear h
    go_enter Tryz.func112, Tryz.ntmps112
    go_wp2
    go_ret
    exact ⟨by rw [HN.out]; rfl, Below.refl _ _⟩
theorem areNames_any (v : Value) (L : List ByteArray) (w : World) (hL : Strs w v L) : Calls Tryz.prog 170 #[v] w (Ans w (.bool (decide (∀ q ∈ L, nameP q)))) := by
  obtain ⟨a, cap, rfl, p1, q1⟩ := hL.parts
  have HG := Lib.hid (fun W (h : Below w.heap.size w W) k (hk : k < L.length) => (hL.below h).get (k := k) hk)
  have HI := Lib.hid (fun k W => isName_all (L.getD k ⟨#[]⟩) W)
  have HN : Hid (∀ k, k < L.length → ¬ nameP (L.getD k ⟨#[]⟩) → decide (∀ q ∈ L, nameP q) = false) := fun k hk h => decide_eq_false fun h2 => h (h2 _ (getD_mem hk))
  have HY : Hid ((∀ j, j < L.length → nameP (L.getD j ⟨#[]⟩)) → decide (∀ q ∈ L, nameP q) = true) := fun h => decide_eq_true fun q hq => by
    obtain ⟨j, hj, e⟩ := mem_getD hq
    rw [← e]; exact h j hj
  obtain ⟨D, hD⟩ : ∃ D, decide (∀ q ∈ L, nameP q) = D := ⟨_, rfl⟩
  obtain ⟨n, hn⟩ : ∃ n, L.length = n := ⟨_, rfl⟩
  rw [hD] at HN HY ⊢
  rw [hn] at HN HY HG p1 ⊢
  clear hL hD hn
  obtain ⟨W0, rfl⟩ : ∃ W0 : World, W0 = w := ⟨_, rfl⟩
  go_enter Tryz.func170, Tryz.ntmps170
  go_wp2
  go_loopw [4, 7] (fun _ i wr => ∃ k : Nat, k ≤ n ∧ i = .int .i64 (k : Int) ∧ Hid (∀ j, j < k → nameP (L.getD j ⟨#[]⟩)) ∧ Hid (Below W0.heap.size W0 wr)) (fun _ i _ => n - (intOf i).toNat)
  case atStart => exact ⟨0, by omega, rfl, fun j hj => by omega, Below.refl _ _⟩
  case round =>
    obtain ⟨k, hk, rfl, HA, HB⟩ := hrel
    by_cases hlt : k < n
    · obtain ⟨b, off, e1, c1⟩ := HG.out _ HB.out k hlt
      cases e1
      have hI := HI.out k
      have hN := HN.out k hlt
      have hA2 : nameP (L.getD k ⟨#[]⟩) → ∀ j, j < k + 1 → nameP (L.getD j ⟨#[]⟩) := fun h j hj => by
        rcases Nat.lt_succ_iff_lt_or_eq.1 hj with h2 | h2
        · exact HA.out j h2
        · rw [h2]; exact h
      have HA2 := Lib.hid hA2
      obtain ⟨x, hx⟩ : ∃ x, L.getD k ⟨#[]⟩ = x := ⟨_, rfl⟩
      rw [hx] at c1 hI hN HA2
      have hlt2 : (k : Int) < (n : Int) := by omega
      by_cases hnm : nameP x
      · rw [nameB_yes hnm] at hI
        have HI2 := Lib.hid hI
        have HA3 := Lib.hid (HA2.out hnm)
        clear hI hN hA2 hx hnm
        go_wp2_with (go_at_call 112; (with_reducible refine Calls.mono (HI2.out _) ?_); rintro e w2 ⟨rfl, hB2⟩; have HB2 := Lib.hid (below_th HB.out hB2))
        go_roundw
        case rel => exact ⟨k + 1, by omega, by go_num, HA3.out, HB2.out⟩
        case measure => simp [intOf]; omega
      · rw [nameB_no hnm] at hI
        have HI2 := Lib.hid hI
        have H1 := Lib.hid (hN hnm)
        clear hI hN hA2 hx hnm
        go_wp2_with (go_at_call 112; (with_reducible refine Calls.mono (HI2.out _) ?_); rintro e w2 ⟨rfl, hB2⟩; have HB2 := Lib.hid (below_th HB.out hB2))
        go_ret
        exact ⟨by rw [H1.out]; rfl, HB2.out⟩
    · obtain rfl : k = n := by omega
      have H1 := Lib.hid (HY.out HA.out)
      have hge : ¬ ((k : Int) < (k : Int)) := by omega
      go_wp2
      go_ret
      exact ⟨by rw [H1.out]; rfl, HB.out⟩
/-- what the library joins -/
theorem join_is : ∀ (p : ByteArray) (r : List ByteArray), (slash ++ (⟨(Lib.join ((p :: r).map (·.data.toList)) [47]).toArray⟩ : ByteArray)) = joinS (p :: r) := by
  have h : ∀ r : List ByteArray, (Lib.joinTail [47] (r.map (·.data.toList))) = (joinS r).data.toList := by
    intro r
    induction r with
    | nil => rfl
    | cons q r ih =>
      show ([47] ++ q.data.toList) ++ Lib.joinTail [47] (r.map (·.data.toList)) = _
      rw [ih, joinS, app_list, app_list]
      rfl
  intro p r
  apply ba_ext
  rw [List.map_cons, Lib.join_cons, h r, joinS, app_list, app_list, app_list]
  show [47] ++ (p.data.toList ++ (joinS r).data.toList) = ([47] ++ p.data.toList) ++ (joinS r).data.toList
  rw [List.append_assoc]
theorem join_len (p : ByteArray) (r : List ByteArray) : (Lib.join ((p :: r).map (·.data.toList)) [47]).length + 1 = szP (p :: r) := by
  have h := congrArg ByteArray.size (join_is p r)
  rw [joinS_size, ByteArray.size_append] at h
  rw [← h]
  show _ = 1 + (Lib.join ((p :: r).map (·.data.toList)) [47]).toArray.size
  rw [List.size_toArray]
  omega
theorem join_any (v : Value) (L : List ByteArray) (w : World) (hL : Strs w v L) : Calls Tryz.prog 142 #[v] w (Ans w (.tuple #[.string (joinV L), .int .i64 (joinE L)])) := by
  have hA := areNames_any v L w hL
  have HB : Hid (¬ fitJ L → ∀ W, Below w.heap.size w W → Ans w (.tuple #[.string (joinV L), .int .i64 (joinE L)]) (.returned (.tuple #[.string ⟨#[]⟩, .int .i64 120])) W) := fun h W hB => ⟨by rw [(join_no h).1, (join_no h).2], hB⟩
  have HY : Hid (fitJ L → ∀ W, Below w.heap.size w W → Ans w (.tuple #[.string (joinV L), .int .i64 (joinE L)]) (.returned (.tuple #[.string (outJ L), .int .i64 0])) W) := fun h W hB => ⟨by rw [(join_yes h).1, (join_yes h).2], hB⟩
  obtain ⟨a, cap, rfl, p1, q1⟩ := hL.parts
  by_cases hl : 40 < L.length
  · have HF := Lib.hid (HB.out (fun h => by have := h.1; omega))
    have g1 : (40 : Int) < (L.length : Int) := by omega
    clear hL hl hA
    go_enter Tryz.func142, Tryz.ntmps142
    go_wp2
    go_returns
    exact HF.out _ (Below.refl _ _)
  have g1 : ¬ (40 : Int) < (L.length : Int) := by omega
  by_cases hn : ∀ q ∈ L, nameP q
  case neg =>
    have HF := Lib.hid (HB.out (fun h => hn h.2.1))
    rw [decide_eq_false hn] at hA
    have HA := Lib.hid hA
    clear hL hl hA hn
    go_enter Tryz.func142, Tryz.ntmps142
    go_wp2_with (go_at_call 170; (with_reducible refine Calls.mono HA.out ?_); rintro e w1 ⟨rfl, hB1⟩)
    go_returns
    exact HF.out _ hB1
  rw [decide_eq_true hn] at hA
  have HA := Lib.hid hA
  have hsz := szP_names L hn
  have hjoin : ∃ t : ByteArray, slash ++ t = outJ L ∧ t.size ≤ 3000 ∧ ∀ W, Below w.heap.size w W → Calls Tryz.prog 171 #[.slice a L.length cap, .string ⟨#[47]⟩] W (Ans W (.string t)) := by
    cases L with
    | nil => exact ⟨⟨#[]⟩, by decide, by decide, fun W _ => (Shf.Tryz.strings_Join_none a cap ⟨#[47]⟩ W).mono fun e w' h => ⟨h.1, by rw [h.2]; exact Below.refl _ _⟩⟩
    | cons p r =>
      obtain ⟨b, off, e, hc⟩ := hL.cells (by simp)
      have hz := join_len p r
      refine ⟨⟨(Lib.join ((p :: r).map (·.data.toList)) [47]).toArray⟩, ?_, ?_, fun W hW => ?_⟩
      · rw [join_is]
        exact (if_neg (by simp)).symm
      · show (Lib.join ((p :: r).map (·.data.toList)) [47]).toArray.size ≤ _
        rw [List.size_toArray]
        omega
      · subst e
        have hc2 : ∀ (j : Nat) x, (p :: r)[j]? = some x → W.cell? ⟨b, off + j, none⟩ = some (.string x) := fun j x hj => by
          have hjl := (List.getElem?_eq_some_iff.1 hj).1
          have h1 := hc j hjl
          rw [List.getD_eq_getElem?_getD, hj] at h1
          exact (hW.cell (p := ⟨b, off + j, none⟩) (World.block_lt_of_cell? _ _ h1)).trans h1
        have hb : b < W.heap.size := World.block_lt_of_cell? _ _ (hc2 0 p rfl)
        exact Shf.Tryz.strings_Join b off cap (p :: r) ⟨#[47]⟩ W hc2 hb (by omega) p1 (by show (Lib.join ((p :: r).map (·.data.toList)) [47]).length ≤ _; omega)
  obtain ⟨t, ht, htz, hJ⟩ := hjoin
  have HJ := Lib.hid hJ
  have hoz := outJ_size L
  rw [← ht] at hoz
  have hadd := fun W => run_string_add_sum (P := Tryz.prog) (w := W) ⟨#[47]⟩ t (by show 1 + t.size ≤ _; omega)
  have hsl : slash = ⟨#[47]⟩ := rfl
  rw [hsl] at ht hoz
  have hone : ((⟨#[47]⟩ : ByteArray) ++ t).size = 1 + t.size := by rw [ByteArray.size_append]; rfl
  have hmx : (1000 < ((⟨#[47]⟩ : ByteArray) ++ t).size) ↔ 1000 < szP L := by rw [hoz]; omega
  by_cases hbig : 1000 < ((⟨#[47]⟩ : ByteArray) ++ t).size
  · have HF := Lib.hid (HB.out (fun h => by have := h.2.2; have := hmx.1 hbig; omega))
    have g2 : (1000 : Int) < 1 + (t.size : Int) := by omega
    clear hL hl hA hn hJ hoz hmx hbig ht hsl hsz hone HY HB
    go_enter Tryz.func142, Tryz.ntmps142
    go_wp2_with (first
      | (go_at_call 170; (with_reducible refine Calls.mono HA.out ?_); rintro e w1 ⟨rfl, hB1⟩)
      | (go_at_call 171; (with_reducible refine Calls.mono (HJ.out _ hB1) ?_); rintro e w2 ⟨rfl, hB2⟩))
    go_returns
    exact HF.out _ (below_th hB1 hB2)
  · have HF := Lib.hid (HY.out ⟨by omega, hn, by have := fun h => hbig (hmx.2 h); omega⟩)
    rw [← ht] at HF
    have g2 : ¬ (1000 : Int) < 1 + (t.size : Int) := by omega
    clear hL hl hA hn hJ hoz hmx hbig ht hsl hsz hone HY HB
    go_enter Tryz.func142, Tryz.ntmps142
    go_wp2_with (first
      | (go_at_call 170; (with_reducible refine Calls.mono HA.out ?_); rintro e w1 ⟨rfl, hB1⟩)
      | (go_at_call 171; (with_reducible refine Calls.mono (HJ.out _ hB1) ?_); rintro e w2 ⟨rfl, hB2⟩))
    go_returns
    exact HF.out _ (below_th hB1 hB2)
end
end Go.Proofs.YtkipkcmcolomcaaGreat.Pth
/- A region that draws its order, in a loop's body over an iterator (a fence with a round): what a plain walk of the region shows holds there too; so the law of the quiet beginning serves. -/
namespace Go.Proofs.YtkipkcmcolomcaaGreat
set_option linter.unusedVariables false

section
variable {P : Program} {ops : Array Oper} {Q : Exit → Act → World → Prop} {md : Region.Mode}

def noDefer (ops : Array Oper) : Bool := ops.all fun o => match o.op with | .defer _ => false | _ => true
theorem noDefer_at {i : Nat} {o : Oper} (h : noDefer ops = true) (hi : ops[i]? = some o) : ∀ c, o.op ≠ .defer c := by
  intro c hc
  have := (Array.all_eq_true.1 h) i (Array.getElem?_eq_some_iff.1 hi).1
  obtain ⟨hl, he⟩ := Array.getElem?_eq_some_iff.1 hi
  rw [he] at this
  simp [hc] at this

theorem upIn_of_up {l n : Nat} {o : Oper} {a : Act} {K : Act → World → Prop} {r : Result Next} (h : o.upon P a K Q r) : o.uponIn (Fence.wide.inRound l) n P a K Q r := by
  cases r with
  | ok x w' =>
    cases x <;> simp only [Oper.upon] at h <;> try exact h
    · exact ⟨fun hd => absurd hd (by simp [Fence.wide]), CallsIn.inRound l (callsIn_wide.2 h)⟩
    · refine ⟨fun hd => absurd hd (by simp [Fence.wide]), fun c cs _ => ?_⟩
      obtain ⟨v, w'', r, s⟩ := h c cs
      exact ⟨v, w'', r, stepsIn_wide.2 s⟩
  | halt x w' => cases x <;> simp only [Oper.upon] at h <;> exact h

theorem opIn_of_op {l n i : Nat} {K : Act → World → Prop} {a : Act} {w : World} (hd : noDefer ops = true) (hQ : ¬ LetsOut Q) (h : wpOp P ops Q i K a w) : wpOpIn (Fence.wide.inRound l) n P ops Q i K a w := by
  unfold wpOp at h
  unfold wpOpIn
  cases hi : ops[i]? with
  | none => simp only [hi] at h ⊢; exact h
  | some o =>
    simp only [hi] at h ⊢
    split
    · rename_i hw
      simp only [hw, if_true] at h
      rcases h with h | h
      · exact ⟨fun _ _ => trivial, by rw [Oper.semAt_eq _ _ _ (noDefer_at hd hi)]; exact upIn_of_up h⟩
      · exact absurd h.2 hQ
    · rename_i hw
      simp only [hw] at h
      exact ⟨fun _ _ => trivial, h⟩
theorem anyIn_of_any {l n : Nat} (hd : noDefer ops = true) (hQ : ¬ LetsOut Q) : ∀ (fuel : Nat) (listed : Array Bool) (a : Act) (w : World), wpAny P md ops Q fuel listed a w → wpAnyIn (Fence.wide.inRound l) n P md ops Q fuel listed a w
  | 0, _, _, _, h => h
  | fuel + 1, _, _, _, h => ⟨h.1, fun i hi => wpOpIn_mono (fun _ _ hh => anyIn_of_any hd hQ fuel _ _ _ hh) (opIn_of_op hd hQ (h.2 i hi))⟩

theorem wpIn_round_still_tail {l0 nF : Nat} {id : Nat} {a : Act} {w : World} {l : List Oper} (n : Nat) (hm : P.follows .mixedOrders = true) (hB : Region.lexTailB .any l.toArray n = true) (hd : noDefer l.toArray = true) (hQ : ¬ LetsOut Q)
    (h : wpStill P l.toArray w.drew (fun a' => wpList P l.toArray Q (l.drop n) a' w.drew) (l.take n) a) : (Code.region id l.toArray true).wpIn (Fence.wide.inRound l0) nF P Q a w := by
  simp only [Region.lexTailB, Bool.and_eq_true, decide_eq_true_eq] at hB
  obtain ⟨⟨⟨⟨hsel, hn⟩, hs⟩, hc⟩, hlex⟩ := hB
  have hn' : n < l.length := by simpa using hn
  have htl : (l.take n).length = n := by simp; omega
  have hdl : (l.drop n).length = l.toArray.size - n := by simp
  have inv0 : HeadInv .any l.toArray n (Array.replicate l.toArray.size false) :=
    ⟨by simp, fun j oj _ hl => (by rw [getD_replicate_false] at hl; cases hl), fun t _ ht => getD_in (by simpa using ht) (getD_replicate_false _ _)⟩
  have H := wpAnyL_lex (md := .any) (g := l.toArray.size - n) hsel hs hc hn (l.take n) 0 _ a (fun j hj => by
    have hj' : j < n := by rw [htl] at hj; exact hj
    simp [hj']) (by simpa using htl) inv0 (by rw [htl]; exact hlex) h
  refine wpIn_region_any hm (anyIn_of_any hd hQ _ _ _ _ ?_)
  have := wpAny_of_head (Q' := Q) (g := l.toArray.size - n) (fun listed a' hL => by
    have := wpAny_of_seq (md := .any) (Q' := Q) (l.drop n) n listed a' w.drew (fun j => by simp [List.getElem?_drop]) (by rw [hdl]; exact hL.1) hL.2
    rwa [hdl] at this) _ _ _ H
  rw [htl, show n + (l.toArray.size - n) = l.toArray.size by omega] at this
  exact this
end
end Go.Proofs.YtkipkcmcolomcaaGreat
