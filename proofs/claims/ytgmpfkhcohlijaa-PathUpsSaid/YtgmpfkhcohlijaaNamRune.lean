/- The library's ContainsAny of two bytes below 128, of any text. -/
import Derived.Laws.RangeAny
import Derived.Laws.Runes
import Derived.Laws.Strings3
import Derived.Deep.LoopGhost
import Derived.Scope
import Derived.StillTailTactics
import Derived.Deep.RegionHeld3
import Derived.BigQuiet
import Derived.Test.YtgmpfkhcohlijaaShelf
import Derived.Test.YtgmpfkhcohlijaaNameRef
namespace Go.Proofs.Ytgmpfkhcohlijaa.Nam
open Go.RowKit Go.Lib
attribute [local go_sem] Oper.semAt_some
set_option linter.unusedVariables false
set_option linter.unusedSimpArgs false
theorem noGoto_ret {Q : Exit → Act → World → Prop} {a : Act} {w : World} (h : Q .ret a w) : Exit.noGoto Q .ret a w := h
theorem inBlock_ret {n : Nat} {Q : Exit → Act → World → Prop} {a : Act} {w : World} (h : Q .ret a w) : Exit.inBlock n Q .ret a w := h
theorem then_ret {K : Act → World → Prop} {Q : Exit → Act → World → Prop} {a : Act} {w : World} (h : Q .ret a w) : Exit.then K Q .ret a w := h
section
set_option maxRecDepth 1000000
set_option maxHeartbeats 4000000
theorem indexRune_error (s : ByteArray) (w : World) (h2 : s.size = 2) (ha : ∀ i (h : i < s.size), (s[i]'h).toNat < 128) :
    Calls Try.prog 40 #[.string s, .int .i32 65533] w fun e w' => e = .returned (.int .i64 (-1)) ∧ Below w.heap.size w w' := by
  go_enter Try.func40, Try.ntmps40
  go_wp2
  go_loopg [5, 6] 2 (fun g _ _ wx => ∃ i : Nat, i + g = 2 ∧ wx = w.iter s i)
  case atStart => exact ⟨0, by omega, rfl⟩
  case round =>
    obtain ⟨i, hig, rfl⟩ := hrel
    have HB := Lib.hid (show Below w.heap.size w (w.iter s i) from (Below.refl _ _).alloc (Nat.le_refl _) _)
    cases gk with
    | zero =>
      obtain rfl : i = 2 := by omega
      have hnx := run_next_end (P := Try.prog) w s 2
      have hnx2 := fun ty => hnx ty (by omega)
      go_wp2
      go_ret
      exact ⟨rfl, HB.out⟩
    | succ g =>
      have hi : i < s.size := by omega
      have hx := ha i hi
      have hnx := fun ty => run_next_ascii (P := Try.prog) w s i ty hi hx
      obtain ⟨x, hxx⟩ : ∃ x : Nat, (s[i]'hi).toNat = x := ⟨_, rfl⟩
      rw [hxx] at hx hnx
      have hq : ((x : Int) == 65533) = false := beq_eq_false_iff_ne.2 (by omega)
      go_wp2
      go_roundg g
      case measure => omega
      case rel => exact ⟨i + 1, by omega, rfl⟩
theorem indexRune_bad (s : ByteArray) (r : Nat) (w : World) (h1 : 128 ≤ r) (h2 : r ≤ 2147483647) (h3 : ¬ r = 65533) (hv : Lib.validRune r = false) :
    Calls Try.prog 40 #[.string s, .int .i32 r] w fun e w' => e = .returned (.int .i64 (-1)) ∧ Below w.heap.size w w' := by
  have hV := fun W => Shf.Try.utf8_ValidRune (r : Int) W
  rw [hv] at hV
  have q1 : ¬ ((r : Int) < 128) := by omega
  have q2 : ((r : Int) == 65533) = false := beq_eq_false_iff_ne.2 (by omega)
  clear hv
  go_enter Try.func40, Try.ntmps40
  go_wp2_with (go_at_call 51; (with_reducible refine Calls.mono (hV _) ?_); rintro e w' ⟨rfl, rfl⟩)
  go_ret
  exact ⟨rfl, Below.refl _ _⟩
theorem indexRune_wide (s : ByteArray) (r : Nat) (w : World) (hs : s.size = 2) (ha : ∀ i (h : i < s.size), (s[i]'h).toNat < 128) (h1 : 128 ≤ r) (h2 : r ≤ 2147483647) (h3 : ¬ r = 65533) (hv : Lib.validRune r = true) :
    Calls Try.prog 40 #[.string s, .int .i32 r] w fun e w' => e = .returned (.int .i64 (-1)) ∧ Below w.heap.size w w' := by
  have hV := fun W => Shf.Try.utf8_ValidRune (r : Int) W
  obtain ⟨z2, z4, zl⟩ := encode_facts (r : Int) (by rw [validRune_eq]; exact hv) (by omega)
  rw [hv] at hV
  have q1 : ¬ ((r : Int) < 128) := by omega
  have q2 : ((r : Int) == 65533) = false := beq_eq_false_iff_ne.2 (by omega)
  have hcv := fun (W : World) => run_convert_int_string (P := Try.prog) W 21 9 .i32 (r : Int) (by kernel_rfl) Try.underlying9
  obtain ⟨R, hR⟩ : ∃ R, Utf8.encode (r : Int) = R := ⟨_, rfl⟩
  rw [hR] at z2 z4 zl
  rw [hR] at hcv
  clear hv
  by_cases hn2 : R.size = 2
  · have hw1 : IntKind.i64.wrap ((R.size : Int) - 1) = 1 := by rw [IntKind.wrap_i64]; omega
    have hw2 : IntKind.i64.wrap 2 = 2 := by decide
    have hg : (1 : Int) < (s.size : Int) := by omega
    have hg2 : (1 : Int) < (R.size : Int) := by omega
    have hx : ∀ h : 1 < s.size, (((s[1]'h).toNat : Nat) : Int) = (((s[1]'(by omega)).toNat : Nat) : Int) := fun _ => rfl
    have hx1 := ha 1 (by omega)
    have hx2 := zl (by omega)
    have hx3 : 128 ≤ (R[1]'(by omega)).toNat := by
      have h : ∀ i (hi : i < R.size), i = 1 → 128 ≤ (R[i]'hi).toNat → 128 ≤ (R[1]'(by omega)).toNat := fun i hi e h => by subst e; exact h
      exact h (R.size - 1) (by omega) (by omega) hx2
    obtain ⟨x, hxx⟩ : ∃ x : Nat, (s[1]'(by omega)).toNat = x := ⟨_, rfl⟩
    obtain ⟨y, hyy⟩ : ∃ y : Nat, (R[1]'(by omega)).toNat = y := ⟨_, rfl⟩
    rw [hxx] at hx1
    rw [hyy] at hx3
    have e1 : ∀ h : 1 < s.size, (((s[1]'h).toNat : Nat) : Int) = (x : Int) := fun _ => by rw [hxx]
    have e2 : ∀ h : 1 < R.size, (((R[1]'h).toNat : Nat) : Int) = (y : Int) := fun _ => by rw [hyy]
    have hq : ((x : Int) != (y : Int)) = true := bne_iff_ne.2 (by omega)
    have hI := fun W => Shf.Try.strings_IndexByte ByteArray.empty (y : Int) W
    have hnil : ByteArray.empty.data.toList = [] := rfl
    rw [hnil] at hI
    have hI2 : Lib.indexByte [] ((y : Int).toNat.toUInt8) = -1 := rfl
    rw [hI2] at hI
    clear hxx hyy hx zl hx2 hnil hI2
    go_enter Try.func40, Try.ntmps40
    go_wp2_with (go_at_call 51; (with_reducible refine Calls.mono (hV _) ?_); rintro e w' ⟨rfl, rfl⟩)
    apply wp_scope_straight
    go_wp2
    refine wp_loop_rounds 1 ?_
    rw [rounds_succ]
    go_wp2
    apply wp_scope_straight
    go_wp2
    go_quiet (fail)
    go_wp2
    go_quiet ((go_at_call 50; exact (hI _).mono (fun _ _ ⟨he, hm⟩ => ⟨he, _, hm⟩)))
    go_wp2
    repeat (first | refine noGoto_ret ?_ | refine inBlock_ret ?_ | refine then_ret ?_)
    go_ret
    exact ⟨rfl, below_drewN (Below.refl _ _) _⟩
  · have hw1 : IntKind.i64.wrap ((R.size : Int) - 1) = (R.size : Int) - 1 := by rw [IntKind.wrap_i64]; omega
    obtain ⟨m, hm⟩ : ∃ m : Nat, R.size = m := ⟨_, rfl⟩
    rw [hm] at hw1
    have hn3 : ¬ ((m : Int) - 1 < 2) := by omega
    have hn4 : decide ((m : Int) - 1 < 2) = false := decide_eq_false hn3
    clear zl
    go_enter Try.func40, Try.ntmps40
    go_wp2_with (go_at_call 51; (with_reducible refine Calls.mono (hV _) ?_); rintro e w' ⟨rfl, rfl⟩)
    apply wp_scope_straight
    go_wp2
    refine wp_loop_rounds 1 ?_
    rw [rounds_succ]
    go_wp2
    repeat (first | refine noGoto_ret ?_ | refine inBlock_ret ?_ | refine then_ret ?_)
    go_ret
    exact ⟨rfl, Below.refl _ _⟩
theorem indexRune_high (s : ByteArray) (r : Nat) (w : World) (hs : s.size = 2) (ha : ∀ i (h : i < s.size), (s[i]'h).toNat < 128) (h1 : 128 ≤ r) (h2 : r ≤ 2147483647) :
    Calls Try.prog 40 #[.string s, .int .i32 r] w fun e w' => e = .returned (.int .i64 (-1)) ∧ Below w.heap.size w w' := by
  by_cases h3 : r = 65533
  · subst h3
    exact indexRune_error s w hs ha
  · cases hv : Lib.validRune r with
    | false => exact indexRune_bad s r w h1 h2 h3 hv
    | true => exact indexRune_wide s r w hs ha h1 h2 h3 hv
theorem get_sb {s : ByteArray} {j : Nat} (h : j < s.size) : (s.get! j).toNat = sb s j := by
  have h1 : s.data.toList[j]? = some (s[j]'h) := Go.Proofs.byte_at s j h
  have h2 : s.get! j = s[j]'h := get_at s j h
  rw [h2]
  unfold sb
  simp [h1]
/-- what a rune of more bytes than one is made of -/
theorem decode_cont {s : ByteArray} {p : Nat} (h : p < s.size) (ha : 128 ≤ sb s p) : ∀ k, k < (Utf8.decode s p).2 → p + k < s.size → 128 ≤ sb s (p + k) := by
  intro k hk hks
  match k, hk, hks with
  | 0, _, _ => exact ha
  | k + 1, hk, hks =>
    rw [← get_sb hks]
    have h0 : ¬ (s.get! (p + 0)).toNat < 128 := by
      have := get_sb (s := s) (j := p + 0) (by omega)
      rw [this]
      show ¬ sb s p < 128
      omega
    simp only [Utf8.decode, h0, if_false] at hk
    have hx : ∀ j, (s.get! (p + j)).toNat / 64 = 2 → 128 ≤ (s.get! (p + j)).toNat := fun j hj => by omega
    apply hx
    split at hk
    · rename_i hc
      simp only [Bool.and_eq_true, beq_iff_eq, decide_eq_true_eq] at hc
      have hk2 : k + 1 < 2 := by split at hk <;> simp at hk <;> omega
      obtain rfl : k = 0 := by omega
      exact hc.2.2
    · split at hk
      · rename_i hc
        simp only [Bool.and_eq_true, beq_iff_eq, decide_eq_true_eq] at hc
        have hk2 : k + 1 < 3 := by split at hk <;> simp at hk <;> omega
        obtain rfl | rfl : k = 0 ∨ k = 1 := by omega
        · exact hc.1.2.2
        · exact hc.2.2
      · split at hk
        · rename_i hc
          simp only [Bool.and_eq_true, beq_iff_eq, decide_eq_true_eq] at hc
          have hk2 : k + 1 < 4 := by split at hk <;> simp at hk <;> omega
          obtain rfl | rfl | rfl : k = 0 ∨ k = 1 ∨ k = 2 := by omega
          · exact hc.1.1.2.2
          · exact hc.1.2.2
          · exact hc.2.2
        · simp at hk
end
end Go.Proofs.Ytgmpfkhcohlijaa.Nam
