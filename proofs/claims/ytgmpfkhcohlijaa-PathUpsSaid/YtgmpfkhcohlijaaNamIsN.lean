/- IsName of the program. -/
import Derived.Test.YtgmpfkhcohlijaaNameRef
import Derived.Test.YtgmpfkhcohlijaaNamRune
namespace Go.Proofs.Ytgmpfkhcohlijaa.Nam
open Go.RowKit Go.Lib
attribute [local go_sem] Oper.semAt_some
set_option linter.unusedVariables false
set_option linter.unusedSimpArgs false
/-- the two bytes that no name has -/
def bads : ByteArray := ⟨#[0, 47]⟩
theorem bads_size : bads.size = 2 := rfl
theorem bads_ascii : ∀ (j : Nat) b, bads.data.toList[j]? = some b → b.toNat < 128 := fun j b h => by
  match j, h with
  | 0, h => cases h; decide
  | 1, h => cases h; decide
theorem bads_low : ∀ i (h : i < bads.size), (bads[i]'h).toNat < 128 := fun i h => bads_ascii i _ (Go.Proofs.byte_at bads i h)
theorem bads_list : bads.toList = [0, 47] := by rw [Lib.toList_data]; rfl
/-- is one of them there? -/
def slashB (s : ByteArray) : Bool := s.data.toList.any fun b => bads.data.toList.contains b
theorem indexAny_iff (chars : List UInt8) : ∀ l : List UInt8, decide (0 ≤ Lib.indexAny l chars) = l.any fun b => chars.contains b
  | [] => rfl
  | b :: l => by
    have ih := indexAny_iff chars l
    have hge := Lib.indexAny_ge chars l
    rw [Lib.indexAny, List.any_cons]
    cases hc : chars.contains b with
    | true => simp
    | false =>
      rw [Bool.false_or, ← ih]
      by_cases h : Lib.indexAny l chars = -1
      · rw [h]; rfl
      · rw [if_neg Bool.false_ne_true, if_neg (by simpa using h)]
        exact decide_eq_decide.2 (by omega)
theorem contains_bads (b : UInt8) : bads.data.toList.contains b = decide (b.toNat = 0 ∨ b.toNat = 47) := by
  have h : bads.data.toList = [0, 47] := rfl
  rw [h, Bool.eq_iff_iff, decide_eq_true_iff, List.contains_iff_mem]
  simp only [List.mem_cons, List.not_mem_nil, or_false]
  constructor
  · rintro (rfl | rfl)
    · exact .inl rfl
    · exact .inr rfl
  · rintro (h | h)
    · exact .inl (UInt8.toNat_inj.1 h)
    · exact .inr (UInt8.toNat_inj.1 h)
theorem slash_iff (s : ByteArray) : slashB s = true ↔ ∃ i, i < s.size ∧ (sb s i = 0 ∨ sb s i = 47) := by
  unfold slashB
  rw [List.any_eq_true]
  constructor
  · rintro ⟨b, hb, hc⟩
    rw [contains_bads, decide_eq_true_iff] at hc
    obtain ⟨i, hi⟩ := List.getElem?_of_mem hb
    have hl := (List.getElem?_eq_some_iff.1 hi).1
    refine ⟨i, by simpa using hl, ?_⟩
    unfold sb
    rw [hi]
    exact hc
  · rintro ⟨i, hi, hc⟩
    have hl : i < s.data.toList.length := by simpa using hi
    refine ⟨s.data.toList[i], List.getElem_mem hl, ?_⟩
    rw [contains_bads, decide_eq_true_iff]
    unfold sb at hc
    rwa [List.getElem?_eq_getElem hl] at hc
theorem slash_no {s : ByteArray} (h : ∀ i, i < s.size → ¬ sb s i = 0 ∧ ¬ sb s i = 47) : slashB s = false := by
  rw [Bool.eq_false_iff]
  intro hc
  obtain ⟨i, hi, hx⟩ := (slash_iff s).1 hc
  rcases hx with hx | hx
  · exact (h i hi).1 hx
  · exact (h i hi).2 hx
theorem slash_not {s : ByteArray} (h : slashB s = false) : ∀ i, i < s.size → ¬ sb s i = 0 ∧ ¬ sb s i = 47 := fun i hi => by
  have hn : ¬ slashB s = true := by rw [h]; exact Bool.false_ne_true
  exact ⟨fun hx => hn ((slash_iff s).2 ⟨i, hi, .inl hx⟩), fun hx => hn ((slash_iff s).2 ⟨i, hi, .inr hx⟩)⟩
/-- one more rune of an iterator that lies anywhere -/
theorem next_any {P : Program} {W : World} {b : Nat} {s : ByteArray} {p : Nat} (ty : TypeId) (hb : W.heap[b]? = some (.stringIter s p)) (h : p < s.size) :
    (Instr.next (.pointer (some ⟨b, 0, none⟩)) true ty).run P W = .ok (.tuple #[.bool true, .int .i64 p, .int .i32 (Utf8.decode s p).1]) (W.putObj b (.stringIter s (p + (Utf8.decode s p).2))) := by
  simp only [Instr.next, getObj, setObj, Sem.run_bind, Sem.run, hb, Result.andThen, h, if_true, World.putObj]
  simp [goInt]
theorem next_end {P : Program} {W : World} {b : Nat} {s : ByteArray} {p : Nat} (ty : TypeId) (hb : W.heap[b]? = some (.stringIter s p)) (h : ¬ p < s.size) :
    (Instr.next (.pointer (some ⟨b, 0, none⟩)) true ty).run P W = .ok (.tuple #[.bool false]) W := by
  simp [Instr.next, getObj, Sem.run, hb, h]
theorem iter_put {W : World} {b : Nat} {o : Obj} (hb : W.heap[b]? = some o) (o' : Obj) : (W.putObj b o').heap[b]? = some o' := World.putObj_heap_same (Array.getElem?_eq_some_iff.1 hb).1
theorem below_put {n : Nat} {w W : World} (h : Below n w W) {b : Nat} (hb : n ≤ b) (o : Obj) : Below n w (W.putObj b o) := ⟨h.1, h.2, h.3, by simpa [World.putObj] using h.4, fun k hk => (World.putObj_heap_other (by omega)).trans (h.5 k hk)⟩
/-- what IndexAny answers -/
def AnyPost (s : ByteArray) (w : World) (e : Ending) (w' : World) : Prop := ∃ k : Int, e = .returned (.int .i64 k) ∧ decide (0 ≤ k) = slashB s ∧ Below w.heap.size w w'
section
set_option maxRecDepth 1000000
set_option maxHeartbeats 8000000
theorem indexAny_short (s : ByteArray) (w : World) (h8 : s.size ≤ 8) : Calls Try.prog 36 #[.string s, .string bads] w (AnyPost s w) := by
  have hU := fun W => Shf.Try.strings_shouldUseASCIISet (s.size : Int) W
  have hno : decide ((8 : Int) < (s.size : Int)) = false := decide_eq_false (by omega)
  rw [hno] at hU
  have HF : Hid (∀ (i : Nat) W, i < s.size → (sb s i = 0 ∨ sb s i = 47) → Below w.heap.size w W → AnyPost s w (.returned (.int .i64 (i : Int))) W) := fun i W h1 h2 h3 => ⟨i, rfl, by
    rw [(slash_iff s).2 ⟨i, h1, h2⟩]
    exact decide_eq_true (by omega), h3⟩
  have HN : Hid (∀ W, (∀ i, i < s.size → ¬ sb s i = 0 ∧ ¬ sb s i = 47) → Below w.heap.size w W → AnyPost s w (.returned (.int .i64 (-1))) W) := fun W h1 h2 => ⟨-1, rfl, by rw [slash_no h1]; rfl, h2⟩
  have hR := Lib.hid (fun (r : Nat) W (h1 : 128 ≤ r) (h2 : r ≤ 2147483647) => indexRune_high bads r W bads_size bads_low h1 h2)
  have hA := Lib.hid (fun (r : Nat) W (h1 : r < 128) => Shf.Try.strings_IndexRune_ascii bads (r : Int) W (by omega) (by omega))
  have hI := Lib.hid (fun (x : UInt8) => Lib.contains_iff_indexByte bads.data.toList x)
  have hc1 : (bads.toList == []) = false := by rw [bads_list]; rfl
  have hc2 : ((bads.size : Int) == 1) = false := by decide
  have hc3 : bads.toList.isEmpty = false := by rw [bads_list]; rfl
  unfold AnyPost at *
  obtain ⟨Bd, hBd⟩ : ∃ Bd, bads = Bd := ⟨_, rfl⟩
  rw [hBd] at hR hA hI hc1 hc2 hc3 ⊢
  have HBd := Lib.hid hBd
  clear hno hBd
  go_enter Try.func36, Try.ntmps36
  go_wp2_with (go_at_call 41; (with_reducible refine Calls.mono (hU _) ?_); rintro e w' ⟨rfl, hw⟩; rw [hw]; clear hw w')
  go_loopg [9, 10] s.size (fun g _ _ wx => ∃ (X : World) (p : Nat), X = wx ∧ s.size ≤ p + g ∧ X.heap[w.heap.size]? = some (.stringIter s p) ∧ Hid (Below w.heap.size w X) ∧ Hid (∀ i, i < p → i < s.size → ¬ sb s i = 0 ∧ ¬ sb s i = 47))
  case atStart => exact ⟨_, 0, rfl, by omega, World.iter_heap w s 0, (Below.refl _ _).alloc (Nat.le_refl _) _, fun i h _ => absurd h (Nat.not_lt_zero _)⟩
  case round =>
    obtain ⟨wx, p, rfl, hpg, hit, HB, HQ⟩ := hrel
    by_cases hp : p < s.size
    · cases gk with
      | zero => omega
      | succ g =>
        have hbx := get_sb hp
        have hlt := sb_lt s p
        have hsx : (s[p]'hp).toNat = sb s p := by
          have h1 : s.data.toList[p]? = some (s[p]'hp) := Go.Proofs.byte_at s p hp
          unfold sb
          simp [h1]
        have hnx := fun ty => next_any (P := Try.prog) ty hit hp
        by_cases hx : sb s p < 128
        · have hx2 : (s[p]'hp).toNat < 128 := by omega
          rw [decode_ascii s p hp hx2, hsx] at hnx
          have hit2 := iter_put hit (.stringIter s (p + 1))
          have hB2 : Below w.heap.size w (wx.putObj w.heap.size (.stringIter s (p + 1))) := below_put HB.out (Nat.le_refl _) _
          obtain ⟨W2, hW2⟩ : ∃ W2, wx.putObj w.heap.size (.stringIter s (p + 1)) = W2 := ⟨_, rfl⟩
          dsimp only at hnx
          rw [hW2] at hnx hit2 hB2
          have hAx := hA.out (sb s p) W2 hx
          have hIx := hI.out (s[p]'hp)
          have hback : (((sb s p : Nat) : Int)).toNat.toUInt8 = s[p]'hp := by rw [← hsx]; simp
          rw [hback] at hAx
          rw [← HBd.out, contains_bads, hsx] at hIx
          rw [HBd.out] at hIx
          obtain ⟨k, hk⟩ : ∃ k : Int, Lib.indexByte Bd.data.toList (s[p]'hp) = k := ⟨_, rfl⟩
          rw [hk] at hAx hIx
          by_cases hy : sb s p = 0 ∨ sb s p = 47
          · have hk2 : (0 : Int) ≤ k := of_decide_eq_true (hIx.symm.trans (decide_eq_true hy))
            have HN3 := Lib.hid (HF.out p W2 hp hy hB2)
            obtain ⟨x, hxx⟩ : ∃ x : Nat, sb s p = x := ⟨_, rfl⟩
            rw [hxx] at hnx hAx
            clear hbx hlt hx hx2 hsx hIx hback hk hy hxx hit hW2 hB2
            go_wp2_with (go_at_call 40; (with_reducible refine Calls.mono hAx ?_); rintro e w' ⟨rfl, hw⟩; rw [hw]; clear hw w')
            go_ret
            exact HN3.out
          · have hk2 : ¬ (0 : Int) ≤ k := of_decide_eq_false (hIx.symm.trans (decide_eq_false hy))
            have HQ2 : Hid (∀ i, i < p + 1 → i < s.size → ¬ sb s i = 0 ∧ ¬ sb s i = 47) := fun i h1 h2 => by
              by_cases h3 : i < p
              · exact HQ.out i h3 h2
              · obtain rfl : i = p := by omega
                exact ⟨fun h => hy (.inl h), fun h => hy (.inr h)⟩
            obtain ⟨x, hxx⟩ : ∃ x : Nat, sb s p = x := ⟨_, rfl⟩
            rw [hxx] at hnx hAx
            have HB2 := Lib.hid hB2
            clear hbx hlt hx hx2 hsx hIx hback hk hy hxx hit hW2 hB2
            go_wp2_with (go_at_call 40; (with_reducible refine Calls.mono hAx ?_); rintro e w' ⟨rfl, hw⟩; rw [hw]; clear hw w')
            go_roundg g
            case measure => omega
            case rel => exact ⟨_, p + 1, rfl, by omega, hit2, HB2, HQ2⟩
        · obtain ⟨d1, d2⟩ := decode_high s p hp (by omega)
          have d3 := decode_le s p
          have d4 := decode_cont hp (by omega)
          obtain ⟨r, hr⟩ : ∃ r : Nat, (Utf8.decode s p).1 = r := ⟨_, rfl⟩
          obtain ⟨d, hd⟩ : ∃ d : Nat, (Utf8.decode s p).2 = d := ⟨_, rfl⟩
          rw [hr] at d1 d3
          rw [hd] at d2 d4
          simp only [hr, hd] at hnx
          have hit2 := iter_put hit (.stringIter s (p + d))
          have hB2 : Below w.heap.size w (wx.putObj w.heap.size (.stringIter s (p + d))) := below_put HB.out (Nat.le_refl _) _
          obtain ⟨W2, hW2⟩ : ∃ W2, wx.putObj w.heap.size (.stringIter s (p + d)) = W2 := ⟨_, rfl⟩
          rw [hW2] at hnx hit2 hB2
          have hRx := hR.out r W2 d1 d3
          have HQ2 : Hid (∀ i, i < p + d → i < s.size → ¬ sb s i = 0 ∧ ¬ sb s i = 47) := fun i h1 h2 => by
            by_cases h3 : i < p
            · exact HQ.out i h3 h2
            · have := d4 (i - p) (by omega) (by omega)
              rw [show p + (i - p) = i by omega] at this
              omega
          have hlt2 := (Array.getElem?_eq_some_iff.1 hit2).1
          have HB2 := Lib.hid hB2
          clear hbx hlt hx hsx hr hd d4 d1 d3 hit hW2 hB2
          go_wp2_with (go_at_call 40; (with_reducible refine Calls.mono hRx ?_); rintro e w' ⟨rfl, hBn⟩)
          have hit3 := (hBn.block _ hlt2).trans hit2
          have HB3 := Lib.hid (below_th HB2.out hBn)
          go_roundg g
          case measure => omega
          case rel => exact ⟨_, p + d, rfl, by omega, hit3, HB3, HQ2⟩
    · have hnx := fun ty => next_end (P := Try.prog) ty hit hp
      have HM := Lib.hid (HN.out wx (fun i h => HQ.out i (by omega) h) HB.out)
      go_wp2
      go_ret
      exact HM.out
theorem indexAny_any (s : ByteArray) (w : World) (hs : s.size ≤ 281474976) : Calls Try.prog 36 #[.string s, .string bads] w (AnyPost s w) := by
  by_cases h8 : s.size ≤ 8
  · exact indexAny_short s w h8
  · refine (Shf.Try.strings_IndexAny_long (fun W => by kernel_rfl) s bads w (by decide) (by omega) (by omega) (by decide) bads_ascii).mono ?_
    rintro e w' ⟨rfl, rfl⟩
    exact ⟨_, rfl, indexAny_iff _ _, below_al (below_new w _) _⟩
theorem containsAny_any (s : ByteArray) (w : World) (hs : s.size ≤ 281474976) : Calls Try.prog 30 #[.string s, .string bads] w (Ans w (.bool (slashB s))) := by
  have hI := Lib.hid (fun W => indexAny_any s W hs)
  unfold AnyPost at hI
  obtain ⟨B, hB⟩ : ∃ B, slashB s = B := ⟨_, rfl⟩
  rw [hB] at hI ⊢
  clear hB hs
  obtain ⟨Bd, hBd⟩ : ∃ Bd, bads = Bd := ⟨_, rfl⟩
  rw [hBd] at hI ⊢
  clear hBd
  go_enter Try.func30, Try.ntmps30
  go_wp2_with (go_at_call 36; (with_reducible refine Calls.mono (hI.out _) ?_); rintro e w1 ⟨k, rfl, hk, hBn⟩)
  go_ret
  exact ⟨by rw [← hk]; rfl, hBn⟩
theorem isName_any (s : ByteArray) (w : World) (hs : s.size ≤ 281474976710656) : Calls Try.prog 20 #[.string s] w (Ans w (.bool (nameB s))) := by
  by_cases h1 : s.size < 1
  · have HN := Lib.hid (nameB_no (s := s) (fun h => by have := h.1; omega))
    have g1 : decide ((s.size : Int) ≥ 1) = false := decide_eq_false (by omega)
    have g2 : ¬ ((s.size : Int) ≥ 1) := by omega
    clear h1 hs
    go_enter Try.func20, Try.ntmps20
    go_wp2
    go_ret
    exact ⟨by rw [HN.out]; rfl, Below.refl _ _⟩
  have g1 : ((s.size : Int) ≥ 1) := by omega
  by_cases h2 : 59 < s.size
  · have HN := Lib.hid (nameB_no (s := s) (fun h => by have := h.2.1; omega))
    have g2 : ¬ ((s.size : Int) ≤ 59) := by omega
    clear h1 h2 hs
    go_enter Try.func20, Try.ntmps20
    go_wp2
    go_ret
    exact ⟨by rw [HN.out]; rfl, Below.refl _ _⟩
  have g2 : ((s.size : Int) ≤ 59) := by omega
  by_cases h3 : s = ⟨#[46]⟩
  · subst h3
    have HN := Lib.hid (nameB_no (s := ⟨#[46]⟩) (fun h => h.2.2.1 rfl))
    clear h1 h2 hs g1 g2
    go_enter Try.func20, Try.ntmps20
    go_wp2
    go_ret
    exact ⟨by rw [HN.out]; rfl, Below.refl _ _⟩
  have g3 : (s.toList == [46]) = false := R.lit_no h3
  by_cases h4 : s = ⟨#[46, 46]⟩
  · subst h4
    have HN := Lib.hid (nameB_no (s := ⟨#[46, 46]⟩) (fun h => h.2.2.2.1 rfl))
    clear h1 h2 hs g1 g2 g3 h3
    go_enter Try.func20, Try.ntmps20
    go_wp2
    go_ret
    exact ⟨by rw [HN.out]; rfl, Below.refl _ _⟩
  have g4 : (s.toList == [46, 46]) = false := R.lit_no h4
  have hC := Lib.hid (fun W => containsAny_any s W (by omega))
  have HN : Hid (nameB s = !slashB s) := by
    unfold Hid
    cases hb : slashB s with
    | true =>
      refine nameB_no fun h => ?_
      obtain ⟨i, hi, hx⟩ := (slash_iff s).1 hb
      rcases hx with hx | hx
      · exact (h.2.2.2.2 i hi).1 hx
      · exact (h.2.2.2.2 i hi).2 hx
    | false => exact nameB_yes ⟨by omega, by omega, h3, h4, slash_not hb⟩
  obtain ⟨B, hB⟩ : ∃ B, slashB s = B := ⟨_, rfl⟩
  rw [hB] at hC HN
  unfold bads at hC
  clear hB h1 h2 hs h3 h4
  go_enter Try.func20, Try.ntmps20
  go_wp2_with (go_at_call 30; (with_reducible refine Calls.mono (hC.out _) ?_); rintro e w1 ⟨rfl, hBn⟩)
  go_ret
  exact ⟨by rw [HN.out]; rfl, hBn⟩
end
end Go.Proofs.Ytgmpfkhcohlijaa.Nam
