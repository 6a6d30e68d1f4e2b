/- A text cut at each '/', step by step; texts put behind others in a slice of one's own. -/
import Derived.Test.YtkipkcmcolomcaaGreatPk12
import Derived.Deep.AppendLies
namespace Go.Proofs.YtkipkcmcolomcaaGreat.Pth
open Go.RowKit Nam
attribute [local go_sem] Oper.semAt_some
set_option linter.unusedVariables false
set_option linter.unusedSimpArgs false
theorem extract_list (s : ByteArray) (f k : Nat) : (s.extract f k).data.toList = (s.data.toList.drop f).take (k - f) := by
  rw [ByteArray.data_extract, Array.toList_extract]
theorem toB_is {l : List UInt8} {s : ByteArray} (h : l = s.data.toList) : toB l = s := by rw [h]; exact toB_data s
/-- no '/' from f up to k -/
def free (s : ByteArray) (f k : Nat) : Prop := ∀ j, f ≤ j → j < k → ¬ sb s j = 47
theorem free_mem {s : ByteArray} {f k : Nat} (h : free s f k) : ∀ c ∈ (s.data.toList.drop f).take (k - f), ¬ c = 47 := by
  intro c hc e
  obtain ⟨i, hi, he⟩ := List.getElem_of_mem hc
  rw [List.length_take] at hi
  have h1 : ((s.data.toList.drop f).take (k - f))[i]? = some 47 := by
    rw [List.getElem?_eq_getElem (by rw [List.length_take]; exact hi), he, e]
  rw [List.getElem?_take_of_lt (by omega), List.getElem?_drop] at h1
  refine h (f + i) (by omega) (by omega) ?_
  unfold sb
  rw [h1]
  rfl
/-- the pieces from f on -/
def pcsF (s : ByteArray) (f : Nat) : List ByteArray := (cutL (s.data.toList.drop f)).map toB
theorem size_list (s : ByteArray) : s.data.toList.length = s.size := by rw [Array.length_toList]; rfl
theorem pcs_here {s : ByteArray} {f k : Nat} (hf : f ≤ k) (hk : k < s.size) (h : free s f k) (h7 : sb s k = 47) : pcsF s f = s.extract f k :: pcsF s (k + 1) := by
  have hl := size_list s
  have hkl : k < s.data.toList.length := by omega
  have hg : s.data.toList[k] = 47 := by
    unfold sb at h7
    rw [List.getElem?_eq_getElem hkl] at h7
    exact UInt8.toNat_inj.1 h7
  have hd : s.data.toList.drop f = (s.data.toList.drop f).take (k - f) ++ 47 :: s.data.toList.drop (k + 1) := by
    conv => lhs; rw [← List.take_append_drop (k - f) (s.data.toList.drop f)]
    rw [List.drop_drop, show f + (k - f) = k by omega, List.drop_eq_getElem_cons hkl, hg]
  unfold pcsF
  rw [hd, cut_next (free_mem h), List.map_cons, toB_is (extract_list s f k).symm]
theorem pcs_end {s : ByteArray} {f : Nat} (hf : f ≤ s.size) (h : free s f s.size) : pcsF s f = [s.extract f s.size] := by
  have hd : s.data.toList.drop f = (s.data.toList.drop f).take (s.size - f) := by
    rw [List.take_of_length_le]
    rw [List.length_drop, size_list]
    omega
  unfold pcsF
  rw [hd, cut_last (free_mem h), List.map_cons, List.map_nil, toB_is (extract_list s f s.size).symm]
theorem pcsF_zero (s : ByteArray) : pcsF s 0 = pcs s := rfl
theorem infoStr : (Tryz.prog.info? 9).map (fun i => (i.zero, i.size, i.bytes)) = some (some (.string ⟨#[]⟩), 1, 16) := by kernel_rfl
theorem run_append_strs (w : World) (base : Nat) (v : Value) (n : Nat) (xs : List Value) (hown : w.ownsRow base 9 1 v n xs) (vL : Value) (L : List ByteArray) (hL : Strs w vL L) (h1 : n + L.length ≤ 100000) (hb : base ≤ w.heap.size) :
    ∃ v' w', (Builtin.append_ #[54, 54] 54 #[v, vL]).run Tryz.prog w = .ok v' w' ∧ w'.ownsRow base 9 1 v' (n + L.length) (xs ++ L.map .string) ∧ w.grownBy w' v.ownBlock := by
  obtain ⟨i0, hi, hz0, hz1, hz2⟩ := info_parts infoStr
  obtain ⟨a, cap, rfl, hc1, hc2⟩ := hL.parts
  cases a with
  | none =>
    have hc0 : cap = 0 := Lies.none_cap hL
    have hl0 : L = [] := List.eq_nil_of_length_eq_zero (by omega)
    subst hl0
    subst hc0
    refine ⟨v, w, run_append_owned_none (P := Tryz.prog) w base 54 54 9 i0 1 Tryz.underlying54 hi v n xs hown, ?_, ⟨rfl, rfl, rfl, Nat.le_refl _, fun _ _ _ => rfl⟩⟩
    simpa using hown
  | some ad =>
    have hnews : ∀ j u, (L.map Value.string)[j]? = some u → w.cell? (ad.add j) = some u := fun j u hj => by
      obtain ⟨a', cap', e, _, _, h4, h5⟩ := hL
      cases e
      have hl := (List.getElem?_eq_some_iff.1 hj).1
      rw [List.length_map] at hl
      obtain ⟨b, off, e2, hc⟩ := h5 (by omega)
      cases e2
      rw [add_plain]
      exact hc j u hj
    obtain ⟨v', w', hr, h2, h3, _⟩ := run_append_own (P := Tryz.prog) w base 54 54 9 i0 (.string ⟨#[]⟩) 1 16 Tryz.underlying54 hi hz0 hz1 hz2 rfl (by decide) v n xs hown ad L.length cap (L.map .string) (by rw [List.length_map, Nat.mul_one]) hnews (fun u hu => by obtain ⟨x, _, rfl⟩ := List.mem_map.1 hu; rfl) (by unfold maxLen; omega) (by omega) hb
    exact ⟨v', w', hr, h2, h3⟩
theorem wp_append_strs {w : World} {o : Oper} {a : Act} {K : Act → World → Prop} {Q : Exit → Act → World → Prop} (s x : Operand)
    (ho : o.op = .call { callee := .builtin .append, args := #[s, x], argTypes := #[54, 54] }) (hty : o.type = 54)
    (base : Nat) (v : Value) (n : Nat) (xs : List Value) (hs : a.eval s = v) (hown : w.ownsRow base 9 1 v n xs) (vL : Value) (L : List ByteArray) (hx : a.eval x = vL) (hL : Strs w vL L) (h1 : n + L.length ≤ 100000) (hb : base ≤ w.heap.size)
    (h : ∀ v' w', w'.ownsRow base 9 1 v' (n + L.length) (xs ++ L.map .string) → w.grownBy w' v.ownBlock → K (a.put o.dst v') w') : o.wp Tryz.prog a w K Q := by
  obtain ⟨v', w', hr, h2, h3⟩ := run_append_strs w base v n xs hown vL L hL h1 hb
  unfold Oper.wp execOp
  simp only [ho, hty, resolve, invoke, builtin, Sem.run_bind, Sem.run_pure, Result.andThen_ok, List.map_toArray, List.map_cons, List.map_nil, hs, hx, hr]
  exact h v' w' h2 h3
theorem wpList_append_strs {w : World} {ops : Array Oper} {rest : List Oper} {o : Oper} {a : Act} {Q : Exit → Act → World → Prop} (hgd : o.guard = none) (s x : Operand)
    (ho : o.op = .call { callee := .builtin .append, args := #[s, x], argTypes := #[54, 54] }) (hty : o.type = 54)
    (base : Nat) (v : Value) (n : Nat) (xs : List Value) (hs : a.eval s = v) (hown : w.ownsRow base 9 1 v n xs) (vL : Value) (L : List ByteArray) (hx : a.eval x = vL) (hL : Strs w vL L) (h1 : n + L.length ≤ 100000) (hb : base ≤ w.heap.size)
    (h : ∀ v' w', w'.ownsRow base 9 1 v' (n + L.length) (xs ++ L.map .string) → w.grownBy w' v.ownBlock → wpList Tryz.prog ops Q rest (a.put o.dst v') w') : wpList Tryz.prog ops Q (o :: rest) a w :=
  wpList_plain hgd fun _ hK => wp_append_strs s x ho hty base v n xs hs hown vL L hx hL h1 hb fun v' w' h2 h3 => hK _ _ (h v' w' h2 h3)
/-- a slice built of one text -/
theorem Strs.one {W : World} {b : Nat} {x : ByteArray} {ty : TypeId} (h : W.heap[b]? = some (.cells #[.string x] ty (0, 0))) : Strs W (.slice (some ⟨b, 0, none⟩) 1 1) [x] := by
  refine ⟨some ⟨b, 0, none⟩, 1, rfl, Nat.le_refl _, ⟨by unfold maxLen; omega, fun e => by cases e⟩, rfl, fun _ => ⟨b, 0, rfl, fun j u hj => ?_⟩⟩
  have hl := (List.getElem?_eq_some_iff.1 hj).1
  match j, hj with
  | 0, hj =>
    cases hj
    simp only [World.cell?, h]
    rfl
  | j + 1, hj => exact absurd hl (by show ¬ j + 1 < 1; omega)
theorem Strs.own {w : World} {base : Nat} {v : Value} {L : List ByteArray} (h : w.ownsRow base 9 1 v L.length (L.map .string)) : Strs w v L := Lies.own h
end Go.Proofs.YtkipkcmcolomcaaGreat.Pth
