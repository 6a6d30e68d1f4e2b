/- Numbers put behind others in a slice of one's own. -/
import Derived.Deep.AppendLies
import Derived.Test.YtdakfdecfpebcaaBmpPost
namespace Go.Proofs.Ytdakfdecfpebcaa.Bmp
open Go.RowKit Ino
attribute [local go_sem] Oper.semAt_some
set_option linter.unusedVariables false
set_option linter.unusedSimpArgs false
theorem infoU32 : (Try.prog.info? 22).map (fun i => (i.zero, i.size, i.bytes)) = some (some (.int .u32 0), 1, 4) := by kernel_rfl
theorem run_append_u32s (w : World) (base : Nat) (v : Value) (n : Nat) (xs : List Value) (hown : w.ownsRow base 22 1 v n xs) (vL : Value) (L : List Nat) (hL : U32s w vL L) (h1 : n + L.length ≤ 100000) (hb : base ≤ w.heap.size) :
    ∃ v' w', (Builtin.append_ #[31, 31] 31 #[v, vL]).run Try.prog w = .ok v' w' ∧ w'.ownsRow base 22 1 v' (n + L.length) (xs ++ L.map (fun (n : Nat) => Value.int .u32 (n : Int))) ∧ w.grownBy w' v.ownBlock := by
  obtain ⟨i0, hi, hz0, hz1, hz2⟩ := info_parts infoU32
  obtain ⟨a, cap, rfl, hc1, hc2⟩ := hL.parts
  cases a with
  | none =>
    have hc0 : cap = 0 := Lies.none_cap hL
    have hl0 : L = [] := List.eq_nil_of_length_eq_zero (by omega)
    subst hl0
    subst hc0
    refine ⟨v, w, run_append_owned_none (P := Try.prog) w base 31 31 22 i0 1 Try.underlying31 hi v n xs hown, ?_, ⟨rfl, rfl, rfl, Nat.le_refl _, fun _ _ _ => rfl⟩⟩
    simpa using hown
  | some ad =>
    have hnews : ∀ j u, (L.map (fun (n : Nat) => Value.int .u32 (n : Int)))[j]? = some u → w.cell? (ad.add j) = some u := fun j u hj => by
      obtain ⟨a', cap', e, _, _, h4, h5⟩ := hL
      cases e
      have hl := (List.getElem?_eq_some_iff.1 hj).1
      rw [List.length_map] at hl
      obtain ⟨b, off, e2, hc⟩ := h5 (by omega)
      cases e2
      rw [add_plain]
      exact hc j u hj
    obtain ⟨v', w', hr, h2, h3, _⟩ := run_append_own (P := Try.prog) w base 31 31 22 i0 (.int .u32 0) 1 4 Try.underlying31 hi hz0 hz1 hz2 rfl (by decide) v n xs hown ad L.length cap (L.map (fun (n : Nat) => Value.int .u32 (n : Int))) (by rw [List.length_map, Nat.mul_one]) hnews (fun u hu => by obtain ⟨x, _, rfl⟩ := List.mem_map.1 hu; rfl) (by unfold maxLen; omega) (by omega) hb
    exact ⟨v', w', hr, h2, h3⟩
theorem wp_append_u32s {w : World} {o : Oper} {a : Act} {K : Act → World → Prop} {Q : Exit → Act → World → Prop} (s x : Operand)
    (ho : o.op = .call { callee := .builtin .append, args := #[s, x], argTypes := #[31, 31] }) (hty : o.type = 31)
    (base : Nat) (v : Value) (n : Nat) (xs : List Value) (hs : a.eval s = v) (hown : w.ownsRow base 22 1 v n xs) (vL : Value) (L : List Nat) (hx : a.eval x = vL) (hL : U32s w vL L) (h1 : n + L.length ≤ 100000) (hb : base ≤ w.heap.size)
    (h : ∀ v' w', w'.ownsRow base 22 1 v' (n + L.length) (xs ++ L.map (fun (n : Nat) => Value.int .u32 (n : Int))) → w.grownBy w' v.ownBlock → K (a.put o.dst v') w') : o.wp Try.prog a w K Q := by
  obtain ⟨v', w', hr, h2, h3⟩ := run_append_u32s w base v n xs hown vL L hL h1 hb
  unfold Oper.wp execOp
  simp only [ho, hty, resolve, invoke, builtin, Sem.run_bind, Sem.run_pure, Result.andThen_ok, List.map_toArray, List.map_cons, List.map_nil, hs, hx, hr]
  exact h v' w' h2 h3
theorem wpList_append_u32s {w : World} {ops : Array Oper} {rest : List Oper} {o : Oper} {a : Act} {Q : Exit → Act → World → Prop} (hgd : o.guard = none) (s x : Operand)
    (ho : o.op = .call { callee := .builtin .append, args := #[s, x], argTypes := #[31, 31] }) (hty : o.type = 31)
    (base : Nat) (v : Value) (n : Nat) (xs : List Value) (hs : a.eval s = v) (hown : w.ownsRow base 22 1 v n xs) (vL : Value) (L : List Nat) (hx : a.eval x = vL) (hL : U32s w vL L) (h1 : n + L.length ≤ 100000) (hb : base ≤ w.heap.size)
    (h : ∀ v' w', w'.ownsRow base 22 1 v' (n + L.length) (xs ++ L.map (fun (n : Nat) => Value.int .u32 (n : Int))) → w.grownBy w' v.ownBlock → wpList Try.prog ops Q rest (a.put o.dst v') w') : wpList Try.prog ops Q (o :: rest) a w :=
  wpList_plain hgd fun _ hK => wp_append_u32s s x ho hty base v n xs hs hown vL L hx hL h1 hb fun v' w' h2 h3 => hK _ _ (h v' w' h2 h3)
theorem U32s.own {w : World} {base : Nat} {v : Value} {L : List Nat} (h : w.ownsRow base 22 1 v L.length (L.map (fun (n : Nat) => Value.int .u32 (n : Int)))) : U32s w v L := Lies.own h
theorem own_u32 {W : World} {b base : Nat} {x : Nat} (h : W.heap[b]? = some (.cells #[.int .u32 (x : Int)] 22 (0, 0))) (hb : base ≤ b) : W.ownsRow base 22 1 (.slice (some ⟨b, 0, none⟩) 1 1) 1 [.int .u32 (x : Int)] :=
  ⟨rfl, .inr ⟨b, 1, #[.int .u32 (x : Int)], rfl, hb, h, Nat.le_refl _, by unfold maxLen; omega, rfl, rfl⟩⟩
end Go.Proofs.Ytdakfdecfpebcaa.Bmp
