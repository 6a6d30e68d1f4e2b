/- The document's List. -/
import Derived.Test.YtafbkagoajcmeaaDirRefT
namespace Go.Proofs.Ytafbkagoajcmeaa.Dir
open Go.RowKit
attribute [local go_sem] Oper.semAt_some
set_option linter.unusedVariables false
set_option linter.unusedSimpArgs false
/-- what List answers -/
def ListPost (D : Option (List N)) (w : World) (e : Ending) (w' : World) : Prop := match D with
  | none => e = .returned (.tuple #[.slice none 0 0, .int .i64 110]) ∧ Below w.heap.size w w'
  | some L => ∃ v M, e = .returned (.tuple #[v, .int .i64 0]) ∧ SortP L M ∧ Nms w' v M ∧ Below w.heap.size w w'
theorem DirP.len {s : ByteArray} {L : List N} (h : DirP s L) : L.length ≤ 3333 := by
  have h1 := bytesL_many L
  have h2 := h.2.2
  rw [h.2.1] at h1
  omega
theorem DirP.sizes {s : ByteArray} {L : List N} (h : DirP s L) (i : Nat) : (nm L i).name.size ≤ 1000 := by
  by_cases hi : i < L.length
  · have := (h.1.1 i hi).1.2.1
    omega
  · unfold nm
    rw [List.getD_eq_getElem?_getD, List.getElem?_eq_none (by omega)]
    show (⟨#[]⟩ : ByteArray).size ≤ 1000
    decide
namespace R
section
set_option maxRecDepth 100000
set_option maxHeartbeats 8000000
theorem list_any (s : ByteArray) (D : Option (List N)) (w : World) (hs : s.size ≤ 281474976710656) (h : DirO s D) : Calls Try.prog 12 #[.string s] w (ListPost D w) := by
  cases D with
  | none =>
    have hR := Lib.hid (fun W => read_no s W hs h)
    clear h hs
    go_enter Try.func12, Try.ntmps12
    go_wp2_with (go_at_call 31; (with_reducible refine Calls.mono (hR.out _) ?_); rintro e w1 ⟨rfl, hB⟩)
    go_returns
    exact ⟨rfl, hB⟩
  | some L =>
    have hR := Lib.hid (fun W => read_yes s L W hs h)
    have hS := Lib.hid (fun W v (k : Nms W v L) => sorted_any v L W k h.1 (by have := DirP.len h; omega) (DirP.sizes h))
    have HF : Hid (∀ v M w', SortP L M → Nms w' v M → Below w.heap.size w w' → ListPost (some L) w (.returned (.tuple #[v, .int .i64 0])) w') := fun v M w' h1 h2 h3 => ⟨v, M, rfl, h1, h2, h3⟩
    unfold SortPost at hS
    clear h hs
    go_enter Try.func12, Try.ntmps12
    go_wp2_with (first
      | (go_at_call 31; (with_reducible refine Calls.mono (hR.out _) ?_); rintro e w1 ⟨v, rfl, hO, hB⟩; have HN := Lib.hid (Nms.own hO); clear hO)
      | (go_at_call 32; (with_reducible refine Calls.mono (hS.out _ _ HN.out) ?_); rintro e w2 ⟨v2, M, rfl, hM, hO2, hB2⟩; have HM := Lib.hid hM; have HO2 := Lib.hid (Nms.own hO2); clear hM hO2))
    go_returns
    exact HF.out _ _ _ HM.out HO2.out (below_th hB hB2)
end
end R
end Go.Proofs.Ytafbkagoajcmeaa.Dir
