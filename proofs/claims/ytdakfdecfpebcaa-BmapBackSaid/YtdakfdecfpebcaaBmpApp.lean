/- Texts cut off. -/
import Derived.Deep.AppendLies
import Derived.Test.YtdakfdecfpebcaaBmpShown
import Derived.Test.YtdakfdecfpebcaaBmpU32
namespace Go.Proofs.Ytdakfdecfpebcaa.Bmp
open Go.RowKit Ino
attribute [local go_sem] Oper.semAt_some
set_option linter.unusedVariables false
set_option linter.unusedSimpArgs false
theorem Strs.cut {w : World} {a : Option Addr} {n cap : Nat} {X : List ByteArray} (h : Strs w (.slice a n cap) X) (m : Nat) (hm : m ≤ X.length) : Strs w (.slice a m cap) (X.take m) := by
  obtain ⟨a', cap', e, h2, h3, h4, h5⟩ := h
  cases e
  have hl : (X.take m).length = m := by rw [List.length_take]; omega
  refine ⟨a, cap, by rw [hl], by omega, h3, by rw [List.length_map, hl, Nat.mul_one], fun hn => ?_⟩
  obtain ⟨b, off, rfl, hc⟩ := h5 (by rw [hl] at hn; omega)
  refine ⟨b, off, rfl, fun j u hj => hc j u ?_⟩
  have hj2 := (List.getElem?_eq_some_iff.1 hj).1
  rw [List.length_map, hl] at hj2
  rw [List.getElem?_map, List.getElem?_take_of_lt hj2] at hj
  rw [List.getElem?_map]
  exact hj
/-- Join answers something -/
theorem join_any (s : Nat) (m : M) (v : Value) (B : List ByteArray) (w : World) (h : s < 4294967296) (hm : MOk m) (hB : Strs w v B) (hl : B.length ≤ 10) : Calls Try.prog 18 #[.int .u32 s, m.val, v] w fun e w' => ∃ v' E, e = .returned (.tuple #[v', .int .i64 E]) ∧ Below w.heap.size w w' := by
  by_cases hj : ∃ V I, joinP s m B V I
  · obtain ⟨V, I, hj⟩ := hj
    exact (join_some s m v B V I w h hB hj hl).mono fun e w' hx => by
      obtain ⟨v', h1, _, h3⟩ := hx
      exact ⟨v', 0, h1, h3⟩
  · exact (join_none s m v B w h hm hB (fun V I hx => hj ⟨V, I, hx⟩) hl).mono fun e w' hx => by
      obtain ⟨v', h1, h3⟩ := hx
      exact ⟨v', 130, h1, h3⟩
/-- of few blocks there are few numbers -/
theorem joinP_few {s : Nat} {m : M} {B : List ByteArray} {V I : List Nat} (h : joinP s m B V I) (hl : B.length ≤ 10) : V.length ≤ 2000 ∧ I.length ≤ 2000 ∧ I.length = B.length := by
  obtain ⟨_, _, h3, _, h5⟩ := h
  have h6 := blocks_length h3
  rw [h5] at h6
  have hd := dp_le s
  have hc := cnt_def h3.1
  have h7 := h3.2.1
  have h8 := h3.2.2.1
  refine ⟨?_, by omega, by omega⟩
  by_cases h2 : dpN s = 2
  · rw [if_pos h2] at hc
    unfold lowN at hc
    omega
  · by_cases h1 : dpN s = 1
    · have := (dp_one h1).2
      omega
    · have := dp_none (s := s) (by omega)
      omega
end Go.Proofs.Ytdakfdecfpebcaa.Bmp
