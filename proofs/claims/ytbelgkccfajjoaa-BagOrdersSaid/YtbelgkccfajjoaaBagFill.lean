/- A bag of numbers, each with itself. -/
import Derived.Deep.RegionWith
import Derived.Test.YtbelgkccfajjoaaBagShown
import Derived.Test.YtbelgkccfajjoaaBagOnI
import Derived.Test.YtbelgkccfajjoaaRow
namespace Go.Proofs.Ytbelgkccfajjoaa
open Go.RowKit Go.Shelf
open I (BagOn)
set_option linter.unusedVariables false

def intsL (l : List Int) : List Value := l.map (.int .i64)
def fillL (l : List Int) : List (Int × Int) := l.foldl (fun xs x => T.put x x xs) []
theorem fillL_snoc (l : List Int) (x : Int) : fillL (l ++ [x]) = T.put x x (fillL l) := by simp [fillL]
theorem put_len (a : Int) (v : Int) (xs : List (Int × Int)) : (T.put a v xs).length ≤ xs.length + 1 := by
  induction xs with
  | nil => simp [T.put]
  | cons x xs ih => simp only [T.put]; split <;> (try split) <;> simp <;> omega
theorem fillL_len (l : List Int) : (fillL l).length ≤ l.length := by
  have : ∀ n, n ≤ l.length → (fillL (l.take n)).length ≤ n := by
    intro n
    induction n with
    | zero => intro _; simp [fillL]
    | succ n ih =>
      intro hn
      rw [List.take_succ_eq_append_getElem (by omega), fillL_snoc]
      have := ih (by omega)
      have := put_len l[n] l[n] (fillL (l.take n))
      omega
  have h := this l.length (Nat.le_refl _)
  rwa [List.take_length] at h

set_option maxRecDepth 100000 in
set_option maxHeartbeats 2000000 in
theorem filled_on (l : List Int) (v : Value) (w : World) (h : Lies w v l.length 1 (intsL l)) (hl : l.length ≤ 1000) :
    Calls Try.prog 15 #[v] w fun e w' => e = .returned (.pointer (some ⟨w.heap.size, 0, none⟩)) ∧ BagOn w' w.heap.size w.heap.size (fillL l) ∧ Below w.heap.size w w' := by
  obtain ⟨a, c, rfl, H, hn, hm⟩ := h.parts
  obtain ⟨n, hnn⟩ : ∃ n, l.length = n := ⟨_, rfl⟩
  rw [hnn] at H hn hl ⊢
  clear h
  go_enter Try.func15, Try.ntmps15
  go_wp2_with (go_at_call 16; refine (I.new_on _).mono ?_; rintro e w1 ⟨rfl, hb1, hB1⟩)
  have HB1 := Lib.hid hb1
  clear hb1
  go_loopw [4] (fun i wr => ∃ k : Nat, k ≤ n ∧ i = .int .i64 k ∧ Hid (BagOn wr w.heap.size w.heap.size (fillL (l.take k))) ∧ Below w.heap.size w wr) (fun i _ => n - (intOf i).toNat)
  case atStart => exact ⟨0, Nat.zero_le _, rfl, HB1, hB1⟩
  case round =>
    obtain ⟨k, hk, rfl, hb, hB⟩ := hrel
    clear HB1 hB1
    by_cases hlt : k < n
    · obtain ⟨x, hx⟩ : ∃ x, l[k]? = some x := ⟨l[k]'(by omega), by simp⟩
      obtain ⟨b, off, rfl, hc⟩ := (H.out.below hB).read (j := k) (u := .int .i64 x) (by unfold intsL; rw [List.getElem?_map, hx]; rfl)
      have htk : fillL (l.take (k + 1)) = T.put x x (fillL (l.take k)) := by rw [List.take_add_one, hx]; exact fillL_snoc _ _
      have hlen : (fillL (l.take k)).length ≤ 1000 := by
        have := fillL_len (l.take k)
        simp at this
        omega
      have HTK := Lib.hid htk
      have hbd : BagOn wr.drew w.heap.size w.heap.size (fillL (l.take k)) := hb.out.below (below_drew (Below.refl _ wr))
      have HBD := Lib.hid hbd
      have hBd := below_drew hB
      clear hx htk hb hbd
      go_wp2
      go_region_with (go_at_call 17; refine (I.put_on x x _ _ _ _ HBD.out hlen).mono ?_; rintro e w3 ⟨rfl, hb3, hB3⟩)
      all_goals
        go_wp2
        rw [← HTK.out] at hb3
        go_roundw
        case rel => exact ⟨k + 1, by omega, by go_num, hb3, hBd.trans hB3⟩
        case measure => simp [intOf]; omega
    · obtain rfl : k = n := by omega
      have hb2 := hb.out
      rw [List.take_of_length_le (by omega)] at hb2
      have HB2 := Lib.hid hb2
      clear hb hb2
      go_wp2
      go_ret
      exact ⟨rfl, HB2.out, hB⟩
end Go.Proofs.Ytbelgkccfajjoaa
