/- The reference's settled: blocks behind writes, in a slice of its own. -/
import Derived.Lib.JoinLaws
import Derived.Test.YtbidhiefgbddeaaDiskRef
namespace Go.Proofs.Ytbidhiefgbddeaa.Disk.R
open Go.RowKit Go.Shelf
set_option linter.unusedVariables false

section
set_option maxRecDepth 100000
/-- a row of one's own, read at whatever place -/
theorem own_read {w : World} {base size n : Nat} {e : TypeId} {v : Value} {xs : List Value} (h : w.ownsRow base e size v n xs) (hn : 0 < n) : ∃ g cap, v = .slice (some ⟨g, 0, none⟩) n cap ∧ n ≤ cap ∧ cap ≤ 9223372036854775807 ∧ g < w.heap.size ∧ ∀ j, j < n * size → w.cell? ⟨g, j, none⟩ = xs[j]? := by
  obtain ⟨g, cap, rfl, h1, h2⟩ := h.form hn
  refine ⟨g, cap, rfl, ?_, ?_, (h.lt g rfl).2, fun j hj => h.cellAt j hj⟩
  · rcases h.2 with ⟨hh, _⟩ | ⟨_, _, _, hv, _, _, h3, _⟩
    · cases hh
    · cases hv; exact h3
  · rcases h.2 with ⟨hh, _⟩ | ⟨_, _, _, hv, _, _, _, h4, _⟩
    · cases hh
    · cases hv; unfold maxLen at h4; omega
def Set (B : List ByteArray) (w : World) (e : Ending) (w' : World) : Prop := ∃ v, e = .returned v ∧ w'.ownsRow w.heap.size 9 1 v B.length (strs B) ∧ Below w.heap.size w w'

set_option maxHeartbeats 2000000 in
theorem settled_any (B : List ByteArray) (L : List Wr) (vb vl : Value) (b1 b2 : Nat) (w : World) (hb : w.ownsRow b1 9 1 vb B.length (strs B)) (hl : w.ownsRow b2 84 2 vl L.length (cellsW L))
    (h0 : 0 < B.length) (hn : B.length ≤ 4096) (hL : L.length ≤ 1099511627776) (hat : ∀ x ∈ L, x.1 < B.length) :
    Calls Try.prog 40 #[vb, vl] w (Set (settle B L) w) := by
  obtain ⟨i0, hi, hz0, hz1, hz2⟩ := info_parts infoS
  obtain ⟨gb, cb, rfl, hcb, hcb2, hgl, hrd⟩ := own_read hb h0
  obtain ⟨va, vc, rfl⟩ : ∃ va vc, vl = .slice va L.length vc := by
    rcases hl.2 with ⟨rfl, h2⟩ | ⟨g, cap, _, rfl, _⟩
    · exact ⟨_, _, by rw [h2]⟩
    · exact ⟨_, _, rfl⟩
  have hlen : ∀ k, (settle B (L.take k)).length = B.length := fun k => settle_length _ _
  obtain ⟨n, hN⟩ : ∃ n, B.length = n := ⟨_, rfl⟩
  rw [hN] at h0 hn hcb hb hrd hlen hat ⊢
  have hmk : ∀ W : World, (Instr.makeSlice 39 (.int .i64 0) (.int .i64 (n : Int))).run Try.prog W = .ok (.slice (some ⟨W.heap.size, 0, none⟩) 0 n) (W.alloc (.cells (madeCells #[.string ByteArray.empty] n) 9)) := fun W =>
    run_make_room (P := Try.prog) 39 9 (.string ByteArray.empty) 16 Try.underlying39 infoS rfl .i64 .i64 n (by omega) (by omega) W
  have hB1 : Below w.heap.size w (w.alloc (.cells (madeCells #[.string ByteArray.empty] n) 9)) := (Below.refl _ w).alloc (Nat.le_refl _) _
  have hown0 : (w.alloc (.cells (madeCells #[.string ByteArray.empty] n) 9)).ownsRow w.heap.size 9 1 (.slice (some ⟨w.heap.size, 0, none⟩) 0 n) 0 [] := World.ownsRow_made w _ n (Nat.le_refl _) (by unfold maxLen; omega) (by rw [size_madeCells, Nat.mul_one])
  have hnews : ∀ j u, (strs B)[j]? = some u → (w.alloc (.cells (madeCells #[.string ByteArray.empty] n) 9)).cell? ((⟨gb, 0, none⟩ : Addr).add j) = some u := fun j u hj => by
    have hjl := (List.getElem?_eq_some_iff.1 hj).1
    rw [strs_length, hN] at hjl
    rw [add_plain, Nat.zero_add]
    exact (hB1.cell (p := ⟨gb, j, none⟩) hgl).trans ((hrd j (by omega)).trans hj)
  have H0 := Lib.hid hown0
  have HNW := Lib.hid hnews
  have HLN := Lib.hid hlen
  have HNn := Lib.hid hN
  have HAT := Lib.hid hat
  have hsl : (strs B).length = n := by rw [strs_length, hN]
  have HSL := Lib.hid hsl
  clear hown0 hnews hlen hN hat hrd hb hsl
  go_enter Try.func40, Try.ntmps40
  go_wp2_with (at_builtin; go_must (refine wpList_append_own _ rfl _ _ 39 rfl w.heap.size 9 i0 (.string ByteArray.empty) 1 16 Try.underlying39 hi hz0 hz1 hz2 rfl (by decide) _ 0 [] rfl H0.out ⟨gb, 0, none⟩ n cb (strs B) rfl (by rw [HSL.out, Nat.mul_one]) HNW.out (by simp [strs, Value.oneCell']) (by unfold maxLen; omega) (by omega) (by simp) ?_; intro v1 w1 hown1 hgrow1 _; rw [Nat.zero_add, List.nil_append] at hown1; have hBw1 := (hB1.grown hgrow1 (by simp) (fun r e => (H0.out.lt r e).1)); obtain ⟨g1, c1, rfl, hg1⟩ : ∃ g c, v1 = .slice (some ⟨g, 0, none⟩) n c ∧ n ≤ c := (by (obtain ⟨g, c, hv, h1, _⟩ := own_read hown1 h0; exact ⟨g, c, hv, h1⟩)); clear hgrow1))
  go_loopw [6] (fun i wr => ∃ k : Nat, k ≤ L.length ∧ i = .int .i64 k ∧ wr.ownsRow w.heap.size 9 1 (.slice (some ⟨g1, 0, none⟩) n c1) n (strs (settle B (L.take k))) ∧ Below w.heap.size w wr) (fun i _ => L.length - (intOf i).toNat)
  case atStart => exact ⟨0, Nat.zero_le _, rfl, by simpa [settle] using hown1, hBw1⟩
  case round =>
    obtain ⟨k, hk, rfl, hown, hB⟩ := hrel
    by_cases hlt : k < L.length
    · obtain ⟨x, hx⟩ : ∃ x, L[k]? = some x := ⟨_, List.getElem?_eq_getElem hlt⟩
      have hxn := HAT.out x (List.mem_of_getElem? hx)
      have hc := cellsW_at L k x hx
      obtain ⟨gl, cl, hv, hcl, hcl2, hgll, hrdl⟩ := own_read hl (by omega)
      obtain ⟨rfl, rfl⟩ : va = some ⟨gl, 0, none⟩ ∧ vc = cl := by simpa using hv
      have d0 := (hB.cell (p := ⟨gl, k * 2, none⟩) hgll).trans ((hrdl (k * 2) (by omega)).trans hc.1)
      have d1 := (hB.cell (p := ⟨gl, k * 2 + 1, none⟩) hgll).trans ((hrdl (k * 2 + 1) (by omega)).trans hc.2)
      obtain ⟨u, cu⟩ : ∃ u, wr.cell? ⟨g1, x.1, none⟩ = some u := ⟨_, by rw [hown.cellAt x.1 (by omega)]; exact List.getElem?_eq_getElem (by rw [strs_length, HLN.out]; exact hxn)⟩
      have fu := hown.frozenAt x.1
      have hg1w := (hown.lt g1 rfl).1
      have hnext : wr.ownsRow w.heap.size 9 1 (.slice (some ⟨g1, 0, none⟩) n c1) n (strs (settle B (L.take k))) → (wr.setCell ⟨g1, x.1, none⟩ (.string x.2)).ownsRow w.heap.size 9 1 (.slice (some ⟨g1, 0, none⟩) n c1) n (strs (settle B (L.take (k + 1)))) := fun hh => by
        rw [settle_take B L k x hx, strs_set]
        exact (hh.stored x.1 (.string x.2)).1
      have HNX := Lib.hid (hnext hown)
      clear hnext hown hc hx hv hrdl hl hown1
      go_wp2
      go_still_tail 12, (by kernel_rfl)
      go_wp2
      go_roundw
      case rel => exact ⟨k + 1, by omega, by go_num, HNX.out, (hB.setCell (p := ⟨g1, x.1, none⟩) hg1w _).drew⟩
      case measure => simp [intOf]; omega
    · obtain rfl : L.length = k := by omega
      rw [List.take_length] at hown
      go_wp2
      go_ret
      exact ⟨_, rfl, by rw [settle_length, HNn.out]; exact hown, hB⟩
end
end Go.Proofs.Ytbidhiefgbddeaa.Disk.R
