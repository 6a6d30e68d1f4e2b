/- The disk's Image: the texts of its blocks, in a slice of its own; which loose writes stay. -/
import Derived.Test.YtbidhiefgbddeaaDiskRep
namespace Go.Proofs.Ytbidhiefgbddeaa.Disk
open Go.RowKit Go.Shelf
set_option linter.unusedVariables false

section
set_option maxRecDepth 100000
/-- a fresh slice of these texts -/
def Texts (l : List ByteArray) (w : World) (e : Ending) (w' : World) : Prop := ∃ g, e = .returned (.slice (some ⟨g, 0, none⟩) l.length l.length) ∧ Row w' g 9 (strs l) ∧ w.heap.size ≤ g ∧ Below w.heap.size w w'

def ImgI (w : World) (l : List ByteArray) (k : Nat) (wr : World) : Prop := ∃ cur, Row wr w.heap.size 9 cur ∧ cur.length = l.length ∧ cur.take k = strs (l.take k) ∧ Below w.heap.size w wr
theorem img_step {w wr w2 : World} {l : List ByteArray} {k : Nat} {s : ByteArray} (h : ImgI w l k wr) (hk : l[k]? = some s) (hB : Below wr.heap.size wr w2) : ImgI w l (k + 1) (w2.setCell ⟨w.heap.size, k, none⟩ (.string s)) := by
  obtain ⟨cur, hr, hl, ht, hb⟩ := h
  have hkl := (List.getElem?_eq_some_iff.1 hk).1
  refine ⟨cur.set k (.string s), Row.setCell (hr.of_heap (hB.block _ hr.lt)) _, by rw [List.length_set, hl], ?_, (hb.trans (hB.mono hb.size)).setCell (p := ⟨w.heap.size, k, none⟩) (Nat.le_refl _) _⟩
  rw [List.take_add_one, List.take_set_of_le (Nat.le_refl _), ht, List.take_add_one, hk]
  simp [strs, hl, hkl]

set_option maxHeartbeats 1000000 in
theorem image_d {p : Nat} {F : Nat → Prop} {d : D} {w : World} (h : IsDisk w p F d) : Calls Try.prog 16 #[.pointer (some ⟨p, 0, none⟩)] w (Texts d.now w) := by
  obtain ⟨a, b, v, hA, hF⟩ := h.mem
  have hc := isNone_not p a b v d w hA h.ok.lo h.ok.hi
  have hlo := h.ok.lo
  have hhi := h.ok.hi
  have hsz := h.ok.now_sizes
  have hl := d.now_length
  have c1 := hA.c1
  have hnw := hA.nw
  have hbl := hA.nw.lt
  have hpl := hA.lt p (.inl rfl)
  have htop := hA.top
  clear hF
  obtain ⟨l, hl'⟩ : ∃ l, d.now = l := ⟨_, rfl⟩
  rw [hl'] at hl hsz hnw ⊢
  obtain ⟨n, hn⟩ : ∃ n, d.B.length = n := ⟨_, rfl⟩
  rw [hn] at hl c1 hlo hhi
  obtain ⟨M, hM⟩ : ∃ M : List Value, M = (madeCells #[Value.string ByteArray.empty] n).toList := ⟨_, rfl⟩
  have hMl : M.length = n := by rw [hM, Array.length_toList, size_madeCells]
  have hmk : ∀ W : World, (Instr.makeSlice 39 (.int .i64 (n : Int)) (.int .i64 (n : Int))).run Try.prog W = .ok (.slice (some ⟨W.heap.size, 0, none⟩) n n) (W.alloc (.cells M.toArray 9)) := fun W => by
    rw [hM, Array.toArray_toList]
    exact run_make_row' (P := Try.prog) 39 9 (.string ByteArray.empty) 16 Try.underlying39 infoS rfl .i64 .i64 n (by omega) (by omega) W
  have h0 : ImgI w l 0 (w.alloc (.cells M.toArray 9)) := ⟨M, heap_alloc_new w _, by omega, by simp [strs], (Below.refl _ w).alloc (Nat.le_refl _) _⟩
  have H0 := Lib.hid h0
  have HSZ := Lib.hid hsz
  have HL := Lib.hid hl
  have c1' : (w.alloc (.cells M.toArray 9)).cell? ⟨p, 1, none⟩ = some (.slice (some ⟨b, 0, none⟩) n n) := ((Below.refl w.heap.size w).alloc (Nat.le_refl _) (.cells M.toArray 9)).cell (p := ⟨p, 1, none⟩) hpl |>.trans c1
  clear h0 hsz hl hl' hn hM hMl htop
  go_enter Try.func16, Try.ntmps16
  go_wp2_with (go_at_call 38; refine hc.mono ?_; rintro e w' ⟨rfl, rfl⟩)
  go_loopw [19] (fun i wr => ∃ k : Nat, k ≤ n ∧ i = .int .i64 k ∧ ImgI w l k wr) (fun i _ => n - (intOf i).toNat)
  case atStart => exact ⟨0, Nat.zero_le _, rfl, H0.out⟩
  case round =>
    obtain ⟨k, hk, rfl, hI⟩ := hrel
    have hIl := hI
    obtain ⟨cur, hcr, hcl, hct, hB⟩ := hIl
    by_cases hlt : k < n
    · obtain ⟨s, hs⟩ : ∃ s, l[k]? = some s := ⟨_, List.getElem?_eq_getElem (by rw [HL.out]; exact hlt)⟩
      have cx : wr.cell? ⟨b, k, none⟩ = some (.string s) := by rw [hB.cell (p := ⟨b, k, none⟩) hbl, hnw.at_]; exact strs_at _ _ _ hs
      have h512 := HSZ.out s (List.mem_of_getElem? hs)
      have hcl2 := clone_any s wr (by omega)
      have hwl := hcr.lt
      have hst := fun w2 (hB2 : Below wr.heap.size wr w2) => img_step hI hs hB2
      have hst2 : ∀ w2, Below wr.heap.size wr w2 → (∃ u, w2.cell? ⟨w.heap.size, k, none⟩ = some u) ∧ w2.frozen? ⟨w.heap.size, k, none⟩ = false := fun w2 hB2 => by
        have := hcr.of_heap (hB2.block _ hcr.lt)
        exact ⟨⟨_, by rw [this.at_]; exact List.getElem?_eq_getElem (by rw [hcl, HL.out]; exact hlt)⟩, this.frozen k⟩
      have HST := Lib.hid hst
      have HST2 := Lib.hid hst2
      clear hst hst2 hI hcr hcl hct hs h512
      go_wp2_with (go_at_call 39; refine hcl2.mono ?_; rintro e w2 ⟨rfl, hB2⟩; obtain ⟨⟨u, cu⟩, fu⟩ := HST2.out _ hB2)
      go_roundw
      case rel => exact ⟨k + 1, by omega, by go_num, HST.out _ hB2⟩
      case measure => simp [intOf]; omega
    · obtain rfl : n = k := by omega
      go_wp2
      go_ret
      rw [List.take_of_length_le (by rw [hcl, HL.out]; exact Nat.le_refl _), List.take_of_length_le (by rw [HL.out]; exact Nat.le_refl _)] at hct
      exact ⟨w.heap.size, by rw [HL.out]; rfl, by rw [← hct]; exact hcr, Nat.le_refl _, hB⟩

theorem bit_at (keep k : Nat) (hkeep : keep < 18446744073709551616) : bits BinOp.and IntKind.u64 ((keep : Int) / 2 ^ (k % 64)) 1 = ((keep / 2 ^ (k % 64) % 2 : Nat) : Int) := by
  have e : (keep : Int) / 2 ^ (k % 64) = ((keep / 2 ^ (k % 64) : Nat) : Int) := by simp
  have hlt : keep / 2 ^ (k % 64) < 18446744073709551616 := Nat.lt_of_le_of_lt (Nat.div_le_self _ _) hkeep
  rw [e]
  have := bits_and_u64_nat (keep / 2 ^ (k % 64)) 1 hlt (by decide)
  rw [Nat.and_one_is_mod] at this
  exact this
theorem keeps_any (keep : Nat) (t : Int) (k : Nat) (w : World) (hk : k ≤ 1099511627776) (hkeep : keep < 18446744073709551616) (b : Bool) (h : decide (stays keep k) = b) : Calls Try.prog 46 #[.agg #[.int .u64 keep, .int .i64 t], .int .i64 k] w fun e w' => e = .returned (.bool b) ∧ Below w.heap.size w w' := by
  have hb : (bits BinOp.and IntKind.u64 ((keep : Int) / 2 ^ (k % 64)) 1 == 1) = b := by
    rw [bit_at keep k hkeep, ← h, Bool.eq_iff_iff, beq_iff_eq, decide_eq_true_iff]
    unfold stays
    exact ⟨fun h => by exact_mod_cast h, fun h => by exact_mod_cast h⟩
  clear h
  go_enter Try.func46, Try.ntmps46
  go_wp2
  go_ret
  exact ⟨rfl, (Below.refl _ _).alloc (Nat.le_refl _) _⟩
end
end Go.Proofs.Ytbidhiefgbddeaa.Disk
