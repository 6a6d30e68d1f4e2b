/- Get, at whatever bag. -/
import Derived.Test.YtkhbfjncamobdaaBagPutWS
namespace Go.Proofs.Ytkhbfjncamobdaa.S
open Go.RowKit Go.Shelf
set_option linter.unusedVariables false

def valOf : Option ByteArray → Value
  | some v => .string v
  | none => .string ⟨#[]⟩
def GetPost (at0 : Int) (xs : List It) (w : World) (e : Ending) (W : World) : Prop := e = .returned (.tuple #[valOf (T.get at0 xs), .bool (T.get at0 xs).isSome]) ∧ Below w.heap.size w W

theorem get_nil (at0 : Int) (w : World) : Calls Try.prog 11 #[.pointer none, .int .i64 at0] w fun e w' => e = .returned (.tuple #[.string ⟨#[]⟩, .bool false]) ∧ w = w' := by
  have cH := highest_nil w
  have cW := way_nil at0 w
  go_enter Try.func11, Try.ntmps11
  go_wp2_with (first | (go_at_call 17; refine cH.mono ?_; rintro e w' ⟨rfl, rfl⟩) | (go_at_call 19; refine cW.mono ?_; rintro e w' ⟨rfl, rfl⟩))
  go_ret2
  exact ⟨rfl, rfl⟩

set_option maxRecDepth 100000 in
set_option maxHeartbeats 1000000 in
theorem get_none (at0 : Int) (a : Nat) (top : Option Nat) (n : Int) (v : Value) (w w1 : World) (hb : BagAt w a top n) (hB : Below w.heap.size w w1)
    (cW : Calls Try.prog 19 #[.pointer (top.map fun b => ⟨b, 0, none⟩), .int .i64 at0] w fun e w' => ∃ v, e = .returned (.tuple #[v, .bool false]) ∧ Below w.heap.size w w') :
    Calls Try.prog 11 #[ptrV a, .int .i64 at0] w fun e W => e = .returned (.tuple #[.string ⟨#[]⟩, .bool false]) ∧ Below w.heap.size w W := by
  have cH := highest_some a top n w hb
  unfold ptrV at cH ⊢
  obtain ⟨q, hq⟩ : ∃ q, (top.map fun b => (⟨b, 0, none⟩ : Addr)) = q := ⟨_, rfl⟩
  rw [hq] at cH cW
  clear hq hb hB
  go_enter Try.func11, Try.ntmps11
  go_wp2_with (first | (go_at_call 17; refine cH.mono ?_; rintro e w' ⟨rfl, rfl⟩) | (go_at_call 19; refine cW.mono ?_; rintro e w2 ⟨v2, rfl, hB2⟩; have HB2 := Lib.hid hB2; clear hB2))
  go_ret2
  exact ⟨rfl, HB2.out⟩

set_option maxRecDepth 100000 in
set_option maxHeartbeats 4000000 in
theorem get_old (at0 : Int) (xs : List It) (a : Nat) (t : T ByteArray) (d : Nat) (w : World) (hr : T.Rise xs) (hl : xs.length ≤ 1000) (hb : BagAt w a (some t.r.b) xs.length) (hm : Mem w t.recs) (hw : T.wf d t) (h1 : 1 ≤ t.r.items.length) (h7 : t.r.items.length ≤ 7) (hx : t.inord = xs) (hf : T.wfound at0 d t = true) :
    Calls Try.prog 11 #[ptrV a, .int .i64 at0] w (GetPost at0 xs w) := by
  subst hx
  have hd := T.height_le d t hw h1
  have cH := highest_some a (some t.r.b) t.inord.length w hb
  have cW := way_some at0 d t w hm.ok hw (by omega)
  obtain ⟨b0, b1, bf0, bf1⟩ := bag_cells hb
  obtain ⟨t', p, fs', d', x, l, r, e1, e2, e3, e4, e5, e6, e7, e8, e9, e10, e11, e12, e13, e14⟩ := stands_in hw h1 h7 hr hf
  have hmem : t'.r ∈ t.recs := e10.mem_iff.1 (List.mem_append_right _ t'.r_mem)
  have hok := hm.ok _ hmem
  have hplt := (List.getElem?_eq_some_iff.1 e3).1
  have hil := hok.ilen
  have hfl : fs'.length ≤ 1000 := by
    have h1 := T.wsteps_length at0 d t
    have h2 : (T.wsteps at0 d t).length = fs'.length + 1 := by rw [way_Q, e1]; simp
    omega
  have HB2 : Hid (∀ (w1 : World) (v : Value), Below w.heap.size w w1 → w1.ownsRow w.heap.size 60 2 v (T.wsteps at0 d t).length (cellsS (T.wsteps at0 d t)) → ∃ g c, v = .slice (some ⟨g, 0, none⟩) (fs'.length + 1) c ∧ fs'.length + 1 ≤ c ∧ c ≤ 9223372036854775807 ∧ g < w1.heap.size ∧ t'.r.b < w1.heap.size ∧ t'.r.g < w1.heap.size ∧ w1.cell? ⟨g, fs'.length * 2, none⟩ = some (.pointer (some ⟨t'.r.b, 0, none⟩)) ∧ w1.cell? ⟨g, fs'.length * 2 + 1, none⟩ = some (.int .i64 (p : Int)) ∧
      w1.cell? ⟨t'.r.b, 0, none⟩ = some (.slice (some ⟨t'.r.g, 0, none⟩) t'.r.items.length t'.r.cap) ∧ w1.cell? ⟨t'.r.g, p * 2 + 1, none⟩ = some (.string x.2)) := fun w1 v hB hv => by
    obtain ⟨g, c, f1, f2, f3, f4, f5, f6⟩ := last_step e1 hv
    have hok1 := hok.below hB
    exact ⟨g, c, f1, f3, f4, World.block_lt_of_cell? _ _ f5, hok1.blk _ (by simp [Rec.blocks]), hok1.blk _ (by simp [Rec.blocks]), f5, f6, hok1.c0, (hok1.item e3).2⟩
  have HF := Lib.hid hf
  have HG : Hid (T.get at0 t.inord = some x.2) := by unfold Hid; rw [e11]; exact T.get_in at0 l r x e12 e4
  unfold ptrV at cH cW ⊢
  simp only [Option.map_some] at cH b0
  clear hf hm hb hr e1 e2 e3 e4 e5 e6 e7 e8 e9 e10 e11 e12 e13 e14 hok hmem
  go_enter Try.func11, Try.ntmps11
  go_wp2_with (first | (go_at_call 17; refine cH.mono ?_; rintro e w' ⟨rfl, rfl⟩) | (go_at_call 19; refine cW.mono ?_; rintro e w1 ⟨v, rfl, hv, hB⟩; rw [HF.out]; obtain ⟨g, c, rfl, f1, f2, f3, f8, f9, f4, f5, f6, f7⟩ := HB2.out w1 v hB hv; have HBL := Lib.hid hB; clear hB hv))
  go_quiet (fail)
  go_wp2
  go_ret2
  exact ⟨by rw [HG.out]; rfl, below_drewN ((HBL.out).alloc HBL.out.size _) _⟩

/-- Get, at whatever bag of no more than a thousand numbers -/
theorem get_any (at0 : Int) (xs : List It) (a : Nat) (F : Nat → Prop) (w : World) (h : BagIs w a F xs) (hl : xs.length ≤ 1000) :
    Calls Try.prog 11 #[ptrV a, .int .i64 at0] w (GetPost at0 xs w) := by
  rcases h.tree with ⟨hb, rfl⟩ | ⟨t, d, hb, hm, hw, h1, h7, hx, hF⟩
  · exact get_none at0 a none 0 .nilFunc w w hb (Below.refl _ _) ((way_nil at0 w).mono fun e w' ⟨he, hw⟩ => ⟨_, he, hw ▸ Below.refl _ _⟩)
  · cases hf : T.wfound at0 d t with
    | false =>
      have hd := T.height_le d t hw h1
      refine (get_none at0 a (some t.r.b) xs.length .nilFunc w w hb (Below.refl _ _) ((way_some at0 d t w hm.ok hw (by rw [hx] at hd; omega)).mono fun e w' ⟨v, he, _, hB⟩ => ⟨v, by rw [hf] at he; exact he, hB⟩)).mono fun e W ⟨he, hB⟩ => ⟨?_, hB⟩
      obtain ⟨l, r, hout, hlo, hhi⟩ := (T.wfs_open at0 d t [] hw trivial h1 h7 (by simp) (hx ▸ h.rise) hf).out
      have hsame := (T.wfs_open at0 d t [] hw trivial h1 h7 (by simp) (hx ▸ h.rise) hf).same
      have e1 : xs = l ++ r := by
        have := hout []
        rw [hsame] at this
        rw [← hx]
        simpa [T.around] using this
      have hne : ∀ y, y ∈ l ++ r → y.1 ≠ at0 := fun y hy => by
        rcases List.mem_append.1 hy with hy | hy
        · have := hlo y hy; omega
        · have := hhi y hy; omega
      rw [he, e1, T.get_out at0 _ hne]
      rfl
    | true => exact get_old at0 xs a t d w h.rise hl hb hm hw h1 h7 hx hf

end Go.Proofs.Ytkhbfjncamobdaa.S
