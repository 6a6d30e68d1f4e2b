/- Drop, at whatever bag. -/
import Derived.Test.YtbelgkccfajjoaaBagFinS
namespace Go.Proofs.Ytbelgkccfajjoaa.S
open Go.RowKit Go.Shelf
set_option linter.unusedVariables false

def DropPost (at0 : Int) (xs : List It) (a : Nat) (F : Nat → Prop) (w : World) (e : Ending) (W : World) : Prop :=
  e = .returned (.bool (T.get at0 xs).isSome) ∧ BagIs W a (fun k => F k ∨ w.heap.size ≤ k) (T.del at0 xs) ∧ Only F w W

set_option maxRecDepth 100000 in
set_option maxHeartbeats 4000000 in
theorem drop_old (at0 : Int) (xs : List It) (a : Nat) (F : Nat → Prop) (t : T ByteArray) (d : Nat) (w : World) (hM : 0 < d → MendSaid) (hr : T.Rise xs) (hl : xs.length ≤ 1000) (hFa : F a) (hb : BagAt w a (some t.r.b) xs.length) (hm : Mem w t.recs) (hw : T.wf d t) (h1 : 1 ≤ t.r.items.length) (h7 : t.r.items.length ≤ 7) (hx : t.inord = xs) (hFt : ∀ r, r ∈ t.recs → ∀ k, k ∈ r.blocks → F k) (hf : T.wfound at0 d t = true) :
    Calls Try.prog 28 #[ptrV a, .int .i64 at0] w (DropPost at0 xs a F w) := by
  subst hx
  have hd := T.height_le d t hw h1
  have cH := highest_some a (some t.r.b) t.inord.length w hb
  have cW := way_some at0 d t w hm.ok hw (by omega)
  obtain ⟨b0, b1, bf0, bf1⟩ := bag_cells hb
  obtain ⟨t', fs', dh, x, l, r, e1, e2, e3, e4, e5, e6, e7, e8⟩ := drop_ready hm hw h1 h7 hr hl hf hb
  have HE8 := Lib.hid e8
  have HF := Lib.hid hf
  have HM := Lib.hid hm
  have HB := Lib.hid hb
  have HMM := Lib.hid hM
  have HFT := Lib.hid hFt
  have HE := Lib.hid (And.intro e1 (And.intro e2 (And.intro e3 (And.intro e4 (And.intro e5 (And.intro e6 e7))))))
  have HR := Lib.hid hr
  have HL := Lib.hid hl
  have ha : a < w.heap.size := (Array.getElem?_eq_some_iff.1 hb).1
  have hwr : IntKind.i64.wrap ((t.inord.length : Int) - 1) = (t.inord.length : Int) - 1 := by rw [IntKind.wrap_i64]; omega
  have HK : Hid (∀ w1, Below w.heap.size w w1 → w1.cell? ⟨a, 1, none⟩ = some (.int .i64 (t.inord.length : Int)) ∧ w1.frozen? ⟨a, 1, none⟩ = false) := fun w1 hB => by
    have h := (hB.block a ha).trans hb
    exact ⟨by rw [cell_of_row w1 _ 1 _ _ _ h]; rfl, by simp [World.frozen?, h]⟩
  have HG : Hid ((T.get at0 t.inord).isSome = true ∧ T.del at0 t.inord = l ++ r) := by
    refine ⟨?_, ?_⟩
    · rw [e1, T.get_in at0 l r x e3 e2]; rfl
    · rw [e1]; exact T.del_in at0 l r x e3 e2 e4
  have HFIN : Hid (∀ (g : Nat) (w1 W2 W3 : World) (e : Ending), Below w.heap.size w w1 → w.heap.size ≤ g → w1.setCell ⟨a, 1, none⟩ (.int .i64 ((t.inord.length : Int) - 1)) = W2 → LowAny t' fs' dh (l ++ r) g W2 e W3 → ∃ v, e = .returned v ∧ Calls Try.prog 46 #[.pointer (some ⟨a, 0, none⟩), v] W3 fun e W => e = .returned (.tuple #[]) ∧ BagIs W a (fun k => F k ∨ w.heap.size ≤ k) (l ++ r) ∧ Only F w W) := fun g w1 W2 W3 e hB hg hW2 low => by
    have hb1 : BagAt w1 a (some t.r.b) t.inord.length := (hB.block a ha).trans hb
    have ho : Only (fun b => b = a) w1 W2 := by rw [← hW2]; exact Only.setCell (S := fun b => b = a) (p := ⟨a, 1, none⟩) (Only.refl _ w1) (.inr rfl) _
    have hm1 : Mem w1 t.recs := hm.kept fun q hq k hk => hB.block k ((hm.ok q hq).blk k hk)
    have hnot := hm1.not_in hb1 (by decide) (by decide) (by decide)
    have hm2 : Mem W2 t.recs := hm1.kept fun q hq k hk => ho.block k ((hm1.ok q hq).blk k hk) (fun h => hnot q hq (h ▸ hk))
    have hb2 : BagAt W2 a (some t.r.b) ((l ++ r).length : Int) := by
      have := set_node1 (v' := .int .i64 ((t.inord.length : Int) - 1)) hb1
      rw [hW2, show ((t.inord.length : Int) - 1) = ((l ++ r).length : Int) from by rw [e1]; simp only [List.length_append, List.length_cons]; omega] at this
      exact this
    exact drop_fin (x := x) (fun h => hM (by rcases Nat.eq_zero_or_pos d with h0 | h0
                                             · have := e7 h0; omega
                                             · exact h0)) hFt hFa e5 (e1 ▸ hr) e6 ha hB hg ho hm2 hb2 (by omega) low
  unfold ptrV at cH cW ⊢
  simp only [Option.map_some] at cH b0
  clear hf hm hb hr hFt hM e1 e2 e3 e4 e5 e6 e7 e8 hl h1 h7 hw hd
  go_enter Try.func28, Try.ntmps28
  go_wp2_with (first | (go_at_call 34; refine cH.mono ?_; rintro e w' ⟨rfl, rfl⟩) | (go_at_call 43; refine cW.mono ?_; rintro e w1 ⟨v, rfl, hv, hB⟩; rw [HF.out]; obtain ⟨g, c, rfl, hg0, hg1, hlow⟩ := HE8.out w1 v hB hv; obtain ⟨y0, y1⟩ := HK.out w1 hB; have HLOW := Lib.hid hlow; have HBL := Lib.hid hB; clear hB hv hlow) | (go_at_call 47; refine (HLOW.out _ (Only.setCell (S := fun b => b = a) (p := ⟨a, 1, none⟩) (Only.refl _ w1) (.inr rfl) _)).mono ?_; rintro e W3 hlw; obtain ⟨v2, rfl, cR⟩ := HFIN.out g w1 _ W3 e HBL.out hg0 rfl hlw; clear hlw) | (go_at_call 46; refine cR.mono ?_; rintro e W ⟨rfl, hfin⟩; have HFI := Lib.hid hfin; clear hfin cR))
  go_ret
  exact ⟨congrArg (fun b => Ending.returned (.bool b)) HG.out.1.symm, by rw [HG.out.2]; exact HFI.out.1, HFI.out.2⟩

theorem drop_nothing {at0 : Int} {xs : List It} {a : Nat} {F : Nat → Prop} {w W : World} {e : Ending} (h : BagIs w a F xs) (hne : ∀ y, y ∈ xs → y.1 ≠ at0) (hp : e = .returned (.bool false) ∧ Below w.heap.size w W) : DropPost at0 xs a F w e W := by
  obtain ⟨he, hB⟩ := hp
  have hO : Only (fun _ => False) w W := Only.of_below hB
  refine ⟨?_, ?_, Only.of_below hB⟩
  · rw [he, T.get_out at0 _ hne]; rfl
  · rw [T.del_out at0 _ hne]
    exact (h.kept hO (fun _ _ h => h)).more (fun k hk => .inl hk)

/-- Drop, at whatever bag of no more than a thousand numbers -/
theorem drop_any (at0 : Int) (xs : List It) (a : Nat) (F : Nat → Prop) (w : World) (hM : 3 < xs.length → MendSaid) (h : BagIs w a F xs) (hl : xs.length ≤ 1000) :
    Calls Try.prog 28 #[ptrV a, .int .i64 at0] w (DropPost at0 xs a F w) := by
  rcases h.tree with ⟨hb, rfl⟩ | ⟨t, d, hb, hm, hw, h1, h7, hx, hF⟩
  · exact (drop_none at0 a none 0 w hb ((way_nil at0 w).mono fun e w' ⟨he, hw⟩ => ⟨_, he, hw ▸ Below.refl _ _⟩)).mono fun e W hp => drop_nothing h (by simp) hp
  · cases hf : T.wfound at0 d t with
    | false =>
      have hd := T.height_le d t hw h1
      refine (drop_none at0 a (some t.r.b) xs.length w hb ((way_some at0 d t w hm.ok hw (by rw [hx] at hd; omega)).mono fun e w' ⟨v, he, _, hB⟩ => ⟨v, by rw [hf] at he; exact he, hB⟩)).mono fun e W hp => drop_nothing h ?_ hp
      obtain ⟨l, r, hout, hlo, hhi⟩ := (T.wfs_open at0 d t [] hw trivial h1 h7 (by simp) (hx ▸ h.rise) hf).out
      have hsame := (T.wfs_open at0 d t [] hw trivial h1 h7 (by simp) (hx ▸ h.rise) hf).same
      have e1 : xs = l ++ r := by
        have := hout []
        rw [hsame] at this
        rw [← hx]
        simpa [T.around] using this
      rw [e1]
      intro y hy
      rcases List.mem_append.1 hy with hy | hy
      · have := hlo y hy; omega
      · have := hhi y hy; omega
    | true =>
      refine drop_old at0 xs a F t d w (fun h0 => hM ?_) h.rise hl h.own hb hm hw h1 h7 hx hF hf
      have := height3 d t 1 (by omega) hw h1 (by omega)
      rw [hx] at this
      omega

end Go.Proofs.Ytbelgkccfajjoaa.S
