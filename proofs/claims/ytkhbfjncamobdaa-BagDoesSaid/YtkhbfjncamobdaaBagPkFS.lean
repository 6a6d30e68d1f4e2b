/- Drop, where nothing stands. Drop, where something stands: toLowest at the way that was found. Drop, where something stands: remove behind toLowest. Drop, at whatever bag. -/
import Derived.Test.YtkhbfjncamobdaaBagRemS
import Derived.Test.YtkhbfjncamobdaaBagLowAS
import Derived.Test.YtkhbfjncamobdaaBagRemWS
namespace Go.Proofs.Ytkhbfjncamobdaa.S
open Go.RowKit Go.Shelf
set_option linter.unusedVariables false

theorem drop_nil (at0 : Int) (w : World) : Calls Try.prog 12 #[.pointer none, .int .i64 at0] w fun e w' => e = .returned (.bool false) ∧ w = w' := by
  have cH := highest_nil w
  have cW := way_nil at0 w
  go_enter Try.func12, Try.ntmps12
  go_wp2_with (first | (go_at_call 17; refine cH.mono ?_; rintro e w' ⟨rfl, rfl⟩) | (go_at_call 19; refine cW.mono ?_; rintro e w' ⟨rfl, rfl⟩))
  go_ret
  exact ⟨rfl, rfl⟩

set_option maxRecDepth 100000 in
set_option maxHeartbeats 1000000 in
theorem drop_none (at0 : Int) (a : Nat) (top : Option Nat) (n : Int) (w : World) (hb : BagAt w a top n)
    (cW : Calls Try.prog 19 #[.pointer (top.map fun b => ⟨b, 0, none⟩), .int .i64 at0] w fun e w' => ∃ v, e = .returned (.tuple #[v, .bool false]) ∧ Below w.heap.size w w') :
    Calls Try.prog 12 #[ptrV a, .int .i64 at0] w fun e W => e = .returned (.bool false) ∧ Below w.heap.size w W := by
  have cH := highest_some a top n w hb
  unfold ptrV at cH ⊢
  obtain ⟨q, hq⟩ : ∃ q, (top.map fun b => (⟨b, 0, none⟩ : Addr)) = q := ⟨_, rfl⟩
  rw [hq] at cH cW
  clear hq hb
  go_enter Try.func12, Try.ntmps12
  go_wp2_with (first | (go_at_call 17; refine cH.mono ?_; rintro e w' ⟨rfl, rfl⟩) | (go_at_call 19; refine cW.mono ?_; rintro e w2 ⟨v2, rfl, hB2⟩; have HB2 := Lib.hid hB2; clear hB2))
  go_ret
  exact ⟨rfl, HB2.out⟩

end Go.Proofs.Ytkhbfjncamobdaa.S

namespace Go.Proofs.Ytkhbfjncamobdaa.S
open Go.RowKit Go.Shelf
set_option linter.unusedVariables false

theorem zipR_len {α : Type} (is : List (Int × α)) (bs : List (List (Int × α))) : is.length ≤ (T.zipR is bs).length := by
  induction bs generalizing is with
  | nil => rw [T.zipR_nil]; exact Nat.le_refl _
  | cons b bs ih =>
    cases is with
    | nil => simp
    | cons i is => have := ih is; simp only [T.zipR, List.length_cons, List.length_append]; omega
theorem height3 (d : Nat) (t : T ByteArray) (m : Nat) (hm : m ≤ 3) (h : T.wf d t) (h1 : m ≤ t.r.items.length) (h0 : 1 ≤ m) : 3 * d + m ≤ t.inord.length := by
  induction d generalizing t m with
  | zero =>
    rw [T.inord_eq, h.1]
    simpa [T.inter] using h1
  | succ d ih =>
    obtain ⟨k, hk1, hk2, hk3, hk4⟩ := T.kid_at d t 0 h (by omega)
    have := ih k 3 (by omega) hk3 (h.2.2.2 k hk4).2.1 (by omega)
    rw [T.node_at d t k 0 h (by omega) hk1]
    have hf : t.r.items.length ≤ (T.fr (t, 0)).length := zipR_len (t.r.items.drop 0) ((t.ks.drop 1).map T.inord)
    simp only [List.length_append]
    omega

theorem drop_ready {at0 : Int} {d : Nat} {t : T ByteArray} {a : Nat} {n : Int} {w : World} (hm : Mem w t.recs) (hw : T.wf d t) (h1 : 1 ≤ t.r.items.length) (h7 : t.r.items.length ≤ 7) (hr : T.Rise t.inord) (hl : t.inord.length ≤ 1000) (hf : T.wfound at0 d t = true) (hb : BagAt w a (some t.r.b) n) :
    ∃ t' fs' dh x l r, t.inord = l ++ x :: r ∧ x.1 = at0 ∧ (∀ y, y ∈ l → y.1 < at0) ∧ (∀ y, y ∈ r → at0 < y.1) ∧ (T.ctx fs' ++ t'.recs).Perm t.recs ∧ T.topOf fs' t'.r.b = t.r.b ∧ (d = 0 → fs'.length + dh = 0) ∧
      ∀ w1 v, Below w.heap.size w w1 → w1.ownsRow w.heap.size 60 2 v (T.wsteps at0 d t).length (cellsS (T.wsteps at0 d t)) → ∃ g c, v = .slice (some ⟨g, 0, none⟩) (fs'.length + 1) c ∧ w.heap.size ≤ g ∧ g < w1.heap.size ∧
        ∀ W2, Only (fun b => b = a) w1 W2 → Calls Try.prog 22 #[.slice (some ⟨g, 0, none⟩) (fs'.length + 1) c] W2 (LowAny t' fs' dh (l ++ r) g W2) := by
  obtain ⟨t', p, fs', d', x, l, r, e1, e2, e3, e4, e5, e6, e7, e8, e9, e10, e11, e12, e13, e14⟩ := stands_in hw h1 h7 hr hf
  have hd := height3 d t 1 (by omega) hw h1 (by omega)
  have hd' : 3 * d' + 1 ≤ t.inord.length := by
    have hlen : (T.setAt t' p x).r.items.length = t'.r.items.length := List.length_set
    have q1 := height3 d' (T.setAt t' p x) 1 (by omega) (T.setAt_wf d' t' p x e2) (by rw [hlen]; exact e5) (by omega)
    obtain ⟨A, B, hAB⟩ := T.around_split fs'
    have q2 := congrArg List.length (e14 x)
    rw [hAB, ← e11] at q2
    simp only [List.length_append] at q2
    omega
  have hst : T.wsteps at0 d t = (fs'.map gstep).reverse ++ [gstep (t', p)] := by rw [way_Q, e1]; simp
  have hsl : (T.wsteps at0 d t).length = fs'.length + 1 := by rw [hst]; simp
  have hwl := T.wsteps_length at0 d t
  have hfl : fs'.length ≤ d := by omega
  have hd0 : d = 0 → fs'.length + d' = 0 := by
    rintro rfl
    have hf0 : fs' = [] := List.eq_nil_of_length_eq_zero (by omega)
    subst hf0
    cases d' with
    | zero => rfl
    | succ d' =>
      exfalso
      have hp := e10.length_eq
      rw [T.recs_eq t, hw.1, T.recs_eq t'] at hp
      have hk := e2.2.2.1
      cases hks : t'.ks with
      | nil => rw [hks] at hk; simp at hk
      | cons k ks =>
        rw [hks] at hp
        simp only [T.ctx, List.nil_append, List.flatMap_cons, List.flatMap_nil, List.length_cons, List.length_append, List.length_nil] at hp
        have := congrArg List.length (T.recs_eq k)
        simp only [List.length_cons] at this
        omega
  refine ⟨t', fs', d', x, l, r, e11, e4, e12, e13, e10, e9, hd0, fun w1 v hB hv => ?_⟩
  obtain ⟨g, c, rfl, f2, f3, f4, f5, f6⟩ := last_step e1 hv
  have hv' := hv
  rw [hsl] at hv'
  obtain ⟨rest, q1, q2, q3, q4, q5, q6⟩ := row_of_own hv'
  refine ⟨g, c, rfl, f2, q1.lt, fun W2 ho => ?_⟩
  have ha : a < w.heap.size := (Array.getElem?_eq_some_iff.1 hb).1
  have ha1 : BagAt w1 a (some t.r.b) n := (hB.block a ha).trans hb
  have hm1 : Mem w1 (T.ctx fs' ++ t'.recs) := (hm.kept fun q hq k hk => hB.block k ((hm.ok q hq).blk k hk)).perm e10.symm
  have hnot := hm1.not_in ha1 (by decide) (by decide) (by decide)
  have hm2 : Mem W2 (T.ctx fs' ++ t'.recs) := hm1.kept fun q hq k hk => ho.block k ((hm1.ok q hq).blk k hk) (fun h => hnot q hq (h ▸ hk))
  have hrow2 : W2.ownsRow 0 60 2 (.slice (some ⟨g, 0, none⟩) (fs'.length + 1) c) (fs'.length + 1) (cellsS ((fs'.map gstep).reverse ++ [(t'.r.b, p)])) := by
    rw [hst] at q1 q2 q5
    refine own_of_row (q1.of_heap (ho.block g q1.lt (by omega))) q2 q3 q4 q5 (Nat.zero_le _)
  cases d' with
  | zero => exact low_any_leaf t' p fs' x l r g c W2 hm2 e2 e3 e6 e7 e8 (by omega) hrow2 e14
  | succ d' => exact low_any_node t' d' p fs' x l r g c W2 hm2 e2 e3 e6 e7 e8 (by omega) hrow2 e14

end Go.Proofs.Ytkhbfjncamobdaa.S

namespace Go.Proofs.Ytkhbfjncamobdaa.S
open Go.RowKit Go.Shelf
set_option linter.unusedVariables false

theorem drop_fin {t t' : T ByteArray} {fs' : T.Fs ByteArray} {dh a g : Nat} {x : It} {l r : List It} {F : Nat → Prop} {w w1 W2 W3 : World} {e : Ending} (hM : 0 < fs'.length + dh → MendSaid) (hFt : ∀ q, q ∈ t.recs → ∀ k, k ∈ q.blocks → F k) (hFa : F a) (hP : (T.ctx fs' ++ t'.recs).Perm t.recs)
    (hR : T.Rise (l ++ x :: r)) (htop : T.topOf fs' t'.r.b = t.r.b) (ha : a < w.heap.size) (hB : Below w.heap.size w w1) (hg : w.heap.size ≤ g) (ho : Only (fun b => b = a) w1 W2) (hm2 : Mem W2 t.recs) (hb2 : BagAt W2 a (some t.r.b) ((l ++ r).length : Int)) (hga : g ≠ a) (low : LowAny t' fs' dh (l ++ r) g W2 e W3) :
    ∃ v, e = .returned v ∧ Calls Try.prog 21 #[.pointer (some ⟨a, 0, none⟩), v] W3 fun e W => e = .returned (.tuple #[]) ∧ BagIs W a (fun k => F k ∨ w.heap.size ≤ k) (l ++ r) ∧ Only F w W := by
  obtain ⟨z, q, fs, g2, c2, rfl, hv, hm3, k1, k2, k3, k4, k5, k6, k7, k8, k9, hon, hbl⟩ := low
  have hag : a ≠ t'.r.g := fun h => by
    have hmem : t'.r ∈ t.recs := hP.mem_iff.1 (List.mem_append_right _ t'.r_mem)
    exact hm2.not_in hb2 (by decide) (by decide) (by decide) t'.r hmem (by rw [h]; simp [Rec.blocks])
  have hb3 : BagAt W3 a (some t.r.b) ((l ++ r).length : Int) := (hon.block a (Array.getElem?_eq_some_iff.1 hb2).1 (fun h => h.elim (fun h => hga h.symm) hag)).trans hb2
  refine ⟨_, rfl, ?_⟩
  have cR := remove_tree z q fs a t.r.b g2 c2 ((l ++ r).length : Int) W3 (fun h => hM (by have := List.length_pos_iff.2 h; omega)) hm3 k1 k2 k3 k4 k5 (k6.trans htop) hb3 k8 hv
  rw [k7] at cR
  refine (callsIn_wide.1 cR).mono ?_
  rintro e W ⟨rfl, hO, hT⟩
  have hFk : ∀ k, RemOwn z fs a k → F k := fun k hk => by
    rcases hk with hk | rfl
    · obtain ⟨r0, hr0, hk0⟩ := hbl k hk
      exact hFt r0 (hP.mem_iff.1 hr0) k hk0
    · exact hFa
  have hO2 : Only F w W2 := (Only.of_below hB).step ho (fun i _ h => h ▸ hFa)
  have hO3 : Only F w W3 := hO2.step hon (fun i hi h => by
    rcases h with rfl | rfl
    · omega
    · exact hFt t'.r (hP.mem_iff.1 (List.mem_append_right _ t'.r_mem)) _ (by simp [Rec.blocks]))
  refine ⟨rfl, ⟨T.rise_drop hR, .inl hFa, ?_⟩, hO3.step hO (fun i _ h => hFk i h)⟩
  rcases hT with ⟨h1, h2⟩ | ⟨t2, d2, h1, h2, h3, h4, h5, h6⟩
  · exact .inl ⟨h1, h2⟩
  · exact .inr ⟨t2, d2, h1, h2.mem, h3, h4, h5, h6, fun r0 hr0 k hk => (h2.bnd r0 hr0 k hk).imp (hFk k) (fun h => Nat.le_trans hO3.size h)⟩

end Go.Proofs.Ytkhbfjncamobdaa.S

namespace Go.Proofs.Ytkhbfjncamobdaa.S
open Go.RowKit Go.Shelf
set_option linter.unusedVariables false

def DropPost (at0 : Int) (xs : List It) (a : Nat) (F : Nat → Prop) (w : World) (e : Ending) (W : World) : Prop :=
  e = .returned (.bool (T.get at0 xs).isSome) ∧ BagIs W a (fun k => F k ∨ w.heap.size ≤ k) (T.del at0 xs) ∧ Only F w W

set_option maxRecDepth 100000 in
set_option maxHeartbeats 4000000 in
theorem drop_old (at0 : Int) (xs : List It) (a : Nat) (F : Nat → Prop) (t : T ByteArray) (d : Nat) (w : World) (hM : 0 < d → MendSaid) (hr : T.Rise xs) (hl : xs.length ≤ 1000) (hFa : F a) (hb : BagAt w a (some t.r.b) xs.length) (hm : Mem w t.recs) (hw : T.wf d t) (h1 : 1 ≤ t.r.items.length) (h7 : t.r.items.length ≤ 7) (hx : t.inord = xs) (hFt : ∀ r, r ∈ t.recs → ∀ k, k ∈ r.blocks → F k) (hf : T.wfound at0 d t = true) :
    Calls Try.prog 12 #[ptrV a, .int .i64 at0] w (DropPost at0 xs a F w) := by
  subst hx
  have hd := T.height_le d t hw h1
  have cH := highest_some a (some t.r.b) t.inord.length w hb
  have cW := way_some at0 d t w hm.ok hw (by omega)
  obtain ⟨b0, b1, bf0, bf1⟩ := bag_cells hb
  obtain ⟨t', fs', dh, x, l, r, e1, e2, e3, e4, e5, e6, e7, e8⟩ := drop_ready hm hw h1 h7 hr hl hf hb
  have HE8 := Lib.hid e8
  have HF := Lib.hid hf
  have HM := Lib.hid hm
  have HB := Lib.hid hb
  have HMM := Lib.hid hM
  have HFT := Lib.hid hFt
  have HE := Lib.hid (And.intro e1 (And.intro e2 (And.intro e3 (And.intro e4 (And.intro e5 (And.intro e6 e7))))))
  have HR := Lib.hid hr
  have HL := Lib.hid hl
  have ha : a < w.heap.size := (Array.getElem?_eq_some_iff.1 hb).1
  have hwr : IntKind.i64.wrap ((t.inord.length : Int) - 1) = (t.inord.length : Int) - 1 := by rw [IntKind.wrap_i64]; omega
  have HK : Hid (∀ w1, Below w.heap.size w w1 → w1.cell? ⟨a, 1, none⟩ = some (.int .i64 (t.inord.length : Int)) ∧ w1.frozen? ⟨a, 1, none⟩ = false) := fun w1 hB => by
    have h := (hB.block a ha).trans hb
    exact ⟨by rw [cell_of_row w1 _ 1 _ _ _ h]; rfl, by simp [World.frozen?, h]⟩
  have HG : Hid ((T.get at0 t.inord).isSome = true ∧ T.del at0 t.inord = l ++ r) := by
    refine ⟨?_, ?_⟩
    · rw [e1, T.get_in at0 l r x e3 e2]; rfl
    · rw [e1]; exact T.del_in at0 l r x e3 e2 e4
  have HFIN : Hid (∀ (g : Nat) (w1 W2 W3 : World) (e : Ending), Below w.heap.size w w1 → w.heap.size ≤ g → w1.setCell ⟨a, 1, none⟩ (.int .i64 ((t.inord.length : Int) - 1)) = W2 → LowAny t' fs' dh (l ++ r) g W2 e W3 → ∃ v, e = .returned v ∧ Calls Try.prog 21 #[.pointer (some ⟨a, 0, none⟩), v] W3 fun e W => e = .returned (.tuple #[]) ∧ BagIs W a (fun k => F k ∨ w.heap.size ≤ k) (l ++ r) ∧ Only F w W) := fun g w1 W2 W3 e hB hg hW2 low => by
    have hb1 : BagAt w1 a (some t.r.b) t.inord.length := (hB.block a ha).trans hb
    have ho : Only (fun b => b = a) w1 W2 := by rw [← hW2]; exact Only.setCell (S := fun b => b = a) (p := ⟨a, 1, none⟩) (Only.refl _ w1) (.inr rfl) _
    have hm1 : Mem w1 t.recs := hm.kept fun q hq k hk => hB.block k ((hm.ok q hq).blk k hk)
    have hnot := hm1.not_in hb1 (by decide) (by decide) (by decide)
    have hm2 : Mem W2 t.recs := hm1.kept fun q hq k hk => ho.block k ((hm1.ok q hq).blk k hk) (fun h => hnot q hq (h ▸ hk))
    have hb2 : BagAt W2 a (some t.r.b) ((l ++ r).length : Int) := by
      have := set_node1 (v' := .int .i64 ((t.inord.length : Int) - 1)) hb1
      rw [hW2, show ((t.inord.length : Int) - 1) = ((l ++ r).length : Int) from by rw [e1]; simp only [List.length_append, List.length_cons]; omega] at this
      exact this
    exact drop_fin (x := x) (fun h => hM (by rcases Nat.eq_zero_or_pos d with h0 | h0
                                             · have := e7 h0; omega
                                             · exact h0)) hFt hFa e5 (e1 ▸ hr) e6 ha hB hg ho hm2 hb2 (by omega) low
  unfold ptrV at cH cW ⊢
  simp only [Option.map_some] at cH b0
  clear hf hm hb hr hFt hM e1 e2 e3 e4 e5 e6 e7 e8 hl h1 h7 hw hd
  go_enter Try.func12, Try.ntmps12
  go_wp2_with (first | (go_at_call 17; refine cH.mono ?_; rintro e w' ⟨rfl, rfl⟩) | (go_at_call 19; refine cW.mono ?_; rintro e w1 ⟨v, rfl, hv, hB⟩; rw [HF.out]; obtain ⟨g, c, rfl, hg0, hg1, hlow⟩ := HE8.out w1 v hB hv; obtain ⟨y0, y1⟩ := HK.out w1 hB; have HLOW := Lib.hid hlow; have HBL := Lib.hid hB; clear hB hv hlow) | (go_at_call 22; refine (HLOW.out _ (Only.setCell (S := fun b => b = a) (p := ⟨a, 1, none⟩) (Only.refl _ w1) (.inr rfl) _)).mono ?_; rintro e W3 hlw; obtain ⟨v2, rfl, cR⟩ := HFIN.out g w1 _ W3 e HBL.out hg0 rfl hlw; clear hlw) | (go_at_call 21; refine cR.mono ?_; rintro e W ⟨rfl, hfin⟩; have HFI := Lib.hid hfin; clear hfin cR))
  go_ret
  exact ⟨congrArg (fun b => Ending.returned (.bool b)) HG.out.1.symm, by rw [HG.out.2]; exact HFI.out.1, HFI.out.2⟩

theorem drop_nothing {at0 : Int} {xs : List It} {a : Nat} {F : Nat → Prop} {w W : World} {e : Ending} (h : BagIs w a F xs) (hne : ∀ y, y ∈ xs → y.1 ≠ at0) (hp : e = .returned (.bool false) ∧ Below w.heap.size w W) : DropPost at0 xs a F w e W := by
  obtain ⟨he, hB⟩ := hp
  have hO : Only (fun _ => False) w W := Only.of_below hB
  refine ⟨?_, ?_, Only.of_below hB⟩
  · rw [he, T.get_out at0 _ hne]; rfl
  · rw [T.del_out at0 _ hne]
    exact (h.kept hO (fun _ _ h => h)).more (fun k hk => .inl hk)

/-- Drop, at whatever bag of no more than a thousand numbers -/
theorem drop_any (at0 : Int) (xs : List It) (a : Nat) (F : Nat → Prop) (w : World) (hM : 3 < xs.length → MendSaid) (h : BagIs w a F xs) (hl : xs.length ≤ 1000) :
    Calls Try.prog 12 #[ptrV a, .int .i64 at0] w (DropPost at0 xs a F w) := by
  rcases h.tree with ⟨hb, rfl⟩ | ⟨t, d, hb, hm, hw, h1, h7, hx, hF⟩
  · exact (drop_none at0 a none 0 w hb ((way_nil at0 w).mono fun e w' ⟨he, hw⟩ => ⟨_, he, hw ▸ Below.refl _ _⟩)).mono fun e W hp => drop_nothing h (by simp) hp
  · cases hf : T.wfound at0 d t with
    | false =>
      have hd := T.height_le d t hw h1
      refine (drop_none at0 a (some t.r.b) xs.length w hb ((way_some at0 d t w hm.ok hw (by rw [hx] at hd; omega)).mono fun e w' ⟨v, he, _, hB⟩ => ⟨v, by rw [hf] at he; exact he, hB⟩)).mono fun e W hp => drop_nothing h ?_ hp
      obtain ⟨l, r, hout, hlo, hhi⟩ := (T.wfs_open at0 d t [] hw trivial h1 h7 (by simp) (hx ▸ h.rise) hf).out
      have hsame := (T.wfs_open at0 d t [] hw trivial h1 h7 (by simp) (hx ▸ h.rise) hf).same
      have e1 : xs = l ++ r := by
        have := hout []
        rw [hsame] at this
        rw [← hx]
        simpa [T.around] using this
      rw [e1]
      intro y hy
      rcases List.mem_append.1 hy with hy | hy
      · have := hlo y hy; omega
      · have := hhi y hy; omega
    | true =>
      refine drop_old at0 xs a F t d w (fun h0 => hM ?_) h.rise hl h.own hb hm hw h1 h7 hx hF hf
      have := height3 d t 1 (by omega) hw h1 (by omega)
      rw [hx] at this
      omega

end Go.Proofs.Ytkhbfjncamobdaa.S
