/- (*Bag).remove, walked. -/
import Derived.BigRegionIn
import Derived.StillTailTactics
import Derived.Deep.RegionHeld3
import Derived.Test.YtkhbfjncamobdaaBagRemS
namespace Go.Proofs.Ytkhbfjncamobdaa.S
open Go.RowKit Go.Shelf
attribute [local go_sem] Oper.semAt_some
set_option linter.unusedVariables false
set_option linter.unusedSimpArgs false

theorem Grew.rebase {S : Nat → Prop} {w w0 W : World} {L : List (Rec ByteArray)} (h : Grew S (fun _ => False) w0 W L) (hb : Only S w w0) : Grew S (fun _ => False) w W L :=
  ⟨h.mem, (hb.mono (fun _ _ h => .inl h)).step h.only (fun i hi hh => hh), fun r hr k hk => (h.bnd r hr k hk).imp id (fun h2 => Nat.le_trans hb.size h2)⟩

/-- where the work begins: the item is out of its node -/
theorem rem_start (z : T ByteArray) (p : Nat) (fs : T.Fs ByteArray) (a top : Nat) (n : Int) (w W1 W3 W0 : World) (r' : Rec ByteArray) (hm : Mem w (z.r :: T.ctx fs)) (hz : T.wf 0 z) (hp : p < z.r.items.length) (hz7 : z.r.items.length ≤ 7) (hz3 : fs ≠ [] → 3 ≤ z.r.items.length)
    (hch : T.Chain 0 fs z.r.b) (htop : T.topOf fs z.r.b = top) (hbag : BagAt w a (some top) n) (hB1 : Below w.heap.size w W1) (hT : Turned W1 z.r W3 r') (hi : r'.items = z.r.items.take p ++ z.r.items.drop (p + 1)) (hkv : r'.kv = z.r.kv) (hg : r'.g = z.r.g) (hkids : r'.kids = z.r.kids) (hB0 : Below W3.heap.size W3 W0) :
    RemI z fs (T.around fs (z.r.items.take p ++ z.r.items.drop (p + 1))) a top n W0 0 W0 (T.node r' []) ∧ Only (RemOwn z fs a) w W0 := by
  have hm1 : Mem W1 (z.r :: T.ctx fs) := hm.kept fun r hr k hk => hB1.block k ((hm.ok r hr).blk k hk)
  have G := Grew.start (RemOwn z fs a) (fun _ => False) hm1 (fun r hr k hk => .inl ⟨r, hr, hk⟩)
  have G2 := G.turned hT
  have M0 : Mem W0 (r' :: T.ctx fs) := G2.mem.kept fun r hr k hk => hB0.block k ((G2.mem.ok r hr).blk k hk)
  have hbl : r'.blocks = z.r.blocks := by unfold Rec.blocks; rw [hT.b, hg, hkv]
  have ha : a < w.heap.size := (Array.getElem?_eq_some_iff.1 hbag).1
  have ha1 := (hB1.block a ha).trans hbag
  have ha2 := (hT.only.block a (Nat.lt_of_lt_of_le ha hB1.size) (fun hc => by
    obtain ⟨c2, t2, h2, ht2⟩ := (hm1.ok z.r (by simp)).cells a hc
    rw [ha1] at h2
    cases h2
    rcases ht2 with e | e | e <;> cases e)).trans ha1
  have ha3 := (hB0.block a (Nat.lt_of_lt_of_le (Nat.lt_of_lt_of_le ha hB1.size) hT.only.size)).trans ha2
  have hlen : (z.r.items.take p ++ z.r.items.drop (p + 1)).length = z.r.items.length - 1 := by simp only [List.length_append, List.length_take, List.length_drop]; omega
  refine ⟨⟨?_, ⟨rfl, ?_, ?_⟩, ?_, ?_, ?_, ?_, ?_, ha3⟩, ?_⟩
  · have hrec : (T.node r' []).recs = [r'] := by rw [T.recs_eq]; rfl
    rw [hrec]
    refine (Grew.start (RemOwn z fs a) (fun _ => False) M0 (fun r hr k hk => ?_)).perm (by simpa using (List.perm_append_singleton r' (T.ctx fs)).symm)
    rcases List.mem_cons.1 hr with rfl | hr
    · exact .inl ⟨z.r, by simp, hbl ▸ hk⟩
    · exact .inl ⟨r, by simp [hr], hk⟩
  · show r'.kv = none
    rw [hkv]; exact hz.2.1
  · show r'.kids = []
    rw [hkids]; exact hz.2.2
  · show T.Chain 0 fs r'.b
    rw [hT.b]; exact hch
  · show r'.items.length ≤ 7
    rw [hi, hlen]; omega
  · intro hfs
    show 2 ≤ r'.items.length
    have := hz3 hfs
    rw [hi, hlen]; omega
  · have hin : (T.node r' []).inord = r'.items := by rw [T.inord_eq]; simp [T.inter, T.ks, T.r]
    rw [hin, hi]; rfl
  · show T.topOf fs r'.b = top
    rw [hT.b]; exact htop
  · exact (Only.of_below hB1).trans ((G2.only.mono (fun _ _ (h : _ ∨ False) => h.elim id (fun h => h.elim))).trans (Only.of_below hB0))

def RemAx (fs : T.Fs ByteArray) (a g c p zb zg zl zc ws bs L : Nat) (B : Nat) (k : Nat) (a' : Act) (W : World) : Prop :=
  ∃ Bx f, fs[k]? = some f ∧ B ≤ Bx ∧ W.heap[Bx]? = some (.cells #[.pointer (some ⟨f.1.r.b, 0, none⟩), .int .i64 (f.2 : Int)] 60 (0, 0)) ∧ a' = { tmps := #[.pointer (some ⟨a, 0, none⟩), .slice (some ⟨g, 0, none⟩) (L + 1) c, undef, undef, .slice (some ⟨g, 0, none⟩) L c, .pointer (some ⟨ws, 0, none⟩), undef, .pointer (some ⟨Bx, 0, none⟩), .slice (some ⟨g, 0, none⟩) (L + 1) c, .slice (some ⟨g, 0, none⟩) (L + 1) c, .int .i64 ((L : Int) + 1), .int .i64 (L : Int), .slice (some ⟨g, 0, none⟩) L c, .slice (some ⟨g, 0, none⟩) (L + 1) c, .slice (some ⟨g, 0, none⟩) (L + 1) c, .int .i64 ((L : Int) + 1), .int .i64 (L : Int), .pointer (some ⟨g, L * 2, none⟩), .agg #[.pointer (some ⟨zb, 0, none⟩), .int .i64 (p : Int)], .pointer (some ⟨ws, 0, none⟩), .pointer (some ⟨zb, 0, none⟩), .pointer (some ⟨ws, 0, none⟩), .pointer (some ⟨zb, 0, none⟩), .pointer (some ⟨zb, 0, none⟩), .pointer (some ⟨zb, 0, none⟩), .slice (some ⟨zg, 0, none⟩) zl zc, .pointer (some ⟨ws, 1, none⟩), .int .i64 (p : Int), .pointer (some ⟨ws, 1, none⟩), .int .i64 (p : Int), .int .i64 ((p : Int) + 1), .slice (some ⟨zg, 0, none⟩) (p + (zl - (p + 1))) zc, .pointer (some ⟨zb, 0, none⟩), .pointer (some ⟨zb, 0, none⟩), .slice (some ⟨g, 0, none⟩) L c, .func (.func 38) #[] #[.pointer (some ⟨bs, 0, none⟩)], .int .i64 ((L : Int) - 1 - k), .agg #[.pointer (some ⟨f.1.r.b, 0, none⟩), .int .i64 (f.2 : Int)], undef, undef, undef, undef, undef, undef, undef, undef, undef, undef, undef, undef, undef, undef, undef, undef, undef, undef, undef, undef, undef, undef, undef, undef, undef, undef, undef, undef, undef, undef, undef, undef, undef, undef, undef, undef], defers := [] }
theorem remA_own {fs : T.Fs ByteArray} {a g c p zb zg zl zc ws bs L B B2 : Nat} (k : Nat) (a' : Act) : OwnFrom B2 (fun (_ : Unit) W => RemAx fs a g c p zb zg zl zc ws bs L B k a' W) := fun _ W W' row hI hg hr => by
  obtain ⟨Bx, f, h1, h2, h3, h4⟩ := hI
  exact ⟨Bx, f, h1, h2, kept_cells h3 hg hr, h4⟩
theorem remI_alloc {z : T ByteArray} {fs : T.Fs ByteArray} {target : List It} {a top : Nat} {n : Int} {W0 W : World} {Bs k : Nat} {v : Value} (hc : ∀ b, b = Bs ∨ v.ownBlock = some b → ∃ c t f, W0.heap[b]? = some (.cells c t f)) (h : RemInv z fs target a top n W0 Bs v k W) (o : Obj) : RemInv z fs target a top n W0 Bs v k (W.alloc o) :=
  remI_own hc k W _ none h (World.grownBy_alloc W o none) (fun r e => by cases e)

theorem remI_drew {z : T ByteArray} {fs : T.Fs ByteArray} {target : List It} {a top : Nat} {n : Int} {W0 W : World} {k : Nat} {H : T ByteArray} (h : RemI z fs target a top n W0 k W H) : RemI z fs target a top n W0 k W.drew H := ⟨h.g.drew, h.wf, h.chain, h.hi, h.lo, h.inord, h.topp, h.bag⟩

/-- the top has nothing left: what stands below it is the top now -/
theorem rem_top {z : T ByteArray} {fs : T.Fs ByteArray} {target : List It} {a top : Nat} {n : Int} {W0 W : World} {H : T ByteArray} (hI : RemI z fs target a top n W0 fs.length W H) (h0 : H.r.items = []) :
    ∃ o : Option Nat, (∀ V, Ok V H.r → Calls Try.prog 31 #[.pointer (some ⟨top, 0, none⟩), .int .i64 0] V fun e w' => e = .returned (.pointer (o.map fun b => (⟨b, 0, none⟩ : Addr))) ∧ V = w') ∧
      ∀ W5, Only (fun b => b = a) W W5 → BagAt W5 a o n → Only (RemOwn z fs a) W0 W5 ∧ ((BagAt W5 a none n ∧ target = []) ∨ ∃ t' d', BagAt W5 a (some t'.r.b) n ∧ Grew (RemOwn z fs a) (fun _ => False) W0 W5 t'.recs ∧ T.wf d' t' ∧ 1 ≤ t'.r.items.length ∧ t'.r.items.length ≤ 7 ∧ t'.inord = target) := by
  have hg := hI.g
  have htop := hI.topp
  have hin := hI.inord
  have hw := hI.wf
  rw [List.drop_length] at hg htop hin
  have htop2 : H.r.b = top := htop
  have hin2 : H.inord = target := hin
  have hg2 : Grew (RemOwn z fs a) (fun _ => False) W0 W H.recs := hg
  have hna : ∀ r, r ∈ H.recs → a ∉ r.blocks := hg2.mem.not_in hI.bag (by decide) (by decide) (by decide)
  have hon : ∀ W5, Only (fun b => b = a) W W5 → Only (RemOwn z fs a) W0 W5 := fun W5 ho => (hg2.only.mono (fun _ _ (h : _ ∨ False) => h.elim id (fun h => h.elim))).trans (ho.mono (fun _ _ h => .inr h))
  have hg5 : ∀ W5, Only (fun b => b = a) W W5 → Grew (RemOwn z fs a) (fun _ => False) W0 W5 H.recs := fun W5 ho => hg2.beside ho (fun k hk => by cases hk; exact ⟨.inr (.inl (.inr rfl)), hna⟩)
  cases hd : fs.length with
  | zero =>
    rw [hd] at hw
    refine ⟨none, fun V hV => ?_, fun W5 ho hb => ⟨hon W5 ho, .inl ⟨hb, ?_⟩⟩⟩
    · have := under_none H.r 0 V hV hw.2.1
      rw [htop2] at this
      exact this
    · rw [← hin2, T.inord_eq, hw.1, h0]; rfl
  | succ d =>
    rw [hd] at hw
    obtain ⟨w1, w2, w3, w4⟩ := hw
    obtain ⟨q, hq⟩ := Option.isSome_iff_exists.1 w1
    rw [h0] at w3
    obtain ⟨k0, hk0⟩ : ∃ k0, H.ks = [k0] := by
      cases hks : H.ks with
      | nil => rw [hks] at w3; simp at w3
      | cons x l => cases l with
        | nil => exact ⟨x, rfl⟩
        | cons y l => rw [hks] at w3; simp at w3
    have hkm : k0 ∈ H.ks := by rw [hk0]; simp
    obtain ⟨v1, v2, v3⟩ := w4 k0 hkm
    refine ⟨some k0.r.b, fun V hV => ?_, fun W5 ho hb => ⟨hon W5 ho, .inr ⟨k0, d, hb, ?_, v1, by omega, v3, ?_⟩⟩⟩
    · have := under_some H.r 0 q k0.r.b V hV hq (by rw [w2, hk0]; rfl)
      rw [htop2] at this
      exact this
    · have h5 := hg5 W5 ho
      rw [T.recs_eq, hk0] at h5
      simp only [List.flatMap_cons, List.flatMap_nil, List.append_nil] at h5
      exact ⟨⟨fun r hr => h5.mem.ok r (List.mem_cons_of_mem _ hr), (nodup_cons_iff.1 h5.mem.nd).2.1⟩, h5.only, fun r hr => h5.bnd r (List.mem_cons_of_mem _ hr)⟩
    · rw [← hin2, T.inord_eq H, hk0, h0]
      simp [T.inter]

set_option maxRecDepth 100000 in
set_option maxHeartbeats 4000000 in
theorem remove_tree (z : T ByteArray) (p : Nat) (fs : T.Fs ByteArray) (a top g c : Nat) (n : Int) (w : World) (hM : fs ≠ [] → MendSaid) (hm : Mem w (z.r :: T.ctx fs)) (hz : T.wf 0 z) (hp : p < z.r.items.length) (hz7 : z.r.items.length ≤ 7) (hz3 : fs ≠ [] → 3 ≤ z.r.items.length)
    (hch : T.Chain 0 fs z.r.b) (htop : T.topOf fs z.r.b = top) (hbag : BagAt w a (some top) n) (hl : fs.length ≤ 1000)
    (hv : w.ownsRow 0 60 2 (.slice (some ⟨g, 0, none⟩) (fs.length + 1) c) (fs.length + 1) (cellsS ((fs.map gstep).reverse ++ [(z.r.b, p)]))) :
    CallsIn Fence.wide 9 Try.prog 21 #[ptrV a, .slice (some ⟨g, 0, none⟩) (fs.length + 1) c] w (RemPost z fs (T.around fs (z.r.items.take p ++ z.r.items.drop (p + 1))) a n w) := by
  have hfn : ∀ f, Fence.wide.fn f := fun _ => trivial
  have hdd : ∀ k : Nat, (Fence.wide.depth.isSome = true → 1 ≤ k) := fun k h => by cases h
  obtain ⟨rest, hr1, hr2, hr3, hr4, hr5, _⟩ := row_of_own hv
  unfold maxLen at hr4
  have hok := hm.ok z.r (by simp)
  have hst := cellsS_at ((fs.map gstep).reverse ++ [(z.r.b, p)]) fs.length (z.r.b, p) (by rw [List.getElem?_append_right (by simp)]; simp)
  have s0 := (hv.cellAt (fs.length * 2) (by omega)).trans hst.1
  have s1 := (hv.cellAt (fs.length * 2 + 1) (by omega)).trans hst.2
  unfold ptrV at s0
  have c0 := hok.c0
  have hil := hok.ilen
  unfold Rec.iv at c0
  have hf0 := hok.f 0
  have hlb := hok.blk z.r.b (by simp [Rec.blocks])
  have hgl := hr1.lt
  have hcne : ¬ (c = fs.length) := by omega
  have hBx : Below w.heap.size w (w.alloc (.cells #[.pointer (some ⟨z.r.b, 0, none⟩), .int .i64 (p : Int)] 60)) := (Below.refl _ w).alloc (Nat.le_refl _) _
  have hokx : Ok (w.alloc (.cells #[.pointer (some ⟨z.r.b, 0, none⟩), .int .i64 (p : Int)] 60)).drew.drew z.r := (hok.below hBx).drew.drew
  have HM := Lib.hid hm
  have HV := Lib.hid hv
  have HOK := Lib.hid hok
  have HBX := Lib.hid hBx
  have HOKX := Lib.hid hokx
  have HBAG := Lib.hid hbag
  have HCH := Lib.hid hch
  have HTOP := Lib.hid htop
  have HMM := Lib.hid hM
  unfold ptrV
  clear hm hv hok hst hBx hokx hbag hch htop hr1 hr2 hM
  refine callsIn_of_wp_marks Try.func21 rfl trivial ?_ rfl
  simp only [Try.ntmps21, List.size_toArray, List.length_cons, List.length_nil, Nat.reduceAdd, Nat.reduceSub, Array.replicate_succ, Array.replicate_zero, List.push_toArray, List.append_toArray, List.nil_append, List.cons_append]
  gi_wp2
  have HC0 := Lib.hid c0
  have HF0 := Lib.hid hf0
  have HIL := Lib.hid hil
  have HZ := Lib.hid hz
  have HZ3 := Lib.hid hz3
  clear c0 hf0 hil hz hz3 hr5
  refine wpIn_wide.2 ?_
  have hww1 : IntKind.i64.wrap (((fs.length + 1 : Nat) : Int) - 1) = (fs.length : Int) := by rw [IntKind.wrap_i64]; omega
  have hww2 : IntKind.i64.wrap ((fs.length : Int) + 1 - 1) = (fs.length : Int) := by have := hww1; push_cast at this; exact this
  have hww3 : (0 : Int) ≤ (fs.length : Int) := by omega
  have hww4 : (fs.length : Int) ≤ (fs.length : Int) + 1 := by omega
  have hww5 : (fs.length : Int) < (fs.length : Int) + 1 := by omega
  have hww6 : (fs.length : Int) ≤ (c : Int) := by omega
  have hww7 : fs.length ≤ c := by omega
  have hww8 : IntKind.i64.wrap (fs.length : Int) = (fs.length : Int) := by rw [IntKind.wrap_i64]; omega
  go_region_held3 (fun w' => w'.cell? ⟨g, fs.length * 2, none⟩ = some (.pointer (some ⟨z.r.b, 0, none⟩)) ∧ w'.cell? ⟨g, fs.length * 2 + 1, none⟩ = some (.int .i64 (p : Int))) (go_keep) ((fail))
  clear s0 s1 hww1 hww2 hww8
  gi_wp2
  obtain ⟨W1, hW1⟩ : ∃ W1, (w.alloc (.cells #[.pointer (some ⟨z.r.b, 0, none⟩), .int .i64 (p : Int)] 60)).drew = W1 := ⟨_, rfl⟩
  rw [hW1]
  have hAx : W1.heap[w.heap.size]? = some (.cells #[.pointer (some ⟨z.r.b, 0, none⟩), .int .i64 (p : Int)] 60 (0, 0)) := by rw [← hW1]; exact heap_alloc_new w _
  have hB1 : Below w.heap.size w W1 := by rw [← hW1]; exact HBX.out.drew
  have ok1 : Ok W1.drew z.r := (HOK.out.below hB1).drew
  have a0 : W1.cell? ⟨w.heap.size, 0, none⟩ = some (.pointer (some ⟨z.r.b, 0, none⟩)) := by rw [cell_of_row W1 _ 0 _ _ _ hAx]; rfl
  have a1 : W1.cell? ⟨w.heap.size, 1, none⟩ = some (.int .i64 (p : Int)) := by rw [cell_of_row W1 _ 1 _ _ _ hAx]; rfl
  have b0 := (HOK.out.below hB1).c0
  unfold Rec.iv at b0
  have hAn : w.heap.size ≠ z.r.g := by have := HOK.out.blk z.r.g (by simp [Rec.blocks]); omega
  have hA1 : w.heap.size < W1.heap.size := (Array.getElem?_eq_some_iff.1 hAx).1
  have hb1 : z.r.b < W1.heap.size := by omega
  have cD := delI_some 0 z.r.g z.r.items.length z.r.cap p (p + 1) (cellsI z.r.items) W1.drew (by omega) (by omega) (by omega) ok1.irow (cellsI_one _)
  rw [show ((p + 1 : Nat) : Int) = (p : Int) + 1 from rfl] at cD
  have HK1 : Hid (∀ W2, Only (fun k => k = z.r.g) W1.drew W2 → W2.cell? ⟨w.heap.size, 0, none⟩ = some (.pointer (some ⟨z.r.b, 0, none⟩)) ∧ W2.cell? ⟨w.heap.size, 1, none⟩ = some (.int .i64 (p : Int)) ∧ W2.cell? ⟨z.r.b, 0, none⟩ = some (.slice (some ⟨z.r.g, 0, none⟩) z.r.items.length z.r.cap) ∧ W2.frozen? ⟨z.r.b, 0, none⟩ = false ∧ (∀ u, (W2.setCell ⟨z.r.b, 0, none⟩ u).cell? ⟨w.heap.size, 0, none⟩ = some (.pointer (some ⟨z.r.b, 0, none⟩)) ∧ (W2.setCell ⟨z.r.b, 0, none⟩ u).cell? ⟨w.heap.size, 1, none⟩ = some (.int .i64 (p : Int)))) := fun W2 ho => by
    have e1 := (ho.block w.heap.size hA1 hAn).trans hAx
    have e2 := (ho.block z.r.b hb1 ok1.b_ne_g).trans ok1.node
    exact ⟨by rw [cell_of_row W2 _ 0 _ _ _ e1]; rfl, by rw [cell_of_row W2 _ 1 _ _ _ e1]; rfl, by rw [cell_of_row W2 _ 0 _ _ _ e2]; rfl, by simp [World.frozen?, e2], fun u => by
      have e3 := (set_far W2 z.r.b 0 w.heap.size u (by omega)).trans e1
      exact ⟨by rw [cell_of_row _ _ 0 _ _ _ e3]; rfl, by rw [cell_of_row _ _ 1 _ _ _ e3]; rfl⟩⟩
  have HX := Lib.hid hAx
  have HB1 := Lib.hid hB1
  have HOK1 := Lib.hid ok1
  have HW1 := Lib.hid hW1
  have hwp : IntKind.i64.wrap ((p : Int) + 1) = (p : Int) + 1 := by rw [IntKind.wrap_i64]; omega
  clear hAx hB1 ok1 hW1 hA1 hb1
  refine wpIn_wide.2 ?_
  refine wp_region_noPanic ?_
  refine wp_region_held_drew (S := fun w' => w'.cell? ⟨w.heap.size, 0, none⟩ = some (.pointer (some ⟨z.r.b, 0, none⟩)) ∧ w'.cell? ⟨w.heap.size, 1, none⟩ = some (.int .i64 (p : Int))) (by kernel_rfl) ⟨a0, a1⟩ (fun hHeld => ?_)
  refine wpAnyH_take (i := 0) (oi := ?oi0) (v := ?v0) ?lit0 (by kernel_rfl) (by kernel_rfl) (by kernel_rfl) (fun _ _ _ h => h) (Or.inl ⟨?want0, ?yields0⟩) (by assumption) ?rest0
  case lit0 => rfl
  case want0 => rfl
  case yields0 => (intro w hSw; (try dsimp only at hSw); go_simp; try (with_reducible rfl))
  try simp only [Act.put, List.setIfInBounds_toArray, List.set_cons_zero, List.set_cons_succ]
  refine wpAnyH_take (i := 1) (oi := ?oi1) (v := ?v1) ?lit1 (by kernel_rfl) (by kernel_rfl) (by kernel_rfl) (fun _ _ _ h => h) (Or.inl ⟨?want1, ?yields1⟩) (by assumption) ?rest1
  case lit1 => rfl
  case want1 => rfl
  case yields1 => (intro w hSw; (try dsimp only at hSw); go_simp; try (with_reducible rfl))
  try simp only [Act.put, List.setIfInBounds_toArray, List.set_cons_zero, List.set_cons_succ]
  refine wpAnyH_take (i := 2) (oi := ?oi2) (v := ?v2) ?lit2 (by kernel_rfl) (by kernel_rfl) (by kernel_rfl) (fun _ _ _ h => h) (Or.inl ⟨?want2, ?yields2⟩) (by assumption) ?rest2
  case lit2 => rfl
  case want2 => rfl
  case yields2 => (intro w hSw; (try dsimp only at hSw); go_simp; try (with_reducible rfl))
  try simp only [Act.put, List.setIfInBounds_toArray, List.set_cons_zero, List.set_cons_succ]
  refine wpAnyH_take (i := 3) (oi := ?oi3) (v := ?v3) ?lit3 (by kernel_rfl) (by kernel_rfl) (by kernel_rfl) (fun _ _ _ h => h) (Or.inl ⟨?want3, ?yields3⟩) (by assumption) ?rest3
  case lit3 => rfl
  case want3 => rfl
  case yields3 => (intro w hSw; (try dsimp only at hSw); go_simp; try (with_reducible rfl))
  try simp only [Act.put, List.setIfInBounds_toArray, List.set_cons_zero, List.set_cons_succ]
  refine wpAnyH_take (i := 4) (oi := ?oi4) (v := ?v4) ?lit4 (by kernel_rfl) (by kernel_rfl) (by kernel_rfl) (fun _ _ _ h => h) (Or.inl ⟨?want4, ?yields4⟩) (by assumption) ?rest4
  case lit4 => rfl
  case want4 => rfl
  case yields4 => (intro w hSw; (try dsimp only at hSw); go_simp; try (with_reducible rfl))
  try simp only [Act.put, List.setIfInBounds_toArray, List.set_cons_zero, List.set_cons_succ]
  refine wpAnyH_take (i := 5) (oi := ?oi5) (v := ?v5) ?lit5 (by kernel_rfl) (by kernel_rfl) (by kernel_rfl) (fun _ _ _ h => h) (Or.inl ⟨?want5, ?yields5⟩) (by assumption) ?rest5
  case lit5 => rfl
  case want5 => rfl
  case yields5 => (intro w hSw; (try dsimp only at hSw); go_simp; try (with_reducible rfl))
  try simp only [Act.put, List.setIfInBounds_toArray, List.set_cons_zero, List.set_cons_succ]
  refine wpAnyH_take (i := 7) (oi := ?oi7) (v := ?v7) ?lit7 (by kernel_rfl) (by kernel_rfl) (by kernel_rfl) (fun _ _ _ h => h) (Or.inl ⟨?want7, ?yields7⟩) (by assumption) ?rest7
  case lit7 => rfl
  case want7 => rfl
  case yields7 => (intro w hSw; (try dsimp only at hSw); go_simp; try (with_reducible rfl))
  try simp only [Act.put, List.setIfInBounds_toArray, List.set_cons_zero, List.set_cons_succ]
  refine wpAnyH_take (i := 8) (oi := ?oi8) (v := ?v8) ?lit8 (by kernel_rfl) (by kernel_rfl) (by kernel_rfl) (fun _ _ _ h => h) (Or.inl ⟨?want8, ?yields8⟩) (by assumption) ?rest8
  case lit8 => rfl
  case want8 => rfl
  case yields8 => (intro w hSw; (try dsimp only at hSw); go_simp; try (with_reducible rfl))
  try simp only [Act.put, List.setIfInBounds_toArray, List.set_cons_zero, List.set_cons_succ]
  refine wpAnyH_take (i := 9) (oi := ?oi9) (v := ?v9) ?lit9 (by kernel_rfl) (by kernel_rfl) (by kernel_rfl) (fun _ _ _ h => h) (Or.inl ⟨?want9, ?yields9⟩) (by assumption) ?rest9
  case lit9 => rfl
  case want9 => rfl
  case yields9 => (intro w hSw; (try dsimp only at hSw); go_simp; try (with_reducible rfl))
  try simp only [Act.put, List.setIfInBounds_toArray, List.set_cons_zero, List.set_cons_succ]
  refine wpAnyH_take (i := 10) (oi := ?oi10) (v := ?v10) ?lit10 (by kernel_rfl) (by kernel_rfl) (by kernel_rfl) (fun _ _ _ h => h) (Or.inl ⟨?want10, ?yields10⟩) (by assumption) ?rest10
  case lit10 => rfl
  case want10 => rfl
  case yields10 => (intro w hSw; (try dsimp only at hSw); go_simp; try (with_reducible rfl))
  try simp only [Act.put, List.setIfInBounds_toArray, List.set_cons_zero, List.set_cons_succ]
  refine wpAnyH_take (i := 11) (oi := ?oi11) (v := ?v11) ?lit11 (by kernel_rfl) (by kernel_rfl) (by kernel_rfl) (fun _ _ _ h => h) (Or.inl ⟨?want11, ?yields11⟩) (by assumption) ?rest11
  case lit11 => rfl
  case want11 => rfl
  case yields11 => (intro w hSw; (try dsimp only at hSw); go_simp; try (with_reducible rfl))
  try simp only [Act.put, List.setIfInBounds_toArray, List.set_cons_zero, List.set_cons_succ]
  refine wpAnyH_ready (rs := [6]) (by kernel_rfl) (by simp) ?_
  refine AllReadyH.cons (o := ?oi6) ?lit6 (fun K hK => ?rest6) AllReadyH.nil
  case lit6 => rfl
  go_simp
  refine hK.out _ _ (by assumption) (fun hHeld2 => ?_)
  clear hK K
  try simp only [Act.put, List.setIfInBounds_toArray, List.set_cons_zero, List.set_cons_succ]
  refine wpAnyH_ready (rs := [12]) (by kernel_rfl) (by simp) ?_
  refine AllReadyH.cons (o := ?oi12) ?lit12 (fun K hK => ?rest12) AllReadyH.nil
  case lit12 => rfl
  go_simp; (go_at_call 35; refine cD.mono ?_; rintro e W2 ⟨rfl, hown, hon⟩; obtain ⟨u0, u1, u2, u3, u4⟩ := HK1.out W2 hon; have HOWN := Lib.hid hown; have HON := Lib.hid hon; clear hown hon)
  refine hK.out _ _ (⟨u0, u1⟩) (fun hHeld2 => ?_)
  clear hK K
  try simp only [Act.put, List.setIfInBounds_toArray, List.set_cons_zero, List.set_cons_succ]
  refine wpAnyH_take (i := 13) (oi := ?oi13) (v := ?v13) ?lit13 (by kernel_rfl) (by kernel_rfl) (by kernel_rfl) (fun _ _ _ h => h) (Or.inl ⟨?want13, ?yields13⟩) (by assumption) ?rest13
  case lit13 => rfl
  case want13 => rfl
  case yields13 => (intro w hSw; (try dsimp only at hSw); go_simp; try (with_reducible rfl))
  try simp only [Act.put, List.setIfInBounds_toArray, List.set_cons_zero, List.set_cons_succ]
  refine wpAnyH_take (i := 14) (oi := ?oi14) (v := ?v14) ?lit14 (by kernel_rfl) (by kernel_rfl) (by kernel_rfl) (fun _ _ _ h => h) (Or.inl ⟨?want14, ?yields14⟩) (by assumption) ?rest14
  case lit14 => rfl
  case want14 => rfl
  case yields14 => (intro w hSw; (try dsimp only at hSw); go_simp; try (with_reducible rfl))
  try simp only [Act.put, List.setIfInBounds_toArray, List.set_cons_zero, List.set_cons_succ]
  refine wpAnyH_ready (rs := [15]) (by kernel_rfl) (by simp) ?_
  refine AllReadyH.cons (o := ?oi15) ?lit15 (fun K hK => ?rest15) AllReadyH.nil
  case lit15 => rfl
  go_simp
  refine hK.out _ _ (u4 _) (fun hHeld2 => ?_)
  clear hK K
  try simp only [Act.put, List.setIfInBounds_toArray, List.set_cons_zero, List.set_cons_succ]
  refine wpAnyH_done (by kernel_rfl) ?_ _
  refine NoPanic.normal ?_
  gi_wp2_with (gi_at_call 32; refine (back_in Fence.wide _ trivial rfl _ ⟨_, _, _, rfl⟩ _).mono ?_; rintro e w' ⟨rfl, rfl⟩)
  obtain ⟨W3, hW3⟩ : ∃ W3, W2.setCell ⟨z.r.b, 0, none⟩ (.slice (some ⟨z.r.g, 0, none⟩) (p + (z.r.items.length - (p + 1))) z.r.cap) = W3 := ⟨_, rfl⟩
  have hsz : W3.heap.size = W2.heap.size := by rw [← hW3, World.size_setCell]
  rw [hW3]
  obtain ⟨W0, hW0⟩ : ∃ W0, W3.alloc (.cells #[.slice (some ⟨g, 0, none⟩) fs.length c] 56) = W0 := ⟨_, rfl⟩
  rw [hW0]
  have hlen : ((fs.map gstep).reverse).length = fs.length := by simp
  have hilen : (z.r.items.take p ++ z.r.items.drop (p + 1)).length = p + (z.r.items.length - (p + 1)) := by simp only [List.length_append, List.length_take, List.length_drop]; omega
  have hT3 : Turned W1.drew z.r W3 { z.r with g := z.r.g, cap := z.r.cap, items := z.r.items.take p ++ z.r.items.drop (p + 1) } := by
    rw [← hW3]
    refine turned_items (n := p + (z.r.items.length - (p + 1))) HOK1.out HON.out hilen ?_ (.inl rfl)
    have := HOWN.out
    rwa [← cellsI_take, ← cellsI_drop, ← cellsI_append] at this
  have hB30 : Below W3.heap.size W3 W0 := by rw [← hW0]; exact (Below.refl _ W3).alloc (Nat.le_refl _) _
  obtain ⟨hI0, hOn0⟩ := rem_start z p fs a top n w W1.drew W3 W0 _ HM.out HZ.out hp hz7 HZ3.out HCH.out HTOP.out HBAG.out HB1.out.drew hT3 rfl rfl rfl rfl hB30
  have hs2 : Boxed W0 W2.heap.size 56 (.slice (some ⟨g, 0, none⟩) fs.length c) := by rw [← hW0, ← hsz]; exact Boxed.new W3 _ _
  have hwide : W1.heap.size = w.heap.size + 1 := by rw [← HW1.out]; simp
  have hgw : g < w.heap.size := hgl
  obtain ⟨gcs, hgc⟩ : ∃ gcs, w.heap[g]? = some (.cells gcs 60 (0, 0)) := by obtain ⟨rest, hr, _⟩ := row_of_own HV.out; exact ⟨_, hr⟩
  have hgnb : g ∉ z.r.blocks := fun hc => by
    obtain ⟨c2, t2, h2, ht2⟩ := HOK.out.cells g hc
    rw [hgc] at h2
    cases h2
    rcases ht2 with e | e | e <;> cases e
  have hg0 : W0.heap[g]? = w.heap[g]? := (hB30.block g (by have h1 := hT3.only.size; have h2 : W1.drew.heap.size = W1.heap.size := rfl; omega)).trans ((hT3.only.block g (by show g < W1.heap.size; omega) hgnb).trans (HB1.out.block g hgw))
  have hrow0 : W0.ownsRow 0 60 2 (.slice (some ⟨g, 0, none⟩) fs.length c) fs.length (cellsS (fs.map gstep).reverse) := by
    have h0 := HV.out
    rw [show cellsS ((fs.map gstep).reverse ++ [(z.r.b, p)]) = cellsS (fs.map gstep).reverse ++ cellsS [(z.r.b, p)] from by simp [cellsS]] at h0
    exact own_kept (own_take h0 (by rw [cellsS_length, hlen]) (by omega)) hg0
  have hkinds : ∀ b, b = W2.heap.size ∨ (Value.slice (some ⟨g, 0, none⟩) fs.length c).ownBlock = some b → ∃ c t, W0.heap[b]? = some (.cells c t (0, 0)) ∧ (t = 60 ∨ t = 56) := fun b hb => by
    rcases hb with rfl | hb
    · exact ⟨_, _, hs2, .inr rfl⟩
    · obtain rfl : g = b := by simpa [Value.ownBlock] using hb
      exact ⟨_, _, hg0.trans hgc, .inl rfl⟩
  have hcells : ∀ b, b = W2.heap.size ∨ (Value.slice (some ⟨g, 0, none⟩) fs.length c).ownBlock = some b → ∃ c t f, W0.heap[b]? = some (.cells c t f) := fun b hb => by obtain ⟨c, t, h, _⟩ := hkinds b hb; exact ⟨c, t, _, h⟩
  rw [← hlen] at hrow0
  have hst := back_steps Fence.wide 8 (by trivial) rfl (by decide) W2.heap.size (fs.map gstep).reverse (.slice (some ⟨g, 0, none⟩) fs.length c) 0 (by rw [hlen]; omega) W0 hs2.cell (by simpa only [hlen] using hrow0)
  rw [hlen] at hst
  refine wpIn_rangeFunc_steps rfl (by decide) (gf := 38) (lb := #[.pointer (some ⟨W2.heap.size, 0, none⟩)]) rfl trivial (enters_of Try.func38 (by kernel_rfl) rfl)
    hst SameV.trans (fun W l o o' hl _ _ _ b hb => World.putObj_heap_other (by obtain ⟨c, t, h, _⟩ := hkinds b hb; have := (Array.getElem?_eq_some_iff.1 h).1; omega)) (Below.refl _ _) (fun _ => rfl)
    (RemInv z fs (T.around fs (z.r.items.take p ++ z.r.items.drop (p + 1))) a top n W0 W2.heap.size (.slice (some ⟨g, 0, none⟩) fs.length c)) (RemEx z fs (T.around fs (z.r.items.take p ++ z.r.items.drop (p + 1))) a n W0) (remI_own hcells) (fun c => remE_own c) ⟨SameV.refl _ _ _, _, hI0⟩
    (RemAx fs a g c p z.r.b z.r.g z.r.items.length z.r.cap w.heap.size W2.heap.size fs.length W0.heap.size) (fun k a' => remA_own k a') ?assign ?body ?done ?stop
  case assign =>
    intro l k W K hI hk hK
    obtain ⟨f, hf1⟩ : ∃ f, fs[k]? = some f := ⟨_, List.getElem?_eq_getElem hk⟩
    have henc : backEnc (fs.map gstep).reverse k = #[.int .i64 ((fs.length : Int) - 1 - k), .agg #[.pointer (some ⟨f.1.r.b, 0, none⟩), .int .i64 (f.2 : Int)]] := by
      unfold backEnc
      rw [hlen, List.reverse_reverse, List.getD_eq_getElem?_getD, List.getElem?_map, hf1]
      rfl
    rw [henc]
    have hzz : W0.heap.size ≤ W.heap.size := by obtain ⟨_, H, hA⟩ := hI; exact hA.g.only.size
    have HK := Lib.hid (hK _ _ ((KeepsOthers.alloc W _).from _) (fun b hb => Below.heap_alloc W _ b (by obtain ⟨c, t, h, _⟩ := hkinds b hb; have := (Array.getElem?_eq_some_iff.1 h).1; omega)) (remI_alloc hcells hI _) ⟨W.heap.size, f, hf1, by omega, heap_alloc_new W _, rfl⟩)
    clear hK henc hI hst
    gi_wp2
    exact HK.out
  case body =>
    rintro l k a' W hl hrec ⟨hS, H, hA⟩ ⟨Bx, f, hf1, hBx, hbx, rfl⟩ hk
    have hQk : fs.drop k = f :: fs.drop (k + 1) := by
      rw [List.drop_eq_getElem_cons hk]
      rw [List.getElem?_eq_getElem hk] at hf1
      cases hf1; rfl
    have hch := hA.chain
    rw [hQk] at hch
    obtain ⟨g1, g2, g3, g4, g5, g6, g7⟩ := hch
    have hok : Ok W f.1.r := hA.g.mem.ok _ (by rw [hQk]; simp [T.ctx])
    have hokH : Ok W H.r := hA.g.mem.ok _ (List.mem_append_right _ H.r_mem)
    obtain ⟨q, hq⟩ := Option.isSome_iff_exists.1 g1.1
    have hkid : f.1.r.kids[f.2]? = some H.r.b := by
      obtain ⟨kd, h1, h2⟩ := g3
      rw [g1.2.1, List.getElem?_map, h1, ← h2]; rfl
    have hkl := (List.getElem?_eq_some_iff.1 hkid).1
    have kc := hok.kid hq hkid
    have c1 := hok.c1
    have i0 := hokH.c0
    have t0 : W.cell? ⟨Bx, 0, none⟩ = some (.pointer (some ⟨f.1.r.b, 0, none⟩)) := by rw [cell_of_row W _ 0 _ _ _ hbx]; rfl
    have t1 : W.cell? ⟨Bx, 1, none⟩ = some (.int .i64 (f.2 : Int)) := by rw [cell_of_row W _ 1 _ _ _ hbx]; rfl
    unfold ptrV at kc
    unfold Rec.iv at i0
    simp only [Rec.kvv, hq] at c1
    have HA := Lib.hid hA
    have HQ := Lib.hid hQk
    have HS := Lib.hid hS
    have HOKF := Lib.hid hok
    have HST := Lib.hid hst
    have HRC := Lib.hid hrec
    have HBXX := Lib.hid hbx
    have HI := Lib.hid hI0
    by_cases h3 : 3 ≤ H.r.items.length
    · have h3i : (3 : Int) ≤ (H.r.items.length : Int) := by omega
      clear hA hQk hS hok hst hrec hbx hI0 hf1 g1 g3 g6 g7 hq hkid hokH
      gi_wp2
      have HEND := Lib.hid (show KeepsFrom W0.heap.size W W.drew ∧ RemEx z fs (T.around fs (z.r.items.take p ++ z.r.items.drop (p + 1))) a n W0 .ret k W.drew from ⟨keeps_of_only _ ((Only.refl (fun _ => False) W).drew) (fun _ h => h.elim), rem_return (remI_drew HA.out) HQ.out h3⟩)
      gi_region
      all_goals gi_wp2
      all_goals exact HEND.out
    · have h2 : H.r.items.length = 2 := by have := hA.lo (by rw [hQk]; simp); omega
      have h3i : ¬ (3 : Int) ≤ (H.r.items.length : Int) := by omega
      have hfne : fs ≠ [] := by rintro rfl; simp at hk
      have hg1 := hA.g.drew
      rw [hQk] at hg1
      have hMend := HMM.out hfne k f H (RemOwn z fs a) (fun _ => False) W0 W.drew (T.ctx (fs.drop (k + 1))) g1 g2 g3 g4 g5 hA.wf h2 (hg1.perm (by
        show (f.1.r :: (T.sibs f ++ T.ctx (fs.drop (k + 1))) ++ H.recs).Perm _
        rw [List.cons_append, List.append_assoc, List.append_assoc]
        exact (List.perm_append_comm.append_left _).cons _))
      unfold ptrV at hMend
      have hall : ∀ r, r ∈ f.1.r :: (T.sibs f ++ H.recs) → Ok W r := fun r hr => hA.g.mem.ok r (by
        rw [hQk]
        show r ∈ (f.1.r :: (T.sibs f ++ T.ctx (fs.drop (k + 1)))) ++ H.recs
        rcases List.mem_cons.1 hr with rfl | hr
        · simp
        · rcases List.mem_append.1 hr with hr | hr
          · simp [hr]
          · simp [hr])
      have HALL := Lib.hid hall
      have HEND : Hid (∀ W4, MendPost k f H (RemOwn z fs a) (fun _ => False) W0 W.drew (T.ctx (fs.drop (k + 1))) (.returned (.tuple #[])) W4 → KeepsFrom W0.heap.size W W4 ∧ SameV W2.heap.size (.slice (some ⟨g, 0, none⟩) fs.length c) W W4 ∧ RemInv z fs (T.around fs (z.r.items.take p ++ z.r.items.drop (p + 1))) a top n W0 W2.heap.size (.slice (some ⟨g, 0, none⟩) fs.length c) (k + 1) W4) := fun W4 hpost => by
        obtain ⟨_, H', m1, m2, m3, m4, m5, m6, m7⟩ := hpost
        have hons : Only (fun b => ∃ r, r ∈ f.1.r :: (T.sibs f ++ H.recs) ∧ b ∈ r.blocks) W W4 := ((Only.refl _ W).drew).trans m7
        have hnot : ∀ (b : Nat) (c : Array Value) (t : TypeId), W.heap[b]? = some (.cells c t (0, 0)) → t ≠ 55 → t ≠ 62 → t ≠ 40 → W4.heap[b]? = W.heap[b]? := fun b c t h e1 e2 e3 => hons.block b (Array.getElem?_eq_some_iff.1 h).1 (fun ⟨r, hr, hb⟩ => by
          obtain ⟨c2, t2, h2, ht2⟩ := (HALL.out r hr).cells b hb
          rw [h] at h2
          cases h2
          rcases ht2 with e | e | e
          · exact e1 e
          · exact e2 e
          · exact e3 e)
        have hsame : SameV W2.heap.size (.slice (some ⟨g, 0, none⟩) fs.length c) W W4 := fun b hb => by
          obtain ⟨c2, t2, h2, ht2⟩ := hkinds b hb
          rw [← HS.out b hb] at h2
          refine hnot b c2 t2 h2 ?_ ?_ ?_ <;> (rcases ht2 with rfl | rfl <;> decide)
        exact ⟨keeps_of_only _ hons (fun b ⟨r, hr, hb⟩ => by obtain ⟨c2, t2, h2, _⟩ := (HALL.out r hr).cells b hb; exact ⟨c2, t2, _, h2⟩), hsame, HS.out.trans hsame, H', rem_next HA.out HQ.out m1 m2 m3 m4 m5 m6 ((hnot a _ _ HA.out.bag (by decide) (by decide) (by decide)).trans HA.out.bag)⟩
      clear hA hQk hS hok hst hrec hbx hI0 hf1 g1 g3 g6 g7 hq hkid hokH hg1 hall hfne h2
      gi_wp2
      gi_region
      all_goals gi_wp2_with (gi_at_call 36; refine (CallsIn.inRound l (callsIn_wide.2 hMend)).mono ?_; rintro e W4 ⟨rfl, hpost⟩; have HP := Lib.hid (HEND.out W4 ⟨rfl, hpost⟩); clear hpost hMend)
      all_goals exact HP.out
  case done =>
    rintro D W hD ⟨hS, H, hA⟩ hKD
    have hgD := hA.g
    have htD := hA.topp
    have hinD := hA.inord
    rw [List.drop_length] at hgD htD hinD
    have htD2 : H.r.b = top := htD
    have hokH : Ok W H.r := hgD.mem.ok _ (List.mem_append_right _ H.r_mem)
    have z0 : W.cell? ⟨a, 0, none⟩ = some (.pointer (some ⟨top, 0, none⟩)) := by rw [cell_of_row W _ 0 _ _ _ hA.bag]; rfl
    have zf : W.frozen? ⟨a, 0, none⟩ = false := by have := hA.bag; unfold BagAt at this; simp [World.frozen?, this]
    have i0 := hokH.c0
    unfold Rec.iv at i0
    rw [htD2] at i0
    have HA := Lib.hid hA
    have HD := Lib.hid hKD
    have HON0 := Lib.hid hOn0
    have HGD := Lib.hid hgD
    have HIN := Lib.hid hinD
    have HOKH := Lib.hid hokH
    by_cases h0 : H.r.items.length = 0
    · obtain ⟨o, ho1, ho2⟩ := rem_top hA (List.eq_nil_of_length_eq_zero h0)
      have HO1 := Lib.hid ho1
      have HO2 := Lib.hid ho2
      have h0i : ((H.r.items.length : Nat) : Int) = 0 := by omega
      clear hA hKD hS hst hI0 hOn0 hgD htD hinD hokH ho1 ho2
      gi_wp2_with (gi_at_call 31; refine (callsIn_wide.2 (HO1.out _ HOKH.out)).mono ?_; rintro e w' ⟨rfl, rfl⟩)
      have hbag := HA.out.bag
      have hDa : D ≠ a := by
        rintro rfl
        have h1 := HD.out
        unfold BagAt at hbag
        rw [hbag] at h1
        cases h1
      obtain ⟨W5, hW5⟩ : ∃ W5, W.setCell ⟨a, 0, none⟩ (.pointer (o.map fun b => (⟨b, 0, none⟩ : Addr))) = W5 := ⟨_, rfl⟩
      have hb5 : BagAt W5 a o n := by rw [← hW5]; exact set_node hbag
      have ho5 : Only (fun b => b = a) W W5 := by rw [← hW5]; exact Only.setCell (S := fun b => b = a) (p := ⟨a, 0, none⟩) (Only.refl _ W) (.inr rfl) _
      have hD5 : W5.heap[D]? = some (.deferred (some [])) := by rw [← hW5]; exact (set_far _ _ _ _ _ hDa).trans HD.out
      obtain ⟨e1, e2⟩ := HO2.out W5 ho5 hb5
      rw [hW5]
      refine ⟨by simp, .inl ⟨_, _, rfl, run_takeDeferred hD5, ?_⟩⟩
      have g0 : Grew (RemOwn z fs a) (fun _ => False) W0 W5 [] := ⟨Mem.nil _, e1.mono (fun _ _ h => .inl h), fun r hr => by simp at hr⟩
      have g1 := (Grew.ownFrom (B := W0.heap.size) (Nat.le_refl _) (fun _ : Unit => _)).putObj (s := ()) (.deferred none) g0 hD hD5 rfl
      refine ⟨_, results_none rfl _ _ _, rfl, ?_, ?_⟩
      · exact HON0.out.trans (g1.only.mono (fun _ _ (h : _ ∨ False) => h.elim id (fun h => h.elim)))
      · rcases e2 with ⟨e3, e4⟩ | ⟨t', d', e3, e4, e5, e6, e7, e8⟩
        · exact .inl ⟨(World.putObj_heap_other (fun h => hDa h.symm)).trans e3, e4⟩
        · have g2 := (Grew.ownFrom (B := W0.heap.size) (Nat.le_refl _) (fun _ : Unit => _)).putObj (s := ()) (.deferred none) e4 hD hD5 rfl
          exact .inr ⟨t', d', (World.putObj_heap_other (fun h => hDa h.symm)).trans e3, g2.rebase HON0.out, e5, e6, e7, e8⟩
    · have h0i : ¬ ((H.r.items.length : Nat) : Int) = 0 := by omega
      have hE : RemEx z fs (T.around fs (z.r.items.take p ++ z.r.items.drop (p + 1))) a n W0 .ret 0 W := ⟨rfl, H, fs.length, by rw [htD2]; exact hA.bag, hgD, hA.wf, by omega, hA.hi, hinD⟩
      have HE := Lib.hid ((remE_own .ret).putObj (.deferred none) hE hD hKD rfl)
      clear hA hKD hS hst hI0 hOn0 hgD htD hinD hokH hE
      gi_wp2
      refine ⟨by simp, .inl ⟨_, _, rfl, run_takeDeferred HD.out, ?_⟩⟩
      obtain ⟨_, t', d', hb, hg, hw, h1, h7, hin⟩ := HE.out
      refine ⟨_, results_none rfl _ _ _, rfl, ?_, .inr ⟨t', d', hb, hg.rebase HON0.out, hw, h1, h7, hin⟩⟩
      exact HON0.out.trans (hg.only.mono (fun _ _ (h : _ ∨ False) => h.elim id (fun h => h.elim)))
  case stop =>
    rintro D c' k W hD hk hE hKD
    have HE := Lib.hid ((remE_own c').putObj (.deferred none) hE hD hKD rfl)
    obtain ⟨rfl, _⟩ := hE
    have HD := Lib.hid hKD
    have HON0 := Lib.hid hOn0
    clear hKD hst hI0 hOn0
    gi_wp2
    refine ⟨by simp, .inl ⟨_, _, rfl, run_takeDeferred HD.out, ?_⟩⟩
    obtain ⟨_, t', d', hb, hg, hw, h1, h7, hin⟩ := HE.out
    refine ⟨_, results_none rfl _ _ _, rfl, ?_, .inr ⟨t', d', hb, hg.rebase HON0.out, hw, h1, h7, hin⟩⟩
    exact HON0.out.trans (hg.only.mono (fun _ _ (h : _ ∨ False) => h.elim id (fun h => h.elim)))

end Go.Proofs.Ytkhbfjncamobdaa.S
