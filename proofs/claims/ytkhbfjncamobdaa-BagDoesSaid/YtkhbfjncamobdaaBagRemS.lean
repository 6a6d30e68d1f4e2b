/- Taking an item out of a bag's tree where a way ends at the lowest level. -/
import Derived.Test.YtkhbfjncamobdaaBagLowS
namespace Go.Proofs.Ytkhbfjncamobdaa.S
open Go.RowKit Go.Shelf
attribute [local go_sem] Oper.semAt_some
set_option linter.unusedVariables false

/-- a node with the place below filled by a node that has too few, mended -/
def MendPost (k : Nat) (f : T ByteArray × Nat) (H : T ByteArray) (S X : Nat → Prop) (w0 W : World) (rest : List (Rec ByteArray)) (e : Ending) (W' : World) : Prop :=
  e = .returned (.tuple #[]) ∧ ∃ H' : T ByteArray, Grew S X w0 W' (H'.recs ++ rest) ∧ H'.r.b = f.1.r.b ∧ T.wf (k + 1) H' ∧ f.1.r.items.length ≤ H'.r.items.length + 1 ∧ H'.r.items.length ≤ f.1.r.items.length ∧ H'.inord = T.fl f ++ (H.inord ++ T.fr f) ∧
    Only (fun b => ∃ r, r ∈ f.1.r :: (T.sibs f ++ H.recs) ∧ b ∈ r.blocks) W W'
def MendSaid : Prop := ∀ (k : Nat) (f : T ByteArray × Nat) (H : T ByteArray) (S X : Nat → Prop) (w0 W : World) (rest : List (Rec ByteArray)), T.wf (k + 1) f.1 → f.2 ≤ f.1.r.items.length → (∃ kd, f.1.ks[f.2]? = some kd ∧ kd.r.b = H.r.b) →
  1 ≤ f.1.r.items.length → f.1.r.items.length ≤ 7 → T.wf k H → H.r.items.length = 2 → Grew S X w0 W (f.1.r :: (T.sibs f ++ H.recs ++ rest)) →
  Calls Try.prog 36 #[ptrV f.1.r.b, .int .i64 f.2] W (MendPost k f H S X w0 W rest)

/-- the blocks that the work may write -/
def RemOwn (z : T ByteArray) (fs : T.Fs ByteArray) (a : Nat) (k : Nat) : Prop := (∃ r, r ∈ z.r :: T.ctx fs ∧ k ∈ r.blocks) ∨ k = a

structure RemI (z : T ByteArray) (fs : T.Fs ByteArray) (target : List It) (a top : Nat) (n : Int) (W0 : World) (k : Nat) (W : World) (H : T ByteArray) : Prop where
  g : Grew (RemOwn z fs a) (fun _ => False) W0 W (T.ctx (fs.drop k) ++ H.recs)
  wf : T.wf k H
  chain : T.Chain k (fs.drop k) H.r.b
  hi : H.r.items.length ≤ 7
  lo : fs.drop k ≠ [] → 2 ≤ H.r.items.length
  inord : T.around (fs.drop k) H.inord = target
  topp : T.topOf (fs.drop k) H.r.b = top
  bag : BagAt W a (some top) n
def RemInv (z : T ByteArray) (fs : T.Fs ByteArray) (target : List It) (a top : Nat) (n : Int) (W0 : World) (Bs : Nat) (v : Value) (k : Nat) (W : World) : Prop := SameV Bs v W0 W ∧ ∃ H, RemI z fs target a top n W0 k W H

/-- the tree behind the work: nothing, or a tree -/
def RemTree (z : T ByteArray) (fs : T.Fs ByteArray) (target : List It) (a : Nat) (n : Int) (w W : World) : Prop :=
  Only (RemOwn z fs a) w W ∧ ((BagAt W a none n ∧ target = []) ∨ ∃ t' d', BagAt W a (some t'.r.b) n ∧ Grew (RemOwn z fs a) (fun _ => False) w W t'.recs ∧ T.wf d' t' ∧ 1 ≤ t'.r.items.length ∧ t'.r.items.length ≤ 7 ∧ t'.inord = target)
def RemEx (z : T ByteArray) (fs : T.Fs ByteArray) (target : List It) (a : Nat) (n : Int) (W0 : World) (c : Code) (k : Nat) (W : World) : Prop := c = .ret ∧ ∃ t' d', BagAt W a (some t'.r.b) n ∧ Grew (RemOwn z fs a) (fun _ => False) W0 W t'.recs ∧ T.wf d' t' ∧ 1 ≤ t'.r.items.length ∧ t'.r.items.length ≤ 7 ∧ t'.inord = target
def RemPost (z : T ByteArray) (fs : T.Fs ByteArray) (target : List It) (a : Nat) (n : Int) (w : World) (e : Ending) (W : World) : Prop := e = .returned (.tuple #[]) ∧ RemTree z fs target a n w W

theorem remI_own {z : T ByteArray} {fs : T.Fs ByteArray} {target : List It} {a top : Nat} {n : Int} {W0 : World} {Bs : Nat} {v : Value} (hc : ∀ b, b = Bs ∨ v.ownBlock = some b → ∃ c t f, W0.heap[b]? = some (.cells c t f)) :
    OwnFrom W0.heap.size (RemInv z fs target a top n W0 Bs v) := fun k W W' row hI hg hr => by
  obtain ⟨hS, H, hA⟩ := hI
  exact ⟨sameV_own hS hc hg hr, H, ⟨Grew.ownFrom (Nat.le_refl _) (fun _ : Unit => _) () W W' row hA.g hg hr, hA.wf, hA.chain, hA.hi, hA.lo, hA.inord, hA.topp, kept_cells hA.bag hg hr⟩⟩
theorem remE_own {z : T ByteArray} {fs : T.Fs ByteArray} {target : List It} {a : Nat} {n : Int} {W0 : World} (c : Code) : OwnFrom W0.heap.size (RemEx z fs target a n W0 c) := fun k W W' row hI hg hr => by
  obtain ⟨hc, t', d', hb, h1, h2, h3, h4, h5⟩ := hI
  exact ⟨hc, t', d', kept_cells hb hg hr, Grew.ownFrom (Nat.le_refl _) (fun _ : Unit => t'.recs) () W W' row h1 hg hr, h2, h3, h4, h5⟩

/-- a round at which there is nothing more to mend -/
theorem rem_return {z : T ByteArray} {fs : T.Fs ByteArray} {target : List It} {a top : Nat} {n : Int} {W0 W : World} {k : Nat} {H : T ByteArray} {f : T ByteArray × Nat} {fs' : T.Fs ByteArray} (hI : RemI z fs target a top n W0 k W H) (hQ : fs.drop k = f :: fs') (h3 : 3 ≤ H.r.items.length) : RemEx z fs target a n W0 .ret k W := by
  have hch := hI.chain
  have htop := hI.topp
  rw [hQ] at hch htop
  have hch2 := hch
  obtain ⟨g1, g2, g3, g4, g5, g6, g7⟩ := hch2
  obtain ⟨d', e1, e2, e3, e4, _⟩ := T.plug_wf (k + 1) fs' (T.fill f H) f.1.r.b g7 (T.fill_wf k f H H.r.b g1 g2 g3 hI.wf rfl h3 hI.hi) rfl g4 g5 g6
  have hp : T.plug (f :: fs') H = T.plug fs' (T.fill f H) := rfl
  refine ⟨rfl, T.plug (f :: fs') H, d', ?_, ?_, by rw [hp]; exact e1, by rw [hp]; exact e2, by rw [hp]; exact e3, ?_⟩
  · rw [hp, e4]
    have : T.topOf fs' f.1.r.b = top := htop
    rw [this]
    exact hI.bag
  · have := hI.g
    rw [hQ] at this
    exact this.perm (T.plug_recs (f :: fs') H).symm
  · rw [T.plug_inord k (f :: fs') H _ hch]
    have := hI.inord
    rw [hQ] at this
    exact this

/-- a round behind a mending -/
theorem rem_next {z : T ByteArray} {fs : T.Fs ByteArray} {target : List It} {a top : Nat} {n : Int} {W0 W W' : World} {k : Nat} {H H' : T ByteArray} {f : T ByteArray × Nat} {fs' : T.Fs ByteArray} (hI : RemI z fs target a top n W0 k W H) (hQ : fs.drop k = f :: fs') (hg : Grew (RemOwn z fs a) (fun _ => False) W0 W' (H'.recs ++ T.ctx fs'))
    (hb : H'.r.b = f.1.r.b) (hw : T.wf (k + 1) H') (hl1 : f.1.r.items.length ≤ H'.r.items.length + 1) (hl2 : H'.r.items.length ≤ f.1.r.items.length) (hin : H'.inord = T.fl f ++ (H.inord ++ T.fr f)) (hbag : BagAt W' a (some top) n) : RemI z fs target a top n W0 (k + 1) W' H' := by
  have hch := hI.chain
  have htop := hI.topp
  have hino := hI.inord
  rw [hQ] at hch htop hino
  obtain ⟨g1, g2, g3, g4, g5, g6, g7⟩ := hch
  have hdrop : fs.drop (k + 1) = fs' := by rw [← List.tail_drop, hQ]; rfl
  refine ⟨?_, hw, ?_, by omega, ?_, ?_, ?_, hbag⟩
  · rw [hdrop]
    exact hg.perm List.perm_append_comm
  · rw [hdrop, hb]; exact g7
  · rw [hdrop]
    intro h
    have := g6 h
    omega
  · rw [hdrop, hin]
    exact hino
  · rw [hdrop, hb]; exact htop

theorem own_take {w : World} {base n m size g c : Nat} {e : TypeId} {xs ys : List Value} (h : w.ownsRow base e size (.slice (some ⟨g, 0, none⟩) n c) n (xs ++ ys)) (hm : xs.length = m * size) (hmn : m ≤ n) : w.ownsRow base e size (.slice (some ⟨g, 0, none⟩) m c) m xs := by
  obtain ⟨rest, h1, h2, h3, h4, h5, h6⟩ := row_of_own h
  rw [List.append_assoc] at h1 h2
  exact own_of_row h1 h2 (by omega) h4 hm h6

end Go.Proofs.Ytkhbfjncamobdaa.S
