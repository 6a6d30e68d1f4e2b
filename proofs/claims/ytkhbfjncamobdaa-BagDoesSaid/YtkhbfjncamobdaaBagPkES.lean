/- Many nodes in memory at once: each in its own blocks. Putting a new item into a bag's tree where the way to its number ends. -/
import Derived.Test.YtkhbfjncamobdaaBagPartS
import Derived.Test.YtkhbfjncamobdaaBagPkA
import Derived.Test.YtkhbfjncamobdaaBagPkBS
namespace Go.Proofs.Ytkhbfjncamobdaa.S
open Go.RowKit
set_option linter.unusedVariables false

theorem Ok.nodup {w : World} {r : Rec ByteArray} (h : Ok w r) : r.blocks.Nodup := by
  have h1 := h.b_ne_g
  unfold Rec.blocks
  cases hk : r.kv with
  | none => simp [h1]
  | some p =>
    have h2 := h.b_ne_k hk
    have h3 := h.g_ne_k hk
    simp [h1, h2, h3]
theorem Ok.cells {w : World} {r : Rec ByteArray} (h : Ok w r) : ∀ k, k ∈ r.blocks → ∃ c t, w.heap[k]? = some (.cells c t (0, 0)) ∧ (t = 55 ∨ t = 62 ∨ t = 40) := by
  intro k hk
  rcases (mem_blocks r k).1 hk with rfl | rfl | ⟨p, hp, rfl⟩
  · exact ⟨_, _, h.node, .inl rfl⟩
  · obtain ⟨c, hc⟩ := h.iblk
    exact ⟨_, _, hc, .inr (.inl rfl)⟩
  · obtain ⟨c, hc⟩ := h.kblk hp
    exact ⟨_, _, hc, .inr (.inr rfl)⟩

structure Mem (w : World) (L : List (Rec ByteArray)) : Prop where
  ok : ∀ r, r ∈ L → Ok w r
  nd : (L.flatMap Rec.blocks).Nodup
theorem Mem.perm {w : World} {L L' : List (Rec ByteArray)} (h : Mem w L) (p : L.Perm L') : Mem w L' := ⟨fun r hr => h.ok r (p.mem_iff.2 hr), (p.flatMap_right Rec.blocks).nodup_iff.1 h.nd⟩
theorem Mem.kept {w w' : World} {L : List (Rec ByteArray)} (h : Mem w L) (hk : ∀ r, r ∈ L → ∀ k, k ∈ r.blocks → w'.heap[k]? = w.heap[k]?) : Mem w' L := ⟨fun r hr => (h.ok r hr).kept (hk r hr), h.nd⟩
theorem Mem.nil (w : World) : Mem w [] := ⟨fun _ h => (by simp at h), by simp⟩

/-- nodes behind a piece of work that began in w0: in blocks of S or new ones; nothing else has turned -/
structure Grew (S X : Nat → Prop) (w0 W : World) (L : List (Rec ByteArray)) : Prop where
  mem : Mem W L
  only : Only (fun k => S k ∨ X k) w0 W
  bnd : ∀ r, r ∈ L → ∀ k, k ∈ r.blocks → S k ∨ w0.heap.size ≤ k
theorem Grew.perm {S X : Nat → Prop} {w0 W : World} {L L' : List (Rec ByteArray)} (h : Grew S X w0 W L) (p : L.Perm L') : Grew S X w0 W L' := ⟨h.mem.perm p, h.only, fun r hr => h.bnd r (p.mem_iff.2 hr)⟩
theorem Grew.start {w : World} {L : List (Rec ByteArray)} (S X : Nat → Prop) (h : Mem w L) (hS : ∀ r, r ∈ L → ∀ k, k ∈ r.blocks → S k) : Grew S X w w L := ⟨h, Only.refl _ _, fun r hr k hk => .inl (hS r hr k hk)⟩
theorem nodup_cons_iff {r : Rec ByteArray} {L : List (Rec ByteArray)} : ((r :: L).flatMap Rec.blocks).Nodup ↔ r.blocks.Nodup ∧ (L.flatMap Rec.blocks).Nodup ∧ ∀ k, k ∈ r.blocks → ∀ q, q ∈ L → k ∉ q.blocks := by
  rw [List.flatMap_cons, List.nodup_append]
  refine ⟨fun ⟨a, b, c⟩ => ⟨a, b, fun k hk q hq hkq => c k hk k (List.mem_flatMap.2 ⟨q, hq, hkq⟩) rfl⟩, fun ⟨a, b, c⟩ => ⟨a, b, fun k hk k' hk' e => ?_⟩⟩
  subst e
  obtain ⟨q, hq, hkq⟩ := List.mem_flatMap.1 hk'
  exact c k hk q hq hkq
theorem Grew.turned {S X : Nat → Prop} {w0 W W' : World} {r r' : Rec ByteArray} {L : List (Rec ByteArray)} (h : Grew S X w0 W (r :: L)) (t : Turned W r W' r') : Grew S X w0 W' (r' :: L) := by
  obtain ⟨n1, n2, n3⟩ := nodup_cons_iff.1 h.mem.nd
  refine ⟨⟨fun q hq => ?_, nodup_cons_iff.2 ⟨t.ok.nodup, n2, fun k hk q hq hkq => ?_⟩⟩, h.only.step t.only (fun i hi hir => ?_), fun q hq k hk => ?_⟩
  · rcases List.mem_cons.1 hq with rfl | hq
    · exact t.ok
    · exact (h.mem.ok q (List.mem_cons_of_mem _ hq)).only t.only (fun k hk hkr => n3 k hkr q hq hk)
  · rcases t.blocks k hk with hk | hk
    · exact n3 k hk q hq hkq
    · have := (h.mem.ok q (List.mem_cons_of_mem _ hq)).blk k hkq
      omega
  · exact (h.bnd r (by simp) i hir).elim .inl (fun h2 => by omega)
  · rcases List.mem_cons.1 hq with rfl | hq
    · rcases t.blocks k hk with hk | hk
      · exact h.bnd r (by simp) k hk
      · exact .inr (Nat.le_trans h.only.size hk)
    · exact h.bnd q (List.mem_cons_of_mem _ hq) k hk
/-- one node more, in new blocks -/
theorem Grew.more {S X : Nat → Prop} {w0 W W' : World} {r : Rec ByteArray} {L : List (Rec ByteArray)} (h : Grew S X w0 W L) (hb : Only (fun _ => False) W W') (ho : Ok W' r) (hn : ∀ k, k ∈ r.blocks → W.heap.size ≤ k) : Grew S X w0 W' (r :: L) := by
  refine ⟨⟨fun q hq => ?_, nodup_cons_iff.2 ⟨ho.nodup, h.mem.nd, fun k hk q hq hkq => ?_⟩⟩, h.only.step hb (fun _ _ h => h.elim), fun q hq k hk => ?_⟩
  · rcases List.mem_cons.1 hq with rfl | hq
    · exact ho
    · exact (h.mem.ok q hq).only hb (fun _ _ h => h)
  · have := (h.mem.ok q hq).blk k hkq
    have := hn k hk
    omega
  · rcases List.mem_cons.1 hq with rfl | hq
    · exact .inr (Nat.le_trans h.only.size (hn k hk))
    · exact h.bnd q hq k hk
theorem Grew.parted {S X : Nat → Prop} {w0 W W' : World} {r r1 rr : Rec ByteArray} {x : It} {L : List (Rec ByteArray)} (h : Grew S X w0 W (r :: L)) (t : Parted W r x W' r1 rr) : Grew S X w0 W' (r1 :: rr :: L) := by
  have g := h.turned t.left
  obtain ⟨n1, n2, n3⟩ := nodup_cons_iff.1 g.mem.nd
  have hr : ∀ q, q ∈ r1 :: L → ∀ k, k ∈ q.blocks → k < W.heap.size := fun q hq k hk => by
    rcases List.mem_cons.1 hq with rfl | hq
    · rw [t.same] at hk
      exact (h.mem.ok r (by simp)).blk k hk
    · exact (h.mem.ok q (List.mem_cons_of_mem _ hq)).blk k hk
  refine ⟨⟨fun q hq => ?_, nodup_cons_iff.2 ⟨n1, nodup_cons_iff.2 ⟨t.right.nodup, n2, fun k hk q hq hkq => ?_⟩, fun k hk q hq hkq => ?_⟩⟩, g.only, fun q hq k hk => ?_⟩
  · rcases List.mem_cons.1 hq with rfl | hq
    · exact t.left.ok
    · rcases List.mem_cons.1 hq with rfl | hq
      · exact t.right
      · exact g.mem.ok q (List.mem_cons_of_mem _ hq)
  · have h1 := t.new k hk
    have h2 := hr q (List.mem_cons_of_mem _ hq) k hkq
    omega
  · rcases List.mem_cons.1 hq with rfl | hq
    · have h1 := t.new k hkq
      have h2 := hr r1 (by simp) k hk
      omega
    · exact n3 k hk q hq hkq
  · rcases List.mem_cons.1 hq with rfl | hq
    · exact g.bnd q (by simp) k hk
    · rcases List.mem_cons.1 hq with rfl | hq
      · exact .inr (Nat.le_trans h.only.size (t.new k hk))
      · exact g.bnd q (List.mem_cons_of_mem _ hq) k hk
/-- work on blocks that no node has -/
theorem Grew.beside {S X T : Nat → Prop} {w0 W W' : World} {L : List (Rec ByteArray)} (h : Grew S X w0 W L) (ho : Only T W W') (hT : ∀ k, T k → (w0.heap.size ≤ k ∨ S k ∨ X k) ∧ ∀ r, r ∈ L → k ∉ r.blocks) : Grew S X w0 W' L :=
  ⟨h.mem.kept fun r hr k hk => ho.block k ((h.mem.ok r hr).blk k hk) (fun ht => (hT k ht).2 r hr hk), h.only.step ho (fun i hi ht => ((hT i ht).1).elim (fun h2 => by omega) id), h.bnd⟩
/-- from an elder world on: what is neither S's nor new is not spoken of any more -/
theorem Grew.back {S X : Nat → Prop} {w w0 W : World} {L : List (Rec ByteArray)} (h : Grew S X w0 W L) (hb : Below w.heap.size w w0) (hX : ∀ k, X k → w.heap.size ≤ k) : Grew S (fun _ => False) w W L :=
  ⟨h.mem, (Only.of_below hb).step h.only (fun i hi hh => hh.elim .inl (fun hx => by have := hX i hx; omega)), fun r hr k hk => (h.bnd r hr k hk).imp id (fun h2 => Nat.le_trans hb.size h2)⟩
theorem Grew.alloc {S X : Nat → Prop} {w0 W : World} {L : List (Rec ByteArray)} (h : Grew S X w0 W L) (o : Obj) : Grew S X w0 (W.alloc o) L := h.beside (T := fun _ => False) ((Only.refl _ W).alloc o) (fun _ h => h.elim)
theorem Grew.drew {S X : Nat → Prop} {w0 W : World} {L : List (Rec ByteArray)} (h : Grew S X w0 W L) : Grew S X w0 W.drew L := h.beside (T := fun _ => False) ((Only.refl _ W).drew) (fun _ h => h.elim)
theorem Grew.setCell {S X : Nat → Prop} {w0 W : World} {L : List (Rec ByteArray)} (h : Grew S X w0 W L) (b i : Nat) (u : Value) (hb : w0.heap.size ≤ b ∨ S b ∨ X b) (hn : ∀ r, r ∈ L → b ∉ r.blocks) : Grew S X w0 (W.setCell ⟨b, i, none⟩ u) L :=
  h.beside (T := fun k => k = b) (Only.setCell (S := fun k => k = b) (p := ⟨b, i, none⟩) (Only.refl _ W) (.inr rfl) u) (fun k hk => by cases hk; exact ⟨hb, hn⟩)
/-- a block of another kind is no node's -/
theorem Mem.not_in {W : World} {L : List (Rec ByteArray)} (h : Mem W L) {b : Nat} {c : Array Value} {t : TypeId} {f : Nat × Nat} (hb : W.heap[b]? = some (.cells c t f)) (h1 : t ≠ 55) (h2 : t ≠ 62) (h3 : t ≠ 40) : ∀ r, r ∈ L → b ∉ r.blocks := by
  intro r hr hk
  obtain ⟨c', t', hc, ht⟩ := (h.ok r hr).cells b hk
  rw [hb] at hc
  cases hc
  rcases ht with rfl | rfl | rfl
  · exact h1 rfl
  · exact h2 rfl
  · exact h3 rfl
theorem Grew.ownFrom {β : Type} {S X : Nat → Prop} {w0 : World} {B : Nat} (hB : w0.heap.size ≤ B) (L : β → List (Rec ByteArray)) : OwnFrom B (fun s W => Grew S X w0 W (L s)) := fun s A C row h hg hr =>
  ⟨h.mem.kept fun r hr' k hk => by
      obtain ⟨c, t, hc, _⟩ := (h.mem.ok r hr').cells k hk
      exact hg.block k ((h.mem.ok r hr').blk k hk) (fun e => by obtain ⟨_, o, ho, hcc⟩ := hr k e.symm; rw [hc] at ho; cases ho; cases hcc),
   h.only.grown hg (fun r e => .inl (Nat.le_trans hB (hr r e).1)), h.bnd⟩

end Go.Proofs.Ytkhbfjncamobdaa.S

namespace Go.Proofs.Ytkhbfjncamobdaa.S
open Go.RowKit Go.Shelf
attribute [local go_sem] Oper.semAt_some
set_option linter.unusedVariables false

def gstep (f : T ByteArray × Nat) : Nat × Nat := (f.1.r.b, f.2)
/-- the blocks that the work may write: those of the tree, and the bag's own -/
def Own0 (Q : T.Fs ByteArray) (a : Nat) (k : Nat) : Prop := (∃ r, r ∈ T.ctx Q ∧ k ∈ r.blocks) ∨ k = a

/-- the two boxes -/
def Two (bx br : Nat) (k : Nat) : Prop := k = bx ∨ k = br

/-- the tree behind the work -/
structure Added (Q : T.Fs ByteArray) (x : It) (a : Nat) (X : Nat → Prop) (w W : World) (t' : T ByteArray) : Prop where
  g : Grew (Own0 Q a) X w W t'.recs
  wf : ∃ d', T.wf d' t'
  lo : 1 ≤ t'.r.items.length
  hi : t'.r.items.length ≤ 7
  inord : t'.inord = T.around Q [x]

/-- what fits where the way ends, k rounds on -/
def Fits (Q : T.Fs ByteArray) (k : Nat) (h : T.Hole ByteArray) : Prop := match Q.drop k with
  | [] => k = 0 ∨ ∃ a b, h = some (a, b) ∧ (∃ d, T.wf d a ∧ T.wf d b) ∧ 3 ≤ a.r.items.length ∧ a.r.items.length ≤ 7 ∧ 3 ≤ b.r.items.length ∧ b.r.items.length ≤ 7
  | f :: fs => T.HoleFits f k h ∧ f.2 ≤ f.1.r.items.length ∧ 1 ≤ f.1.r.items.length ∧ f.1.r.items.length ≤ 7 ∧ (fs ≠ [] → 3 ≤ f.1.r.items.length) ∧ T.Chain k fs f.1.r.b

/-- between two rounds -/
structure AddI (Q : T.Fs ByteArray) (x : It) (a top : Nat) (n : Int) (W0 : World) (bx br : Nat) (k : Nat) (W : World) (y : It) (h : T.Hole ByteArray) : Prop where
  g : Grew (Own0 Q a) (Two bx br) W0 W (T.ctx (Q.drop k) ++ T.hrecs h)
  xb : W.heap[bx]? = some (.cells #[.int .i64 y.1, .string y.2] 62 (0, 0))
  rb : Boxed W br 40 (.pointer ((T.hptr h).map fun b => ⟨b, 0, none⟩))
  fits : Fits Q k h
  inord : T.around (Q.drop k) (T.hin h y) = T.around Q [x]
  bag : BagAt W a (some top) n
  atop : ∀ c d, h = some (c, d) → Q.drop k = [] → c.r.b = top

/-- the node with one item more, as a tree -/
theorem grown_step {Q : T.Fs ByteArray} {x y : It} {a top : Nat} {n : Int} {W0 W W1 : World} {bx br k : Nat} {h : T.Hole ByteArray} {f : T ByteArray × Nat} {fs : T.Fs ByteArray} {r' : Rec ByteArray} (hI : AddI Q x a top n W0 bx br k W y h) (hQ : Q.drop k = f :: fs)
    (ht : Turned W f.1.r W1 r') (hi : r'.items = f.1.r.items.take f.2 ++ y :: f.1.r.items.drop f.2) (hk : r'.kids = T.growKids f h) (hv : r'.kv.isSome = f.1.r.kv.isSome) :
    T.wf k (T.grow f h r') ∧ Grew (Own0 Q a) (Two bx br) W0 W1 (T.ctx fs ++ (T.grow f h r').recs) ∧ T.around fs (T.grow f h r').inord = T.around Q [x] ∧ r'.items.length = f.1.r.items.length + 1 := by
  have hf := hI.fits
  unfold Fits at hf
  rw [hQ] at hf
  obtain ⟨h1, h2, h3, h4, h5, h6⟩ := hf
  obtain ⟨g1, g2, g3⟩ := T.grow_wf k f h r' y h2 h1 hi hk hv
  refine ⟨g1, ?_, ?_, by rw [hi]; simp; omega⟩
  · have g := hI.g
    rw [hQ] at g
    have g' : Grew (Own0 Q a) (Two bx br) W0 W1 (r' :: (T.sibs f ++ T.ctx fs ++ T.hrecs h)) := Grew.turned (r := f.1.r) (by simpa [T.ctx] using g) ht
    refine g'.perm ?_
    refine List.Perm.trans ?_ (List.Perm.append_left _ g3.symm)
    refine List.Perm.trans ?_ List.perm_middle.symm
    refine List.Perm.cons _ ?_
    rw [List.append_assoc, ← List.append_assoc (T.ctx fs), ← List.append_assoc (T.sibs f)]
    exact List.Perm.append_right _ List.perm_append_comm
  · rw [g2]
    have := hI.inord
    rw [hQ] at this
    exact this
theorem added_of {Q : T.Fs ByteArray} {x : It} {a top : Nat} {n : Int} {W0 W W1 : World} {bx br k : Nat} {y : It} {h : T.Hole ByteArray} {f : T ByteArray × Nat} {fs : T.Fs ByteArray} {H : T ByteArray} (hI : AddI Q x a top n W0 bx br k W y h) (hQ : Q.drop k = f :: fs)
    (hw : T.wf k H) (hb : H.r.b = f.1.r.b) (hg : Grew (Own0 Q a) (Two bx br) W0 W1 (T.ctx fs ++ H.recs)) (hin : T.around fs H.inord = T.around Q [x]) (hl : H.r.items.length = f.1.r.items.length + 1) (h7 : H.r.items.length ≤ 7) :
    Added Q x a (Two bx br) W0 W1 (T.plug fs H) ∧ (T.plug fs H).r.b = T.topOf fs f.1.r.b := by
  have hf := hI.fits
  unfold Fits at hf
  rw [hQ] at hf
  obtain ⟨h1, h2, h3, h4, h5, h6⟩ := hf
  obtain ⟨d', e1, e2, e3, e4, _⟩ := T.plug_wf k fs H f.1.r.b h6 hw hb (by omega) h7 (fun hn => by have := h5 hn; omega)
  refine ⟨⟨hg.perm (T.plug_recs fs H).symm, ⟨d', e1⟩, e2, e3, ?_⟩, e4⟩
  rw [T.plug_inord k fs H _ h6]
  exact hin
theorem next_round {Q : T.Fs ByteArray} {x y z : It} {a top : Nat} {n : Int} {W0 W W1 W2 W3 : World} {bx br k : Nat} {h : T.Hole ByteArray} {f : T ByteArray × Nat} {fs : T.Fs ByteArray} {H : T ByteArray} {r1 rr : Rec ByteArray} (hI : AddI Q x a top n W0 bx br k W y h) (hQ : Q.drop k = f :: fs)
    (hw : T.wf k H) (hb : H.r.b = f.1.r.b) (hg : Grew (Own0 Q a) (Two bx br) W0 W1 (T.ctx fs ++ H.recs)) (hin : T.around fs H.inord = T.around Q [x]) (h8 : H.r.items.length = 8) (hp : Parted W1 H.r z W2 r1 rr)
    (h3 : Only (Two bx br) W2 W3) (hbx : bx < W0.heap.size) (hbr : br < W0.heap.size) (hnx : ∀ r, r ∈ T.ctx Q → bx ∉ r.blocks ∧ br ∉ r.blocks) (hax : bx ≠ a) (har : br ≠ a)
    (xb : W3.heap[bx]? = some (.cells #[.int .i64 z.1, .string z.2] 62 (0, 0))) (rb : Boxed W3 br 40 (.pointer (some ⟨rr.b, 0, none⟩))) (bag : BagAt W3 a (some top) n) (htop : T.topOf fs f.1.r.b = top) :
    ∃ h', AddI Q x a top n W0 bx br (k + 1) W3 z h' := by
  obtain ⟨c1, c2, c3, c4, c5, c6⟩ := T.cut_wf k H z r1 rr hw h8 hp.li hp.mi hp.ri hp.lk hp.rk hp.lv hp.rv
  have hdrop : Q.drop (k + 1) = fs := by rw [← List.tail_drop, hQ]; rfl
  have hf := hI.fits
  unfold Fits at hf
  rw [hQ] at hf
  obtain ⟨f1, f2, f3, f4, f5, f6⟩ := hf
  refine ⟨some (T.node r1 (H.ks.take 5), T.node rr (H.ks.drop 5)), ⟨?_, xb, rb, ?_, ?_, bag, ?_⟩⟩
  · rw [hdrop]
    have g1 : Grew (Own0 Q a) (Two bx br) W0 W1 (H.r :: (T.ctx fs ++ H.ks.flatMap T.recs)) := hg.perm (by rw [T.recs_eq]; exact List.perm_middle)
    have g2 := g1.parted hp
    have g3 : Grew (Own0 Q a) (Two bx br) W0 W2 (T.ctx fs ++ T.hrecs (some (T.node r1 (H.ks.take 5), T.node rr (H.ks.drop 5)))) := g2.perm (by
      show (r1 :: rr :: (T.ctx fs ++ H.ks.flatMap T.recs)).Perm (T.ctx fs ++ ((T.node r1 (H.ks.take 5)).recs ++ (T.node rr (H.ks.drop 5)).recs))
      refine List.Perm.trans ?_ (List.Perm.append_left _ c6.symm)
      exact (List.Perm.cons _ List.perm_middle.symm).trans List.perm_middle.symm)
    refine g3.beside h3 (fun b hb => ⟨.inr (.inr hb), fun r hr hk => ?_⟩)
    rcases g3.bnd r hr b hk with (⟨q, hq, hkq⟩ | he) | hlt
    · rcases hb with rfl | rfl
      · exact (hnx q hq).1 hkq
      · exact (hnx q hq).2 hkq
    · rcases hb with rfl | rfl
      · exact hax he
      · exact har he
    · rcases hb with rfl | rfl <;> omega
  · unfold Fits
    rw [hdrop]
    have hr1b : r1.b = H.r.b := hp.left.b
    cases fs with
    | nil => exact .inr ⟨_, _, rfl, ⟨k, c1, c2⟩, by show 3 ≤ r1.items.length; omega, by show r1.items.length ≤ 7; omega, by show 3 ≤ rr.items.length; omega, by show rr.items.length ≤ 7; omega⟩
    | cons f' fs' =>
      obtain ⟨g1, g2, ⟨kd, g3, g3'⟩, g4, g5, g6, g7⟩ := f6
      exact ⟨⟨_, _, kd, rfl, g1, c1, c2, g3, by show r1.b = _; rw [hr1b, hb, g3'], by show 3 ≤ r1.items.length; omega, by show r1.items.length ≤ 7; omega, by show 3 ≤ rr.items.length; omega, by show rr.items.length ≤ 7; omega⟩, g2, g4, g5, g6, g7⟩
  · rw [hdrop]
    show T.around fs ((T.node r1 (H.ks.take 5)).inord ++ z :: (T.node rr (H.ks.drop 5)).inord) = _
    rw [← c3]
    exact hin
  · intro c d hcd hd
    cases hcd
    rw [hdrop] at hd
    subst hd
    show r1.b = top
    rw [hp.left.b, hb]
    exact htop

theorem insert_any (f : T ByteArray × Nat) (k : Nat) (h : T.Hole ByteArray) (y : It) (W : World) (ho : Ok W f.1.r) (hh : T.HoleFits f k h) (hp : f.2 ≤ f.1.r.items.length) (h7 : f.1.r.items.length ≤ 7) (q : Value) (hq : q = .pointer ((T.hptr h).map fun b => ⟨b, 0, none⟩)) :
    Calls Try.prog 33 #[ptrV f.1.r.b, .int .i64 f.2, .agg #[.int .i64 y.1, .string y.2], q] W fun e W' => e = .returned (.tuple #[]) ∧
      ∃ r', Turned W f.1.r W' r' ∧ r'.items = f.1.r.items.take f.2 ++ y :: f.1.r.items.drop f.2 ∧ r'.kids = T.growKids f h ∧ r'.kv.isSome = f.1.r.kv.isSome := by
  subst hq
  cases k with
  | zero =>
    obtain ⟨rfl, hw⟩ := hh
    refine (insert_leaf f.1.r f.2 y W ho hp (by omega)).mono ?_
    rintro e W' ⟨he, r', h1, h2, h3, h4⟩
    exact ⟨he, r', h1, h2, h3, by rw [h4]⟩
  | succ k =>
    obtain ⟨a, b, kd, rfl, hw, ha, hb, hk1, _⟩ := hh
    obtain ⟨g, hg⟩ := Option.isSome_iff_exists.1 hw.1
    have hl : f.1.r.kids.length = f.1.r.items.length + 1 := by rw [hw.2.1, List.length_map]; exact hw.2.2.1
    refine (insert_node f.1.r f.2 y b.r.b g W ho hg hp (by omega) (by omega) (by omega)).mono ?_
    rintro e W' ⟨he, r', h1, h2, h3, h4⟩
    exact ⟨he, r', h1, h2, h3, by rw [h4, hg]; rfl⟩

theorem part_any (d : Nat) (H : T ByteArray) (W : World) (ho : Ok W H.r) (hw : T.wf d H) (h8 : H.r.items.length = 8) :
    Calls Try.prog 34 #[ptrV H.r.b] W fun e w' => ∃ x r' rr, e = .returned (.tuple #[.agg #[.int .i64 x.1, .string x.2], ptrV rr.b]) ∧ Parted W H.r x w' r' rr := by
  cases d with
  | zero => exact part_leaf H.r W ho h8 hw.2.1
  | succ d =>
    obtain ⟨g, hg⟩ := Option.isSome_iff_exists.1 hw.1
    exact part_node H.r g W ho h8 hg (by rw [hw.2.1, List.length_map, hw.2.2.1, h8])

/-- the box of a round's step -/
def AddAx (Q : T.Fs ByteArray) (x : It) (a : Nat) (va : Option Addr) (vl vc ws : Nat) (k : Nat) (a' : Act) (W : World) : Prop :=
  ∃ Bx f, Q[k]? = some f ∧ ws + 3 ≤ Bx ∧ W.heap[Bx]? = some (.cells #[.pointer (some ⟨f.1.r.b, 0, none⟩), .int .i64 (f.2 : Int)] 60 (0, 0)) ∧ a' = { tmps := #[.pointer (some ⟨a, 0, none⟩), .slice va vl vc, .agg #[.int .i64 x.1, .string x.2], undef, undef, .pointer (some ⟨ws, 0, none⟩), .pointer (some ⟨ws + 1, 0, none⟩), undef, .pointer (some ⟨Bx, 0, none⟩), undef, .slice va vl vc, .func (.func 38) #[] #[.pointer (some ⟨ws + 2, 0, none⟩)], .int .i64 ((Q.length : Int) - 1 - k), .agg #[.pointer (some ⟨f.1.r.b, 0, none⟩), .int .i64 (f.2 : Int)], undef, undef, undef, undef, undef, undef, undef, undef, undef, undef, undef, undef, undef, undef, undef, undef, undef, undef, undef, undef, undef, undef, undef, undef, undef, undef, undef, undef, undef, undef, undef, undef, undef, undef, undef, undef, undef, undef, undef], defers := [] }

def AddInv (Q : T.Fs ByteArray) (x : It) (a top : Nat) (n : Int) (W0 : World) (bx br Bs : Nat) (v : Value) (k : Nat) (W : World) : Prop := SameV Bs v W0 W ∧ ∃ y h, AddI Q x a top n W0 bx br k W y h
def AddEx (Q : T.Fs ByteArray) (x : It) (a top : Nat) (n : Int) (W0 : World) (bx br : Nat) (c : Code) (k : Nat) (W : World) : Prop := c = .ret ∧ BagAt W a (some top) n ∧ ∃ t', Added Q x a (Two bx br) W0 W t' ∧ t'.r.b = top

theorem sameV_own {Bs : Nat} {v : Value} {W0 W W' : World} {row : Option Nat} {B0 : Nat} (h : SameV Bs v W0 W) (hc : ∀ b, b = Bs ∨ v.ownBlock = some b → ∃ c t f, W0.heap[b]? = some (.cells c t f)) (hg : W.grownBy W' row) (hr : ∀ r, row = some r → B0 ≤ r ∧ ∃ o : Obj, W.heap[r]? = some o ∧ o.isCells = false) : SameV Bs v W0 W' := fun b hb => by
  obtain ⟨c, t, f, h0⟩ := hc b hb
  rw [h0]
  exact kept_cells ((h b hb).trans h0) hg hr

theorem addI_own {Q : T.Fs ByteArray} {x : It} {a top : Nat} {n : Int} {W0 : World} {bx br Bs : Nat} {v : Value} (hc : ∀ b, b = Bs ∨ v.ownBlock = some b → ∃ c t f, W0.heap[b]? = some (.cells c t f)) :
    OwnFrom W0.heap.size (AddInv Q x a top n W0 bx br Bs v) := fun k W W' row hI hg hr => by
  obtain ⟨hS, y, h, hA⟩ := hI
  exact ⟨sameV_own hS hc hg hr, y, h, ⟨Grew.ownFrom (Nat.le_refl _) (fun _ : Unit => T.ctx (Q.drop k) ++ T.hrecs h) () W W' row hA.g hg hr, kept_cells hA.xb hg hr, kept_cells hA.rb hg hr, hA.fits, hA.inord, kept_cells hA.bag hg hr, hA.atop⟩⟩
theorem addE_own {Q : T.Fs ByteArray} {x : It} {a top : Nat} {n : Int} {W0 : World} {bx br : Nat} (c : Code) : OwnFrom W0.heap.size (AddEx Q x a top n W0 bx br c) := fun k W W' row hI hg hr => by
  obtain ⟨hc, hb, t', hA, ht⟩ := hI
  exact ⟨hc, kept_cells hb hg hr, t', ⟨Grew.ownFrom (Nat.le_refl _) (fun _ : Unit => t'.recs) () W W' row hA.g hg hr, hA.wf, hA.lo, hA.hi, hA.inord⟩, ht⟩
theorem addA_own {Q : T.Fs ByteArray} {x : It} {a : Nat} {va : Option Addr} {vl vc ws B : Nat} (k : Nat) (a' : Act) : OwnFrom B (fun (_ : Unit) W => AddAx Q x a va vl vc ws k a' W) := fun _ W W' row hI hg hr => by
  obtain ⟨Bx, f, h1, h2, h3, h4⟩ := hI
  exact ⟨Bx, f, h1, h2, kept_cells h3 hg hr, h4⟩
theorem addI_alloc {Q : T.Fs ByteArray} {x : It} {a top : Nat} {n : Int} {W0 W : World} {bx br Bs k : Nat} {v : Value} (hc : ∀ b, b = Bs ∨ v.ownBlock = some b → ∃ c t f, W0.heap[b]? = some (.cells c t f)) (h : AddInv Q x a top n W0 bx br Bs v k W) (o : Obj) : AddInv Q x a top n W0 bx br Bs v k (W.alloc o) :=
  addI_own hc k W _ none h (World.grownBy_alloc W o none) (fun r e => by cases e)

theorem topOf_drop (Q : T.Fs ByteArray) (b : Nat) (k : Nat) (f : T ByteArray × Nat) (fs : T.Fs ByteArray) (h : Q.drop k = f :: fs) : T.topOf fs f.1.r.b = T.topOf Q b := by
  induction Q generalizing k b with
  | nil => simp at h
  | cons g Q ih =>
    cases k with
    | zero => obtain ⟨rfl, rfl⟩ : g = f ∧ Q = fs := by simpa using h
              rfl
    | succ k => exact ih g.1.r.b k (by simpa using h)

/-- what a round may have written -/
theorem round_keeps {Q : T.Fs ByteArray} {x : It} {a top : Nat} {n : Int} {W0 W W' : World} {bx br Bs k B : Nat} {v : Value} {r : Rec ByteArray} {y : It} {h : T.Hole ByteArray} (hA : AddI Q x a top n W0 bx br k W y h) (hS : SameV Bs v W0 W) (ho : Ok W r)
    (hon : Only (fun b => b ∈ r.blocks ∨ Two bx br b) W W') (hBs : ∀ b, b = Bs ∨ v.ownBlock = some b → ∃ c t, W0.heap[b]? = some (.cells c t (0, 0)) ∧ (t = 60 ∨ t = 56)) :
    KeepsFrom B W W' ∧ SameV Bs v W W' := by
  refine ⟨keeps_of_only B hon fun k hk => ?_, fun b hb => ?_⟩
  · rcases hk with hk | rfl | rfl
    · obtain ⟨c, t, hc, _⟩ := ho.cells k hk
      exact ⟨_, _, _, hc⟩
    · exact ⟨_, _, _, hA.xb⟩
    · exact ⟨_, _, _, hA.rb⟩
  · obtain ⟨c, t, hc, ht⟩ := hBs b hb
    have hc' := (hS b hb).trans hc
    refine hon.block b (Array.getElem?_eq_some_iff.1 hc').1 fun hh => ?_
    rcases hh with hh | rfl | rfl
    · obtain ⟨c2, t2, h2, ht2⟩ := ho.cells b hh
      rw [hc'] at h2
      cases h2
      rcases ht with rfl | rfl <;> (rcases ht2 with e | e | e <;> cases e)
    · have := hA.xb
      rw [hc'] at this
      cases this
      rcases ht with e | e <;> cases e
    · have := hA.rb
      unfold Boxed at this
      rw [hc'] at this
      cases this
      rcases ht with e | e <;> cases e

end Go.Proofs.Ytkhbfjncamobdaa.S
