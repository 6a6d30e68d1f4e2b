/- Many nodes in memory at once: each in its own blocks. -/
import Derived.Test.YtbelgkccfajjoaaBagPartS
import Derived.Test.YtbelgkccfajjoaaBagSplit
namespace Go.Proofs.Ytbelgkccfajjoaa.S
open Go.RowKit
set_option linter.unusedVariables false

theorem Ok.nodup {w : World} {r : Rec ByteArray} (h : Ok w r) : r.blocks.Nodup := by
  have h1 := h.b_ne_g
  unfold Rec.blocks
  cases hk : r.kv with
  | none => simp [h1]
  | some p =>
    have h2 := h.b_ne_k hk
    have h3 := h.g_ne_k hk
    simp [h1, h2, h3]
theorem Ok.cells {w : World} {r : Rec ByteArray} (h : Ok w r) : ∀ k, k ∈ r.blocks → ∃ c t, w.heap[k]? = some (.cells c t (0, 0)) ∧ (t = 66 ∨ t = 97 ∨ t = 51) := by
  intro k hk
  rcases (mem_blocks r k).1 hk with rfl | rfl | ⟨p, hp, rfl⟩
  · exact ⟨_, _, h.node, .inl rfl⟩
  · obtain ⟨c, hc⟩ := h.iblk
    exact ⟨_, _, hc, .inr (.inl rfl)⟩
  · obtain ⟨c, hc⟩ := h.kblk hp
    exact ⟨_, _, hc, .inr (.inr rfl)⟩

structure Mem (w : World) (L : List (Rec ByteArray)) : Prop where
  ok : ∀ r, r ∈ L → Ok w r
  nd : (L.flatMap Rec.blocks).Nodup
theorem Mem.perm {w : World} {L L' : List (Rec ByteArray)} (h : Mem w L) (p : L.Perm L') : Mem w L' := ⟨fun r hr => h.ok r (p.mem_iff.2 hr), (p.flatMap_right Rec.blocks).nodup_iff.1 h.nd⟩
theorem Mem.kept {w w' : World} {L : List (Rec ByteArray)} (h : Mem w L) (hk : ∀ r, r ∈ L → ∀ k, k ∈ r.blocks → w'.heap[k]? = w.heap[k]?) : Mem w' L := ⟨fun r hr => (h.ok r hr).kept (hk r hr), h.nd⟩
theorem Mem.nil (w : World) : Mem w [] := ⟨fun _ h => (by simp at h), by simp⟩

/-- nodes behind a piece of work that began in w0: in blocks of S or new ones; nothing else has turned -/
structure Grew (S X : Nat → Prop) (w0 W : World) (L : List (Rec ByteArray)) : Prop where
  mem : Mem W L
  only : Only (fun k => S k ∨ X k) w0 W
  bnd : ∀ r, r ∈ L → ∀ k, k ∈ r.blocks → S k ∨ w0.heap.size ≤ k
theorem Grew.perm {S X : Nat → Prop} {w0 W : World} {L L' : List (Rec ByteArray)} (h : Grew S X w0 W L) (p : L.Perm L') : Grew S X w0 W L' := ⟨h.mem.perm p, h.only, fun r hr => h.bnd r (p.mem_iff.2 hr)⟩
theorem Grew.start {w : World} {L : List (Rec ByteArray)} (S X : Nat → Prop) (h : Mem w L) (hS : ∀ r, r ∈ L → ∀ k, k ∈ r.blocks → S k) : Grew S X w w L := ⟨h, Only.refl _ _, fun r hr k hk => .inl (hS r hr k hk)⟩
theorem nodup_cons_iff {r : Rec ByteArray} {L : List (Rec ByteArray)} : ((r :: L).flatMap Rec.blocks).Nodup ↔ r.blocks.Nodup ∧ (L.flatMap Rec.blocks).Nodup ∧ ∀ k, k ∈ r.blocks → ∀ q, q ∈ L → k ∉ q.blocks := by
  rw [List.flatMap_cons, List.nodup_append]
  refine ⟨fun ⟨a, b, c⟩ => ⟨a, b, fun k hk q hq hkq => c k hk k (List.mem_flatMap.2 ⟨q, hq, hkq⟩) rfl⟩, fun ⟨a, b, c⟩ => ⟨a, b, fun k hk k' hk' e => ?_⟩⟩
  subst e
  obtain ⟨q, hq, hkq⟩ := List.mem_flatMap.1 hk'
  exact c k hk q hq hkq
theorem Grew.turned {S X : Nat → Prop} {w0 W W' : World} {r r' : Rec ByteArray} {L : List (Rec ByteArray)} (h : Grew S X w0 W (r :: L)) (t : Turned W r W' r') : Grew S X w0 W' (r' :: L) := by
  obtain ⟨n1, n2, n3⟩ := nodup_cons_iff.1 h.mem.nd
  refine ⟨⟨fun q hq => ?_, nodup_cons_iff.2 ⟨t.ok.nodup, n2, fun k hk q hq hkq => ?_⟩⟩, h.only.step t.only (fun i hi hir => ?_), fun q hq k hk => ?_⟩
  · rcases List.mem_cons.1 hq with rfl | hq
    · exact t.ok
    · exact (h.mem.ok q (List.mem_cons_of_mem _ hq)).only t.only (fun k hk hkr => n3 k hkr q hq hk)
  · rcases t.blocks k hk with hk | hk
    · exact n3 k hk q hq hkq
    · have := (h.mem.ok q (List.mem_cons_of_mem _ hq)).blk k hkq
      omega
  · exact (h.bnd r (by simp) i hir).elim .inl (fun h2 => by omega)
  · rcases List.mem_cons.1 hq with rfl | hq
    · rcases t.blocks k hk with hk | hk
      · exact h.bnd r (by simp) k hk
      · exact .inr (Nat.le_trans h.only.size hk)
    · exact h.bnd q (List.mem_cons_of_mem _ hq) k hk
/-- one node more, in new blocks -/
theorem Grew.more {S X : Nat → Prop} {w0 W W' : World} {r : Rec ByteArray} {L : List (Rec ByteArray)} (h : Grew S X w0 W L) (hb : Only (fun _ => False) W W') (ho : Ok W' r) (hn : ∀ k, k ∈ r.blocks → W.heap.size ≤ k) : Grew S X w0 W' (r :: L) := by
  refine ⟨⟨fun q hq => ?_, nodup_cons_iff.2 ⟨ho.nodup, h.mem.nd, fun k hk q hq hkq => ?_⟩⟩, h.only.step hb (fun _ _ h => h.elim), fun q hq k hk => ?_⟩
  · rcases List.mem_cons.1 hq with rfl | hq
    · exact ho
    · exact (h.mem.ok q hq).only hb (fun _ _ h => h)
  · have := (h.mem.ok q hq).blk k hkq
    have := hn k hk
    omega
  · rcases List.mem_cons.1 hq with rfl | hq
    · exact .inr (Nat.le_trans h.only.size (hn k hk))
    · exact h.bnd q hq k hk
theorem Grew.parted {S X : Nat → Prop} {w0 W W' : World} {r r1 rr : Rec ByteArray} {x : It} {L : List (Rec ByteArray)} (h : Grew S X w0 W (r :: L)) (t : Parted W r x W' r1 rr) : Grew S X w0 W' (r1 :: rr :: L) := by
  have g := h.turned t.left
  obtain ⟨n1, n2, n3⟩ := nodup_cons_iff.1 g.mem.nd
  have hr : ∀ q, q ∈ r1 :: L → ∀ k, k ∈ q.blocks → k < W.heap.size := fun q hq k hk => by
    rcases List.mem_cons.1 hq with rfl | hq
    · rw [t.same] at hk
      exact (h.mem.ok r (by simp)).blk k hk
    · exact (h.mem.ok q (List.mem_cons_of_mem _ hq)).blk k hk
  refine ⟨⟨fun q hq => ?_, nodup_cons_iff.2 ⟨n1, nodup_cons_iff.2 ⟨t.right.nodup, n2, fun k hk q hq hkq => ?_⟩, fun k hk q hq hkq => ?_⟩⟩, g.only, fun q hq k hk => ?_⟩
  · rcases List.mem_cons.1 hq with rfl | hq
    · exact t.left.ok
    · rcases List.mem_cons.1 hq with rfl | hq
      · exact t.right
      · exact g.mem.ok q (List.mem_cons_of_mem _ hq)
  · have h1 := t.new k hk
    have h2 := hr q (List.mem_cons_of_mem _ hq) k hkq
    omega
  · rcases List.mem_cons.1 hq with rfl | hq
    · have h1 := t.new k hkq
      have h2 := hr r1 (by simp) k hk
      omega
    · exact n3 k hk q hq hkq
  · rcases List.mem_cons.1 hq with rfl | hq
    · exact g.bnd q (by simp) k hk
    · rcases List.mem_cons.1 hq with rfl | hq
      · exact .inr (Nat.le_trans h.only.size (t.new k hk))
      · exact g.bnd q (List.mem_cons_of_mem _ hq) k hk
/-- work on blocks that no node has -/
theorem Grew.beside {S X T : Nat → Prop} {w0 W W' : World} {L : List (Rec ByteArray)} (h : Grew S X w0 W L) (ho : Only T W W') (hT : ∀ k, T k → (w0.heap.size ≤ k ∨ S k ∨ X k) ∧ ∀ r, r ∈ L → k ∉ r.blocks) : Grew S X w0 W' L :=
  ⟨h.mem.kept fun r hr k hk => ho.block k ((h.mem.ok r hr).blk k hk) (fun ht => (hT k ht).2 r hr hk), h.only.step ho (fun i hi ht => ((hT i ht).1).elim (fun h2 => by omega) id), h.bnd⟩
/-- from an elder world on: what is neither S's nor new is not spoken of any more -/
theorem Grew.back {S X : Nat → Prop} {w w0 W : World} {L : List (Rec ByteArray)} (h : Grew S X w0 W L) (hb : Below w.heap.size w w0) (hX : ∀ k, X k → w.heap.size ≤ k) : Grew S (fun _ => False) w W L :=
  ⟨h.mem, (Only.of_below hb).step h.only (fun i hi hh => hh.elim .inl (fun hx => by have := hX i hx; omega)), fun r hr k hk => (h.bnd r hr k hk).imp id (fun h2 => Nat.le_trans hb.size h2)⟩
theorem Grew.alloc {S X : Nat → Prop} {w0 W : World} {L : List (Rec ByteArray)} (h : Grew S X w0 W L) (o : Obj) : Grew S X w0 (W.alloc o) L := h.beside (T := fun _ => False) ((Only.refl _ W).alloc o) (fun _ h => h.elim)
theorem Grew.drew {S X : Nat → Prop} {w0 W : World} {L : List (Rec ByteArray)} (h : Grew S X w0 W L) : Grew S X w0 W.drew L := h.beside (T := fun _ => False) ((Only.refl _ W).drew) (fun _ h => h.elim)
theorem Grew.setCell {S X : Nat → Prop} {w0 W : World} {L : List (Rec ByteArray)} (h : Grew S X w0 W L) (b i : Nat) (u : Value) (hb : w0.heap.size ≤ b ∨ S b ∨ X b) (hn : ∀ r, r ∈ L → b ∉ r.blocks) : Grew S X w0 (W.setCell ⟨b, i, none⟩ u) L :=
  h.beside (T := fun k => k = b) (Only.setCell (S := fun k => k = b) (p := ⟨b, i, none⟩) (Only.refl _ W) (.inr rfl) u) (fun k hk => by cases hk; exact ⟨hb, hn⟩)
/-- a block of another kind is no node's -/
theorem Mem.not_in {W : World} {L : List (Rec ByteArray)} (h : Mem W L) {b : Nat} {c : Array Value} {t : TypeId} {f : Nat × Nat} (hb : W.heap[b]? = some (.cells c t f)) (h1 : t ≠ 66) (h2 : t ≠ 97) (h3 : t ≠ 51) : ∀ r, r ∈ L → b ∉ r.blocks := by
  intro r hr hk
  obtain ⟨c', t', hc, ht⟩ := (h.ok r hr).cells b hk
  rw [hb] at hc
  cases hc
  rcases ht with rfl | rfl | rfl
  · exact h1 rfl
  · exact h2 rfl
  · exact h3 rfl
theorem Grew.ownFrom {β : Type} {S X : Nat → Prop} {w0 : World} {B : Nat} (hB : w0.heap.size ≤ B) (L : β → List (Rec ByteArray)) : OwnFrom B (fun s W => Grew S X w0 W (L s)) := fun s A C row h hg hr =>
  ⟨h.mem.kept fun r hr' k hk => by
      obtain ⟨c, t, hc, _⟩ := (h.mem.ok r hr').cells k hk
      exact hg.block k ((h.mem.ok r hr').blk k hk) (fun e => by obtain ⟨_, o, ho, hcc⟩ := hr k e.symm; rw [hc] at ho; cases ho; cases hcc),
   h.only.grown hg (fun r e => .inl (Nat.le_trans hB (hr r e).1)), h.bnd⟩

end Go.Proofs.Ytbelgkccfajjoaa.S
