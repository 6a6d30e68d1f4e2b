/- Three nodes at work: one, and the two beside an item of it. -/
import Derived.Deep.AppendLies
import Derived.Test.YtkhbfjncamobdaaBagRemS
namespace Go.Proofs.Ytkhbfjncamobdaa.S
open Go.RowKit
set_option linter.unusedVariables false

structure Trio (S X : Nat → Prop) (w0 w : World) (B : Nat → Prop) (L : List (Rec ByteArray)) (W : World) (r rl rr : Rec ByteArray) : Prop where
  g : Grew S X w0 W (r :: rl :: rr :: L)
  o : Only B w W
  top : ∀ k, k ∈ r.blocks → B k ∨ w.heap.size ≤ k
  left : ∀ k, k ∈ rl.blocks → B k ∨ w.heap.size ≤ k
  right : ∀ k, k ∈ rr.blocks → B k ∨ w.heap.size ≤ k

theorem turned_sub {w W W' : World} {B : Nat → Prop} {r r' : Rec ByteArray} (o : Only B w W) (t : Turned W r W' r') (h : ∀ k, k ∈ r.blocks → B k ∨ w.heap.size ≤ k) : Only B w W' ∧ ∀ k, k ∈ r'.blocks → B k ∨ w.heap.size ≤ k :=
  ⟨o.step t.only (fun i hi hk => (h i hk).elim id (fun h2 => by omega)), fun k hk => (t.blocks k hk).elim (h k) (fun h2 => .inr (Nat.le_trans o.size h2))⟩
theorem perm_lrt {α : Type} (a b c : α) (L : List α) : (a :: b :: c :: L).Perm (b :: a :: c :: L) := List.Perm.swap _ _ _
theorem perm_rlt {α : Type} (a b c : α) (L : List α) : (a :: b :: c :: L).Perm (c :: a :: b :: L) := ((List.Perm.swap c b L).cons a).trans (List.Perm.swap c a _)

namespace Trio
variable {S X : Nat → Prop} {w0 w W W' : World} {B : Nat → Prop} {L : List (Rec ByteArray)} {r rl rr r' : Rec ByteArray}
theorem turnT (h : Trio S X w0 w B L W r rl rr) (t : Turned W r W' r') : Trio S X w0 w B L W' r' rl rr :=
  ⟨h.g.turned t, (turned_sub h.o t h.top).1, (turned_sub h.o t h.top).2, h.left, h.right⟩
theorem turnL (h : Trio S X w0 w B L W r rl rr) (t : Turned W rl W' r') : Trio S X w0 w B L W' r r' rr :=
  ⟨((h.g.perm (perm_lrt _ _ _ _)).turned t).perm (perm_lrt _ _ _ _), (turned_sub h.o t h.left).1, h.top, (turned_sub h.o t h.left).2, h.right⟩
theorem turnR (h : Trio S X w0 w B L W r rl rr) (t : Turned W rr W' r') : Trio S X w0 w B L W' r rl r' :=
  ⟨((h.g.perm (perm_rlt _ _ _ _)).turned t).perm (perm_rlt _ _ _ _).symm, (turned_sub h.o t h.right).1, h.top, h.left, (turned_sub h.o t h.right).2⟩
theorem below (h : Trio S X w0 w B L W r rl rr) (hB : Below W.heap.size W W') : Trio S X w0 w B L W' r rl rr :=
  ⟨h.g.beside (T := fun _ => False) (Only.of_below hB) (fun _ h => h.elim), h.o.step (Only.of_below (S := fun _ => False) hB) (fun _ _ h => h.elim), h.top, h.left, h.right⟩
theorem okT (h : Trio S X w0 w B L W r rl rr) : Ok W r := h.g.mem.ok _ (by simp)
theorem okL (h : Trio S X w0 w B L W r rl rr) : Ok W rl := h.g.mem.ok _ (by simp)
theorem okR (h : Trio S X w0 w B L W r rl rr) : Ok W rr := h.g.mem.ok _ (by simp)
theorem tl (h : Trio S X w0 w B L W r rl rr) : ∀ k, k ∈ r.blocks → k ∉ rl.blocks := fun k hk => (nodup_cons_iff.1 h.g.mem.nd).2.2 k hk rl (by simp)
theorem tr (h : Trio S X w0 w B L W r rl rr) : ∀ k, k ∈ r.blocks → k ∉ rr.blocks := fun k hk => (nodup_cons_iff.1 h.g.mem.nd).2.2 k hk rr (by simp)
theorem lr (h : Trio S X w0 w B L W r rl rr) : ∀ k, k ∈ rl.blocks → k ∉ rr.blocks := fun k hk => (nodup_cons_iff.1 (nodup_cons_iff.1 h.g.mem.nd).2.1).2.2 k hk rr (by simp)
end Trio

theorem only_grown {W W' : World} {g : Nat} {o : Option Nat} (h : W.grownBy W' o) (ho : o = some g) : Only (fun k => k = g) W W' :=
  ⟨h.os, h.tape, h.output, h.size, fun k hk hn => h.block k hk (fun e => hn (by rw [ho] at e; exact Option.some.inj e))⟩
/-- what an append to a node's items leaves of the node, for the store behind it -/
theorem append_left {W W' w1 : World} {r : Rec ByteArray} {o : Option Nat} (h : Ok W r) (hW : Below W.heap.size W W') (hg : W'.grownBy w1 o) (ho : o = some r.g) : w1.cell? ⟨r.b, 0, none⟩ = some r.iv ∧ w1.frozen? ⟨r.b, 0, none⟩ = false := by
  have h2 := h.below hW
  have e := (only_grown hg ho).block r.b (h2.blk r.b (by simp [Rec.blocks])) h2.b_ne_g
  exact ⟨(World.cell?_of_block (a := ⟨r.b, 0, none⟩) e).trans h2.c0, (World.frozen?_of_block (a := ⟨r.b, 0, none⟩) e).trans (h2.f 0)⟩
/-- an append to a node's items, and the store of what came out -/
theorem append_turned {W W' w1 : World} {r : Rec ByteArray} {o : Option Nat} {x : It} {g' cap' H : Nat} (h : Ok W r) (hW : Below W.heap.size W W') (hg : W'.grownBy w1 o) (ho : o = some r.g)
    (hown : w1.ownsRow 0 62 2 (.slice (some ⟨g', 0, none⟩) (r.items.length + 1) cap') (r.items.length + 1) (cellsI r.items ++ [.int .i64 x.1, .string x.2])) (hat : o = some g' ∨ g' = H) (hH : H = W'.heap.size) :
    Turned W' r (w1.setCell ⟨r.b, 0, none⟩ (.slice (some ⟨g', 0, none⟩) (r.items.length + 1) cap')) { r with g := g', cap := cap', items := r.items ++ [x] } :=
  turned_items (items' := r.items ++ [x]) (n := r.items.length + 1) (h.below hW) (only_grown hg ho) (by simp) (by rw [cellsI_append]; exact hown)
    (hat.imp (fun e => by rw [ho] at e; exact (Option.some.inj e).symm) (fun e => by omega))

theorem app_own {W : World} {r : Rec ByteArray} (h : Ok W r) (o : Obj) (W' : World) (e : W'.heap = (W.alloc o).heap) : W'.ownsRow 0 62 2 (.slice (some ⟨r.g, 0, none⟩) r.items.length r.cap) r.items.length (cellsI r.items) := by
  have := (h.below ((Below.refl _ W).alloc (Nat.le_refl _) o)).irow
  unfold World.ownsRow at this ⊢
  rw [e]
  exact this
theorem app_news {W : World} (x : It) (W' : World) (e : W'.heap = (W.alloc (.cells #[.int .i64 x.1, .string x.2] 62)).heap) : ∀ j u, ([.int .i64 x.1, .string x.2] : List Value)[j]? = some u → W'.cell? ((⟨W.heap.size, 0, none⟩ : Addr).add j) = some u :=
  World.news_of_block (cs := #[.int .i64 x.1, .string x.2]) (t := 62) (fr := (0, 0)) (by rw [e]; exact heap_alloc_new W _)

theorem append_leftK {W W' w1 : World} {r : Rec ByteArray} {o : Option Nat} {q : Nat × Nat} (h : Ok W r) (hkv : r.kv = some q) (hW : Below W.heap.size W W') (hg : W'.grownBy w1 o) (ho : o = some q.1) : w1.cell? ⟨r.b, 1, none⟩ = some r.kvv ∧ w1.frozen? ⟨r.b, 1, none⟩ = false := by
  have h2 := h.below hW
  have e := (only_grown hg ho).block r.b (h2.blk r.b (by simp [Rec.blocks])) (h2.b_ne_k hkv)
  exact ⟨(World.cell?_of_block (a := ⟨r.b, 1, none⟩) e).trans h2.c1, (World.frozen?_of_block (a := ⟨r.b, 1, none⟩) e).trans (h2.f 1)⟩
theorem append_turnedK {W W' w1 : World} {r : Rec ByteArray} {o : Option Nat} {q : Nat × Nat} {c g' cap' H : Nat} (h : Ok W r) (hkv : r.kv = some q) (hW : Below W.heap.size W W') (hg : W'.grownBy w1 o) (ho : o = some q.1)
    (hown : w1.ownsRow 0 40 1 (.slice (some ⟨g', 0, none⟩) (r.kids.length + 1) cap') (r.kids.length + 1) (cellsP r.kids ++ [ptrV c])) (hat : o = some g' ∨ g' = H) (hH : H = W'.heap.size) :
    Turned W' r (w1.setCell ⟨r.b, 1, none⟩ (.slice (some ⟨g', 0, none⟩) (r.kids.length + 1) cap')) { r with kv := some (g', cap'), kids := r.kids ++ [c] } :=
  turned_kids (kids' := r.kids ++ [c]) (n := r.kids.length + 1) (h.below hW) hkv (only_grown hg ho) (by simp) (by unfold cellsP at hown ⊢; rw [List.map_append]; exact hown)
    (hat.imp (fun e => by rw [ho] at e; exact (Option.some.inj e).symm) (fun e => by omega))
theorem app_ownK {W : World} {r : Rec ByteArray} {q : Nat × Nat} (h : Ok W r) (hkv : r.kv = some q) (o : Obj) (W' : World) (e : W'.heap = (W.alloc o).heap) : W'.ownsRow 0 40 1 (.slice (some ⟨q.1, 0, none⟩) r.kids.length q.2) r.kids.length (cellsP r.kids) := by
  have := (h.below ((Below.refl _ W).alloc (Nat.le_refl _) o)).krow
  simp only [Rec.kvv, hkv] at this
  unfold World.ownsRow at this ⊢
  rw [e]
  exact this
theorem app_newsK {W : World} (c : Nat) (W' : World) (e : W'.heap = (W.alloc (.cells #[ptrV c] 40)).heap) : ∀ j u, ([ptrV c] : List Value)[j]? = some u → W'.cell? ((⟨W.heap.size, 0, none⟩ : Addr).add j) = some u :=
  World.news_of_block (cs := #[ptrV c]) (t := 40) (fr := (0, 0)) (by rw [e]; exact heap_alloc_new W _)

/-- what a moving has made of three nodes -/
def MovPost (S X : Nat → Prop) (w0 w : World) (B : Nat → Prop) (L : List (Rec ByteArray)) (r rl rr : Rec ByteArray) (p : Nat) (y : It) (li ri : List It) (lk rk : List Nat) (e : Ending) (W : World) : Prop :=
  e = .returned (.tuple #[]) ∧ ∃ r' rl' rr', Trio S X w0 w B L W r' rl' rr' ∧ (r'.b = r.b ∧ r'.items = r.items.set p y ∧ r'.kids = r.kids ∧ r'.kv = r.kv) ∧ (rl'.b = rl.b ∧ rl'.items = li ∧ rl'.kids = lk ∧ rl'.kv.isSome = rl.kv.isSome) ∧ (rr'.b = rr.b ∧ rr'.items = ri ∧ rr'.kids = rk ∧ rr'.kv.isSome = rr.kv.isSome)

theorem info_item : (Try.prog.info? 62).map (fun i => (i.zero, i.size, i.bytes)) = some (some (.agg #[.int .i64 0, .string ⟨#[]⟩]), 2, 24) := by kernel_rfl
theorem info_node : (Try.prog.info? 40).map (fun i => (i.zero, i.size, i.bytes)) = some (some (.pointer none), 1, 8) := by kernel_rfl
end Go.Proofs.Ytkhbfjncamobdaa.S
