/- Roots as they lie in memory. -/
import Derived.Test.YtdniakoedgohkaaRootMath
import Derived.Test.YtdniakoedgohkaaRow
import Derived.Test.YtdniakoedgohkaaOnly
namespace Go.Proofs.Ytdniakoedgohkaa.Root
open Go.RowKit
set_option linter.unusedVariables false

/-- numbers of blocks, as a slice -/
def Nums (w : World) (v : Value) (L : List Nat) : Prop := Lies w v L.length 1 (L.map fun (x : Nat) => Value.int .u32 (x : Int))
theorem Nums.below {w w' : World} {v : Value} {L : List Nat} (h : Nums w v L) (hB : Below w.heap.size w w') : Nums w' v L := Lies.below h hB
theorem Nums.nil (w : World) : Nums w (.slice none 0 0) [] := Lies.nil w 1
theorem Nums.parts {w : World} {v : Value} {L : List Nat} (h : Nums w v L) : ∃ a cap, v = .slice a L.length cap ∧ L.length ≤ cap ∧ cap ≤ 9223372036854775807 := by
  obtain ⟨a, cap, e, _, h1, h2⟩ := Lies.parts h
  exact ⟨a, cap, e, h1, h2⟩
/-- the i-th number -/
def nu (L : List Nat) (i : Nat) : Nat := L.getD i 0
theorem nu_get {L : List Nat} {i : Nat} (h : i < L.length) : L[i]? = some (nu L i) := by
  unfold nu
  rw [List.getD_eq_getElem?_getD, List.getElem?_eq_getElem h]
  rfl
theorem nu_ext {A B : List Nat} (hl : A.length = B.length) (h : ∀ j, j < A.length → nu A j = nu B j) : A = B := by
  apply List.ext_getElem?
  intro i
  rcases Nat.lt_or_ge i A.length with hi | hi
  · rw [nu_get hi, nu_get (by omega), h i hi]
  · rw [List.getElem?_eq_none hi, List.getElem?_eq_none (by omega)]
theorem Nums.at {w : World} {a : Option Addr} {n cap : Nat} {L : List Nat} (hn : L.length = n) (h : Nums w (.slice a n cap) L) {k : Nat} (hk : k < n) : ∃ b off, a = some ⟨b, off, none⟩ ∧ w.cell? ⟨b, off + k, none⟩ = some (.int .u32 (nu L k : Int)) := by
  subst hn
  exact Lies.read h (by rw [List.getElem?_map, nu_get hk]; rfl)
/-- a list cut short -/
theorem Nums.cut {w : World} {a : Option Addr} {n cap : Nat} {L : List Nat} (hn : L.length = n) (h : Nums w (.slice a n cap) L) (k : Nat) (hk : k ≤ n) : Nums w (.slice a k cap) (L.take k) := by
  subst hn
  obtain ⟨a', cap', e, hc, hm, hlen, hcells⟩ := h
  cases e
  have hl : (L.take k).length = k := by rw [List.length_take]; omega
  unfold Nums
  rw [hl]
  refine ⟨a, cap, rfl, by omega, hm, by simp; omega, fun hp => ?_⟩
  obtain ⟨b, off, e, hc⟩ := hcells (by omega)
  refine ⟨b, off, e, fun j u hj => hc j u ?_⟩
  rw [List.map_take, List.getElem?_take] at hj
  split at hj
  · exact hj
  · cases hj

/-! ### a root -/
def Q.val (r : Q) (d c : Value) : Value := .agg #[.int .u64 (r.cp : Int), .int .u64 (r.tick : Int), d, c]
def boxQ (r : Q) (d c : Value) : Obj := .cells #[.int .u64 (r.cp : Int), .int .u64 (r.tick : Int), d, c] 25
/-- a root lies at block b, its blocks in the slices d and c -/
def QAt (W : World) (b : Nat) (r : Q) (d c : Value) : Prop := W.heap[b]? = some (.cells #[.int .u64 (r.cp : Int), .int .u64 (r.tick : Int), d, c] 25 (0, 0))
namespace QAt
variable {W W' : World} {b : Nat} {r : Q} {vd vc : Value}
theorem c (h : QAt W b r vd vc) : W.cell? ⟨b, 0, none⟩ = some (.int .u64 (r.cp : Int)) ∧ W.cell? ⟨b, 1, none⟩ = some (.int .u64 (r.tick : Int)) ∧ W.cell? ⟨b, 2, none⟩ = some vd ∧ W.cell? ⟨b, 3, none⟩ = some vc := by
  unfold QAt at h
  simp only [World.cell?, h]
  exact ⟨rfl, rfl, rfl, rfl⟩
theorem f (h : QAt W b r vd vc) (i : Nat) : W.frozen? ⟨b, i, none⟩ = false := by
  unfold QAt at h
  simp [World.frozen?, h]
theorem lt (h : QAt W b r vd vc) : b < W.heap.size := (Array.getElem?_eq_some_iff.1 h).1
theorem th (h : QAt W b r vd vc) (hB : Below W.heap.size W W') : QAt W' b r vd vc := (hB.block b h.lt).trans h
theorem of_heap (h : QAt W b r vd vc) (hb : W'.heap[b]? = W.heap[b]?) : QAt W' b r vd vc := hb.trans h
theorem new (w : World) (r : Q) (vd vc : Value) : QAt (w.alloc (boxQ r vd vc)) w.heap.size r vd vc := World.alloc_heap_new w _
theorem drew (h : QAt W b r vd vc) : QAt W.drew b r vd vc := h
end QAt
/-- what asks answers: only what is new is written -/
def Ans (w : World) (v : Value) (e : Ending) (w' : World) : Prop := e = .returned v ∧ Below w.heap.size w w'
theorem Ans.eq {w w' : World} {e : Ending} {v u : Value} (h : v = u) (k : Ans w v e w') : Ans w u e w' := h ▸ k
theorem below_al {n : Nat} {w w' : World} (h : Below n w w') (o : Obj) (hn : n ≤ w'.heap.size) : Below n w (w'.alloc o) := h.alloc hn o
theorem below_new (w : World) (o : Obj) : Below w.heap.size w (w.alloc o) := (Below.refl _ w).alloc (Nat.le_refl _) o
/-- two roots at two boxes -/
theorem boxes (w : World) (a b : Q) (d c e f : Value) : QAt ((w.alloc (boxQ a d c)).alloc (boxQ b e f)) w.heap.size a d c ∧ QAt ((w.alloc (boxQ a d c)).alloc (boxQ b e f)) (w.heap.size + 1) b e f := by
  refine ⟨(QAt.new w a d c).th (below_new _ _), ?_⟩
  have := QAt.new (w.alloc (boxQ a d c)) b e f
  rw [World.size_alloc] at this
  exact this
end Go.Proofs.Ytdniakoedgohkaa.Root
