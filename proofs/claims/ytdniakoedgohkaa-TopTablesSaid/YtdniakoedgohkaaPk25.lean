/- Several texts in one, each under its own heading. -/
import Derived.Test.YtdniakoedgohkaaPk24
import Derived.Test.YtdniakoedgohkaaPk01
import Derived.Test.YtdniakoedgohkaaPk07
import Derived.Laws.AppendOwnNone
import Derived.Deep.RegionLaw
import Derived.Deep.AppendLies
import Derived.RangeFuncBound
import Derived.RangeFuncCalls
import Derived.RangeFuncLeaves
import Derived.OwnWalkIn
import Derived.TacticsInMore
import Derived.LoopNIn
import Derived.LoopIn
import Derived.Test.YtdniakoedgohkaaPk03
/- Roots as they lie in memory. -/
namespace Go.Proofs.Ytdniakoedgohkaa.Root
open Go.RowKit
set_option linter.unusedVariables false

/-- numbers of blocks, as a slice -/
def Nums (w : World) (v : Value) (L : List Nat) : Prop := Lies w v L.length 1 (L.map fun (x : Nat) => Value.int .u32 (x : Int))
theorem Nums.below {w w' : World} {v : Value} {L : List Nat} (h : Nums w v L) (hB : Below w.heap.size w w') : Nums w' v L := Lies.below h hB
theorem Nums.nil (w : World) : Nums w (.slice none 0 0) [] := Lies.nil w 1
theorem Nums.parts {w : World} {v : Value} {L : List Nat} (h : Nums w v L) : ∃ a cap, v = .slice a L.length cap ∧ L.length ≤ cap ∧ cap ≤ 9223372036854775807 := by
  obtain ⟨a, cap, e, _, h1, h2⟩ := Lies.parts h
  exact ⟨a, cap, e, h1, h2⟩
/-- the i-th number -/
def nu (L : List Nat) (i : Nat) : Nat := L.getD i 0
theorem nu_get {L : List Nat} {i : Nat} (h : i < L.length) : L[i]? = some (nu L i) := by
  unfold nu
  rw [List.getD_eq_getElem?_getD, List.getElem?_eq_getElem h]
  rfl
theorem nu_ext {A B : List Nat} (hl : A.length = B.length) (h : ∀ j, j < A.length → nu A j = nu B j) : A = B := by
  apply List.ext_getElem?
  intro i
  rcases Nat.lt_or_ge i A.length with hi | hi
  · rw [nu_get hi, nu_get (by omega), h i hi]
  · rw [List.getElem?_eq_none hi, List.getElem?_eq_none (by omega)]
theorem Nums.at {w : World} {a : Option Addr} {n cap : Nat} {L : List Nat} (hn : L.length = n) (h : Nums w (.slice a n cap) L) {k : Nat} (hk : k < n) : ∃ b off, a = some ⟨b, off, none⟩ ∧ w.cell? ⟨b, off + k, none⟩ = some (.int .u32 (nu L k : Int)) := by
  subst hn
  exact Lies.read h (by rw [List.getElem?_map, nu_get hk]; rfl)
/-- a list cut short -/
theorem Nums.cut {w : World} {a : Option Addr} {n cap : Nat} {L : List Nat} (hn : L.length = n) (h : Nums w (.slice a n cap) L) (k : Nat) (hk : k ≤ n) : Nums w (.slice a k cap) (L.take k) := by
  subst hn
  obtain ⟨a', cap', e, hc, hm, hlen, hcells⟩ := h
  cases e
  have hl : (L.take k).length = k := by rw [List.length_take]; omega
  unfold Nums
  rw [hl]
  refine ⟨a, cap, rfl, by omega, hm, by simp; omega, fun hp => ?_⟩
  obtain ⟨b, off, e, hc⟩ := hcells (by omega)
  refine ⟨b, off, e, fun j u hj => hc j u ?_⟩
  rw [List.map_take, List.getElem?_take] at hj
  split at hj
  · exact hj
  · cases hj

/-! ### a root -/
def Q.val (r : Q) (d c : Value) : Value := .agg #[.int .u64 (r.cp : Int), .int .u64 (r.tick : Int), d, c]
def boxQ (r : Q) (d c : Value) : Obj := .cells #[.int .u64 (r.cp : Int), .int .u64 (r.tick : Int), d, c] 25
/-- a root lies at block b, its blocks in the slices d and c -/
def QAt (W : World) (b : Nat) (r : Q) (d c : Value) : Prop := W.heap[b]? = some (.cells #[.int .u64 (r.cp : Int), .int .u64 (r.tick : Int), d, c] 25 (0, 0))
namespace QAt
variable {W W' : World} {b : Nat} {r : Q} {vd vc : Value}
theorem c (h : QAt W b r vd vc) : W.cell? ⟨b, 0, none⟩ = some (.int .u64 (r.cp : Int)) ∧ W.cell? ⟨b, 1, none⟩ = some (.int .u64 (r.tick : Int)) ∧ W.cell? ⟨b, 2, none⟩ = some vd ∧ W.cell? ⟨b, 3, none⟩ = some vc := by
  unfold QAt at h
  simp only [World.cell?, h]
  exact ⟨rfl, rfl, rfl, rfl⟩
theorem f (h : QAt W b r vd vc) (i : Nat) : W.frozen? ⟨b, i, none⟩ = false := by
  unfold QAt at h
  simp [World.frozen?, h]
theorem lt (h : QAt W b r vd vc) : b < W.heap.size := (Array.getElem?_eq_some_iff.1 h).1
theorem th (h : QAt W b r vd vc) (hB : Below W.heap.size W W') : QAt W' b r vd vc := (hB.block b h.lt).trans h
theorem of_heap (h : QAt W b r vd vc) (hb : W'.heap[b]? = W.heap[b]?) : QAt W' b r vd vc := hb.trans h
theorem new (w : World) (r : Q) (vd vc : Value) : QAt (w.alloc (boxQ r vd vc)) w.heap.size r vd vc := World.alloc_heap_new w _
theorem drew (h : QAt W b r vd vc) : QAt W.drew b r vd vc := h
end QAt
/-- what asks answers: only what is new is written -/
def Ans (w : World) (v : Value) (e : Ending) (w' : World) : Prop := e = .returned v ∧ Below w.heap.size w w'
theorem Ans.eq {w w' : World} {e : Ending} {v u : Value} (h : v = u) (k : Ans w v e w') : Ans w u e w' := h ▸ k
theorem below_al {n : Nat} {w w' : World} (h : Below n w w') (o : Obj) (hn : n ≤ w'.heap.size) : Below n w (w'.alloc o) := h.alloc hn o
theorem below_new (w : World) (o : Obj) : Below w.heap.size w (w.alloc o) := (Below.refl _ w).alloc (Nat.le_refl _) o
/-- two roots at two boxes -/
theorem boxes (w : World) (a b : Q) (d c e f : Value) : QAt ((w.alloc (boxQ a d c)).alloc (boxQ b e f)) w.heap.size a d c ∧ QAt ((w.alloc (boxQ a d c)).alloc (boxQ b e f)) (w.heap.size + 1) b e f := by
  refine ⟨(QAt.new w a d c).th (below_new _ _), ?_⟩
  have := QAt.new (w.alloc (boxQ a d c)) b e f
  rw [World.size_alloc] at this
  exact this
end Go.Proofs.Ytdniakoedgohkaa.Root
/- Numbers appended to numbers of one's own; a slice made for them. -/
namespace Go.Proofs.Ytdniakoedgohkaa.Root
open Go.RowKit
attribute [local go_sem] Oper.semAt_some
set_option linter.unusedVariables false
set_option linter.unusedSimpArgs false
theorem infoU32 : (Try.prog.info? 35).map (fun i => (i.zero, i.size, i.bytes)) = some (some (.int .u32 0), 1, 4) := by kernel_rfl
theorem run_append_nums (w : World) (base : Nat) (v : Value) (n : Nat) (xs : List Value) (hown : w.ownsRow base 35 1 v n xs) (vL : Value) (L : List Nat) (hL : Nums w vL L) (h1 : n + L.length ≤ 100000) (hb : base ≤ w.heap.size) :
    ∃ v' w', (Builtin.append_ #[23, 23] 23 #[v, vL]).run Try.prog w = .ok v' w' ∧ w'.ownsRow base 35 1 v' (n + L.length) (xs ++ L.map fun (x : Nat) => Value.int .u32 (x : Int)) ∧ w.grownBy w' v.ownBlock := by
  obtain ⟨i0, hi, hz0, hz1, hz2⟩ := info_parts infoU32
  obtain ⟨a, cap, rfl, hc1, hc2⟩ := hL.parts
  cases a with
  | none =>
    have hc0 : cap = 0 := Lies.none_cap hL
    have hl0 : L = [] := List.eq_nil_of_length_eq_zero (by omega)
    subst hl0
    subst hc0
    refine ⟨v, w, run_append_owned_none (P := Try.prog) w base 23 23 35 i0 1 Try.underlying23 hi v n xs hown, ?_, ⟨rfl, rfl, rfl, Nat.le_refl _, fun _ _ _ => rfl⟩⟩
    simpa using hown
  | some ad =>
    have hnews : ∀ j u, (L.map fun (x : Nat) => Value.int .u32 (x : Int))[j]? = some u → w.cell? (ad.add j) = some u := fun j u hj => by
      obtain ⟨a', cap', e, _, _, h4, h5⟩ := hL
      cases e
      have hl := (List.getElem?_eq_some_iff.1 hj).1
      rw [List.length_map] at hl
      obtain ⟨b, off, e2, hc⟩ := h5 (by omega)
      cases e2
      rw [add_plain]
      exact hc j u hj
    obtain ⟨v', w', hr, h2, h3, _⟩ := run_append_own (P := Try.prog) w base 23 23 35 i0 (.int .u32 0) 1 4 Try.underlying23 hi hz0 hz1 hz2 rfl (by decide) v n xs hown ad L.length cap (L.map fun (x : Nat) => Value.int .u32 (x : Int)) (by rw [List.length_map, Nat.mul_one]) hnews (fun u hu => by obtain ⟨x, _, rfl⟩ := List.mem_map.1 hu; rfl) (by unfold maxLen; omega) (by omega) hb
    exact ⟨v', w', hr, h2, h3⟩
theorem wp_append_nums {w : World} {o : Oper} {a : Act} {K : Act → World → Prop} {Q : Exit → Act → World → Prop} (s x : Operand)
    (ho : o.op = .call { callee := .builtin .append, args := #[s, x], argTypes := #[23, 23] }) (hty : o.type = 23)
    (base : Nat) (v : Value) (n : Nat) (xs : List Value) (hs : a.eval s = v) (hown : w.ownsRow base 35 1 v n xs) (vL : Value) (L : List Nat) (hx : a.eval x = vL) (hL : Nums w vL L) (h1 : n + L.length ≤ 100000) (hb : base ≤ w.heap.size)
    (h : ∀ v' w', w'.ownsRow base 35 1 v' (n + L.length) (xs ++ L.map fun (x : Nat) => Value.int .u32 (x : Int)) → w.grownBy w' v.ownBlock → K (a.put o.dst v') w') : o.wp Try.prog a w K Q := by
  obtain ⟨v', w', hr, h2, h3⟩ := run_append_nums w base v n xs hown vL L hL h1 hb
  unfold Oper.wp execOp
  simp only [ho, hty, resolve, invoke, builtin, Sem.run_bind, Sem.run_pure, Result.andThen_ok, List.map_toArray, List.map_cons, List.map_nil, hs, hx, hr]
  exact h v' w' h2 h3
theorem wpList_append_nums {w : World} {ops : Array Oper} {rest : List Oper} {o : Oper} {a : Act} {Q : Exit → Act → World → Prop} (hgd : o.guard = none) (s x : Operand)
    (ho : o.op = .call { callee := .builtin .append, args := #[s, x], argTypes := #[23, 23] }) (hty : o.type = 23)
    (base : Nat) (v : Value) (n : Nat) (xs : List Value) (hs : a.eval s = v) (hown : w.ownsRow base 35 1 v n xs) (vL : Value) (L : List Nat) (hx : a.eval x = vL) (hL : Nums w vL L) (h1 : n + L.length ≤ 100000) (hb : base ≤ w.heap.size)
    (h : ∀ v' w', w'.ownsRow base 35 1 v' (n + L.length) (xs ++ L.map fun (x : Nat) => Value.int .u32 (x : Int)) → w.grownBy w' v.ownBlock → wpList Try.prog ops Q rest (a.put o.dst v') w') : wpList Try.prog ops Q (o :: rest) a w :=
  wpList_plain hgd fun _ hK => wp_append_nums s x ho hty base v n xs hs hown vL L hx hL h1 hb fun v' w' h2 h3 => hK _ _ (h v' w' h2 h3)
theorem grown_of_below {W W' : World} (h : Below W.heap.size W W') : W.grownBy W' none := ⟨h.1, h.2, h.3, h.4, fun k hk _ => h.5 k hk⟩
theorem own_below2 {w w' : World} {base n : Nat} {t : TypeId} {sz : Nat} {v : Value} {xs : List Value} (h : w.ownsRow base t sz v n xs) (hB : Below w.heap.size w w') : w'.ownsRow base t sz v n xs :=
  h.kept (grown_of_below hB) (by cases hv : v.ownBlock <;> simp)
theorem make_nums (n : Nat) (hn : n ≤ 4096) : ∃ X : Array Value, X.size = n * 1 ∧ ∀ W : World, (Instr.makeSlice 23 (.int .i64 0) (.int .i64 (n : Int))).run Try.prog W = .ok (.slice (some ⟨W.heap.size, 0, none⟩) 0 n) (W.alloc (.cells X 35)) := by
  obtain ⟨i0, hi, hz0, hz1, hz2⟩ := info_parts infoU32
  refine ⟨madeCells (Value.int .u32 0).cells (n * 1), by rw [size_madeCells], fun W => ?_⟩
  have hr := run_make (P := Try.prog) W 23 35 i0 (.int .u32 0) Try.underlying23 hi hz0 .i64 .i64 0 n (Int.le_refl _) (by omega) (by rw [hz2]; omega) (by omega)
  simp only [Int.toNat_zero, Int.toNat_natCast, hz1] at hr
  exact hr
theorem step_append_nums {w : World} {ops : Array Oper} {o : Oper} {a : Act} {K : Act → World → Prop} {Q : Exit → Act → World → Prop} {E : Prop} (hgd : o.guard = none) (s x : Operand)
    (ho : o.op = .call { callee := .builtin .append, args := #[s, x], argTypes := #[23, 23] }) (hty : o.type = 23)
    (base : Nat) (v : Value) (n : Nat) (xs : List Value) (hs : a.eval s = v) (hown : w.ownsRow base 35 1 v n xs) (vL : Value) (L : List Nat) (hx : a.eval x = vL) (hL : Nums w vL L) (h1 : n + L.length ≤ 100000) (hb : base ≤ w.heap.size)
    (h : ∀ v' w', w'.ownsRow base 35 1 v' (n + L.length) (xs ++ L.map fun (x : Nat) => Value.int .u32 (x : Int)) → w.grownBy w' v.ownBlock → K (a.put o.dst v') w') :
    if Region.wanted o (yielded ops a.tmps) = true then Oper.wp Try.prog o a w K Q else E := by
  have hw : Region.wanted o (yielded ops a.tmps) = true := by simp [Region.wanted, hgd]
  rw [if_pos hw]
  exact wp_append_nums s x ho hty base v n xs hs hown vL L hx hL h1 hb h
end Go.Proofs.Ytdniakoedgohkaa.Root
/- The iterator of the program's package root hands out a root's places one by one: its Dats, its Cps behind them. -/
namespace Go.Proofs.Ytdniakoedgohkaa.Root
open Go.RowKit
attribute [local go_sem] Oper.semAt_some
set_option linter.unusedVariables false
set_option linter.unusedSimpArgs false
theorem ix0 (a b : Value) (w : World) : (Instr.index 112 (.agg #[a, b]) (.int .i64 0)).run Try.prog w = .ok a w := by kernel_rfl
theorem ix1 (a b : Value) (w : World) : (Instr.index 112 (.agg #[a, b]) (.int .i64 1)).run Try.prog w = .ok b w := by kernel_rfl
/-- what the k-th round is handed -/
def encP (r : Q) (k : Nat) : Array Value := #[.int .u32 (nu r.all k : Int)]
theorem nu_left {r : Q} {k : Nat} (h : k < r.dats.length) : nu r.all k = nu r.dats k := by
  unfold nu Q.all
  rw [List.getD_eq_getElem?_getD, List.getD_eq_getElem?_getD, List.getElem?_append_left h]
theorem nu_right {r : Q} {k : Nat} : nu r.all (r.dats.length + k) = nu r.cps k := by
  unfold nu Q.all
  rw [List.getD_eq_getElem?_getD, List.getD_eq_getElem?_getD, List.getElem?_append_right (Nat.le_add_right _ _), Nat.add_sub_cancel_left]
section
set_option maxRecDepth 100000
set_option maxHeartbeats 4000000
theorem places1_in (n : Nat) (hn : 1 ≤ n) (l Bx : Nat) (d c : Value) (r : Q) (w : World) (Kp : World → World → Prop) (J Jx : Nat → World → Prop) (B0 : Nat) (hJ : AbidesFrom B0 J)
    (hKt : ∀ {A B C : World}, Kp A B → Kp B C → Kp A C) (hKb : ∀ A B, Kp w A → Below A.heap.size A B → Kp w B)
    (hY : ∀ k W, J k W → k < r.all.length → YieldAt Fence.wide (n - 1) Try.prog l (encP r k) W fun e W' => (e = .returned (.bool true) ∧ J (k + 1) W' ∧ Kp W W') ∨ (e = .returned (.bool false) ∧ Jx k W'))
    (W : World) (hk : Kp w W) (hA : QAt W Bx r d c) (hD : ∀ W', Kp w W' → Nums W' d r.dats ∧ Nums W' c r.cps) (h0 : J 0 W) :
    CallsIn Fence.wide n Try.prog 60 #[.func (.yield l) #[] #[], .pointer (some ⟨Bx, 0, none⟩)] W fun e W' => (∃ v, e = .returned v) ∧ (J r.all.length W' ∨ ∃ k, k < r.all.length ∧ Jx k W') := by
  have hfn : ∀ f, Fence.wide.fn f := fun _ => trivial
  have hJa : ∀ k W1 W2, J k W1 → Below W1.heap.size W1 W2 → J k W2 := fun k W1 W2 h hB => hJ _ _ _ none h (grown_of_below hB) (fun r e => by cases e)
  have HA := Lib.hid hJa
  have HY := Lib.hid hY
  have HKB := Lib.hid hKb
  have HKT : Hid (∀ A B C : World, Kp A B → Kp B C → Kp A C) := fun A B C h k => hKt h k
  obtain ⟨a1, cap1, e1, h11, h12⟩ := (hD W hk).1.parts
  obtain ⟨a2, cap2, e2, h21, h22⟩ := (hD W hk).2.parts
  obtain ⟨N, hN⟩ : ∃ N, r.all.length = N := ⟨_, rfl⟩
  obtain ⟨n1, hn1⟩ : ∃ n, r.dats.length = n := ⟨_, rfl⟩
  obtain ⟨n2, hn2⟩ : ∃ n, r.cps.length = n := ⟨_, rfl⟩
  rw [hn1] at e1
  rw [hn2] at e2
  subst e1 e2
  obtain ⟨q0, q1, q2, q3⟩ := hA.c
  have HIX0 := Lib.hid (fun W => ix0 (.slice a1 n1 cap1) (.slice a2 n2 cap2) W)
  have HIX1 := Lib.hid (fun W => ix1 (.slice a1 n1 cap1) (.slice a2 n2 cap2) W)
  have hNN : N = n1 + n2 := by rw [← hN, ← hn1, ← hn2]; exact List.length_append
  -- the list of each of the two rounds
  have HS : Hid (∀ i : Nat, i < 2 → ∃ (x : Value) (a : Option Addr) (m cap s : Nat), (∀ W, (Instr.index 112 (.agg #[.slice a1 n1 cap1, .slice a2 n2 cap2]) (.int .i64 (i : Int))).run Try.prog W = .ok x W) ∧ x = .slice a m cap ∧ m ≤ 9223372036854775807 ∧ m ≤ cap ∧
      (i = 0 → s = 0 ∧ m = n1) ∧ (i = 1 → s = n1 ∧ m = n2) ∧ s + m ≤ N ∧
      ∀ k, k < m → ∀ W', Kp w W' → ∃ b off, a = some ⟨b, off, none⟩ ∧ W'.cell? ⟨b, off + k, none⟩ = some (.int .u32 (nu r.all (s + k) : Int))) := fun i hi => by
    rcases (show i = 0 ∨ i = 1 by omega) with rfl | rfl
    · refine ⟨_, a1, n1, cap1, 0, HIX0.out, rfl, by omega, by omega, fun _ => ⟨rfl, rfl⟩, fun h => by omega, by omega, fun k hk2 W' hW => ?_⟩
      have := (hD W' hW).1
      rw [Nat.zero_add, nu_left (by omega)]
      exact this.at hn1 hk2
    · refine ⟨_, a2, n2, cap2, n1, HIX1.out, rfl, by omega, by omega, fun h => by omega, fun _ => ⟨rfl, rfl⟩, by omega, fun k hk2 W' hW => ?_⟩
      have := (hD W' hW).2
      rw [← hn1, nu_right]
      exact this.at hn2 hk2
  simp only [hN] at HY ⊢
  have HNN := Lib.hid hNN
  clear hJa hY hJ hD hKb hKt hN hn1 hn2 h11 h12 h21 h22 hA hNN
  refine callsIn_of_wp Try.func60 rfl trivial ?_ rfl
  simp only [Try.ntmps60, List.size_toArray, List.length_cons, List.length_nil, Nat.reduceAdd, Nat.reduceSub, Array.replicate_succ, Array.replicate_zero, List.push_toArray, List.append_toArray, List.nil_append, List.cons_append]
  gi_wp2
  gi_loopw [4, 6, 12, 17] (fun _ _ i _ wr => ∃ (k s : Nat), k ≤ 2 ∧ i = .int .i64 (k : Int) ∧ J s wr ∧ Kp w wr ∧ (k = 0 → s = 0) ∧ (k = 1 → s = n1) ∧ (k = 2 → s = N)) (fun _ _ i _ _ => 2 - (intOf i).toNat)
  case atStart => exact ⟨0, 0, by omega, rfl, h0, hk, fun _ => rfl, fun h => by omega, fun h => by omega⟩
  case round =>
    obtain ⟨i, s, hi2, rfl, hJi, hS, hs0, hs1, hs2⟩ := hrel
    clear q0 q1 q2 q3
    by_cases hlti : i < 2
    · obtain ⟨x, a, m, cap, s', hix, rfl, hm, hmc, hi0, hi1, hsN, hcells⟩ := HS.out i hlti
      obtain rfl : s = s' := by
        rcases (show i = 0 ∨ i = 1 by omega) with h | h
        · rw [hs0 h, (hi0 h).1]
        · rw [hs1 h, (hi1 h).1]
      have HNX : Hid ((i + 1 = 0 → s + m = 0) ∧ (i + 1 = 1 → s + m = n1) ∧ (i + 1 = 2 → s + m = N)) := by
        have := HNN.out
        refine ⟨fun h => by omega, fun h => ?_, fun h => ?_⟩
        · have := hi0 (by omega); omega
        · have := hi1 (by omega); omega
      have HC := Lib.hid hcells
      have hlt2 : (i : Int) < 2 := by omega
      obtain ⟨WO, rfl⟩ : ∃ WO : World, WO = wr := ⟨_, rfl⟩
      clear hs0 hs1 hs2 hi0 hi1 hcells
      gi_wp2
      gi_loopw [6, 17] (fun _ q wq => ∃ k : Nat, k ≤ m ∧ q = .int .i64 (k : Int) ∧ J (s + k) wq ∧ Kp w wq) (fun _ q _ => m - (intOf q).toNat)
      case atStart => exact ⟨0, by omega, rfl, hJi, hS⟩
      case round =>
        obtain ⟨k, hkm, rfl, hJk, hSk⟩ := hrel
        clear hix
        by_cases hltk : k < m
        · obtain ⟨b, off, e2, c0⟩ := HC.out k hltk _ hSk
          subst e2
          have hyy := HY.out (s + k) wr hJk (by omega)
          unfold encP at hyy
          obtain ⟨y, hy⟩ : ∃ y, nu r.all (s + k) = y := ⟨_, rfl⟩
          rw [hy] at c0 hyy
          have HKw := Lib.hid hSk
          have hlt3 : (k : Int) < (m : Int) := by omega
          clear hJk hSk hy
          obtain ⟨fn, tmps, assign, body, hy, hR⟩ := hyy
          gi_wp2
          refine hR.mono ?_
          rintro e W3 (⟨rfl, hJ3, hk3⟩ | ⟨rfl, hJx3⟩)
          · gi_wp2
            go_roundw
            case rel => exact ⟨k + 1, by omega, by go_num, hJ3, HKT.out _ _ _ HKw.out hk3⟩
            case measure => simp [intOf]; omega
          · gi_wp2
            refine bodyPost_ret (results_none rfl _ _ _) rfl ?_
            exact ⟨⟨_, rfl⟩, .inr ⟨s + k, by omega, hJx3⟩⟩
        · obtain rfl : k = m := by omega
          gi_wp2
          go_roundw
          case rel => exact ⟨i + 1, s + k, by omega, by go_num, hJk, hSk, HNX.out.1, HNX.out.2.1, HNX.out.2.2⟩
          case measure => simp [intOf]; omega
    · obtain rfl : i = 2 := by omega
      have hsN := hs2 rfl
      subst hsN
      gi_wp2
      go_end0
      exact ⟨⟨_, rfl⟩, .inl hJi⟩
theorem places_in (n : Nat) (r : Q) (d c : Value) (w : World) :
    (∃ a k c', d = .slice a k c') → (∃ a k c', c = .slice a k c') → CallsIn Fence.wide n Try.prog 29 #[r.val d c] w fun e w' => e = .returned (.func (.func 60) #[] #[.pointer (some ⟨w.heap.size, 0, none⟩)]) ∧ w.alloc (boxQ r d c) = w' := by
  rintro ⟨a1, k1, c1, rfl⟩ ⟨a2, k2, c2, rfl⟩
  unfold Q.val boxQ
  refine callsIn_of_wp Try.func29 rfl trivial ?_ rfl
  simp only [Try.ntmps29, List.size_toArray, List.length_cons, List.length_nil, Nat.reduceAdd, Nat.reduceSub, Array.replicate_succ, Array.replicate_zero, List.push_toArray, List.append_toArray, List.nil_append, List.cons_append]
  gi_wp2
  go_ret
  exact ⟨rfl, rfl⟩
end
end Go.Proofs.Ytdniakoedgohkaa.Root
