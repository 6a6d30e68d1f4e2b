/- Several texts in one, each under its own heading. -/
import Derived.Laws.Bits64b
import Derived.Test.YteopcjfakhmifaaPk02
import Derived.RangeFuncBox
import Derived.RangeFuncLeaves
import Derived.Shelf.Abstract
import Derived.Shelf.RegionOpen
import Derived.WalkKit
import Derived.OwnWalkIn
import Derived.TacticsInMore
import Derived.LoopNIn
import Derived.LoopIn
import Derived.Outline
import Derived.Lib.RabinKarpLaws
import Derived.Lib.Hide
import Derived.Test.YteopcjfakhmifaaRows
/- Plain facts on the number that some bytes of a text are; they speak of no program. -/
namespace Go.Proofs.Yteopcjfakhmifaa

/-- byte number i of s, 0 where there is none -/
def sb (s : ByteArray) (i : Nat) : Nat := (s.data.toList[i]?.getD 0).toNat
/-- the same as an integer -/
def sbyte (s : ByteArray) (i : Nat) : Int := ((s.data.toList[i]?.getD 0).toNat : Int)
theorem sb_lt (s : ByteArray) (i : Nat) : sb s i < 256 := (s.data.toList[i]?.getD 0).toNat_lt
theorem sbyte_eq (s : ByteArray) (i : Nat) : sbyte s i = (sb s i : Int) := rfl
theorem sbyte_range (s : ByteArray) (i : Nat) : 0 ≤ sbyte s i ∧ sbyte s i ≤ 255 := by
  have := sb_lt s i
  rw [sbyte_eq]
  omega

/-- the number that k bytes from a on are, the lowest one first -/
def takeN (s : ByteArray) (a : Nat) : Nat → Nat
  | 0 => 0
  | k + 1 => takeN s a k + sb s (a + k) * 256 ^ k
theorem takeN_lt (s : ByteArray) (a : Nat) : ∀ k, takeN s a k < 256 ^ k
  | 0 => by simp [takeN]
  | k + 1 => by
    have h := takeN_lt s a k
    have hb := sb_lt s (a + k)
    have h2 : sb s (a + k) * 256 ^ k ≤ 255 * 256 ^ k := Nat.mul_le_mul_right _ (by omega)
    simp only [takeN, Nat.pow_succ]
    omega
theorem takeN_front (s : ByteArray) (a : Nat) : ∀ k, takeN s a (k + 1) = sb s a + 256 * takeN s (a + 1) k
  | 0 => by simp [takeN]
  | k + 1 => by
    rw [takeN, takeN_front s a k]
    conv => rhs; rw [takeN]
    rw [show a + (k + 1) = a + 1 + k from by omega, Nat.pow_succ, Nat.mul_add]
    have : sb s (a + 1 + k) * (256 ^ k * 256) = 256 * (sb s (a + 1 + k) * 256 ^ k) := by
      rw [Nat.mul_comm (256 ^ k) 256, ← Nat.mul_assoc, Nat.mul_comm _ 256, Nat.mul_assoc]
    omega

theorem or_mul (a b i : Nat) (h : a < 2 ^ i) : a ||| (b * 2 ^ i) = a + b * 2 ^ i := by
  rw [Nat.or_comm, ← Nat.shiftLeft_eq, ← Nat.shiftLeft_add_eq_or_of_lt h, Nat.add_comm]
theorem pow_eight (k : Nat) : (256 : Nat) ^ k = 2 ^ (8 * k) := by rw [show (256 : Nat) = 2 ^ 8 from rfl, ← Nat.pow_mul]

/-- one byte more at the high end -/
theorem or_high (t b k : Nat) (ht : t < 256 ^ k) (hb : b < 256) (hk : k < 8) :
    bits BinOp.or IntKind.u64 (t : Int) (IntKind.u64.wrap ((b : Int) * 2 ^ min (8 * k) 64)) = ((t + b * 256 ^ k : Nat) : Int) := by
  rw [show min (8 * k) 64 = 8 * k from by omega]
  have e : (b : Int) * 2 ^ (8 * k) = ((b * 256 ^ k : Nat) : Int) := by rw [pow_eight]; simp
  have h7 : 256 ^ k ≤ 256 ^ 7 := Nat.pow_le_pow_right (by decide) (by omega)
  have h77 : (256 : Nat) ^ 7 = 72057594037927936 := by decide
  have hm : b * 256 ^ k ≤ 255 * 256 ^ 7 := Nat.mul_le_mul (by omega) h7
  have hw : IntKind.u64.wrap (((b * 256 ^ k : Nat) : Nat) : Int) = ((b * 256 ^ k : Nat) : Int) := by
    rw [IntKind.wrap_u64]; omega
  rw [e, hw, bits_or_u64_nat _ _ (by omega) (by omega), pow_eight, or_mul _ _ _ (by rw [← pow_eight]; exact ht)]

/-- one byte more at the low end -/
theorem or_low (t b k : Nat) (ht : t < 256 ^ k) (hb : b < 256) (hk : k < 8) :
    bits BinOp.or IntKind.u64 (IntKind.u64.wrap ((t : Int) * 256)) (b : Int) = ((b + 256 * t : Nat) : Int) := by
  have h7 : 256 ^ k ≤ 256 ^ 7 := Nat.pow_le_pow_right (by decide) (by omega)
  have h77 : (256 : Nat) ^ 7 = 72057594037927936 := by decide
  have hw : IntKind.u64.wrap ((t : Int) * 256) = ((t * 256 : Nat) : Int) := by
    rw [IntKind.wrap_u64]; omega
  rw [hw, bits_or_u64_nat _ _ (by omega) (by omega), Nat.or_comm, show (256 : Nat) = 2 ^ 8 from rfl, or_mul _ _ _ (by omega)]
  omega

end Go.Proofs.Yteopcjfakhmifaa
/- The two iterators of the program's package num, bytesOf and bytesFrom, hand out the bytes that they are said to hand out, in order, to any loop body that leaves the memory below alone. -/
namespace Go.Proofs.Yteopcjfakhmifaa
open Go.RowKit Go.Shelf
attribute [local go_sem] Oper.semAt_some
set_option linter.unusedVariables false

/-- the blocks bs lie as they lay: what an iterator asks of a loop body -/
def Same (bs : List Nat) (W W' : World) : Prop := ∀ b, b ∈ bs → W'.heap[b]? = W.heap[b]?
theorem Same.refl (bs : List Nat) (W : World) : Same bs W W := fun _ _ => rfl
theorem Same.trans {bs : List Nat} {A B C : World} (h : Same bs A B) (k : Same bs B C) : Same bs A C := fun b hb => (k b hb).trans (h b hb)
theorem Same.drew (bs : List Nat) (W : World) : Same bs W W.drew := fun _ _ => rfl
theorem Same.setCell {bs : List Nat} (W : World) {p : Addr} (hp : p.block ∉ bs) (u : Value) : Same bs W (W.setCell p u) := fun b hb => Below.heap_setCell _ _ _ _ (fun e => hp (e ▸ hb))
theorem Same.alloc {bs : List Nat} (W : World) (o : Obj) (h : ∀ b, b ∈ bs → b < W.heap.size) : Same bs W (W.alloc o) := fun b hb => Below.heap_alloc _ _ _ (h b hb)
theorem Same.below {bs : List Nat} {W W' : World} {n : Nat} (hb : Below n W W') (h : ∀ b, b ∈ bs → b < n) : Same bs W W' := fun b hh => hb.block b (h b hh)
theorem Same.cell {bs : List Nat} {W W' : World} (h : Same bs W W') {p : Addr} (hp : p.block ∈ bs) : W'.cell? p = W.cell? p := World.cell?_of_block (w := W) (h p.block hp)
theorem sameK_t {bs : List Nat} {A B C : World} (h : Same bs A B) (k : Same bs B C) : Same bs A C := h.trans k
theorem sameK_b {bs : List Nat} {w : World} (hn : ∀ b, b ∈ bs → b < w.heap.size) (W : World) (l : Nat) (o o' : Obj) (hl : w.heap.size ≤ l) (_ : W.heap[l]? = some o) (_ : o.isCells = false) (_ : o.isWalk = false) : Same bs W (W.putObj l o') :=
  fun b hb => World.putObj_heap_other (by have := hn b hb; omega)

set_option maxRecDepth 100000 in
set_option maxHeartbeats 2000000 in
theorem bytesOf1_in (F : Fence) (m : Nat) (h7 : F.fn 90) (hro : F.round = none) (hn : 1 ≤ m) (l Bs : Nat) (n : Nat) (J Jx : List Nat → World → Prop)
    (hY : ∀ (pre : List Nat) (x : Nat) W, J pre W → pre.length < 8 → YieldAt F (m - 1) Try.prog l #[.int .i64 (x : Int), .int .u8 ((n : Int) / 2 ^ (8 * x) % 256)] W fun e W' =>
      (e = .returned (.bool true) ∧ J (pre ++ [x]) W' ∧ Same [Bs] W W') ∨ (e = .returned (.bool false) ∧ Jx (pre ++ [x]) W'))
    (W : World) (hBs : W.cell? ⟨Bs, 0, none⟩ = some (.int .u64 n)) (h0 : J [] W) :
    CallsIn F m Try.prog 90 #[.func (.yield l) #[] #[], .pointer (some ⟨Bs, 0, none⟩)] W fun e W' => (∃ v, e = .returned v) ∧
      ((∃ ys, ys = List.range 8 ∧ J ys W') ∨ (∃ pre, (∃ k, k ≤ 8 ∧ pre = List.range k) ∧ Jx pre W')) := by
  refine callsIn_of_wp Try.func90 rfl h7 ?_ hro
  simp only [Try.ntmps90, List.size_toArray, List.length_cons, List.length_nil, Nat.reduceAdd, Nat.reduceSub, Array.replicate_succ, Array.replicate_zero, List.push_toArray, List.append_toArray, List.nil_append, List.cons_append]
  gi_wp2
  gi_loopw [3, 4] (fun _ i wr => ∃ k : Nat, k ≤ 8 ∧ i = .int .i64 k ∧ J (List.range k) wr ∧ Same [Bs] W wr)
    (fun _ i _ => 8 - (intOf i).toNat)
  case atStart => exact ⟨0, Nat.zero_le _, rfl, h0, Same.refl _ _⟩
  case round =>
    obtain ⟨k, hk, rfl, hJs, hnx⟩ := hrel
    have hcx : wr.cell? ⟨Bs, 0, none⟩ = some (.int .u64 n) := (hnx.cell (p := ⟨Bs, 0, none⟩) (by simp)).trans hBs
    by_cases hlt : k < 8
    · obtain ⟨fn, tmps, assign, body, hy, hR⟩ := hY _ k wr hJs (by simpa using hlt)
      gi_wp2
      refine hR.mono ?_
      rintro e W3 (⟨rfl, hJ3, hk3⟩ | ⟨rfl, hJx3⟩)
      · gi_wp2
        go_roundw
        case rel => exact ⟨k + 1, by omega, by simp, by rw [List.range_succ]; exact hJ3, hnx.trans hk3⟩
        case measure => simp [intOf]; omega
      · gi_wp2
        refine bodyPost_ret (results_none rfl _ _ _) rfl ?_
        exact ⟨⟨_, rfl⟩, .inr ⟨_, ⟨k + 1, by omega, (List.range_succ).symm⟩, hJx3⟩⟩
    · obtain rfl : k = 8 := by omega
      gi_wp2
      go_end0
      exact ⟨⟨_, rfl⟩, .inl ⟨_, rfl, hJs⟩⟩

theorem bytesOf_stops (F : Fence) (m : Nat) (h7 : F.fn 90) (hro : F.round = none) (hn : 1 ≤ m) (Bs : Nat) (n : Nat) (w : World) (hBs : Bs < w.heap.size)
    (hc : w.cell? ⟨Bs, 0, none⟩ = some (.int .u64 n)) :
    SeqStopsK F m Try.prog 90 #[.pointer (some ⟨Bs, 0, none⟩)] (fun x : Nat => #[.int .i64 (x : Int), .int .u8 ((n : Int) / 2 ^ (8 * x) % 256)]) (Same [Bs]) (fun ys => ys = List.range 8) (fun pre => ∃ k, k ≤ 8 ∧ pre = List.range k) 8 w := fun l J Jx W hW _ _ hY h0 => by
  have hc' := (hW.cell (p := ⟨Bs, 0, none⟩) hBs).trans hc
  exact bytesOf1_in F m h7 hro hn l Bs n J Jx hY W hc' h0

theorem bytesOf_in (F : Fence) (m : Nat) (h5 : F.fn 87) (hro : F.round = none) (n : Int) (w : World) :
    CallsIn F m Try.prog 87 #[.int .u64 n] w fun e w' => e = .returned (.func (.func 90) #[] #[.pointer (some ⟨w.heap.size, 0, none⟩)]) ∧ w' = w.alloc (.cells #[.int .u64 n] 36) := by
  refine callsIn_of_wp Try.func87 rfl h5 ?_ hro
  simp only [Try.ntmps87, List.size_toArray, List.length_cons, List.length_nil, Nat.reduceAdd, Nat.reduceSub, Array.replicate_succ, Array.replicate_zero, List.push_toArray, List.append_toArray, List.nil_append, List.cons_append]
  gi_wp2
  go_ret
  exact ⟨rfl, rfl⟩

/-- a place in a text -/
abbrev Place := { x : Nat // x < 281474976710656 }


theorem yielded_bool {e : Ending} {A B : Prop} (h : (e = .returned (.bool true) ∧ A) ∨ (e = .returned (.bool false) ∧ B)) : ∃ b : Bool, e = .returned (.bool b) ∧ Hid ((b = true ∧ A) ∨ (b = false ∧ B)) := by
  rcases h with ⟨rfl, h⟩ | ⟨rfl, h⟩
  · exact ⟨true, rfl, .inl ⟨rfl, h⟩⟩
  · exact ⟨false, rfl, .inr ⟨rfl, h⟩⟩

theorem grown_drew (W : World) : W.grownBy W.drew none := ⟨rfl, rfl, rfl, Nat.le_refl _, fun _ _ _ => rfl⟩

set_option maxRecDepth 100000 in
set_option maxHeartbeats 2000000 in
theorem bytesFrom1_in (m : Nat) (hn : 1 ≤ m) (l Ba Bs : Nat) (s : ByteArray) (at0 : Nat) (hsz : s.size ≤ 281474976710656) (J Jx : List Place → World → Prop) (B0 : Nat) (hJ : AbidesFrom B0 J)
    (hY : ∀ (pre : List Place) (x : Place) W, J pre W → pre.length < s.size - at0 → YieldAt Fence.wide (m - 1) Try.prog l #[.int .i64 (x.1 : Int), .int .u8 (sbyte s (at0 + x.1))] W fun e W' =>
      (e = .returned (.bool true) ∧ J (pre ++ [x]) W' ∧ Same [Ba, Bs] W W') ∨ (e = .returned (.bool false) ∧ Jx (pre ++ [x]) W'))
    (W : World) (hBa : W.cell? ⟨Ba, 0, none⟩ = some (.int .i64 at0)) (hBs : W.cell? ⟨Bs, 0, none⟩ = some (.string s)) (h0 : J [] W) (hat : at0 ≤ s.size) :
    CallsIn Fence.wide m Try.prog 91 #[.func (.yield l) #[] #[], .pointer (some ⟨Ba, 0, none⟩), .pointer (some ⟨Bs, 0, none⟩)] W fun e W' => (∃ v, e = .returned v) ∧
      ((∃ ys, ys.map (·.1) = List.range (s.size - at0) ∧ J ys W') ∨ (∃ pre, (∃ k, k ≤ s.size - at0 ∧ pre.map (·.1) = List.range k) ∧ Jx pre W')) := by
  refine callsIn_of_wp Try.func91 rfl trivial ?_ rfl
  simp only [Try.ntmps91, List.size_toArray, List.length_cons, List.length_nil, Nat.reduceAdd, Nat.reduceSub, Array.replicate_succ, Array.replicate_zero, List.push_toArray, List.append_toArray, List.nil_append, List.cons_append]
  gi_wp2
  gi_loopw [4] (fun i wr => ∃ (k : Nat) (pre : List Place), k ≤ s.size - at0 ∧ i = .int .i64 (at0 + k : Nat) ∧ Hid (pre.map (·.1) = List.range k) ∧ J pre wr ∧ Same [Ba, Bs] W wr)
    (fun i _ => s.size - (intOf i).toNat)
  case atStart => exact ⟨0, [], Nat.zero_le _, rfl, rfl, h0, Same.refl _ _⟩
  case round =>
    obtain ⟨k, pre, hk, rfl, HP, hJs, hnx⟩ := hrel
    have hca : wr.cell? ⟨Ba, 0, none⟩ = some (.int .i64 at0) := (hnx.cell (p := ⟨Ba, 0, none⟩) (by simp)).trans hBa
    have hcx : wr.cell? ⟨Bs, 0, none⟩ = some (.string s) := (hnx.cell (p := ⟨Bs, 0, none⟩) (by simp)).trans hBs
    by_cases hlt : k < s.size - at0
    · have hlt2 : at0 + k < s.size := by omega
      have hJd : J pre wr.drew := hJ _ _ _ none hJs (grown_drew wr) (fun r e => by cases e)
      obtain ⟨fn, tmps, assign, body, hy, hR⟩ := hY _ ⟨k, by omega⟩ wr.drew hJd (by have := congrArg List.length HP.out; simp at this; omega)
      dsimp only at hy hR
      have e1 : IntKind.i64.wrap ((at0 : Int) + (k : Int) - (at0 : Int)) = (k : Int) := by rw [show (at0 : Int) + (k : Int) - (at0 : Int) = (k : Int) from by omega]; exact IntWalk.i64_in _ (by omega)
      have e2 : ((at0 : Int) + (k : Int)).toNat = at0 + k := by omega
      have e3 : ∀ h : at0 + k < s.size, (((s[at0 + k]'h).toNat : Nat) : Int) = sbyte s (at0 + k) := fun h => by
        have : s.data.toList[at0 + k]? = some (s[at0 + k]'h) := Go.Proofs.byte_at s (at0 + k) h
        simp [sbyte, this]
      have hmix : Try.prog.follows .mixedOrders = true := by kernel_rfl
      gi_wp2
      gi_region_with (refine hR.mono ?_; clear e1 e2 e3 hY hR hy; intro e W3 hh; obtain ⟨b, rfl, hb3⟩ := yielded_bool hh; clear hh)
      all_goals
        rcases hb3 with ⟨rfl, hJ3, hk3⟩ | ⟨rfl, hJx3⟩
        · gi_wp2
          go_roundw
          case rel => exact ⟨k + 1, pre ++ [⟨k, by omega⟩], by omega, by rw [← Nat.add_assoc]; go_num, by unfold Hid; rw [List.map_append, HP.out, List.range_succ]; rfl, hJ3, hnx.trans ((Same.drew _ _).trans hk3)⟩
          case measure => simp [intOf]; omega
        · gi_wp2
          refine bodyPost_ret (results_none rfl _ _ _) rfl ?_
          exact ⟨⟨_, rfl⟩, .inr ⟨_, ⟨k + 1, by omega, by rw [List.map_append, HP.out, List.range_succ]; rfl⟩, hJx3⟩⟩
    · obtain rfl : k = s.size - at0 := by omega
      have h2 : ¬ (at0 + (s.size - at0) < s.size) := by omega
      gi_wp2
      go_end0
      exact ⟨⟨_, rfl⟩, .inl ⟨_, HP.out, hJs⟩⟩

theorem bytesFrom_stops (m : Nat) (hn : 1 ≤ m) (Ba Bs : Nat) (s : ByteArray) (at0 : Nat) (hsz : s.size ≤ 281474976710656) (hat : at0 ≤ s.size) (w : World) (hBa : Ba < w.heap.size) (hBs : Bs < w.heap.size)
    (ha : w.cell? ⟨Ba, 0, none⟩ = some (.int .i64 at0)) (hc : w.cell? ⟨Bs, 0, none⟩ = some (.string s)) :
    SeqStopsK Fence.wide m Try.prog 91 #[.pointer (some ⟨Ba, 0, none⟩), .pointer (some ⟨Bs, 0, none⟩)] (fun x : Place => #[.int .i64 (x.1 : Int), .int .u8 (sbyte s (at0 + x.1))]) (Same [Ba, Bs]) (fun ys => ys.map (·.1) = List.range (s.size - at0)) (fun pre => ∃ k, k ≤ s.size - at0 ∧ pre.map (·.1) = List.range k) (s.size - at0) w := fun l J Jx W hW hJ _ hY h0 => by
  have ha' := (hW.cell (p := ⟨Ba, 0, none⟩) hBa).trans ha
  have hc' := (hW.cell (p := ⟨Bs, 0, none⟩) hBs).trans hc
  exact bytesFrom1_in m hn l Ba Bs s at0 hsz J Jx _ hJ hY W ha' hc' h0 hat

theorem bytesFrom_in (m : Nat) (s : ByteArray) (at0 : Int) (w : World) :
    CallsIn Fence.wide m Try.prog 89 #[.string s, .int .i64 at0] w fun e w' => e = .returned (.func (.func 91) #[] #[.pointer (some ⟨w.heap.size + 1, 0, none⟩), .pointer (some ⟨w.heap.size, 0, none⟩)]) ∧
      w' = (w.alloc (.cells #[.string s] 9)).alloc (.cells #[.int .i64 at0] 3) := by
  refine callsIn_of_wp Try.func89 rfl trivial ?_ rfl
  simp only [Try.ntmps89, List.size_toArray, List.length_cons, List.length_nil, Nat.reduceAdd, Nat.reduceSub, Array.replicate_succ, Array.replicate_zero, List.push_toArray, List.append_toArray, List.nil_append, List.cons_append]
  gi_wp2
  go_ret
  exact ⟨rfl, rfl⟩

end Go.Proofs.Yteopcjfakhmifaa
