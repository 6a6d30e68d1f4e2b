/- The iterator over all checkpoints that blocks have room for, of the program. -/
import Derived.Test.YtoedjemelblpaaaCpsChks
namespace Go.Proofs.Ytoedjemelblpaaa.Cps
open Go.RowKit Go.Shelf
attribute [local go_sem] Oper.semAt_some
set_option linter.unusedVariables false
set_option linter.unusedSimpArgs false

/-- what the k-th round is handed -/
def encA (T : List ByteArray) (k : Nat) : Array Value := #[(allK T k).val]
section
set_option maxRecDepth 100000
set_option maxHeartbeats 4000000
theorem checks1_in (n : Nat) (hn : 1 ≤ n) (l Bx : Nat) (v : Value) (T : List ByteArray) (w : World) (Kp : World → World → Prop) (hT9 : T.length ≤ 12) (h508 : ∀ b ∈ T, b.size = 508) (J Jx : Nat → World → Prop) (B0 : Nat) (hJ : AbidesFrom B0 J)
    (hKt : ∀ {A B C : World}, Kp A B → Kp B C → Kp A C) (hKb : ∀ A B, Kp w A → Below A.heap.size A B → Kp w B)
    (hY : ∀ k W, J k W → k < 9 * T.length → YieldAt Fence.wide (n - 1) Try.prog l (encA T k) W fun e W' => (e = .returned (.bool true) ∧ J (k + 1) W' ∧ Kp W W') ∨ (e = .returned (.bool false) ∧ Jx k W'))
    (W : World) (hk : Kp w W) (hbx : W.cell? ⟨Bx, 0, none⟩ = some v) (hT : ∀ W', Kp w W' → Strs W' v T) (h0 : J 0 W) :
    CallsIn Fence.wide n Try.prog 67 #[.func (.yield l) #[] #[], .pointer (some ⟨Bx, 0, none⟩)] W fun e W' => (∃ v, e = .returned v) ∧ (J (9 * T.length) W' ∨ ∃ k, k < 9 * T.length ∧ Jx k W') := by
  have hfn : ∀ f, Fence.wide.fn f := fun _ => trivial
  have hJa : ∀ k W1 W2, J k W1 → Below W1.heap.size W1 W2 → J k W2 := fun k W1 W2 h hB => hJ _ _ _ none h (grown_of_below hB) (fun r e => by cases e)
  have HA := Lib.hid hJa
  have HY := Lib.hid hY
  have HT := Lib.hid hT
  have HKB := Lib.hid hKb
  have HKT : Hid (∀ A B C : World, Kp A B → Kp B C → Kp A C) := fun A B C h k => hKt h k
  have HCI := Lib.hid (fun i k W (hi : i < T.length) (hk : k < 9) => checkIn_any (T.getD i ⟨#[]⟩) (55 * k) W (h508 _ (by rw [List.getD_eq_getElem?_getD, List.getElem?_eq_getElem hi]; exact List.getElem_mem hi)) (by omega))
  have HEN : Hid (∀ i k, k < 9 → encA T (9 * i + k) = #[(chkAt (T.getD i ⟨#[]⟩) (55 * k)).val]) := fun i k hk => by
    unfold encA allK
    rw [show (9 * i + k) / 9 = i by omega, show (9 * i + k) % 9 = k by omega]
  obtain ⟨a, cap, rfl, hcap1, hcap2⟩ := (hT W hk).parts
  obtain ⟨N, hN⟩ : ∃ N, T.length = N := ⟨_, rfl⟩
  simp only [hN] at HY HCI hcap1 hT9 hbx HT ⊢
  have HN := Lib.hid hN
  clear hJa hY hJ hT hKb hKt hN h508
  refine callsIn_of_wp Try.func67 rfl trivial ?_ rfl
  simp only [Try.ntmps67, List.size_toArray, List.length_cons, List.length_nil, Nat.reduceAdd, Nat.reduceSub, Array.replicate_succ, Array.replicate_zero, List.push_toArray, List.append_toArray, List.nil_append, List.cons_append]
  gi_wp2
  gi_loopw [4, 5, 8, 12] (fun _ _ i _ wr => ∃ k : Nat, k ≤ N ∧ i = .int .i64 (k : Int) ∧ J (9 * k) wr ∧ Kp w wr) (fun _ _ i _ _ => N - (intOf i).toNat)
  case atStart => exact ⟨0, by omega, rfl, h0, hk⟩
  case round =>
    obtain ⟨i, hiN, rfl, hJi, hS⟩ := hrel
    by_cases hlti : i < N
    · obtain ⟨b, off, e2, c0⟩ := (HT.out _ hS).get (k := i) (by rw [HN.out]; exact hlti)
      subst e2
      obtain ⟨x, hx⟩ : ∃ x, T.getD i ⟨#[]⟩ = x := ⟨_, rfl⟩
      have hci := fun k W (hk : k < 9) => HCI.out i k W hlti hk
      have hen := fun k (hk : k < 9) => HEN.out i k hk
      rw [hx] at c0
      simp only [hx] at hci hen
      have HCI2 := Lib.hid hci
      have HEN2 := Lib.hid hen
      obtain ⟨WO, rfl⟩ : ∃ WO : World, WO = wr := ⟨_, rfl⟩
      clear hci hen hx
      gi_wp2
      gi_loopw [5, 12] (fun _ q wq => ∃ k : Nat, k ≤ 9 ∧ q = .int .i64 (k : Int) ∧ J (9 * i + k) wq ∧ Kp w wq) (fun _ q _ => 9 - (intOf q).toNat)
      case atStart => exact ⟨0, by omega, rfl, hJi, hS⟩
      case round =>
        obtain ⟨k, hk9, rfl, hJk, hSk⟩ := hrel
        by_cases hltk : k < 9
        · have hci := fun W => HCI2.out k W hltk
          have hw1 : IntKind.i64.wrap ((k : Int) * 55) = ((55 * k : Nat) : Int) := by rw [IntKind.wrap_i64]; omega
          have hyy := fun W' (h : Below wr.heap.size wr W') => HY.out (9 * i + k) W' (HA.out _ _ _ hJk h) (by omega)
          simp only [HEN2.out k hltk] at hyy
          obtain ⟨p, hp⟩ : ∃ p, 55 * k = p := ⟨_, rfl⟩
          rw [hp] at hw1
          simp only [hp] at hci hyy
          obtain ⟨y, hy⟩ : ∃ y, chkAt x p = y := ⟨_, rfl⟩
          simp only [hy] at hci hyy
          have HKw := Lib.hid (fun W' (h : Below wr.heap.size wr W') => HKB.out _ _ hSk h)
          clear hp hy hJk hSk
          obtain ⟨ncp, ti, sn, ro⟩ := y
          unfold C.val at hci hyy
          dsimp only at hci hyy
          have HC := Lib.hid hci
          have HYY := Lib.hid hyy
          clear hci hyy
          gi_wp2_with (gi_at_call 68; refine (callsIn_wide.2 (HC.out _)).mono ?_; rintro e w1 ⟨rfl, hB1⟩; obtain ⟨fn, tmps, assign, body, hy, hR⟩ := HYY.out _ hB1)
          refine hR.mono ?_
          rintro e W3 (⟨rfl, hJ3, hk3⟩ | ⟨rfl, hJx3⟩)
          · gi_wp2
            go_roundw
            case rel => exact ⟨k + 1, by omega, by go_num, hJ3, HKT.out _ _ _ (HKw.out _ hB1) hk3⟩
            case measure => simp [intOf]; omega
          · gi_wp2
            refine bodyPost_ret (results_none rfl _ _ _) rfl ?_
            exact ⟨⟨_, rfl⟩, .inr ⟨9 * i + k, by omega, hJx3⟩⟩
        · obtain rfl : k = 9 := by omega
          gi_wp2
          go_roundw
          case rel => exact ⟨i + 1, by omega, by go_num, hJk, hSk⟩
          case measure => simp [intOf]; omega
    · obtain rfl : N = i := by omega
      gi_wp2
      go_end0
      exact ⟨⟨_, rfl⟩, .inl hJi⟩
theorem checksIn_in (n : Nat) (a : Option Addr) (N cap : Nat) (w : World) :
    CallsIn Fence.wide n Try.prog 53 #[.slice a N cap] w fun e w' => e = .returned (.func (.func 67) #[] #[.pointer (some ⟨w.heap.size, 0, none⟩)]) ∧ w.alloc (.cells #[.slice a N cap] 44) = w' := by
  refine callsIn_of_wp Try.func53 rfl trivial ?_ rfl
  simp only [Try.ntmps53, List.size_toArray, List.length_cons, List.length_nil, Nat.reduceAdd, Nat.reduceSub, Array.replicate_succ, Array.replicate_zero, List.push_toArray, List.append_toArray, List.nil_append, List.cons_append]
  gi_wp2
  go_ret
  exact ⟨rfl, rfl⟩
end
end Go.Proofs.Ytoedjemelblpaaa.Cps
