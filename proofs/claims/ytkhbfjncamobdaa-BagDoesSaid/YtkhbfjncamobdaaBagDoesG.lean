/- The walk of BagDoes: it answers true. -/
import Derived.Test.YtkhbfjncamobdaaBagDo
namespace Go.Proofs.Ytkhbfjncamobdaa.S
open Go.RowKit Go.Shelf
set_option linter.unusedVariables false

theorem script_at {w : World} {a : Option Addr} {cap N : Nat} {L : List Op} (hN : L.length = N) (hS : Lies w (.slice a N cap) N 4 (L.flatMap opCells)) {k : Nat} {x : Op} (hx : L[k]? = some x) :
    ∃ b off, a = some ⟨b, off, none⟩ ∧ w.cell? ⟨b, off + k * 4, none⟩ = some (.int .i64 x.k) ∧ w.cell? ⟨b, off + k * 4 + 1, none⟩ = some (.int .i64 x.a) ∧ w.cell? ⟨b, off + k * 4 + 2, none⟩ = some (.int .i64 x.t) ∧ w.cell? ⟨b, off + k * 4 + 3, none⟩ = some (.string x.v) := by
  have hkl := (List.getElem?_eq_some_iff.1 hx).1
  obtain ⟨_, _, h1, _, _, _, h5⟩ := hS
  cases h1
  obtain ⟨b, off, rfl, hc⟩ := h5 (by omega)
  have hf := fun j (hj : j < 4) => flat_at opCells 4 L (fun o _ => rfl) k j x hx hj
  refine ⟨b, off, rfl, ?_, ?_, ?_, ?_⟩
  · exact hc (k * 4) _ (hf 0 (by omega))
  · have := hc _ _ (hf 1 (by omega)); rwa [← Nat.add_assoc] at this
  · have := hc _ _ (hf 2 (by omega)); rwa [← Nat.add_assoc] at this
  · have := hc _ _ (hf 3 (by omega)); rwa [← Nat.add_assoc] at this
def ScrI (B0 p : Nat) (w : World) (k : Nat) (l : Value) (wr : World) : Prop := ∃ xs, Both wr B0 p l xs ∧ xs.length ≤ k ∧ Below w.heap.size w wr
theorem both_start {w W : World} {p : Nat} (hb : BagIs W p (fun k => w.heap.size ≤ k) []) : Both W w.heap.size p (.slice none 0 0) [] :=
  ⟨fun k => w.heap.size ≤ k ∧ k < W.heap.size, hb.tight, fun k hk => hk, fun W' _ => Lies.nil _ _⟩

section
set_option maxRecDepth 100000
set_option maxHeartbeats 4000000
theorem BagDoes_go (hAsk : AsksSaid) (v : Value) (L : List Op) (w : World) (hL : Lies w v L.length 4 (L.flatMap opCells)) (wL : ∀ o ∈ L, OpOk o) :
    Calls Try.prog 3 #[v] w fun e w' => e = .returned (.bool true) ∧ Below w.heap.size w w' := by
  obtain ⟨a, cap, rfl, HL, hnc, hm⟩ := hL.parts
  obtain ⟨N, hN⟩ : ∃ N, L.length = N := ⟨_, rfl⟩
  rw [hN] at HL hnc ⊢
  have HNn := Lib.hid hN
  have WL := Lib.hid wL
  have HAsk := Lib.hid hAsk
  clear hL hN wL hAsk
  obtain ⟨W0, rfl⟩ : ∃ W0 : World, W0 = w := ⟨_, rfl⟩
  go_enter Try.func3, Try.ntmps3
  go_wp2_with (first
    | (go_at_call 4; refine (shown_any _).mono ?_; rintro e wa ⟨rfl, hB1⟩)
    | (go_at_call 5; refine (new_bag _).mono ?_; rintro e wb ⟨rfl, hb0, hB2⟩))
  obtain ⟨p, hp⟩ : ∃ p, wa.heap.size = p := ⟨_, rfl⟩
  have hst : ScrI W0.heap.size p W0 0 (.slice none 0 0) wb := by
    refine ⟨[], ?_, Nat.le_refl _, below_th hB1 hB2⟩
    rw [← hp]
    exact both_start (hb0.more fun k hk => Nat.le_trans hB1.size hk)
  have HST := Lib.hid hst
  try unfold ptrV
  rw [hp]
  clear hst hb0 hB1 hB2 hp
  go_loopw [5, 6] (fun l i wr => ∃ k : Nat, k ≤ N ∧ k ≤ 300 ∧ i = .int .i64 k ∧ Hid (ScrI W0.heap.size p W0 k l wr)) (fun _ i _ => N - (intOf i).toNat)
  case atStart => exact ⟨0, Nat.zero_le _, Nat.zero_le _, rfl, HST⟩
  case round =>
    obtain ⟨k, hk, hk2, rfl, HS⟩ := hrel
    obtain ⟨xs, hP, hlen, hB⟩ := HS.out
    by_cases hlt : k < N ∧ k < 300
    · obtain ⟨hl1, hl2⟩ := hlt
      obtain ⟨x, hx⟩ : ∃ x, L[k]? = some x := ⟨_, List.getElem?_eq_getElem (by rw [HNn.out]; exact hl1)⟩
      have hxok := WL.out x (List.mem_of_getElem? hx)
      obtain ⟨b, off, rfl, c0, c1, c2, c3⟩ := script_at HNn.out (HL.out.below hB) hx
      have hBs := hB.size
      have hD : Calls Try.prog 6 #[.pointer (some ⟨p, 0, none⟩), u5, .agg #[.int .i64 x.k, .int .i64 x.a, .int .i64 x.t, .string x.v]] wr (DoesPost W0.heap.size p xs wr) := does_any HAsk.out W0.heap.size p u5 xs x wr hP hBs hxok (by omega)
      have hBh := Lib.hid hB
      clear hP hx HS
      go_wp2_with (first
        | (go_at_call 6; refine hD.mono ?_; rintro e w2 ⟨v2, ys, rfl, hP2, hlen2, hB2⟩; obtain ⟨F, hb, hF, hA⟩ := hP2.mem; have hly : ys.length ≤ 1000 := (by omega); have hli := hA w2 fun _ _ _ => rfl; obtain ⟨M, hM⟩ : ∃ M, ys.length = M := ⟨_, rfl⟩; have hln := len_bag w2 p F ys hb; have hsh := shape_on ys 0 p w2 ⟨hb.more (fun _ _ => Nat.zero_le _), Nat.zero_le _⟩ hly; have HP2 := Lib.hid hP2; obtain ⟨va, vc, rfl, _, _, _⟩ := hli.parts; rw [hM] at hln hsh HP2 hly; have HM := Lib.hid hM; clear hP2 hF hA hb hli hD)
        | (go_at_call 7; refine hln.mono ?_; rintro e w3 ⟨rfl, rfl⟩)
        | (go_at_call 9; refine hsh.mono ?_; rintro e w4 ⟨vs, cs, rfl, hR, hS, _, hB4⟩)
        | (go_at_call 8; refine (shaped_true vs cs M _ hR hS hly).mono ?_; rintro e w5 ⟨rfl, hB5⟩))
      have hnx : Hid (ScrI W0.heap.size p W0 (k + 1) (Value.slice va M vc) w5) := ⟨ys, (HP2.out.below hB4).below hB5, by omega, (hBh.out.trans hB2).trans ((below_th hB4 hB5).mono (by have := hB2.size; omega))⟩
      go_roundw
      case rel => exact ⟨k + 1, by omega, by omega, by go_num, hnx⟩
      case measure => simp [intOf]; omega
    · by_cases hk1 : k < N
      all_goals
        first
          | (have hk3 : ¬ k < 300 := fun hh => hlt ⟨hk1, hh⟩)
          | skip
        clear hlt hP
        go_wp2
        go_ret
        exact ⟨rfl, hB⟩
end
end Go.Proofs.Ytkhbfjncamobdaa.S
