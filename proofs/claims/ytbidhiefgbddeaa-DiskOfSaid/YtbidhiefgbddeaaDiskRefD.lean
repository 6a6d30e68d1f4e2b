/- The reference's Read of a block, Same. -/
import Derived.Test.YtbidhiefgbddeaaDiskRefC
namespace Go.Proofs.Ytbidhiefgbddeaa.Disk.R
open Go.RowKit Go.Shelf
set_option linter.unusedVariables false

section
set_option maxRecDepth 100000
set_option maxHeartbeats 1000000
variable {q : Nat} {G : Nat → Prop} {d : D} {w : World}
theorem read_yes_r (n : Nat) (s : ByteArray) (h : IsRef w q G d) (hn : n < d.B.length) (hs : d.now[n]? = some s) (hops : d.ops ≤ 1099511627776) : Calls Try.prog 33 #[.pointer (some ⟨q, 0, none⟩), .int .i64 n] w fun e w' => e = .returned (.tuple #[.string s, .int .i64 0]) ∧ w = w' := by
  obtain ⟨vb, vl, gone, hA, hg, hF⟩ := h.mem
  have hlim := h.ok.hi
  have hfew := h.ok.few
  have hlo := h.ok.lo
  have c0 := hA.c0
  have c1 := hA.c1
  obtain ⟨gb, cb, rfl, hcb, hcb2, hgl, hrd⟩ := own_read hA.bs hlo
  obtain ⟨ya, yc, rfl⟩ := hA.sll
  have hls := hA.ls
  obtain ⟨N, hN⟩ : ∃ N, d.B.length = N := ⟨_, rfl⟩
  have hsB : (settle d.B d.L)[n]? = some s := hs
  have hbase : (∀ x : Wr, x ∈ d.L → x.1 ≠ n) → w.cell? ⟨gb, n, none⟩ = some (.string s) := fun hh => by
    rw [settle_not d.B d.L n hh] at hsB
    rw [hrd n (by omega)]
    exact strs_at _ _ _ hsB
  have hlast : ∀ (k : Nat) (x : Wr), d.L[k]? = some x → x.1 = n → (∀ (j : Nat) (y : Wr), k < j → d.L[j]? = some y → y.1 ≠ n) → x.2 = s := fun k x hk hx hh => by
    obtain ⟨x1, x2⟩ := x
    have hx' : x1 = n := hx
    subst hx'
    have := settle_last d.B d.L x1 k x2 hn hk hh
    rw [hsB] at this
    exact (Option.some.inj this).symm
  have HB := Lib.hid hbase
  have HL := Lib.hid hlast
  rw [hN] at hn hlim c0 hcb
  have h0 : ¬ (n : Int) < 0 := by omega
  have h1 : ¬ (N : Int) ≤ (n : Int) := by omega
  have h1' : decide (N ≤ n) = false := by simp; omega
  obtain ⟨L, hLd⟩ : ∃ L, d.L = L := ⟨_, rfl⟩
  rw [hLd] at HB HL hls c1 hfew
  have hst : (L.length = 0 ∧ (.int .i64 ((L.length : Int) - 1) : Value) = .int .i64 (-1)) ∨ ∃ k', L.length = k' + 1 ∧ (.int .i64 ((L.length : Int) - 1) : Value) = .int .i64 (k' : Int) := by
    cases hl : L.length with
    | zero => exact .inl ⟨rfl, rfl⟩
    | succ k' => exact .inr ⟨k', rfl, by congr 1; omega⟩
  have HST := Lib.hid hst
  clear hg hN hbase hlast hs hsB hrd hF hLd hst
  go_enter Try.func33, Try.ntmps33
  go_wp2
  go_loop [6] (fun i => ∃ k : Nat, k ≤ L.length ∧ ((k = 0 ∧ i = .int .i64 (-1)) ∨ ∃ k', k = k' + 1 ∧ i = .int .i64 (k' : Int)) ∧ Hid (∀ (j : Nat) (y : Wr), k ≤ j → L[j]? = some y → y.1 ≠ n)) (fun i => (intOf i + 1).toNat)
  case atStart => exact ⟨L.length, Nat.le_refl _, HST.out, fun j y hj hy => by have := (List.getElem?_eq_some_iff.1 hy).1; omega⟩
  case round =>
    obtain ⟨k, hk, hcase, HNO⟩ := hrel
    rcases hcase with ⟨rfl, rfl⟩ | ⟨k', rfl, rfl⟩
    · have cx := HB.out (fun x hx => by obtain ⟨j, hj⟩ := List.getElem?_of_mem hx; exact HNO.out j x (Nat.zero_le _) hj)
      go_wp2
      go_ret2
      exact ⟨rfl, rfl⟩
    · obtain ⟨x, hx⟩ : ∃ x, L[k']? = some x := ⟨_, List.getElem?_eq_getElem (by omega)⟩
      have hc := cellsW_at L k' x hx
      obtain ⟨gl, cl, hv, hcl, hcl2, hgll, hrdl⟩ := own_read hls (by omega)
      obtain ⟨rfl, rfl⟩ : ya = some ⟨gl, 0, none⟩ ∧ yc = cl := by simpa using hv
      have d0 := (hrdl (k' * 2) (by omega)).trans hc.1
      have d1 := (hrdl (k' * 2 + 1) (by omega)).trans hc.2
      have hkl : k' < L.length := by omega
      have HX := Lib.hid hx
      clear hc hv hrdl hx
      by_cases hat : x.1 = n
      · have hq : ((x.1 : Int) == (n : Int)) = true := by rw [hat]; simp
        have HR := Lib.hid (HL.out k' x HX.out hat (fun j y hj hy => HNO.out j y (by omega) hy))
        clear hat
        go_wp2
        go_ret2
        exact ⟨by rw [← HR.out]; rfl, rfl⟩
      · have hq : ((x.1 : Int) == (n : Int)) = false := by simp; omega
        have HN2 : Hid (∀ (j : Nat) (y : Wr), k' ≤ j → L[j]? = some y → y.1 ≠ n) := fun j y hj hy => by
          rcases Nat.lt_or_ge k' j with hlt | hge
          · exact HNO.out j y (by omega) hy
          · obtain rfl : j = k' := by omega
            rw [HX.out] at hy
            cases hy
            exact hat
        clear hat
        cases k' with
        | zero =>
          go_wp2
          go_round
          case rel => exact ⟨0, Nat.zero_le _, .inl ⟨rfl, rfl⟩, HN2⟩
          case measure => simp [intOf]
        | succ k2 =>
          go_wp2
          go_round
          case rel => exact ⟨k2 + 1, by omega, .inr ⟨k2, rfl, by go_num⟩, HN2⟩
          case measure => simp [intOf]; omega

/-- two lists alike -/
theorem same_any (l : List ByteArray) (va vb : Value) (w : World) (ha : Lies w va l.length 1 (strs l)) (hb : Lies w vb l.length 1 (strs l)) (hsz : ∀ s ∈ l, s.size ≤ 1000000) :
    Calls Try.prog 15 #[va, vb] w fun e w' => e = .returned (.bool true) ∧ Below w.heap.size w w' := by
  obtain ⟨a, ca, rfl, HA, h1, h2⟩ := ha.parts
  obtain ⟨b, cb, rfl, HBb, h3, h4⟩ := hb.parts
  clear ha hb
  go_enter Try.func15, Try.ntmps15
  go_wp2
  go_loopw [5] (fun i wr => ∃ k : Nat, k ≤ l.length ∧ i = .int .i64 k ∧ Below w.heap.size w wr) (fun i _ => l.length - (intOf i).toNat)
  case atStart => exact ⟨0, Nat.zero_le _, rfl, Below.refl _ _⟩
  case round =>
    obtain ⟨k, hk, rfl, hB⟩ := hrel
    by_cases hlt : k < l.length
    · obtain ⟨s, hs⟩ : ∃ s, l[k]? = some s := ⟨_, List.getElem?_eq_getElem hlt⟩
      obtain ⟨ga, oa, rfl, ca0⟩ := (HA.out.below hB).read (j := k) (u := .string s) (strs_at _ _ _ hs)
      obtain ⟨gb, ob, rfl, cb0⟩ := (HBb.out.below hB).read (j := k) (u := .string s) (strs_at _ _ _ hs)
      clear hs
      go_wp2
      go_quiet (fail)
      go_wp2
      go_roundw
      case rel => exact ⟨k + 1, by omega, by go_num, ⟨hB.os, hB.tape, hB.output, hB.size, hB.block⟩⟩
      case measure => simp [intOf]; omega
    · obtain rfl : l.length = k := by omega
      go_wp2
      go_ret
      exact ⟨rfl, hB⟩
end
end Go.Proofs.Ytbidhiefgbddeaa.Disk.R
