/- Lives, of the program and of the document. -/
import Derived.Test.YthfcjbfldokanaaDatRefA
namespace Go.Proofs.Ythfcjbfldokanaa.Dat
open Go.RowKit
attribute [local go_sem] Oper.semAt_some
set_option linter.unusedVariables false

/-- checkpoints that are kept -/
def Cps (w : World) (v : Value) (C : List Int) : Prop := Lies w v C.length 1 (C.map (.int .u64))
theorem Cps.below {w w' : World} {v : Value} {C : List Int} (h : Cps w v C) (hB : Below w.heap.size w w') : Cps w' v C := Lies.below h hB
theorem Cps.nil (w : World) : Cps w (.slice none 0 0) [] := Lies.nil w 1
theorem Cps.parts {w : World} {v : Value} {C : List Int} (h : Cps w v C) : ∃ a cap, v = .slice a C.length cap ∧ C.length ≤ cap ∧ cap ≤ 9223372036854775807 := by
  obtain ⟨a, cap, e, _, h1, h2⟩ := Lies.parts h
  exact ⟨a, cap, e, h1, h2⟩
def cp (C : List Int) (k : Nat) : Int := C.getD k 0
theorem cp_get {C : List Int} {k : Nat} (h : k < C.length) : C[k]? = some (cp C k) := by
  unfold cp
  rw [List.getD_eq_getElem?_getD, List.getElem?_eq_getElem h]
  rfl
theorem Cps.at {w : World} {a : Option Addr} {n cap : Nat} {C : List Int} (hn : C.length = n) (h : Cps w (.slice a n cap) C) {k : Nat} (hk : k < n) : ∃ b off, a = some ⟨b, off, none⟩ ∧ w.cell? ⟨b, off + k, none⟩ = some (.int .u64 (cp C k)) := by
  subst hn
  exact Lies.read h (j := k) (u := .int .u64 (cp C k)) (by rw [List.getElem?_map, cp_get hk]; rfl)
def inP (t : T) (c : Int) : Prop := (t.start : Int) ≤ c ∧ c < (t.fin : Int)
instance (t : T) (c : Int) : Decidable (inP t c) := by unfold inP; infer_instance
def inB (t : T) (c : Int) : Bool := decide (inP t c)
def someP (t : T) (C : List Int) : Prop := ∃ c ∈ C, inP t c
instance (t : T) (C : List Int) : Decidable (someP t C) := by unfold someP; infer_instance
theorem some_upto {t : T} {C : List Int} : ¬ someP t C ↔ ∀ j, j < C.length → inB t (cp C j) = false := by
  constructor
  · intro h j hj
    exact decide_eq_false fun hh => h ⟨_, List.mem_of_getElem? (cp_get hj), hh⟩
  · rintro h ⟨c, hc, hi⟩
    obtain ⟨j, hj⟩ := List.getElem?_of_mem hc
    have hl := (List.getElem?_eq_some_iff.1 hj).1
    rw [cp_get hl] at hj
    have := of_decide_eq_false (h j hl)
    rw [Option.some.inj hj] at this
    exact this hi
def livesB (t : T) (C : List Int) : Bool := decide (livesP t C)
theorem livesB_free {C : List Int} : livesB T.zero C = false := decide_eq_false (fun h => h.1 rfl)
theorem livesB_open {t : T} {C : List Int} (h : ¬ t = T.zero) (h0 : t.fin = 0) : livesB t C = true := decide_eq_true ⟨h, .inl h0⟩
theorem livesB_some {t : T} {C : List Int} (h : ¬ t = T.zero) (h0 : ¬ t.fin = 0) : livesB t C = decide (someP t C) := by
  unfold livesB
  rw [decide_eq_decide]
  exact ⟨fun hh => hh.2.resolve_left h0, fun hh => ⟨h, .inr hh⟩⟩
section
set_option maxRecDepth 100000
set_option maxHeartbeats 1000000
theorem lives1_any (t : T) (c : Int) (b : Nat) (w : World) (hA : At w b t) : Calls Try.prog 46 #[.int .u64 c, .pointer (some ⟨b, 0, none⟩)] w fun e w' => e = .returned (.bool (inB t c)) ∧ w = w' := by
  obtain ⟨c0, c1, c2⟩ := hA.c
  clear hA
  by_cases h1 : (t.start : Int) ≤ c
  · by_cases h2 : c < (t.fin : Int)
    · have HD : Hid (inB t c = true) := decide_eq_true ⟨h1, h2⟩
      go_enter Try.func46, Try.ntmps46
      go_wp2
      go_ret
      exact ⟨by rw [HD.out]; rfl, rfl⟩
    · have HD : Hid (inB t c = false) := decide_eq_false (fun h => h2 h.2)
      have h2' : decide (c < (t.fin : Int)) = false := decide_eq_false h2
      go_enter Try.func46, Try.ntmps46
      go_wp2
      go_ret
      exact ⟨by rw [HD.out]; rfl, rfl⟩
  · have HD : Hid (inB t c = false) := decide_eq_false (fun h => h1 h.1)
    have h1' : decide ((t.start : Int) ≤ c) = false := decide_eq_false h1
    go_enter Try.func46, Try.ntmps46
    go_wp2
    go_ret
    exact ⟨by rw [HD.out]; rfl, rfl⟩
theorem index64_any (v : Value) (C : List Int) (t : T) (b : Nat) (w : World) (hC : Cps w v C) (hA : At w b t) :
    Calls Try.prog 53 #[v, .func (.func 46) #[] #[.pointer (some ⟨b, 0, none⟩)]] w fun e w' => ∃ i : Int, e = .returned (.int .i64 i) ∧ Hid (0 ≤ i ↔ someP t C) ∧ Below w.heap.size w w' := by
  obtain ⟨a, cap, rfl, hn, hm⟩ := hC.parts
  obtain ⟨N, hN⟩ : ∃ N, C.length = N := ⟨_, rfl⟩
  have HS := Lib.hid (some_upto (t := t) (C := C))
  have HL := Lib.hid hC
  rw [hN] at HL HS hn ⊢
  have HN := Lib.hid hN
  have HX := Lib.hid (fun c W (h : Below w.heap.size w W) => lives1_any t c b W (hA.th h))
  clear hC hN hA
  obtain ⟨W0, rfl⟩ : ∃ W0 : World, W0 = w := ⟨_, rfl⟩
  go_enter Try.func53, Try.ntmps53
  go_wp2
  go_loopw [5, 8] (fun _ i wr => ∃ k : Nat, k ≤ N ∧ i = .int .i64 (k : Int) ∧ Hid (∀ j, j < k → inB t (cp C j) = false) ∧ Below W0.heap.size W0 wr) (fun _ i _ => N - (intOf i).toNat)
  case atStart => exact ⟨0, by omega, rfl, fun j hj => by omega, Below.refl _ _⟩
  case round =>
    obtain ⟨k, hk, rfl, HW, hB⟩ := hrel
    by_cases hlt : k < N
    · obtain ⟨b1, off, e2, c0⟩ := (HL.out.below hB).at HN.out hlt
      subst e2
      have HBq := Lib.hid hB
      cases h1 : inB t (cp C k) with
      | false =>
        go_wp2_with (go_at_call 46; refine (HX.out (cp C k) _ HBq.out).mono ?_; rintro e w' ⟨rfl, rfl⟩; simp only [h1])
        go_roundw
        case rel => exact ⟨k + 1, by omega, by go_num, fun j hj => (by rcases Nat.lt_succ_iff_lt_or_eq.1 hj with h | h; exact HW.out j h; rw [h]; exact h1), HBq.out⟩
        case measure => simp [intOf]; omega
      | true =>
        have HY : Hid (someP t C) := Classical.byContradiction fun hh => by have := HS.out.1 hh k hlt; rw [h1] at this; cases this
        go_wp2_with (go_at_call 46; refine (HX.out (cp C k) _ HBq.out).mono ?_; rintro e w' ⟨rfl, rfl⟩; simp only [h1])
        go_ret
        exact ⟨_, rfl, ⟨fun _ => HY.out, fun _ => (by omega)⟩, HBq.out⟩
    · obtain rfl : k = N := by omega
      go_wp2
      go_ret
      exact ⟨_, rfl, ⟨fun hh => by omega, fun hh => absurd hh (HS.out.2 HW.out)⟩, hB⟩
theorem contains64_any (v : Value) (C : List Int) (t : T) (b : Nat) (w : World) (hC : Cps w v C) (hA : At w b t) :
    Calls Try.prog 45 #[v, .func (.func 46) #[] #[.pointer (some ⟨b, 0, none⟩)]] w (Ans w (.bool (decide (someP t C)))) := by
  have hI := index64_any v C t b w hC hA
  obtain ⟨a, cap, rfl, hn, hm⟩ := hC.parts
  clear hC hA
  go_enter Try.func45, Try.ntmps45
  go_wp2_with (go_at_call 53; refine hI.mono ?_; rintro e w' ⟨i, rfl, HI, hB⟩)
  go_ret
  refine ⟨?_, hB⟩
  by_cases h : someP t C
  · have : 0 ≤ i := HI.out.2 h
    rw [decide_eq_true h]
    simp [this]
  · have : ¬ 0 ≤ i := fun hh => h (HI.out.1 hh)
    rw [decide_eq_false h]
    simp [this]
theorem lives_any (t : T) (v : Value) (C : List Int) (w : World) (hC : Cps w v C) : Calls Try.prog 22 #[t.val, v] w (Ans w (.bool (livesB t C))) := by
  obtain ⟨a, cap, rfl, hn, hm⟩ := hC.parts
  have HA := Lib.hid (fun W (h : Below (w.alloc (boxO t)).heap.size (w.alloc (boxO t)) W) => (At.new w t).th h)
  have HB := Lib.hid (below_new w (boxO t))
  have hf := fun W => isFree_any t W
  have hc := fun W (h : Below w.heap.size w W) (hA : At W w.heap.size t) => contains64_any _ C t w.heap.size W (hC.below h) hA
  unfold Ans at hc
  obtain ⟨n, hN⟩ : ∃ n, C.length = n := ⟨_, rfl⟩
  rw [hN] at hc hn ⊢
  obtain ⟨d0, d1, d2⟩ := (At.new w t).c
  by_cases hz : t = T.zero
  · rw [show freeB t = true from decide_eq_true hz] at hf
    have HV : Hid (livesB t C = false) := by rw [hz]; exact livesB_free
    clear hz hN hC hc
    obtain ⟨ph, st, fi⟩ := t
    unfold T.val at hf ⊢
    unfold boxO at HB HA d0 d1 d2
    dsimp only at hf HB HA d0 d1 d2 ⊢
    have HF := Lib.hid hf
    clear hf
    go_enter Try.func22, Try.ntmps22
    go_wp2_with (go_at_call 37; (with_reducible refine Calls.mono (HF.out _) ?_); rintro e w1 ⟨rfl, hB1⟩; obtain ⟨g0, g1, g2⟩ := (HA.out _ hB1).c; dsimp only at g0 g1 g2)
    go_ret
    exact ⟨by rw [HV.out]; rfl, below_th HB.out hB1⟩
  · rw [show freeB t = false from decide_eq_false hz] at hf
    by_cases h0 : t.fin = 0
    · have HV : Hid (livesB t C = true) := livesB_open hz h0
      have q0 : ((t.fin : Int) == 0) = true := by simp [h0]
      clear hz hN hC hc h0
      obtain ⟨ph, st, fi⟩ := t
      unfold T.val at hf ⊢
      unfold boxO at HB HA d0 d1 d2
      dsimp only at hf HB HA d0 d1 d2 q0 ⊢
      have HF := Lib.hid hf
      clear hf
      go_enter Try.func22, Try.ntmps22
      go_wp2_with (go_at_call 37; (with_reducible refine Calls.mono (HF.out _) ?_); rintro e w1 ⟨rfl, hB1⟩; obtain ⟨g0, g1, g2⟩ := (HA.out _ hB1).c; dsimp only at g0 g1 g2)
      go_ret
      exact ⟨by rw [HV.out]; rfl, below_th HB.out hB1⟩
    · have HV := Lib.hid (livesB_some (C := C) hz h0)
      have q0 : ((t.fin : Int) == 0) = false := by simp [h0]
      obtain ⟨x, hx⟩ : ∃ x, decide (someP t C) = x := ⟨_, rfl⟩
      rw [hx] at hc HV
      have HC := Lib.hid hc
      clear hz hN hC hc h0 hx
      obtain ⟨ph, st, fi⟩ := t
      unfold T.val at hf ⊢
      unfold boxO at HB HA d0 d1 d2
      dsimp only at hf HB HA d0 d1 d2 q0 ⊢
      have HF := Lib.hid hf
      clear hf
      go_enter Try.func22, Try.ntmps22
      go_wp2_with (first
        | (go_at_call 37; (with_reducible refine Calls.mono (HF.out _) ?_); rintro e w1 ⟨rfl, hB1⟩; have hA1 := HA.out _ hB1; obtain ⟨g0, g1, g2⟩ := hA1.c; dsimp only at g0 g1 g2; have HA1 := Lib.hid hA1; clear hA1)
        | (go_at_call 45; (with_reducible refine Calls.mono (HC.out _ (below_th HB.out hB1) HA1.out) ?_); rintro e w2 ⟨rfl, hB2⟩))
      go_ret
      exact ⟨by rw [HV.out]; rfl, below_th HB.out (below_th hB1 hB2)⟩
theorem R.lives_any (t : T) (v : Value) (C : List Int) (w : World) (hC : Cps w v C) : Calls Try.prog 23 #[t.val, v] w (Ans w (.bool (livesB t C))) := by
  obtain ⟨a, cap, rfl, hn, hm⟩ := hC.parts
  have hA := At.new w t
  have HA := Lib.hid (fun W (h : Below (w.alloc (boxO t)).heap.size (w.alloc (boxO t)) W) => hA.th h)
  have HB := Lib.hid (below_new w (boxO t))
  have hf := fun W => free_any t W
  have HL := Lib.hid (fun W (h : Below w.heap.size w W) => hC.below h)
  have HSU := Lib.hid (some_upto (t := t) (C := C))
  obtain ⟨N, hN⟩ : ∃ N, C.length = N := ⟨_, rfl⟩
  rw [hN] at HL HSU hn ⊢
  have HN := Lib.hid hN
  obtain ⟨d0, d1, d2⟩ := hA.c
  clear hA
  by_cases hz : t = T.zero
  · rw [show freeB t = true from decide_eq_true hz] at hf
    have HV : Hid (livesB t C = false) := by rw [hz]; exact livesB_free
    clear hz hN hC
    obtain ⟨ph, st, fi⟩ := t
    unfold T.val at hf ⊢
    unfold boxO at HB HA d0 d1 d2
    dsimp only at hf HB HA d0 d1 d2 ⊢
    have HF := Lib.hid hf
    clear hf
    go_enter Try.func23, Try.ntmps23
    go_wp2_with (go_at_call 33; (with_reducible refine Calls.mono (HF.out _) ?_); rintro e w1 ⟨rfl, hB1⟩; obtain ⟨g0, g1, g2⟩ := (HA.out _ hB1).c; dsimp only at g0 g1 g2)
    go_ret
    exact ⟨by rw [HV.out]; rfl, below_th HB.out hB1⟩
  · rw [show freeB t = false from decide_eq_false hz] at hf
    by_cases h0 : t.fin = 0
    · have HV : Hid (livesB t C = true) := livesB_open hz h0
      have q0 : ((t.fin : Int) == 0) = true := by simp [h0]
      clear hz hN hC h0
      obtain ⟨ph, st, fi⟩ := t
      unfold T.val at hf ⊢
      unfold boxO at HB HA d0 d1 d2
      dsimp only at hf HB HA d0 d1 d2 q0 ⊢
      have HF := Lib.hid hf
      clear hf
      go_enter Try.func23, Try.ntmps23
      go_wp2_with (go_at_call 33; (with_reducible refine Calls.mono (HF.out _) ?_); rintro e w1 ⟨rfl, hB1⟩; obtain ⟨g0, g1, g2⟩ := (HA.out _ hB1).c; dsimp only at g0 g1 g2)
      go_ret
      exact ⟨by rw [HV.out]; rfl, below_th HB.out hB1⟩
    · have HV := Lib.hid (livesB_some (C := C) hz h0)
      have q0 : ((t.fin : Int) == 0) = false := by simp [h0]
      clear hz hN hC h0
      have hval : t.val = .agg #[.int .u32 t.phys, .int .u64 t.start, .int .u64 t.fin] := rfl
      rw [hval] at hf ⊢
      unfold boxO at HB HA d0 d1 d2
      have HF := Lib.hid hf
      clear hf hval
      obtain ⟨W0, rfl⟩ : ∃ W0 : World, W0 = w := ⟨_, rfl⟩
      go_enter Try.func23, Try.ntmps23
      go_wp2_with (go_at_call 33; (with_reducible refine Calls.mono (HF.out _) ?_); rintro e w1 ⟨rfl, hB1⟩; have hA1 := HA.out _ hB1; obtain ⟨g0, g1, g2⟩ := hA1.c; have HA1 := Lib.hid hA1; clear hA1)
      clear g0 g1 g2
      have HB1 := Lib.hid (below_th HB.out hB1)
      go_loopw [5] (fun i wr => ∃ k : Nat, k ≤ N ∧ i = .int .i64 (k : Int) ∧ Hid (∀ j, j < k → inB t (cp C j) = false) ∧ Below w1.heap.size w1 wr) (fun i _ => N - (intOf i).toNat)
      case atStart => exact ⟨0, by omega, rfl, fun j hj => by omega, Below.refl _ _⟩
      case round =>
        obtain ⟨k, hk, rfl, HW, hB⟩ := hrel
        by_cases hlt : k < N
        · obtain ⟨b1, off, e2, c0⟩ := (HL.out _ (below_th HB1.out hB)).at HN.out hlt
          subst e2
          obtain ⟨g0, g1, g2⟩ := (HA1.out.th hB).c
          have HBq := Lib.hid hB
          obtain ⟨c, hc⟩ : ∃ c, cp C k = c := ⟨_, rfl⟩
          have HCK := Lib.hid hc
          rw [hc] at c0
          clear hc
          by_cases h1 : (t.start : Int) ≤ c
          · by_cases h2 : c < (t.fin : Int)
            · have HY : Hid (someP t C) := Classical.byContradiction fun hh => by have := of_decide_eq_false (HSU.out.1 hh k hlt); rw [HCK.out] at this; exact this ⟨h1, h2⟩
              go_wp2
              go_quiet (fail)
              go_wp2
              go_ret
              exact ⟨by rw [HV.out, decide_eq_true HY.out]; rfl, below_drewN (below_th HB1.out HBq.out) _⟩
            · have h2' : decide (c < (t.fin : Int)) = false := decide_eq_false h2
              have HY : Hid (inB t (cp C k) = false) := decide_eq_false (fun h => by rw [HCK.out] at h; exact h2 h.2)
              go_wp2
              go_quiet (fail)
              go_wp2
              go_roundw
              case rel => exact ⟨k + 1, by omega, by go_num, fun j hj => (by rcases Nat.lt_succ_iff_lt_or_eq.1 hj with h | h; exact HW.out j h; rw [h]; exact HY.out), below_drewN HBq.out _⟩
              case measure => simp [intOf]; omega
          · have h1' : decide ((t.start : Int) ≤ c) = false := decide_eq_false h1
            have HY : Hid (inB t (cp C k) = false) := decide_eq_false (fun h => by rw [HCK.out] at h; exact h1 h.1)
            go_wp2
            go_quiet (fail)
            go_wp2
            go_roundw
            case rel => exact ⟨k + 1, by omega, by go_num, fun j hj => (by rcases Nat.lt_succ_iff_lt_or_eq.1 hj with h | h; exact HW.out j h; rw [h]; exact HY.out), below_drewN HBq.out _⟩
            case measure => simp [intOf]; omega
        · obtain rfl : k = N := by omega
          have HY := Lib.hid (HSU.out.2 HW.out)
          go_wp2
          go_ret
          exact ⟨by rw [HV.out, decide_eq_false HY.out]; rfl, below_th HB1.out hB⟩
end
end Go.Proofs.Ythfcjbfldokanaa.Dat
