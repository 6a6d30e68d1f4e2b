/- Several texts in one, each under its own heading. -/
import Derived.Test.YtdniakoedgohkaaPk16
import Derived.Test.YtdniakoedgohkaaPk07
import Derived.Test.YtdniakoedgohkaaPk18
/- The document's one, Right, used, Same. -/
namespace Go.Proofs.Ytdniakoedgohkaa.Dat.R
open Go.RowKit
attribute [local go_sem] Oper.semAt_some
set_option linter.unusedVariables false

section
set_option maxRecDepth 100000
set_option maxHeartbeats 1000000
theorem split6 (ph st fi : Nat) : oneB ⟨ph, st, fi⟩ = (freeB ⟨ph, st, fi⟩ || (decide (16 ≤ ph) && (decide (ph < 4096) && (decide (1 ≤ st) && (decide (st < 281474976710656) && (decide (fi = 0) || (decide (st < fi) && decide (fi < 281474976710656)))))))) := by
  rw [oneB_split, standsB_split]
  have hc : ∀ n, cpB n = true ↔ (1 ≤ n ∧ n < 281474976710656) := fun n => decide_eq_true_iff
  generalize freeB ⟨ph, st, fi⟩ = x
  cases x
  · rw [Bool.eq_iff_iff]
    simp only [Bool.or_eq_true, Bool.and_eq_true, decide_eq_true_eq, Bool.false_eq_true, false_or, hc]
    constructor
    · rintro ⟨h1, h2, h3, h4⟩
      refine ⟨h1, h2, h3.1, h3.2, ?_⟩
      rcases h4 with h4 | h4
      · exact .inl h4
      · exact .inr ⟨h4.1, h4.2.2⟩
    · rintro ⟨h1, h2, h3, h3b, h4⟩
      refine ⟨h1, h2, ⟨h3, h3b⟩, ?_⟩
      rcases h4 with h4 | h4
      · exact .inl h4
      · exact .inr ⟨h4.1, by omega, h4.2⟩
  · rfl
/-- are two lists the same? -/
theorem same_any (v1 v2 : Value) (A B : List T) (w : World) (h1 : Trs w v1 A) (h2 : Trs w v2 B) : Calls Try.prog 23 #[v1, v2] w (Ans w (.bool (decide (A = B)))) := by
  obtain ⟨a1, cap1, rfl, hn1, hm1⟩ := h1.parts
  obtain ⟨a2, cap2, rfl, hn2, hm2⟩ := h2.parts
  by_cases hl : A.length = B.length
  · have hq : ((A.length : Int) != (B.length : Int)) = false := by simp [hl]
    obtain ⟨N, hN⟩ : ∃ N, A.length = N := ⟨_, rfl⟩
    have H1 := Lib.hid h1
    have H2 := Lib.hid h2
    have HEQ : Hid ((∀ j, j < N → tr A j = tr B j) → A = B) := fun h => tr_ext hl (fun j hj => h j (by omega))
    have HNE : Hid (∀ j, tr A j ≠ tr B j → ¬ A = B) := fun j h e => h (by rw [e])
    rw [← hl] at H2 hn2 hq ⊢
    have hBN : B.length = N := by omega
    rw [hN] at H1 H2 hn1 hn2 hq ⊢
    have HN1 := Lib.hid hN
    have HN2 := Lib.hid hBN
    clear h1 h2 hN hBN hl
    obtain ⟨W0, rfl⟩ : ∃ W0 : World, W0 = w := ⟨_, rfl⟩
    go_enter Try.func23, Try.ntmps23
    go_wp2
    go_loopw [5] (fun i wr => ∃ k : Nat, k ≤ N ∧ i = .int .i64 (k : Int) ∧ Hid (∀ j, j < k → tr A j = tr B j) ∧ Below W0.heap.size W0 wr) (fun i _ => N - (intOf i).toNat)
    case atStart => exact ⟨0, by omega, rfl, fun j hj => by omega, Below.refl _ _⟩
    case round =>
      obtain ⟨k, hk, rfl, HU, hB⟩ := hrel
      by_cases hlt : k < N
      · obtain ⟨b1, off1, cap3, e1, c0, c1, c2⟩ := (H1.out.below hB).at (k := k) (by rw [HN1.out]; exact hlt)
        obtain ⟨b2, off2, cap4, e2, d0, d1, d2⟩ := (H2.out.below hB).at (k := k) (by rw [HN2.out]; exact hlt)
        rw [HN1.out] at e1
        rw [HN2.out] at e2
        cases e1
        cases e2
        have HBq := Lib.hid hB
        have hq := fun W => neqT (tr A k) (tr B k) W
        unfold T.val at hq
        by_cases hx : tr A k = tr B k
        · rw [decide_eq_true hx] at hq
          have hq1 : ∀ W, (binOp .neq 79 (.agg #[.int .u32 (tr A k).phys, .int .u64 (tr A k).start, .int .u64 (tr A k).fin]) (.agg #[.int .u32 (tr B k).phys, .int .u64 (tr B k).start, .int .u64 (tr B k).fin])).run Try.prog W = .ok (.bool false) W := hq
          have HX := Lib.hid hx
          clear hx hq
          go_wp2
          go_quiet (fail)
          go_wp2
          go_roundw
          case rel => exact ⟨k + 1, by omega, by go_num, fun j hj => (by rcases Nat.lt_succ_iff_lt_or_eq.1 hj with h | h; exact HU.out j h; rw [h]; exact HX.out), below_drewN HBq.out _⟩
          case measure => simp [intOf]; omega
        · rw [decide_eq_false hx] at hq
          have hq1 : ∀ W, (binOp .neq 79 (.agg #[.int .u32 (tr A k).phys, .int .u64 (tr A k).start, .int .u64 (tr A k).fin]) (.agg #[.int .u32 (tr B k).phys, .int .u64 (tr B k).start, .int .u64 (tr B k).fin])).run Try.prog W = .ok (.bool true) W := hq
          have HX := Lib.hid (HNE.out k hx)
          clear hx hq
          go_wp2
          go_quiet (fail)
          go_wp2
          go_ret
          exact ⟨by rw [decide_eq_false HX.out]; rfl, below_drewN HBq.out _⟩
      · obtain rfl : k = N := by omega
        have HA := Lib.hid (HEQ.out HU.out)
        go_wp2
        go_ret
        exact ⟨by rw [decide_eq_true HA.out]; rfl, hB⟩
  · have hq : ((A.length : Int) != (B.length : Int)) = true := by simp; omega
    have HA : Hid (¬ A = B) := fun e => hl (by rw [e])
    clear h1 h2
    go_enter Try.func23, Try.ntmps23
    go_wp2
    go_ret
    exact ⟨by rw [decide_eq_false HA.out]; rfl, Below.refl _ _⟩
end
end Go.Proofs.Ytdniakoedgohkaa.Dat.R
/- Lives, of the program and of the document. -/
namespace Go.Proofs.Ytdniakoedgohkaa.Dat
open Go.RowKit
attribute [local go_sem] Oper.semAt_some
set_option linter.unusedVariables false

/-- checkpoints that are kept -/
def Cps (w : World) (v : Value) (C : List Int) : Prop := Lies w v C.length 1 (C.map (.int .u64))
theorem Cps.below {w w' : World} {v : Value} {C : List Int} (h : Cps w v C) (hB : Below w.heap.size w w') : Cps w' v C := Lies.below h hB
theorem Cps.nil (w : World) : Cps w (.slice none 0 0) [] := Lies.nil w 1
theorem Cps.parts {w : World} {v : Value} {C : List Int} (h : Cps w v C) : ∃ a cap, v = .slice a C.length cap ∧ C.length ≤ cap ∧ cap ≤ 9223372036854775807 := by
  obtain ⟨a, cap, e, _, h1, h2⟩ := Lies.parts h
  exact ⟨a, cap, e, h1, h2⟩
def cp (C : List Int) (k : Nat) : Int := C.getD k 0
theorem cp_get {C : List Int} {k : Nat} (h : k < C.length) : C[k]? = some (cp C k) := by
  unfold cp
  rw [List.getD_eq_getElem?_getD, List.getElem?_eq_getElem h]
  rfl
theorem Cps.at {w : World} {a : Option Addr} {n cap : Nat} {C : List Int} (hn : C.length = n) (h : Cps w (.slice a n cap) C) {k : Nat} (hk : k < n) : ∃ b off, a = some ⟨b, off, none⟩ ∧ w.cell? ⟨b, off + k, none⟩ = some (.int .u64 (cp C k)) := by
  subst hn
  exact Lies.read h (j := k) (u := .int .u64 (cp C k)) (by rw [List.getElem?_map, cp_get hk]; rfl)
def inP (t : T) (c : Int) : Prop := (t.start : Int) ≤ c ∧ c < (t.fin : Int)
instance (t : T) (c : Int) : Decidable (inP t c) := by unfold inP; infer_instance
def inB (t : T) (c : Int) : Bool := decide (inP t c)
def someP (t : T) (C : List Int) : Prop := ∃ c ∈ C, inP t c
instance (t : T) (C : List Int) : Decidable (someP t C) := by unfold someP; infer_instance
theorem some_upto {t : T} {C : List Int} : ¬ someP t C ↔ ∀ j, j < C.length → inB t (cp C j) = false := by
  constructor
  · intro h j hj
    exact decide_eq_false fun hh => h ⟨_, List.mem_of_getElem? (cp_get hj), hh⟩
  · rintro h ⟨c, hc, hi⟩
    obtain ⟨j, hj⟩ := List.getElem?_of_mem hc
    have hl := (List.getElem?_eq_some_iff.1 hj).1
    rw [cp_get hl] at hj
    have := of_decide_eq_false (h j hl)
    rw [Option.some.inj hj] at this
    exact this hi
def livesB (t : T) (C : List Int) : Bool := decide (livesP t C)
theorem livesB_free {C : List Int} : livesB T.zero C = false := decide_eq_false (fun h => h.1 rfl)
theorem livesB_open {t : T} {C : List Int} (h : ¬ t = T.zero) (h0 : t.fin = 0) : livesB t C = true := decide_eq_true ⟨h, .inl h0⟩
theorem livesB_some {t : T} {C : List Int} (h : ¬ t = T.zero) (h0 : ¬ t.fin = 0) : livesB t C = decide (someP t C) := by
  unfold livesB
  rw [decide_eq_decide]
  exact ⟨fun hh => hh.2.resolve_left h0, fun hh => ⟨h, .inr hh⟩⟩
section
set_option maxRecDepth 100000
set_option maxHeartbeats 1000000
theorem lives1_any (t : T) (c : Int) (b : Nat) (w : World) (hA : At w b t) : Calls Try.prog 69 #[.int .u64 c, .pointer (some ⟨b, 0, none⟩)] w fun e w' => e = .returned (.bool (inB t c)) ∧ w = w' := by
  obtain ⟨c0, c1, c2⟩ := hA.c
  clear hA
  by_cases h1 : (t.start : Int) ≤ c
  · by_cases h2 : c < (t.fin : Int)
    · have HD : Hid (inB t c = true) := decide_eq_true ⟨h1, h2⟩
      go_enter Try.func69, Try.ntmps69
      go_wp2
      go_ret
      exact ⟨by rw [HD.out]; rfl, rfl⟩
    · have HD : Hid (inB t c = false) := decide_eq_false (fun h => h2 h.2)
      have h2' : decide (c < (t.fin : Int)) = false := decide_eq_false h2
      go_enter Try.func69, Try.ntmps69
      go_wp2
      go_ret
      exact ⟨by rw [HD.out]; rfl, rfl⟩
  · have HD : Hid (inB t c = false) := decide_eq_false (fun h => h1 h.1)
    have h1' : decide ((t.start : Int) ≤ c) = false := decide_eq_false h1
    go_enter Try.func69, Try.ntmps69
    go_wp2
    go_ret
    exact ⟨by rw [HD.out]; rfl, rfl⟩
theorem index64_any (v : Value) (C : List Int) (t : T) (b : Nat) (w : World) (hC : Cps w v C) (hA : At w b t) :
    Calls Try.prog 94 #[v, .func (.func 69) #[] #[.pointer (some ⟨b, 0, none⟩)]] w fun e w' => ∃ i : Int, e = .returned (.int .i64 i) ∧ Hid (0 ≤ i ↔ someP t C) ∧ Below w.heap.size w w' := by
  obtain ⟨a, cap, rfl, hn, hm⟩ := hC.parts
  obtain ⟨N, hN⟩ : ∃ N, C.length = N := ⟨_, rfl⟩
  have HS := Lib.hid (some_upto (t := t) (C := C))
  have HL := Lib.hid hC
  rw [hN] at HL HS hn ⊢
  have HN := Lib.hid hN
  have HX := Lib.hid (fun c W (h : Below w.heap.size w W) => lives1_any t c b W (hA.th h))
  clear hC hN hA
  obtain ⟨W0, rfl⟩ : ∃ W0 : World, W0 = w := ⟨_, rfl⟩
  go_enter Try.func94, Try.ntmps94
  go_wp2
  go_loopw [5, 8] (fun _ i wr => ∃ k : Nat, k ≤ N ∧ i = .int .i64 (k : Int) ∧ Hid (∀ j, j < k → inB t (cp C j) = false) ∧ Below W0.heap.size W0 wr) (fun _ i _ => N - (intOf i).toNat)
  case atStart => exact ⟨0, by omega, rfl, fun j hj => by omega, Below.refl _ _⟩
  case round =>
    obtain ⟨k, hk, rfl, HW, hB⟩ := hrel
    by_cases hlt : k < N
    · obtain ⟨b1, off, e2, c0⟩ := (HL.out.below hB).at HN.out hlt
      subst e2
      have HBq := Lib.hid hB
      cases h1 : inB t (cp C k) with
      | false =>
        go_wp2_with (go_at_call 69; refine (HX.out (cp C k) _ HBq.out).mono ?_; rintro e w' ⟨rfl, rfl⟩; simp only [h1])
        go_roundw
        case rel => exact ⟨k + 1, by omega, by go_num, fun j hj => (by rcases Nat.lt_succ_iff_lt_or_eq.1 hj with h | h; exact HW.out j h; rw [h]; exact h1), HBq.out⟩
        case measure => simp [intOf]; omega
      | true =>
        have HY : Hid (someP t C) := Classical.byContradiction fun hh => by have := HS.out.1 hh k hlt; rw [h1] at this; cases this
        go_wp2_with (go_at_call 69; refine (HX.out (cp C k) _ HBq.out).mono ?_; rintro e w' ⟨rfl, rfl⟩; simp only [h1])
        go_ret
        exact ⟨_, rfl, ⟨fun _ => HY.out, fun _ => (by omega)⟩, HBq.out⟩
    · obtain rfl : k = N := by omega
      go_wp2
      go_ret
      exact ⟨_, rfl, ⟨fun hh => by omega, fun hh => absurd hh (HS.out.2 HW.out)⟩, hB⟩
theorem contains64_any (v : Value) (C : List Int) (t : T) (b : Nat) (w : World) (hC : Cps w v C) (hA : At w b t) :
    Calls Try.prog 68 #[v, .func (.func 69) #[] #[.pointer (some ⟨b, 0, none⟩)]] w (Ans w (.bool (decide (someP t C)))) := by
  have hI := index64_any v C t b w hC hA
  obtain ⟨a, cap, rfl, hn, hm⟩ := hC.parts
  clear hC hA
  go_enter Try.func68, Try.ntmps68
  go_wp2_with (go_at_call 94; refine hI.mono ?_; rintro e w' ⟨i, rfl, HI, hB⟩)
  go_ret
  refine ⟨?_, hB⟩
  by_cases h : someP t C
  · have : 0 ≤ i := HI.out.2 h
    rw [decide_eq_true h]
    simp [this]
  · have : ¬ 0 ≤ i := fun hh => h (HI.out.1 hh)
    rw [decide_eq_false h]
    simp [this]
theorem lives_any (t : T) (v : Value) (C : List Int) (w : World) (hC : Cps w v C) : Calls Try.prog 44 #[t.val, v] w (Ans w (.bool (livesB t C))) := by
  obtain ⟨a, cap, rfl, hn, hm⟩ := hC.parts
  have HA := Lib.hid (fun W (h : Below (w.alloc (boxO t)).heap.size (w.alloc (boxO t)) W) => (At.new w t).th h)
  have HB := Lib.hid (below_new w (boxO t))
  have hf := fun W => isFree_any t W
  have hc := fun W (h : Below w.heap.size w W) (hA : At W w.heap.size t) => contains64_any _ C t w.heap.size W (hC.below h) hA
  unfold Ans at hc
  obtain ⟨n, hN⟩ : ∃ n, C.length = n := ⟨_, rfl⟩
  rw [hN] at hc hn ⊢
  obtain ⟨d0, d1, d2⟩ := (At.new w t).c
  by_cases hz : t = T.zero
  · rw [show freeB t = true from decide_eq_true hz] at hf
    have HV : Hid (livesB t C = false) := by rw [hz]; exact livesB_free
    clear hz hN hC hc
    obtain ⟨ph, st, fi⟩ := t
    unfold T.val at hf ⊢
    unfold boxO at HB HA d0 d1 d2
    dsimp only at hf HB HA d0 d1 d2 ⊢
    have HF := Lib.hid hf
    clear hf
    go_enter Try.func44, Try.ntmps44
    go_wp2_with (go_at_call 64; (with_reducible refine Calls.mono (HF.out _) ?_); rintro e w1 ⟨rfl, hB1⟩; obtain ⟨g0, g1, g2⟩ := (HA.out _ hB1).c; dsimp only at g0 g1 g2)
    go_ret
    exact ⟨by rw [HV.out]; rfl, below_th HB.out hB1⟩
  · rw [show freeB t = false from decide_eq_false hz] at hf
    by_cases h0 : t.fin = 0
    · have HV : Hid (livesB t C = true) := livesB_open hz h0
      have q0 : ((t.fin : Int) == 0) = true := by simp [h0]
      clear hz hN hC hc h0
      obtain ⟨ph, st, fi⟩ := t
      unfold T.val at hf ⊢
      unfold boxO at HB HA d0 d1 d2
      dsimp only at hf HB HA d0 d1 d2 q0 ⊢
      have HF := Lib.hid hf
      clear hf
      go_enter Try.func44, Try.ntmps44
      go_wp2_with (go_at_call 64; (with_reducible refine Calls.mono (HF.out _) ?_); rintro e w1 ⟨rfl, hB1⟩; obtain ⟨g0, g1, g2⟩ := (HA.out _ hB1).c; dsimp only at g0 g1 g2)
      go_ret
      exact ⟨by rw [HV.out]; rfl, below_th HB.out hB1⟩
    · have HV := Lib.hid (livesB_some (C := C) hz h0)
      have q0 : ((t.fin : Int) == 0) = false := by simp [h0]
      obtain ⟨x, hx⟩ : ∃ x, decide (someP t C) = x := ⟨_, rfl⟩
      rw [hx] at hc HV
      have HC := Lib.hid hc
      clear hz hN hC hc h0 hx
      obtain ⟨ph, st, fi⟩ := t
      unfold T.val at hf ⊢
      unfold boxO at HB HA d0 d1 d2
      dsimp only at hf HB HA d0 d1 d2 q0 ⊢
      have HF := Lib.hid hf
      clear hf
      go_enter Try.func44, Try.ntmps44
      go_wp2_with (first
        | (go_at_call 64; (with_reducible refine Calls.mono (HF.out _) ?_); rintro e w1 ⟨rfl, hB1⟩; have hA1 := HA.out _ hB1; obtain ⟨g0, g1, g2⟩ := hA1.c; dsimp only at g0 g1 g2; have HA1 := Lib.hid hA1; clear hA1)
        | (go_at_call 68; (with_reducible refine Calls.mono (HC.out _ (below_th HB.out hB1) HA1.out) ?_); rintro e w2 ⟨rfl, hB2⟩))
      go_ret
      exact ⟨by rw [HV.out]; rfl, below_th HB.out (below_th hB1 hB2)⟩
end
end Go.Proofs.Ytdniakoedgohkaa.Dat
/- A table without free places at its end, a copy of a table, Sweep, of the program. -/
namespace Go.Proofs.Ytdniakoedgohkaa.Dat
open Go.RowKit Go.Shelf
attribute [local go_sem] Oper.semAt_some
set_option linter.unusedVariables false

theorem eqlS (a : Option Addr) (n c : Nat) (w : World) : (binOp .eql 36 (.slice a n c) (.slice none 0 0)).run Try.prog w = .ok (.bool a.isNone) w :=
  Lib.run_eql_slice_nil w _ _ a n c 0 0 Try.underlying36

section
set_option maxRecDepth 100000
set_option maxHeartbeats 4000000
theorem clone_any (v : Value) (L : List T) (w : World) (hL : Trs w v L) (h1 : 1 ≤ L.length) (h2 : L.length ≤ 4096) :
    Calls Try.prog 42 #[v] w fun e w' => ∃ v', e = .returned v' ∧ w'.ownsRow w.heap.size 79 3 v' L.length (cellsL L) ∧ Below w.heap.size w w' := by
  obtain ⟨i0, hi, hz0, hz1, hz2⟩ := info_parts infoTr
  obtain ⟨b, off, cap, rfl, _⟩ := hL.at (k := 0) (by omega)
  obtain ⟨N, hN⟩ : ∃ N, L.length = N := ⟨_, rfl⟩
  have HC := Lib.hid (fun W (hB : Below w.heap.size w W) => (hL.below hB).news)
  have HV := Lib.hid (cellsL_length L)
  have HO := Lib.hid (cellsL_one L)
  have hcap : N ≤ cap ∧ cap ≤ 9223372036854775807 := by
    obtain ⟨a1, cap1, e, g1, g2⟩ := hL.parts
    cases e
    omega
  obtain ⟨hcap1, hcap2⟩ := hcap
  rw [hN] at HV h1 h2 ⊢
  obtain ⟨xs, hxs⟩ : ∃ xs, cellsL L = xs := ⟨_, rfl⟩
  simp only [hxs] at HC HV HO ⊢
  clear hL hN hxs
  obtain ⟨W0, rfl⟩ : ∃ W0 : World, W0 = w := ⟨_, rfl⟩
  go_enter Try.func42, Try.ntmps42
  have hq := eqlS (some ⟨b, off, none⟩) N cap
  have hmade : (W0.alloc (.cells #[] 79)).ownsRow W0.heap.size 79 3 (.slice (some ⟨W0.heap.size, 0, none⟩) 0 0) 0 [] := World.ownsRow_made W0 #[] 0 (Nat.le_refl _) (Nat.zero_le _) (by simp)
  go_wp2_with (at_builtin; refine wpList_append_lies _ rfl _ _ 36 rfl W0.heap.size 79 i0 (.agg #[.int .u32 0, .int .u64 0, .int .u64 0]) 3 24 Try.underlying36 hi hz0 hz1 hz2 rfl (by decide) (.slice (some ⟨W0.heap.size, 0, none⟩) 0 0) 0 [] rfl hmade ⟨b, off, none⟩ N cap xs rfl HV.out (HC.out _ (below_new _ _)) HO.out (by omega) (by unfold maxLen; omega) (by omega) (by simp) _ rfl ?_; intro g cap3 w1 hown1 hgrow hat hlt; simp only [Nat.zero_add, List.nil_append] at hown1)
  go_ret
  refine ⟨.slice (some ⟨g, 0, none⟩) N cap3, by simp, hown1, ((Below.refl _ W0).alloc (Nat.le_refl _) _).grown hgrow (by simp) (fun k hk => by simp [Value.ownBlock] at hk; omega)⟩


theorem trim_in (b off cap N : Nat) (L : List T) (w : World) (hN : L.length = N) (hL : Trs w (.slice (some ⟨b, off, none⟩) N cap) L) (h1 : 1 ≤ N) (h2 : N ≤ 1000000) :
    CallsIn Fence.wide 9 Try.prog 45 #[.slice (some ⟨b, off, none⟩) N cap] w (Ans w (.slice (some ⟨b, off, none⟩) (bareN L) cap)) := by
  have hfn : ∀ f, Fence.wide.fn f := fun _ => trivial
  refine callsIn_of_wp_marks Try.func45 rfl trivial ?_ rfl
  simp only [Try.ntmps45, List.size_toArray, List.length_cons, List.length_nil, Nat.reduceAdd, Nat.reduceSub, Array.replicate_succ, Array.replicate_zero, List.push_toArray, List.append_toArray, List.nil_append, List.cons_append]
  gi_wp2_with (gi_at_call 43; refine (used_in _ _ _ _ _).mono ?_; rintro e w4 ⟨rfl, rfl⟩)
  obtain ⟨s, hs⟩ : ∃ s, w.heap.size = s := ⟨_, rfl⟩
  obtain ⟨W0, hW0⟩ : ∃ W0, (w.alloc (.cells #[.int .i64 1] 3)).alloc (.cells #[.slice (some ⟨b, off, none⟩) N cap] 36) = W0 := ⟨_, rfl⟩
  have hs0 : W0.heap.size = s + 2 := by rw [← hW0, ← hs]; simp
  have hBW : Below w.heap.size w W0 := by rw [← hW0]; exact below_al (below_al (Below.refl _ _) _) _
  have hb0 : IntAt W0 s 1 := by rw [← hW0, ← hs]; exact (IntAt.new w 1).alloc _
  have hb6 : W0.cell? ⟨s + 1, 0, none⟩ = some (.slice (some ⟨b, off, none⟩) N cap) := by
    have : W0.heap[s + 1]? = some (.cells #[.slice (some ⟨b, off, none⟩) N cap] 36 (0, 0)) := by
      rw [← hW0, ← hs]
      have := World.alloc_heap_new (w.alloc (.cells #[.int .i64 1] 3)) (.cells #[.slice (some ⟨b, off, none⟩) N cap] 36)
      rwa [World.size_alloc] at this
    simp only [World.cell?, this]; rfl
  rw [hW0]
  rw [hs]
  have hL0 := hL.below hBW
  have hblt : b < w.heap.size := hL.lt (by omega)
  have hcap : N ≤ cap := by
    obtain ⟨a1, cap1, e, h1, h2⟩ := hL.parts
    cases e
    omega
  have hsq : SeqSteps Fence.wide 8 Try.prog 67 #[.pointer (some ⟨s + 1, 0, none⟩)] (enc L) (Same [b]) (cnd L).length W0 := by
    intro l J Jx W' hB hJ _ hY h0
    exact used1_in 8 (by decide) l _ b off cap N L hN (by omega) J Jx _ hJ hY W' ((hB.cell (p := ⟨s + 1, 0, none⟩) (by show s + 1 < _; omega)).trans hb6) (hL0.below hB) h0
  have hnx := fun k (hk : k < (cnd L).length) => show bareOf ((cnd L).take (k + 1)) = ix L k + 1 by rw [take_ix hk, bareOf_snoc]
  have hixl := fun k (hk : k < (cnd L).length) => (ix_ok hk).1
  have HV : Hid (bareOf ((cnd L).take (cnd L).length) = bareN L) := by unfold Hid bareN; rw [List.take_length]
  have hbn := bareN_le (L := L) (by omega)
  rw [hN] at hbn
  obtain ⟨r, hr⟩ : ∃ r, bareN L = r := ⟨_, rfl⟩
  rw [hr] at HV hbn
  have HR := Lib.hid hr
  clear hW0 hL hL0 hr
  refine wpIn_rangeFunc_steps rfl (by decide) (gf := 67) (lb := #[.pointer (some ⟨s + 1, 0, none⟩)]) rfl trivial (enters_of Try.func67 (by kernel_rfl) rfl)
    hsq sameK_t (sameK_b (by simp; omega)) (Below.refl _ _) (fun k => by unfold enc; rfl)
    (OneI W0 s (fun k => True) (fun k => bareOf ((cnd L).take k))) (fun c k W => False) oneI_own (fun c k W W' row hI hg hr => hI) ⟨trivial, Only.refl _ _, hb0⟩
    (ActA (fun k => #[.slice (some ⟨b, off, none⟩) N cap, undef, .slice none 0 0, .pointer (some ⟨s, 0, none⟩), .int .i64 (ix L k : Nat), .slice (some ⟨b, off, none⟩) N cap, .func (.func 67) #[] #[.pointer (some ⟨s + 1, 0, none⟩)], .int .i64 (ix L k : Nat), (tr L (ix L k)).val, undef, undef, undef, undef, undef])) (fun k a' => actA_own k a') ?assign ?body ?done ?stop
  case assign =>
    intro l k W K hI hk hK
    have HK := Lib.hid (hK _ _ (KeepsFrom.refl _ _) (Same.refl _ _) hI rfl)
    unfold enc
    clear hK hI hsq
    dsimp only at HK
    unfold T.val at HK ⊢
    dsimp only at HK ⊢
    generalize tr L (ix L k) = y at HK ⊢
    obtain ⟨ph, st, fi⟩ := y
    dsimp only at HK ⊢
    gi_wp2
    exact HK.out
  case body =>
    rintro l k a' W hl hrec ⟨_, hon, hA⟩ rfl hk
    have hsz := hon.size
    have c0 := hA.c
    have f0 := hA.f
    have hx1 := hnx k hk
    have hlt := hixl k hk
    have HI : Hid (OneI W0 s (fun k => True) (fun k => bareOf ((cnd L).take k)) (k + 1) (W.setCell ⟨s, 0, none⟩ (.int .i64 ((ix L k + 1 : Nat) : Int)))) :=
      ⟨trivial, hon.setCell (p := ⟨s, 0, none⟩) (.inr rfl) _, by show IntAt _ _ (bareOf ((cnd L).take (k + 1))); rw [hx1]; exact hA.put _⟩
    have HK : Hid (KeepsFrom W0.heap.size W (W.setCell ⟨s, 0, none⟩ (.int .i64 ((ix L k + 1 : Nat) : Int))) ∧ Same [b] W (W.setCell ⟨s, 0, none⟩ (.int .i64 ((ix L k + 1 : Nat) : Int)))) :=
      ⟨keeps_of_only _ ((Only.refl (fun i => i = s) W).setCell (p := ⟨s, 0, none⟩) (.inr rfl) _) (by rintro j rfl; exact ⟨_, _, _, hA⟩), fun x hx => by simp at hx; subst hx; exact Below.heap_setCell _ _ _ _ (by show x ≠ s; omega)⟩
    rw [hs0] at HK
    have hw1 : IntKind.i64.wrap (((ix L k : Nat) : Int) + 1) = ((ix L k + 1 : Nat) : Int) := by rw [IntKind.wrap_i64]; omega
    clear hon hA hsq hnx hixl hrec hx1
    unfold T.val
    dsimp only
    gi_wp2
    exact ⟨HK.out.1, HK.out.2, HI.out⟩
  case done =>
    rintro D W hD ⟨_, hon, hA⟩ hKD
    have hsz := hon.size
    dsimp only at hA
    rw [HV.out] at hA
    have c0 := hA.c
    have HBW := Lib.hid (show ∀ W', Below w.heap.size W W' → Below w.heap.size w W' from fun W' h => (below_one hBW (by omega) hon).trans h)
    have HKD := Lib.hid hKD
    have hrc : r ≤ cap := by omega
    have h0r : (0 : Int) ≤ (r : Int) := by omega
    clear hon hA hsq hnx hixl hKD hb0 hb6 HV
    gi_wp2
    refine ⟨by simp, .inl ⟨_, _, rfl, run_takeDeferred HKD.out, ?_⟩⟩
    exact ⟨_, results_tmp1 rfl _ _, by rw [HR.out]; rfl, HBW.out _ (below_putObj (Below.refl _ W) D (by omega) _)⟩
  case stop =>
    rintro D c k W hD hk hf
    exact hf.elim
theorem trim_any (b off cap N : Nat) (L : List T) (w : World) (hN : L.length = N) (hL : Trs w (.slice (some ⟨b, off, none⟩) N cap) L) (h1 : 1 ≤ N) (h2 : N ≤ 1000000) : Calls Try.prog 45 #[.slice (some ⟨b, off, none⟩) N cap] w (Ans w (.slice (some ⟨b, off, none⟩) (bareN L) cap)) :=
  callsIn_wide.1 (trim_in b off cap N L w hN hL h1 h2)
end
end Go.Proofs.Ytdniakoedgohkaa.Dat
