/- The document's Move, End. -/
import Derived.Test.YthfcjbfldokanaaDatRefW
namespace Go.Proofs.Ythfcjbfldokanaa.Dat.R
open Go.RowKit
attribute [local go_sem] Oper.semAt_some
set_option linter.unusedVariables false

theorem set_right {L : List T} (h : RightP L) {i : Nat} (hu : hasP L i) (t : T) : RightP (L.set i t) ↔ oneP t := by
  have h1 : 1 ≤ i := by
    rcases Nat.eq_zero_or_pos i with rfl | hp
    · exact absurd h.2.1 hu.2
    · exact hp
  rw [← putAt_lt hu.1]
  exact putAt_right h h1 (by have := hu.1; omega) (by have := hu.1; have := h.1; omega) t
theorem not_zero_start {p s f : Nat} (h : 1 ≤ s) : ¬ (⟨p, s, f⟩ : T) = T.zero := fun e => by have := congrArg T.start e; simp [T.zero] at this; omega
theorem move_eq {L : List T} {i ph : Nat} (hr : RightP L) (hu : hasP L i) : wiV (L.set i (movT L i ph)) = movV L i ph ∧ wiE (L.set i (movT L i ph)) = movE L i ph := by
  have hs := (hr.stands hu.2).2.1.1
  have h1 : RightP (L.set i (movT L i ph)) ↔ standsP (movT L i ph) := by
    rw [set_right hr hu]
    exact ⟨fun h => h.resolve_left (not_zero_start hs), .inr⟩
  unfold wiV wiE movV movE
  by_cases h : standsP (movT L i ph)
  · rw [if_pos (h1.2 h), if_pos (h1.2 h), if_pos (show movOk L i ph from ⟨hr, hu, h⟩), if_pos hr, if_pos hu, if_pos h]; exact ⟨rfl, rfl⟩
  · rw [if_neg (fun hh => h (h1.1 hh)), if_neg (fun hh => h (h1.1 hh)), if_neg (fun hh : movOk L i ph => h hh.2.2), if_pos hr, if_pos hu, if_neg h]; exact ⟨rfl, rfl⟩
theorem end_eq {L : List T} {i cp : Nat} (hr : RightP L) (hu : hasP L i) (hz : (tr L i).fin = 0) (hc : ¬ cp = 0) : wiV (L.set i (endT L i cp)) = endV L i cp ∧ wiE (L.set i (endT L i cp)) = endE L i cp := by
  have h1 := set_right hr hu (endT L i cp)
  unfold wiV wiE endV endE
  by_cases h : oneP (endT L i cp)
  · rw [if_pos (h1.2 h), if_pos (h1.2 h), if_pos (show endOk L i cp from ⟨hr, hu, hz, hc, h⟩), if_pos hr, if_pos ⟨hu, hz⟩, if_pos ⟨hc, h⟩]; exact ⟨rfl, rfl⟩
  · rw [if_neg (fun hh => h (h1.1 hh)), if_neg (fun hh => h (h1.1 hh)), if_neg (fun hh : endOk L i cp => h hh.2.2.2.2), if_pos hr, if_pos ⟨hu, hz⟩, if_neg (fun hh => h hh.2)]; exact ⟨rfl, rfl⟩
section
set_option maxRecDepth 100000
set_option maxHeartbeats 2000000
theorem move_any (v : Value) (L : List T) (i ph : Nat) (w : World) (hL : Trs w v L) (hi : i < 4294967296) : Calls Try.prog 14 #[v, .int .u32 i, .int .u32 ph] w (TabPost (movV L i ph) (movE L i ph) w) := by
  have hR := right_any v L w hL
  have hU := fun W (h : Below w.heap.size w W) => used_any v L i W (hL.below h) hi
  obtain ⟨a, cap, rfl, hn, hm⟩ := hL.parts
  obtain ⟨N, hN⟩ : ∃ N, L.length = N := ⟨_, rfl⟩
  have hw1 : IntKind.i64.wrap (i : Int) = (i : Int) := by rw [IntKind.wrap_i64]; omega
  by_cases hr : RightP L
  · rw [rightB_yes hr] at hR
    by_cases hu : hasP L i
    · rw [show hasB L i = true from decide_eq_true hu] at hU
      obtain ⟨b, off, c, e, _⟩ := hL.at (k := i) hu.1
      cases e
      have hC := fun W (h : Below w.heap.size w W) => (hL.below h).get rfl hu.1
      have hWi := fun W (h : Below w.heap.size w W) => with_any _ L i (movT L i ph) W (hL.below h) hu.1 (by have := hr.1; omega)
      obtain ⟨q1, q2⟩ := move_eq (ph := ph) hr hu
      rw [q1, q2] at hWi
      have hil : i < N := by have := hu.1; omega
      unfold movT at hWi
      obtain ⟨y, hy⟩ : ∃ y, tr L i = y := ⟨_, rfl⟩
      rw [hy] at hC
      simp only [hy] at hWi
      have HA2 := Lib.hid (fun (W : World) => At.new W ⟨ph, y.start, y.fin⟩)
      have HBn := Lib.hid (fun (W : World) => below_new W (boxO ⟨ph, y.start, y.fin⟩))
      rw [hN] at hR hU hWi hn ⊢
      obtain ⟨x, hx⟩ : ∃ x, movV L i ph = x := ⟨_, rfl⟩
      obtain ⟨z, hz⟩ : ∃ z, movE L i ph = z := ⟨_, rfl⟩
      rw [hx, hz] at hWi ⊢
      obtain ⟨p0, st, fi⟩ := y
      unfold T.val at hWi
      unfold TabPost at hWi
      unfold boxO at HA2 HBn
      dsimp only at hWi hC HA2 HBn
      have HR := Lib.hid hR
      have HU := Lib.hid hU
      have HWi := Lib.hid hWi
      have HC := Lib.hid hC
      clear hL hR hU hWi hC q1 q2 hr hu hN hy hx hz
      go_enter Try.func14, Try.ntmps14
      go_wp2_with (first
        | (go_at_call 16; (with_reducible refine Calls.mono HR.out ?_); rintro e w1 ⟨rfl, hB1⟩)
        | (go_at_call 36; (with_reducible refine Calls.mono (HU.out _ hB1) ?_); rintro e w2 ⟨rfl, hB2⟩; obtain ⟨c0, c1, c2⟩ := HC.out _ (below_th hB1 hB2); have hA2 := HA2.out w2; obtain ⟨d0, d1, d2⟩ := hA2.c; dsimp only at d0 d1 d2; clear hA2; have HB2 := Lib.hid (below_th (below_th hB1 hB2) (HBn.out w2)))
        | (go_at_call 34; (with_reducible refine Calls.mono (HWi.out _ HB2.out) ?_); rintro e w3 ⟨v3, rfl, hT3, hB3⟩))
      go_returns
      exact ⟨v3, rfl, hT3, below_th HB2.out hB3⟩
    · rw [show hasB L i = false from decide_eq_false hu] at hU
      have HF : Hid (∀ W, Below w.heap.size w W → TabPost (movV L i ph) (movE L i ph) w (.returned (.tuple #[.slice none 0 0, .int .i64 82])) W) := fun W h => by
        rw [show movE L i ph = 82 by unfold movE; rw [if_pos hr, if_neg hu]]
        exact tab_no _ (movV_no (fun h => hu h.2.1)) h
      rw [hN] at hR hU hn ⊢
      have HR := Lib.hid hR
      have HU := Lib.hid hU
      clear hL hR hU hr hu hN
      go_enter Try.func14, Try.ntmps14
      go_wp2_with (first
        | (go_at_call 16; (with_reducible refine Calls.mono HR.out ?_); rintro e w1 ⟨rfl, hB1⟩)
        | (go_at_call 36; (with_reducible refine Calls.mono (HU.out _ hB1) ?_); rintro e w2 ⟨rfl, hB2⟩))
      go_returns
      exact HF.out _ (below_th hB1 hB2)
  · rw [rightB_no hr] at hR
    have HF : Hid (∀ W, Below w.heap.size w W → TabPost (movV L i ph) (movE L i ph) w (.returned (.tuple #[.slice none 0 0, .int .i64 80])) W) := fun W h => by
      rw [show movE L i ph = 80 by unfold movE; rw [if_neg hr]]
      exact tab_no _ (movV_no (fun h => hr h.1)) h
    rw [hN] at hR hn ⊢
    have HR := Lib.hid hR
    clear hL hR hU hr hN
    go_enter Try.func14, Try.ntmps14
    go_wp2_with (go_at_call 16; (with_reducible refine Calls.mono HR.out ?_); rintro e w1 ⟨rfl, hB1⟩)
    go_returns
    exact HF.out _ hB1
theorem end_any (v : Value) (L : List T) (i cp : Nat) (w : World) (hL : Trs w v L) (hi : i < 4294967296) : Calls Try.prog 19 #[v, .int .u32 i, .int .u64 cp] w (TabPost (endV L i cp) (endE L i cp) w) := by
  have hR := right_any v L w hL
  have hU := fun W (h : Below w.heap.size w W) => used_any v L i W (hL.below h) hi
  obtain ⟨a, cap, rfl, hn, hm⟩ := hL.parts
  obtain ⟨N, hN⟩ : ∃ N, L.length = N := ⟨_, rfl⟩
  have hw1 : IntKind.i64.wrap (i : Int) = (i : Int) := by rw [IntKind.wrap_i64]; omega
  by_cases hr : RightP L
  · rw [rightB_yes hr] at hR
    by_cases hu : hasP L i
    · rw [show hasB L i = true from decide_eq_true hu] at hU
      obtain ⟨b, off, c, e, _⟩ := hL.at (k := i) hu.1
      cases e
      have hC := fun W (h : Below w.heap.size w W) => (hL.below h).get rfl hu.1
      have hWi := fun W t (h : Below w.heap.size w W) => with_any _ L i t W (hL.below h) hu.1 (by have := hr.1; omega)
      have hil : i < N := by have := hu.1; omega
      have hst := (hr.stands hu.2).2.1.1
      have hS : ∀ (n : Int), n = endE L i cp → ¬ endOk L i cp → Hid (∀ W, Below w.heap.size w W → TabPost (endV L i cp) (endE L i cp) w (.returned (.tuple #[.slice none 0 0, .int .i64 n])) W) := fun n h1 h2 W h => end_no h2 h1 h
      by_cases hz : (tr L i).fin = 0
      · have q0 : (((tr L i).fin : Int) != 0) = false := by simp [hz]
        by_cases hc : cp = 0
        · have hE : endE L i cp = 80 := by unfold endE; rw [if_pos hr, if_pos ⟨hu, hz⟩, if_neg (fun h => h.1 hc)]
          have HF := hS 80 hE.symm (fun h => h.2.2.2.1 hc)
          have q1 : ((cp : Int) == ((tr L i).start : Int)) = false := by simp; omega
          have q2 : ((cp : Int) == 0) = true := by simp [hc]
          have HA2 := Lib.hid (fun (W : World) => At.new W (tr L i))
          have HBn := Lib.hid (fun (W : World) => below_new W (boxO (tr L i)))
          rw [hN] at hR hU hn ⊢
          obtain ⟨y, hy⟩ : ∃ y, tr L i = y := ⟨_, rfl⟩
          rw [hy] at hC q0 q1 HA2 HBn
          obtain ⟨p0, st, fi⟩ := y
          unfold boxO at HBn HA2
          dsimp only at hC q0 q1 HBn HA2
          have HR := Lib.hid hR
          have HU := Lib.hid hU
          have HC := Lib.hid hC
          clear hL hR hU hWi hC hr hu hN hy hS hE hst hz hc
          go_enter Try.func19, Try.ntmps19
          go_wp2_with (first
            | (go_at_call 16; (with_reducible refine Calls.mono HR.out ?_); rintro e w1 ⟨rfl, hB1⟩)
            | (go_at_call 36; (with_reducible refine Calls.mono (HU.out _ hB1) ?_); rintro e w2 ⟨rfl, hB2⟩; obtain ⟨c0, c1, c2⟩ := HC.out _ (below_th hB1 hB2); have hA2 := HA2.out w2; obtain ⟨d0, d1, d2⟩ := hA2.c; dsimp only at d0 d1 d2; clear hA2; have HB2 := Lib.hid (below_th (below_th hB1 hB2) (HBn.out w2))))
          go_returns
          exact HF.out _ HB2.out
        · obtain ⟨e1, e2⟩ := end_eq hr hu hz hc
          have hW := fun W h => hWi W (endT L i cp) h
          rw [e1, e2] at hW
          unfold endT at hW
          have HA2 := Lib.hid (fun (W : World) => At.new W (tr L i))
          have HBn := Lib.hid (fun (W : World) => below_new W (boxO (tr L i)))
          by_cases hcs : cp = (tr L i).start
          · rw [if_pos hcs] at hW
            have q1 : ((cp : Int) == ((tr L i).start : Int)) = true := by simp [hcs]
            have hWZ : ∀ W, Below w.heap.size w W → Calls Try.prog 34 #[.slice (some ⟨b, off, none⟩) L.length cap, .int .i64 i, .agg #[.int .u32 0, .int .u64 0, .int .u64 0]] W (TabPost (endV L i cp) (endE L i cp) W) := hW
            unfold TabPost at hWZ
            rw [hN] at hR hU hn hWZ ⊢
            obtain ⟨y, hy⟩ : ∃ y, tr L i = y := ⟨_, rfl⟩
            rw [hy] at hC q0 q1 HA2 HBn
            obtain ⟨p0, st, fi⟩ := y
            unfold boxO at HBn HA2
            dsimp only at hC q0 q1 HBn HA2
            have HR := Lib.hid hR
            have HU := Lib.hid hU
            have HC := Lib.hid hC
            have HW := Lib.hid hWZ
            clear hL hR hU hWi hC hr hu hN hy hS hst hz hc hcs hW hWZ e1 e2
            go_enter Try.func19, Try.ntmps19
            go_wp2_with (first
              | (go_at_call 16; (with_reducible refine Calls.mono HR.out ?_); rintro e w1 ⟨rfl, hB1⟩)
              | (go_at_call 36; (with_reducible refine Calls.mono (HU.out _ hB1) ?_); rintro e w2 ⟨rfl, hB2⟩; obtain ⟨c0, c1, c2⟩ := HC.out _ (below_th hB1 hB2); have hA2 := HA2.out w2; obtain ⟨d0, d1, d2⟩ := hA2.c; dsimp only at d0 d1 d2; clear hA2; have HB2 := Lib.hid (below_th (below_th hB1 hB2) (HBn.out w2)))
              | (go_at_call 34; (with_reducible refine Calls.mono (HW.out _ HB2.out) ?_); rintro e w3 ⟨v3, rfl, hT3, hB3⟩))
            go_returns
            exact ⟨v3, rfl, hT3, below_th HB2.out hB3⟩
          · rw [if_neg hcs] at hW
            have q1 : ((cp : Int) == ((tr L i).start : Int)) = false := by simp; omega
            have q2 : ((cp : Int) == 0) = false := by simp [hc]
            have HA3 := Lib.hid (fun (W : World) => At.new W ⟨(tr L i).phys, (tr L i).start, cp⟩)
            have HBn3 := Lib.hid (fun (W : World) => below_new W (boxO ⟨(tr L i).phys, (tr L i).start, cp⟩))
            unfold TabPost at hW
            rw [hN] at hR hU hn hW ⊢
            obtain ⟨y, hy⟩ : ∃ y, tr L i = y := ⟨_, rfl⟩
            rw [hy] at hC q0 q1 HA2 HBn
            simp only [hy] at hW HA3 HBn3
            obtain ⟨p0, st, fi⟩ := y
            unfold boxO at HBn HBn3 HA2 HA3
            unfold T.val at hW
            dsimp only at hC q0 q1 HBn HBn3 HA2 HA3 hW
            have HR := Lib.hid hR
            have HU := Lib.hid hU
            have HC := Lib.hid hC
            have HW := Lib.hid hW
            clear hL hR hU hWi hC hr hu hN hy hS hst hz hc hcs hW e1 e2
            go_enter Try.func19, Try.ntmps19
            go_wp2_with (first
              | (go_at_call 16; (with_reducible refine Calls.mono HR.out ?_); rintro e w1 ⟨rfl, hB1⟩)
              | (go_at_call 36; (with_reducible refine Calls.mono (HU.out _ hB1) ?_); rintro e w2 ⟨rfl, hB2⟩; obtain ⟨c0, c1, c2⟩ := HC.out _ (below_th hB1 hB2); have hA2 := HA2.out w2; obtain ⟨d0, d1, d2⟩ := hA2.c; have f2 := hA2.f 2; have hA3 := HA3.out w2; obtain ⟨g0, g1, g2⟩ := hA3.c; dsimp only at d0 d1 d2 g0 g1 g2; clear hA2 hA3; have HB2 := Lib.hid (below_th (below_th hB1 hB2) (HBn3.out w2)))
              | (go_at_call 34; (with_reducible refine Calls.mono (HW.out _ HB2.out) ?_); rintro e w3 ⟨v3, rfl, hT3, hB3⟩))
            go_returns
            exact ⟨v3, rfl, hT3, below_th HB2.out hB3⟩
      · have q0 : (((tr L i).fin : Int) != 0) = true := by simp [hz]
        have hE : endE L i cp = 82 := by unfold endE; rw [if_pos hr, if_neg (fun h => hz h.2)]
        have HF := hS 82 hE.symm (fun h => hz h.2.2.1)
        rw [hN] at hR hU hn ⊢
        obtain ⟨y, hy⟩ : ∃ y, tr L i = y := ⟨_, rfl⟩
        rw [hy] at hC q0
        have HR := Lib.hid hR
        have HU := Lib.hid hU
        have HC := Lib.hid hC
        clear hL hR hU hWi hC hr hu hN hy hS hst hz hE
        go_enter Try.func19, Try.ntmps19
        go_wp2_with (first
          | (go_at_call 16; (with_reducible refine Calls.mono HR.out ?_); rintro e w1 ⟨rfl, hB1⟩)
          | (go_at_call 36; (with_reducible refine Calls.mono (HU.out _ hB1) ?_); rintro e w2 ⟨rfl, hB2⟩; obtain ⟨c0, c1, c2⟩ := HC.out _ (below_th hB1 hB2)))
        go_returns
        exact HF.out _ (below_th hB1 hB2)
    · rw [show hasB L i = false from decide_eq_false hu] at hU
      have HF : Hid (∀ W, Below w.heap.size w W → TabPost (endV L i cp) (endE L i cp) w (.returned (.tuple #[.slice none 0 0, .int .i64 82])) W) := fun W h => end_no (fun h => hu h.2.1) (by unfold endE; rw [if_pos hr, if_neg (fun h => hu h.1)]) h
      rw [hN] at hR hU hn ⊢
      have HR := Lib.hid hR
      have HU := Lib.hid hU
      clear hL hR hU hr hu hN
      go_enter Try.func19, Try.ntmps19
      go_wp2_with (first
        | (go_at_call 16; (with_reducible refine Calls.mono HR.out ?_); rintro e w1 ⟨rfl, hB1⟩)
        | (go_at_call 36; (with_reducible refine Calls.mono (HU.out _ hB1) ?_); rintro e w2 ⟨rfl, hB2⟩))
      go_returns
      exact HF.out _ (below_th hB1 hB2)
  · rw [rightB_no hr] at hR
    have HF : Hid (∀ W, Below w.heap.size w W → TabPost (endV L i cp) (endE L i cp) w (.returned (.tuple #[.slice none 0 0, .int .i64 80])) W) := fun W h => end_no (fun h => hr h.1) (by unfold endE; rw [if_neg hr]) h
    rw [hN] at hR hn ⊢
    have HR := Lib.hid hR
    clear hL hR hU hr hN
    go_enter Try.func19, Try.ntmps19
    go_wp2_with (go_at_call 16; (with_reducible refine Calls.mono HR.out ?_); rintro e w1 ⟨rfl, hB1⟩)
    go_returns
    exact HF.out _ hB1
end
end Go.Proofs.Ythfcjbfldokanaa.Dat.R
