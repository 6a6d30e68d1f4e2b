/- Several texts in one, each under its own heading. -/
import Derived.Test.YtdniakoedgohkaaPk14
import Derived.Maps.AppendAt
import Derived.Test.YtdniakoedgohkaaPk15
import Derived.Test.YtdniakoedgohkaaPk19
/- The iterator over all checkpoints that blocks have room for, of the program. -/
namespace Go.Proofs.Ytdniakoedgohkaa.Cps
open Go.RowKit Go.Shelf
attribute [local go_sem] Oper.semAt_some
set_option linter.unusedVariables false
set_option linter.unusedSimpArgs false

/-- what the k-th round is handed -/
def encA (T : List ByteArray) (k : Nat) : Array Value := #[(allK T k).val]
section
set_option maxRecDepth 100000
set_option maxHeartbeats 4000000
theorem checks1_in (n : Nat) (hn : 1 ≤ n) (l Bx : Nat) (v : Value) (T : List ByteArray) (w : World) (Kp : World → World → Prop) (hT9 : T.length ≤ 12) (h508 : ∀ b ∈ T, b.size = 508) (J Jx : Nat → World → Prop) (B0 : Nat) (hJ : AbidesFrom B0 J)
    (hKt : ∀ {A B C : World}, Kp A B → Kp B C → Kp A C) (hKb : ∀ A B, Kp w A → Below A.heap.size A B → Kp w B)
    (hY : ∀ k W, J k W → k < 9 * T.length → YieldAt Fence.wide (n - 1) Try.prog l (encA T k) W fun e W' => (e = .returned (.bool true) ∧ J (k + 1) W' ∧ Kp W W') ∨ (e = .returned (.bool false) ∧ Jx k W'))
    (W : World) (hk : Kp w W) (hbx : W.cell? ⟨Bx, 0, none⟩ = some v) (hT : ∀ W', Kp w W' → Strs W' v T) (h0 : J 0 W) :
    CallsIn Fence.wide n Try.prog 83 #[.func (.yield l) #[] #[], .pointer (some ⟨Bx, 0, none⟩)] W fun e W' => (∃ v, e = .returned v) ∧ (J (9 * T.length) W' ∨ ∃ k, k < 9 * T.length ∧ Jx k W') := by
  have hfn : ∀ f, Fence.wide.fn f := fun _ => trivial
  have hJa : ∀ k W1 W2, J k W1 → Below W1.heap.size W1 W2 → J k W2 := fun k W1 W2 h hB => hJ _ _ _ none h (grown_of_below hB) (fun r e => by cases e)
  have HA := Lib.hid hJa
  have HY := Lib.hid hY
  have HT := Lib.hid hT
  have HKB := Lib.hid hKb
  have HKT : Hid (∀ A B C : World, Kp A B → Kp B C → Kp A C) := fun A B C h k => hKt h k
  have HCI := Lib.hid (fun i k W (hi : i < T.length) (hk : k < 9) => checkIn_any (T.getD i ⟨#[]⟩) (55 * k) W (h508 _ (by rw [List.getD_eq_getElem?_getD, List.getElem?_eq_getElem hi]; exact List.getElem_mem hi)) (by omega))
  have HEN : Hid (∀ i k, k < 9 → encA T (9 * i + k) = #[(chkAt (T.getD i ⟨#[]⟩) (55 * k)).val]) := fun i k hk => by
    unfold encA allK
    rw [show (9 * i + k) / 9 = i by omega, show (9 * i + k) % 9 = k by omega]
  obtain ⟨a, cap, rfl, hcap1, hcap2⟩ := (hT W hk).parts
  obtain ⟨N, hN⟩ : ∃ N, T.length = N := ⟨_, rfl⟩
  simp only [hN] at HY HCI hcap1 hT9 hbx HT ⊢
  have HN := Lib.hid hN
  clear hJa hY hJ hT hKb hKt hN h508
  refine callsIn_of_wp Try.func83 rfl trivial ?_ rfl
  simp only [Try.ntmps83, List.size_toArray, List.length_cons, List.length_nil, Nat.reduceAdd, Nat.reduceSub, Array.replicate_succ, Array.replicate_zero, List.push_toArray, List.append_toArray, List.nil_append, List.cons_append]
  gi_wp2
  gi_loopw [4, 5, 8, 12] (fun _ _ i _ wr => ∃ k : Nat, k ≤ N ∧ i = .int .i64 (k : Int) ∧ J (9 * k) wr ∧ Kp w wr) (fun _ _ i _ _ => N - (intOf i).toNat)
  case atStart => exact ⟨0, by omega, rfl, h0, hk⟩
  case round =>
    obtain ⟨i, hiN, rfl, hJi, hS⟩ := hrel
    by_cases hlti : i < N
    · obtain ⟨b, off, e2, c0⟩ := (HT.out _ hS).get (k := i) (by rw [HN.out]; exact hlti)
      subst e2
      obtain ⟨x, hx⟩ : ∃ x, T.getD i ⟨#[]⟩ = x := ⟨_, rfl⟩
      have hci := fun k W (hk : k < 9) => HCI.out i k W hlti hk
      have hen := fun k (hk : k < 9) => HEN.out i k hk
      rw [hx] at c0
      simp only [hx] at hci hen
      have HCI2 := Lib.hid hci
      have HEN2 := Lib.hid hen
      obtain ⟨WO, rfl⟩ : ∃ WO : World, WO = wr := ⟨_, rfl⟩
      clear hci hen hx
      gi_wp2
      gi_loopw [5, 12] (fun _ q wq => ∃ k : Nat, k ≤ 9 ∧ q = .int .i64 (k : Int) ∧ J (9 * i + k) wq ∧ Kp w wq) (fun _ q _ => 9 - (intOf q).toNat)
      case atStart => exact ⟨0, by omega, rfl, hJi, hS⟩
      case round =>
        obtain ⟨k, hk9, rfl, hJk, hSk⟩ := hrel
        by_cases hltk : k < 9
        · have hci := fun W => HCI2.out k W hltk
          have hw1 : IntKind.i64.wrap ((k : Int) * 55) = ((55 * k : Nat) : Int) := by rw [IntKind.wrap_i64]; omega
          have hyy := fun W' (h : Below wr.heap.size wr W') => HY.out (9 * i + k) W' (HA.out _ _ _ hJk h) (by omega)
          simp only [HEN2.out k hltk] at hyy
          obtain ⟨p, hp⟩ : ∃ p, 55 * k = p := ⟨_, rfl⟩
          rw [hp] at hw1
          simp only [hp] at hci hyy
          obtain ⟨y, hy⟩ : ∃ y, chkAt x p = y := ⟨_, rfl⟩
          simp only [hy] at hci hyy
          have HKw := Lib.hid (fun W' (h : Below wr.heap.size wr W') => HKB.out _ _ hSk h)
          clear hp hy hJk hSk
          obtain ⟨ncp, ti, sn, ro⟩ := y
          unfold C.val at hci hyy
          dsimp only at hci hyy
          have HC := Lib.hid hci
          have HYY := Lib.hid hyy
          clear hci hyy
          gi_wp2_with (gi_at_call 84; refine (callsIn_wide.2 (HC.out _)).mono ?_; rintro e w1 ⟨rfl, hB1⟩; obtain ⟨fn, tmps, assign, body, hy, hR⟩ := HYY.out _ hB1)
          refine hR.mono ?_
          rintro e W3 (⟨rfl, hJ3, hk3⟩ | ⟨rfl, hJx3⟩)
          · gi_wp2
            go_roundw
            case rel => exact ⟨k + 1, by omega, by go_num, hJ3, HKT.out _ _ _ (HKw.out _ hB1) hk3⟩
            case measure => simp [intOf]; omega
          · gi_wp2
            refine bodyPost_ret (results_none rfl _ _ _) rfl ?_
            exact ⟨⟨_, rfl⟩, .inr ⟨9 * i + k, by omega, hJx3⟩⟩
        · obtain rfl : k = 9 := by omega
          gi_wp2
          go_roundw
          case rel => exact ⟨i + 1, by omega, by go_num, hJk, hSk⟩
          case measure => simp [intOf]; omega
    · obtain rfl : N = i := by omega
      gi_wp2
      go_end0
      exact ⟨⟨_, rfl⟩, .inl hJi⟩
theorem checksIn_in (n : Nat) (a : Option Addr) (N cap : Nat) (w : World) :
    CallsIn Fence.wide n Try.prog 57 #[.slice a N cap] w fun e w' => e = .returned (.func (.func 83) #[] #[.pointer (some ⟨w.heap.size, 0, none⟩)]) ∧ w.alloc (.cells #[.slice a N cap] 42) = w' := by
  refine callsIn_of_wp Try.func57 rfl trivial ?_ rfl
  simp only [Try.ntmps57, List.size_toArray, List.length_cons, List.length_nil, Nat.reduceAdd, Nat.reduceSub, Array.replicate_succ, Array.replicate_zero, List.push_toArray, List.append_toArray, List.nil_append, List.cons_append]
  gi_wp2
  go_ret
  exact ⟨rfl, rfl⟩
end
end Go.Proofs.Ytdniakoedgohkaa.Cps
/- Decode of the program. -/
namespace Go.Proofs.Ytdniakoedgohkaa.Cps
open Go.RowKit Go.Shelf
attribute [local go_sem] Oper.semAt_some
set_option linter.unusedVariables false
set_option linter.unusedSimpArgs false

/-- the blocks below n but s lie as they lay -/
def KeptX (n s : Nat) (W W' : World) : Prop := (∀ b, b < n → b ≠ s → W'.heap[b]? = W.heap[b]?) ∧ W.heap.size ≤ W'.heap.size
theorem KeptX.refl (n s : Nat) (W : World) : KeptX n s W W := ⟨fun _ _ _ => rfl, Nat.le_refl _⟩
theorem KeptX.trans {n s : Nat} {A B C : World} (h : KeptX n s A B) (k : KeptX n s B C) : KeptX n s A C := ⟨fun b hb hn => (k.1 b hb hn).trans (h.1 b hb hn), Nat.le_trans h.2 k.2⟩
theorem KeptX.below {n s : Nat} {W W' : World} (h : Below W.heap.size W W') (hn : n ≤ W.heap.size) : KeptX n s W W' := ⟨fun b hb _ => h.block b (by omega), h.size⟩
theorem keptX_t {n s : Nat} {A B C : World} (h : KeptX n s A B) (k : KeptX n s B C) : KeptX n s A C := h.trans k
theorem keptX_b {n s : Nat} {w : World} (hn : n ≤ w.heap.size) (W : World) (l : Nat) (o o' : Obj) (hl : w.heap.size ≤ l) (_ : W.heap[l]? = some o) (_ : o.isCells = false) (_ : o.isWalk = false) : KeptX n s W (W.putObj l o') :=
  ⟨fun b hb _ => World.putObj_heap_other (by omega), by simp [World.putObj]⟩
def DecPost (T : List ByteArray) (w : World) (e : Ending) (w' : World) : Prop := ∃ v, e = .returned (.tuple #[v, .int .i64 (decE T)]) ∧ Chs w' v (decV T) ∧ Below w.heap.size w w'
theorem decp_no {T : List ByteArray} {w w' : World} (h : ¬ ∃ L, DecP T L) (hB : Below w.heap.size w w') : DecPost T w (.returned (.tuple #[.slice none 0 0, .int .i64 90])) w' := ⟨_, by rw [(dec_no h).2], by rw [(dec_no h).1]; exact Chs.nil w', hB⟩
theorem decp_yes {T : List ByteArray} {L : List C} {w w' : World} {v : Value} (h : DecP T L) (hL : Chs w' v L) (hB : Below w.heap.size w w') : DecPost T w (.returned (.tuple #[v, .int .i64 0])) w' := ⟨_, by rw [(dec_yes h).2], by rw [(dec_yes h).1]; exact hL, hB⟩
/-- what has been read behind k rounds -/
def DecI (W0 : World) (T : List ByteArray) (s : Nat) (k : Nat) (W : World) : Prop :=
  Only (fun i => i = s) W0 W ∧ (∀ j, j < k → ¬ (allK T j).cp = 0) ∧ ∃ v, CellAt W s 37 v ∧ W.ownsRow W0.heap.size 85 4 v k (cellsL (firstK T k))
def DecX (W0 : World) (T : List ByteArray) (s : Nat) (c : Code) (k : Nat) (W : World) : Prop := c = .exit 0 ∧ DecI W0 T s k W ∧ (allK T k).cp = 0
theorem decI_own {W0 : World} {T : List ByteArray} {s : Nat} : OwnFrom W0.heap.size (DecI W0 T s) := fun k W W' row hI hg hr => by
  obtain ⟨h1, h0, v, h2, h3⟩ := hI
  refine ⟨h1.grown hg (fun r e => .inl (hr r e).1), h0, v, kept_cells h2 hg hr, h3.kept hg ?_⟩
  cases hv : v.ownBlock with
  | none => exact .inl rfl
  | some g =>
    right
    intro e
    obtain ⟨_, o, ho, hc⟩ := hr g e.symm
    rcases h3.2 with ⟨e1, _⟩ | ⟨g2, cap, cur, e1, _, hgg, _⟩
    · rw [e1] at hv; cases hv
    · rw [e1] at hv
      have e2 : g2 = g := by simpa [Value.ownBlock] using hv
      rw [e2, ho] at hgg
      cases hgg
      cases hc
def DecA (tmps : Nat → Nat → Array Value) (W0 : World) (T : List ByteArray) (k : Nat) (a' : Act) (W : World) : Prop :=
  ∃ Bx, W0.heap.size ≤ Bx ∧ At W Bx (allK T k) ∧ a' = { tmps := tmps k Bx, defers := [] }
theorem decA_own {tmps : Nat → Nat → Array Value} {W0 : World} {T : List ByteArray} {B : Nat} (k : Nat) (a' : Act) : OwnFrom B (fun (_ : Unit) W => DecA tmps W0 T k a' W) := fun _ W W' row hI hg hr => by
  obtain ⟨Bx, h1, h2, h3⟩ := hI
  exact ⟨Bx, h1, kept_cells h2 hg hr, h3⟩
section
set_option maxRecDepth 100000
set_option maxHeartbeats 8000000
theorem decode_in (a : Option Addr) (N cap : Nat) (T : List ByteArray) (w : World) (hN : T.length = N) (hT : Strs w (.slice a N cap) T) (h12 : N ≤ 12) (h508 : All508 T) :
    CallsIn Fence.wide 9 Try.prog 24 #[.slice a N cap] w (DecPost T w) := by
  have hfn : ∀ f, Fence.wide.fn f := fun _ => trivial
  obtain ⟨i0, hi, hz0, hz1, hz2⟩ := info_parts infoCh
  have hC := containsS_any _ T w hT
  rw [show (!decide (All508 T)) = false by rw [decide_eq_true h508]; rfl] at hC
  have HC := Lib.hid hC
  have g12 : decide ((12 : Int) < (N : Int)) = false := decide_eq_false (by omega)
  have hcap : N ≤ cap := by
    obtain ⟨a1, cap1, e, g1, g2⟩ := hT.parts
    rw [hN] at e g1
    cases e
    omega
  clear hC
  refine callsIn_of_wp_marks Try.func24 rfl trivial ?_ rfl
  simp only [Try.ntmps24, List.size_toArray, List.length_cons, List.length_nil, Nat.reduceAdd, Nat.reduceSub, Array.replicate_succ, Array.replicate_zero, List.push_toArray, List.append_toArray, List.nil_append, List.cons_append]
  gi_wp2
  apply wide_scope
  gi_wp2_with (gi_at_call 55; refine (callsIn_wide.2 HC.out).mono ?_; rintro e w1 ⟨rfl, hB1⟩)
  apply wide_label
  gi_wp2_with (gi_at_call 57; refine (checksIn_in _ _ _ _ _).mono ?_; rintro e w4 ⟨rfl, rfl⟩)
  obtain ⟨s, hs⟩ : ∃ s, w1.heap.size = s := ⟨_, rfl⟩
  obtain ⟨W0, hW0⟩ : ∃ W0, (w1.alloc (.cells #[.slice none 0 0] 37)).alloc (.cells #[.slice a N cap] 42) = W0 := ⟨_, rfl⟩
  have hs0 : W0.heap.size = s + 2 := by rw [← hW0, ← hs]; simp
  have hB0 : Below w1.heap.size w1 W0 := by rw [← hW0]; exact below_al (below_al (Below.refl _ _) _) _
  have hBW : Below w.heap.size w W0 := below_th hB1 hB0
  have hws : w.heap.size ≤ s := by rw [← hs]; exact hB1.size
  have b0 : CellAt W0 s 37 (.slice none 0 0) := by rw [← hW0, ← hs]; exact (CellAt.new w1 _ _).of_heap (Below.heap_alloc _ _ _ (by simp))
  have b1 : CellAt W0 (s + 1) 42 (.slice a N cap) := by
    rw [← hW0, ← hs]
    have := CellAt.new (w1.alloc (.cells #[.slice none 0 0] 37)) 42 (.slice a N cap)
    rwa [World.size_alloc] at this
  rw [hW0]
  rw [hs]
  have hT0 := hT.below hBW
  have hTk : ∀ W', KeptX (s + 2) s W0 W' → Strs W' (.slice a N cap) T := fun W' hk => hT0.keep fun g o k c e hk0 => by
    cases e
    have hg := hT.lt hk0
    exact hk.1 g (by omega) (by omega)
  have hsq : SeqSteps Fence.wide 8 Try.prog 83 #[.pointer (some ⟨s + 1, 0, none⟩)] (encA T) (KeptX (s + 2) s) (9 * T.length) W0 := by
    intro l J Jx W' hB hJ _ hY h0
    exact checks1_in 8 (by decide) l (s + 1) _ T W0 (KeptX (s + 2) s) (by omega) h508 J Jx _ hJ keptX_t (fun A B hA hB => hA.trans (KeptX.below hB (by have := hA.2; omega))) hY W' (KeptX.below hB (by omega)) (b1.th hB).c hTk h0
  have HSTOP := Lib.hid (fun L (h : DecP T L) k (hk : k ≤ 9 * T.length) h0 h1 => dec_stop h (k := k) hk h0 h1)
  have hlk : 9 * T.length ≤ 108 := by omega
  have hTX := fun W (h : Only (fun i => i = s) W0 W) => hTk W ⟨fun b hb hn => h.block b (by omega) hn, h.size⟩
  have HTX := Lib.hid hTX
  clear hW0 hT hT0 hTk HC hTX
  refine wpIn_rangeFunc_steps rfl (by decide) (gf := 83) (lb := #[.pointer (some ⟨s + 1, 0, none⟩)]) rfl trivial (enters_of Try.func83 (by kernel_rfl) rfl)
    hsq keptX_t (keptX_b (by omega)) (Below.refl _ _) (fun _ => rfl)
    (DecI W0 T s) (DecX W0 T s) decI_own (fun c k W W' row h hg hr => ⟨h.1, decI_own k W W' row h.2.1 hg hr, h.2.2⟩) ⟨Only.refl _ _, fun j hj => by omega, _, b0, World.ownsRow_nil _ _ _ _⟩
    (DecA (fun k Bx => #[.slice a N cap, undef, .slice none 0 0, .int .i64 0, .pointer (some ⟨s, 0, none⟩), .pointer (some ⟨Bx, 0, none⟩), undef, undef, .slice a N cap, .int .i64 N, .bool false, .bool false, .slice a N cap, .bool false, .bool false, .slice a N cap, .func (.func 83) #[] #[.pointer (some ⟨s + 1, 0, none⟩)], (allK T k).val, undef, undef, undef, undef, undef, undef, undef, undef, undef, undef, undef, undef, undef, undef, undef, undef, undef, undef, undef, undef, undef]) W0 T) (fun k a' => decA_own k a') ?assign ?body ?done ?stop
  case assign =>
    intro l k W K hI hk hK
    have hz : W0.heap.size ≤ W.heap.size := hI.1.size
    have HK := Lib.hid (hK _ _ ((KeepsOthers.alloc W _).from _) (KeptX.below (below_new W _) (by omega)) (decI_own _ _ _ none hI (World.grownBy_alloc W _ _) (fun r e => by cases e)) ⟨W.heap.size, hz, At.new W (allK T k), rfl⟩)
    unfold encA
    clear hK hI hsq
    dsimp only at HK
    unfold boxO C.val at HK
    unfold C.val
    dsimp only at HK ⊢
    generalize allK T k = y at HK ⊢
    obtain ⟨y0, y1, y2, y3⟩ := y
    dsimp only at HK ⊢
    gi_wp2
    exact HK.out
  case body =>
    rintro l k a' W hl hrec ⟨hon, h0, v, hc, hown⟩ ⟨Bx, hBx, hX, rfl⟩ hk
    have hsz := hon.size
    obtain ⟨ap, cp, rfl, HLI, hcp1, hcp2⟩ := lies_own hown
    have c4 := hc.c
    obtain ⟨x0, x1, x2, x3⟩ := hX.c
    by_cases hkz : (allK T k).cp = 0
    · have HI := Lib.hid (show DecX W0 T s (.exit 0) k W from ⟨rfl, ⟨hon, h0, _, hc, hown⟩, hkz⟩)
      have hq : ((allK T k).cp == 0) = true := by simp [hkz]
      have hq2 : (((allK T k).cp : Int) == 0) = true := by simp [hkz]
      clear hon hc hown hsq hX hkz HLI
      dsimp only
      unfold C.val
      generalize allK T k = y at x0 x1 x2 x3 hq hq2 ⊢
      obtain ⟨y0, y1, y2, y3⟩ := y
      dsimp only at x0 x1 x2 x3 hq hq2 ⊢
      gi_wp2
      exact ⟨KeepsFrom.refl _ _, HI.out⟩
    · have hq : ((allK T k).cp == 0) = false := by simp [hkz]
      have hq2 : (((allK T k).cp : Int) == 0) = false := by simp; omega
      have hsuc : cellsL (firstK T (k + 1)) = cellsL (firstK T k) ++ (allK T k).cells := by rw [firstK_succ, cellsL_snoc]
      have h0' : ∀ j, j < k + 1 → ¬ (allK T j).cp = 0 := fun j hj => by
        rcases Nat.lt_succ_iff_lt_or_eq.1 hj with h | h
        · exact h0 j h
        · rw [h]; exact hkz
      have H0 := Lib.hid h0'
      obtain ⟨y, hy⟩ : ∃ y, allK T k = y := ⟨_, rfl⟩
      rw [hy] at x0 x1 x2 x3 hq hq2 hsuc
      have hfin : ∀ v' W4, W4.ownsRow W0.heap.size 85 4 v' (k + 1) (cellsL (firstK T k) ++ y.cells) → (W.alloc (boxO y)).grownBy W4 (Value.slice ap k cp).ownBlock → CellAt W4 s 37 (Value.slice ap k cp) ∧ (KeepsFrom W0.heap.size W (W4.setCell ⟨s, 0, none⟩ v') ∧ KeptX (s + 2) s W (W4.setCell ⟨s, 0, none⟩ v') ∧ DecI W0 T s (k + 1) (W4.setCell ⟨s, 0, none⟩ v')) := fun v' W4 ho hg => by
        have hvb : ∀ r, (Value.slice ap k cp).ownBlock = some r → W0.heap.size ≤ r ∧ ∃ c t f, W.heap[r]? = some (.cells c t f) := fun r e => by
          rcases hown.2 with ⟨e1, _⟩ | ⟨g2, cap2, cur, e1, hb2, hgg, _⟩
          · rw [e1] at e; cases e
          · rw [e1] at e
            have e2 : g2 = r := by simpa [Value.ownBlock] using e
            rw [← e2]
            exact ⟨hb2, _, _, _, hgg⟩
        have hon2 : Only (fun i => i = s ∨ (Value.slice ap k cp).ownBlock = some i) W W4 := ((Only.refl _ W).alloc (boxO y)).grown hg (fun r e => .inr (.inr e))
        have hne : ∀ r, (Value.slice ap k cp).ownBlock = some r → ¬ s = r := fun r e => by have := (hvb r e).1; omega
        have hc4 : CellAt W4 s 37 (Value.slice ap k cp) := by
          have h3 : CellAt (W.alloc (boxO y)) s 37 (Value.slice ap k cp) := hc.of_heap (Below.heap_alloc _ _ _ hc.lt)
          exact h3.of_heap (hg.block s h3.lt (fun e => hne s e.symm rfl))
        have hon5 : Only (fun i => i = s ∨ (Value.slice ap k cp).ownBlock = some i) W (W4.setCell ⟨s, 0, none⟩ v') := hon2.setCell (p := ⟨s, 0, none⟩) (.inr (.inl rfl)) _
        refine ⟨hc4, keeps_of_only _ hon5 (fun j hj => ?_), ⟨fun y hy hys => ?_, hon5.size⟩, hon.step hon5 (fun i hi h => ?_), H0.out, v', hc4.put v', ?_⟩
        · rcases hj with rfl | hj
          · exact ⟨_, _, _, hc⟩
          · exact (hvb j hj).2
        · refine hon5.block y (by omega) (fun hh => ?_)
          rcases hh with hh | hh
          · exact hys hh
          · have := (hvb y hh).1; omega
        · rcases h with h | h
          · exact h
          · have := (hvb i h).1; omega
        · rw [hsuc]
          have h6 := ho.kept (w' := W4.setCell ⟨s, 0, none⟩ v') (row := some s) ⟨rfl, rfl, rfl, (KeepsWalks.setCell W4 ⟨s, 0, none⟩ v').size, fun j hj hn => Below.heap_setCell _ _ _ _ (fun e => hn (by rw [e]))⟩ (by
            cases hv : v'.ownBlock with
            | none => exact .inl rfl
            | some g => exact .inr (fun e => by have := (ho.lt g hv).1; cases e; omega))
          exact h6
      have HOW : Hid ((W.alloc (boxO y)).ownsRow W0.heap.size 85 4 (.slice ap k cp) k (cellsL (firstK T k))) := hown.alloc _
      have hk9 : k ≤ 108 := by omega
      dsimp only
      rw [hy]
      obtain ⟨y0, y1, y2, y3⟩ := y
      unfold boxO at hfin HOW
      unfold C.cells at hfin
      unfold C.val
      dsimp only at hfin HOW x0 x1 x2 x3 hq hq2 ⊢
      have HFIN := Lib.hid hfin
      clear hon hc hown hsq hX hkz hsuc h0 h0' hy hfin HLI
      gi_wp2_with (gi_at_builtin; refine wpListIn_append_own _ rfl _ _ 37 rfl W0.heap.size 85 i0 (.agg #[.int .u64 0, .int .u64 0, .bool false, .string ⟨#[]⟩]) 4 40 Try.underlying37 hi hz0 hz1 hz2 rfl (by decide) (.slice ap k cp) k (cellsL (firstK T k)) rfl HOW.out ⟨W.heap.size, 0, none⟩ 1 1 [.int .u64 (y0 : Int), .int .u64 (y1 : Int), .bool y2, .string y3] rfl rfl (World.news_of_block (World.alloc_heap_new W _)) (by simp [Value.oneCell']) (by unfold maxLen; omega) (by omega) (by simp; omega) ?_; intro v' w5 hown' hgrow _; obtain ⟨hcc, hfi⟩ := HFIN.out _ _ hown' hgrow; have e4 := hcc.c; have f4 := hcc.f; obtain ⟨g', cap', rfl⟩ := ownsRow_succ hown'; have HFI := Lib.hid hfi; clear hown' hgrow hcc hfi)
      exact HFI.out
  case done =>
    rintro D W hD ⟨hon, h0, v, hc, hown⟩ hKD
    obtain ⟨k, hkk⟩ : ∃ k, 9 * T.length = k := ⟨_, rfl⟩
    rw [hkk] at h0 hown
    have hEnd : k = 9 * T.length ∨ (allK T k).cp = 0 := .inl hkk.symm
    have hkl : k ≤ 9 * T.length := by omega
    have hsz := hon.size
    have c4 := hc.c
    have hBwW : Below w.heap.size w W := hBW.trans (hon.below (by omega) (by rintro j rfl; exact hws))
    have hLM : Chs W v (firstK T k) := Chs.own (by rw [firstK_length]; exact hown)
    have hTW := HTX.out W hon
    have hEnc := fun W' (h : Below W.heap.size W W') => encode_any v (firstK T k) W' (hLM.below h)
    unfold EncPost at hEnc
    have hOnly : ∀ L, DecP T L → firstK T k = L := fun L hL => HSTOP.out L hL k hkl h0 hEnd
    have hKW : ∀ W', Below W.heap.size W W' → W'.cell? ⟨s, 0, none⟩ = some v ∧ W'.heap[D]? = some (.deferred (some [])) := fun W' h => ⟨(hc.th h).c, (h.block D (Array.getElem?_eq_some_iff.1 hKD).1).trans hKD⟩
    have hputL : ∀ W', Below W.heap.size W W' → Chs (W'.putObj D (.deferred none)) v (firstK T k) := fun W' h => (hLM.below h).keep fun g o k2 c2 e2 hk2 => World.putObj_heap_other (fun e => by
      subst e2
      obtain ⟨a9, c9, e9, _⟩ := hLM.parts
      cases e9
      obtain ⟨b9, o9, c99, e99, h9, _⟩ := hLM.at (k := 0) hk2
      cases e99
      rw [← e] at hKD
      simp only [World.cell?, hKD] at h9
      cases h9)
    have hputB : ∀ W', Below W.heap.size W W' → Below w.heap.size w (W'.putObj D (.deferred none)) := fun W' h => below_putObj (below_th hBwW h) D (by omega) _
    obtain ⟨va, vc, rfl, hv1, hv2⟩ := hLM.parts
    rw [firstK_length] at c4 hEnc hKW hputL hv1
    have HKW := Lib.hid hKW
    by_cases hr : RightP (firstK T k)
    · have hbl : encV (firstK T k) = blksK (firstK T k) (nBl (firstK T k).length) := if_pos hr
      rw [show encE (firstK T k) = 0 from if_pos hr] at hEnc
      have hEq := fun W' v1 (h : Below W.heap.size W W') (hx : Strs W' v1 (encV (firstK T k))) => equalS_any v1 _ (encV (firstK T k)) T W' hx (hTW.below h)
      by_cases he : encV (firstK T k) = T
      · have hYes : ∀ W', Below W.heap.size W W' → DecPost T w (.returned (.tuple #[.slice va k vc, .int .i64 0])) (W'.putObj D (.deferred none)) := fun W' h => decp_yes ⟨hr, he⟩ (hputL W' h) (hputB W' h)
        simp only [decide_eq_true he] at hEq
        have HPA := Lib.hid (fun W' v1 (hx : Strs W' v1 (encV (firstK T k))) => hx.parts)
        have HEN := Lib.hid hEnc
        have HEQ := Lib.hid hEq
        have HYS := Lib.hid hYes
        clear hEnc hEq hYes hon h0 hc hown hKD hsq hTW hLM hOnly hKW hputL hputB hr hbl he hEnd b0 b1 hBwW
        gi_wp2_with (first
          | (gi_at_call 20; refine (callsIn_wide.2 (HEN.out _ (Below.refl _ _))).mono ?_; rintro e w5 ⟨v5, rfl, hX5, hB5⟩; obtain ⟨x5, y5, rfl, _⟩ := HPA.out _ _ hX5; have hk5 := (HKW.out _ hB5).1)
          | (gi_at_call 54; refine (callsIn_wide.2 (HEQ.out _ _ hB5 hX5)).mono ?_; rintro e w6 ⟨rfl, hB6⟩; have hk6 := (HKW.out _ (below_th hB5 hB6)).1))
        refine ⟨by simp, .inl ⟨_, _, rfl, run_takeDeferred (HKW.out _ (below_th hB5 hB6)).2, ?_⟩⟩
        refine ⟨_, results_two rfl _ _, ?_⟩
        exact HYS.out _ (below_th hB5 hB6)
      · have hNo : ∀ W', Below W.heap.size W W' → DecPost T w (.returned (.tuple #[.slice none 0 0, .int .i64 90])) (W'.putObj D (.deferred none)) := fun W' h => decp_no (fun ⟨L, hL⟩ => he (by rw [hOnly L hL]; exact hL.2)) (hputB W' h)
        simp only [decide_eq_false he] at hEq
        have HPA := Lib.hid (fun W' v1 (hx : Strs W' v1 (encV (firstK T k))) => hx.parts)
        have HEN := Lib.hid hEnc
        have HEQ := Lib.hid hEq
        have HNO := Lib.hid hNo
        clear hEnc hEq hNo hon h0 hc hown hKD hsq hTW hLM hOnly hKW hputL hputB hr hbl he hEnd b0 b1 hBwW
        gi_wp2_with (first
          | (gi_at_call 20; refine (callsIn_wide.2 (HEN.out _ (Below.refl _ _))).mono ?_; rintro e w5 ⟨v5, rfl, hX5, hB5⟩; obtain ⟨x5, y5, rfl, _⟩ := HPA.out _ _ hX5)
          | (gi_at_call 54; refine (callsIn_wide.2 (HEQ.out _ _ hB5 hX5)).mono ?_; rintro e w6 ⟨rfl, hB6⟩))
        refine ⟨by simp, .inl ⟨_, _, rfl, run_takeDeferred (HKW.out _ (below_th hB5 hB6)).2, ?_⟩⟩
        refine ⟨_, results_two rfl _ _, ?_⟩
        exact HNO.out _ (below_th hB5 hB6)
    · have hNo : ∀ W', Below W.heap.size W W' → DecPost T w (.returned (.tuple #[.slice none 0 0, .int .i64 90])) (W'.putObj D (.deferred none)) := fun W' h => decp_no (fun ⟨L, hL⟩ => hr (by rw [hOnly L hL]; exact hL.1)) (hputB W' h)
      rw [show encE (firstK T k) = 90 from if_neg hr] at hEnc
      have HPA := Lib.hid (fun W' v1 (hx : Strs W' v1 (encV (firstK T k))) => hx.parts)
      have HEN := Lib.hid hEnc
      have HNO := Lib.hid hNo
      clear hEnc hNo hon h0 hc hown hKD hsq hTW hLM hOnly hKW hputL hputB hr hEnd b0 b1 hBwW
      gi_wp2_with (gi_at_call 20; refine (callsIn_wide.2 (HEN.out _ (Below.refl _ _))).mono ?_; rintro e w5 ⟨v5, rfl, hX5, hB5⟩; obtain ⟨x5, y5, rfl, _⟩ := HPA.out _ _ hX5)
      refine ⟨by simp, .inl ⟨_, _, rfl, run_takeDeferred (HKW.out _ hB5).2, ?_⟩⟩
      refine ⟨_, results_two rfl _ _, ?_⟩
      exact HNO.out _ hB5
  case stop =>
    rintro D c k W hD hk ⟨rfl, ⟨hon, h0, v, hc, hown⟩, hx⟩ hKD
    have hEnd : k = 9 * T.length ∨ (allK T k).cp = 0 := .inr hx
    have hkl : k ≤ 9 * T.length := by omega
    have hsz := hon.size
    have c4 := hc.c
    have hBwW : Below w.heap.size w W := hBW.trans (hon.below (by omega) (by rintro j rfl; exact hws))
    have hLM : Chs W v (firstK T k) := Chs.own (by rw [firstK_length]; exact hown)
    have hTW := HTX.out W hon
    have hEnc := fun W' (h : Below W.heap.size W W') => encode_any v (firstK T k) W' (hLM.below h)
    unfold EncPost at hEnc
    have hOnly : ∀ L, DecP T L → firstK T k = L := fun L hL => HSTOP.out L hL k hkl h0 hEnd
    have hKW : ∀ W', Below W.heap.size W W' → W'.cell? ⟨s, 0, none⟩ = some v ∧ W'.heap[D]? = some (.deferred (some [])) := fun W' h => ⟨(hc.th h).c, (h.block D (Array.getElem?_eq_some_iff.1 hKD).1).trans hKD⟩
    have hputL : ∀ W', Below W.heap.size W W' → Chs (W'.putObj D (.deferred none)) v (firstK T k) := fun W' h => (hLM.below h).keep fun g o k2 c2 e2 hk2 => World.putObj_heap_other (fun e => by
      subst e2
      obtain ⟨a9, c9, e9, _⟩ := hLM.parts
      cases e9
      obtain ⟨b9, o9, c99, e99, h9, _⟩ := hLM.at (k := 0) hk2
      cases e99
      rw [← e] at hKD
      simp only [World.cell?, hKD] at h9
      cases h9)
    have hputB : ∀ W', Below W.heap.size W W' → Below w.heap.size w (W'.putObj D (.deferred none)) := fun W' h => below_putObj (below_th hBwW h) D (by omega) _
    obtain ⟨va, vc, rfl, hv1, hv2⟩ := hLM.parts
    rw [firstK_length] at c4 hEnc hKW hputL hv1
    have HKW := Lib.hid hKW
    by_cases hr : RightP (firstK T k)
    · have hbl : encV (firstK T k) = blksK (firstK T k) (nBl (firstK T k).length) := if_pos hr
      rw [show encE (firstK T k) = 0 from if_pos hr] at hEnc
      have hEq := fun W' v1 (h : Below W.heap.size W W') (hx : Strs W' v1 (encV (firstK T k))) => equalS_any v1 _ (encV (firstK T k)) T W' hx (hTW.below h)
      by_cases he : encV (firstK T k) = T
      · have hYes : ∀ W', Below W.heap.size W W' → DecPost T w (.returned (.tuple #[.slice va k vc, .int .i64 0])) (W'.putObj D (.deferred none)) := fun W' h => decp_yes ⟨hr, he⟩ (hputL W' h) (hputB W' h)
        simp only [decide_eq_true he] at hEq
        have HPA := Lib.hid (fun W' v1 (hx : Strs W' v1 (encV (firstK T k))) => hx.parts)
        have HEN := Lib.hid hEnc
        have HEQ := Lib.hid hEq
        have HYS := Lib.hid hYes
        clear hEnc hEq hYes hon h0 hc hown hKD hsq hTW hLM hOnly hKW hputL hputB hr hbl he hEnd b0 b1 hBwW
        gi_wp2_with (first
          | (gi_at_call 20; refine (callsIn_wide.2 (HEN.out _ (Below.refl _ _))).mono ?_; rintro e w5 ⟨v5, rfl, hX5, hB5⟩; obtain ⟨x5, y5, rfl, _⟩ := HPA.out _ _ hX5; have hk5 := (HKW.out _ hB5).1)
          | (gi_at_call 54; refine (callsIn_wide.2 (HEQ.out _ _ hB5 hX5)).mono ?_; rintro e w6 ⟨rfl, hB6⟩; have hk6 := (HKW.out _ (below_th hB5 hB6)).1))
        refine ⟨by simp, .inl ⟨_, _, rfl, run_takeDeferred (HKW.out _ (below_th hB5 hB6)).2, ?_⟩⟩
        refine ⟨_, results_two rfl _ _, ?_⟩
        exact HYS.out _ (below_th hB5 hB6)
      · have hNo : ∀ W', Below W.heap.size W W' → DecPost T w (.returned (.tuple #[.slice none 0 0, .int .i64 90])) (W'.putObj D (.deferred none)) := fun W' h => decp_no (fun ⟨L, hL⟩ => he (by rw [hOnly L hL]; exact hL.2)) (hputB W' h)
        simp only [decide_eq_false he] at hEq
        have HPA := Lib.hid (fun W' v1 (hx : Strs W' v1 (encV (firstK T k))) => hx.parts)
        have HEN := Lib.hid hEnc
        have HEQ := Lib.hid hEq
        have HNO := Lib.hid hNo
        clear hEnc hEq hNo hon h0 hc hown hKD hsq hTW hLM hOnly hKW hputL hputB hr hbl he hEnd b0 b1 hBwW
        gi_wp2_with (first
          | (gi_at_call 20; refine (callsIn_wide.2 (HEN.out _ (Below.refl _ _))).mono ?_; rintro e w5 ⟨v5, rfl, hX5, hB5⟩; obtain ⟨x5, y5, rfl, _⟩ := HPA.out _ _ hX5)
          | (gi_at_call 54; refine (callsIn_wide.2 (HEQ.out _ _ hB5 hX5)).mono ?_; rintro e w6 ⟨rfl, hB6⟩))
        refine ⟨by simp, .inl ⟨_, _, rfl, run_takeDeferred (HKW.out _ (below_th hB5 hB6)).2, ?_⟩⟩
        refine ⟨_, results_two rfl _ _, ?_⟩
        exact HNO.out _ (below_th hB5 hB6)
    · have hNo : ∀ W', Below W.heap.size W W' → DecPost T w (.returned (.tuple #[.slice none 0 0, .int .i64 90])) (W'.putObj D (.deferred none)) := fun W' h => decp_no (fun ⟨L, hL⟩ => hr (by rw [hOnly L hL]; exact hL.1)) (hputB W' h)
      rw [show encE (firstK T k) = 90 from if_neg hr] at hEnc
      have HPA := Lib.hid (fun W' v1 (hx : Strs W' v1 (encV (firstK T k))) => hx.parts)
      have HEN := Lib.hid hEnc
      have HNO := Lib.hid hNo
      clear hEnc hNo hon h0 hc hown hKD hsq hTW hLM hOnly hKW hputL hputB hr hEnd b0 b1 hBwW
      gi_wp2_with (gi_at_call 20; refine (callsIn_wide.2 (HEN.out _ (Below.refl _ _))).mono ?_; rintro e w5 ⟨v5, rfl, hX5, hB5⟩; obtain ⟨x5, y5, rfl, _⟩ := HPA.out _ _ hX5)
      refine ⟨by simp, .inl ⟨_, _, rfl, run_takeDeferred (HKW.out _ hB5).2, ?_⟩⟩
      refine ⟨_, results_two rfl _ _, ?_⟩
      exact HNO.out _ hB5
theorem decode_any (v : Value) (T : List ByteArray) (w : World) (hT : Strs w v T) : Calls Try.prog 24 #[v] w (DecPost T w) := by
  by_cases h12 : T.length ≤ 12
  · by_cases h508 : All508 T
    · obtain ⟨a, cap, rfl, _⟩ := hT.parts
      exact callsIn_wide.1 (decode_in a T.length cap T w rfl hT h12 h508)
    · have HF : Hid (∀ W, Below w.heap.size w W → DecPost T w (.returned (.tuple #[.slice none 0 0, .int .i64 90])) W) := fun W h => decp_no (fun ⟨L, hL⟩ => h508 (by rw [← hL.2]; exact enc_sizes hL.1)) h
      have hC := containsS_any _ T w hT
      rw [show (!decide (All508 T)) = true by rw [decide_eq_false h508]; rfl] at hC
      obtain ⟨a, cap, rfl, hn, hm⟩ := hT.parts
      obtain ⟨N, hN⟩ : ∃ N, T.length = N := ⟨_, rfl⟩
      rw [hN] at hC hn h12 ⊢
      have g12 : decide ((12 : Int) < (N : Int)) = false := decide_eq_false (by omega)
      have HC := Lib.hid hC
      clear hC hT h508 hN
      go_enter Try.func24, Try.ntmps24
      go_wp2
      apply wp_scope_straight
      go_wp2_with (go_at_call 55; (with_reducible refine Calls.mono HC.out ?_); rintro e w1 ⟨rfl, hB1⟩)
      go_returns
      exact HF.out _ hB1
  · have HF : Hid (∀ W, Below w.heap.size w W → DecPost T w (.returned (.tuple #[.slice none 0 0, .int .i64 90])) W) := fun W h => decp_no (fun ⟨L, hL⟩ => h12 (by rw [← hL.2, enc_length hL.1]; have := hL.1.1; unfold nBl; omega)) h
    obtain ⟨a, cap, rfl, hn, hm⟩ := hT.parts
    obtain ⟨N, hN⟩ : ∃ N, T.length = N := ⟨_, rfl⟩
    rw [hN] at hn h12 ⊢
    have g12 : decide ((12 : Int) < (N : Int)) = true := decide_eq_true (by omega)
    clear hT h12 hN
    go_enter Try.func24, Try.ntmps24
    go_wp2
    apply wp_scope_straight
    go_wp2
    go_returns
    exact HF.out _ (Below.refl _ _)
end
end Go.Proofs.Ytdniakoedgohkaa.Cps
/- The library's Collect, of all places that blocks have room for. -/
namespace Go.Proofs.Ytdniakoedgohkaa.Dat
open Go.RowKit Go.Shelf
open Cps (KeptX keptX_t keptX_b)
attribute [local go_sem] Oper.semAt_some
set_option linter.unusedVariables false
set_option linter.unusedSimpArgs false
theorem cellsL_snoc (L : List T) (s : T) : cellsL (L ++ [s]) = cellsL L ++ s.cells := by
  unfold cellsL
  rw [List.flatMap_append]
  simp
/-- what has been gathered behind k rounds -/
def ColI (W0 : World) (TS : List ByteArray) (s : Nat) (k : Nat) (W : World) : Prop :=
  Only (fun i => i = s) W0 W ∧ ∃ v, CellAt W s 36 v ∧ W.ownsRow W0.heap.size 79 3 v k (cellsL (plT TS k))
theorem colI_own {W0 : World} {TS : List ByteArray} {s : Nat} : OwnFrom W0.heap.size (ColI W0 TS s) := fun k W W' row hI hg hr => by
  obtain ⟨h1, v, h2, h3⟩ := hI
  refine ⟨h1.grown hg (fun r e => .inl (hr r e).1), v, kept_cells h2 hg hr, h3.kept hg ?_⟩
  cases hv : v.ownBlock with
  | none => exact .inl rfl
  | some g =>
    right
    intro e
    obtain ⟨_, o, ho, hc⟩ := hr g e.symm
    rcases h3.2 with ⟨e1, _⟩ | ⟨g2, cap, cur, e1, _, hgg, _⟩
    · rw [e1] at hv; cases hv
    · rw [e1] at hv
      have e2 : g2 = g := by simpa [Value.ownBlock] using hv
      rw [e2, ho] at hgg
      cases hgg
      cases hc
def ColA (tmps : Nat → Nat → Array Value) (W0 : World) (TS : List ByteArray) (k : Nat) (a' : Act) (W : World) : Prop :=
  ∃ Bx, W0.heap.size ≤ Bx ∧ At W Bx (allT TS k) ∧ a' = { tmps := tmps k Bx, defers := [] }
theorem colA_own {tmps : Nat → Nat → Array Value} {W0 : World} {TS : List ByteArray} {B : Nat} (k : Nat) (a' : Act) : OwnFrom B (fun (_ : Unit) W => ColA tmps W0 TS k a' W) := fun _ W W' row hI hg hr => by
  obtain ⟨Bx, h1, h2, h3⟩ := hI
  exact ⟨Bx, h1, kept_cells h2 hg hr, h3⟩
def ColPost (TS : List ByteArray) (w : World) (e : Ending) (w' : World) : Prop := ∃ v, e = .returned v ∧ Trs w' v (plT TS (31 * TS.length)) ∧ Below w.heap.size w w'
section
set_option maxRecDepth 100000
set_option maxHeartbeats 8000000
theorem appendSeq_in (a : Option Addr) (N cap : Nat) (TS : List ByteArray) (Bx : Nat) (w : World) (hN : TS.length = N) (hT : Strs w (.slice a N cap) TS) (hbx : CellAt w Bx 42 (.slice a N cap)) (h60 : N ≤ 60) (h508 : ∀ b ∈ TS, b.size = 508) :
    CallsIn Fence.wide 7 Try.prog 79 #[.slice none 0 0, .func (.func 80) #[] #[.pointer (some ⟨Bx, 0, none⟩)]] w (ColPost TS w) := by
  have hfn : ∀ f, Fence.wide.fn f := fun _ => trivial
  obtain ⟨i0, hi, hz0, hz1, hz2⟩ := info_parts infoTr
  refine callsIn_of_wp_marks Try.func79 rfl trivial ?_ rfl
  simp only [Try.ntmps79, List.size_toArray, List.length_cons, List.length_nil, Nat.reduceAdd, Nat.reduceSub, Array.replicate_succ, Array.replicate_zero, List.push_toArray, List.append_toArray, List.nil_append, List.cons_append]
  gi_wp2
  obtain ⟨s, hs⟩ : ∃ s, w.heap.size = s := ⟨_, rfl⟩
  obtain ⟨W0, hW0⟩ : ∃ W0, w.alloc (.cells #[.slice none 0 0] 36) = W0 := ⟨_, rfl⟩
  have hs0 : W0.heap.size = s + 1 := by rw [← hW0, ← hs]; exact World.size_alloc ..
  have hBW : Below w.heap.size w W0 := by rw [← hW0]; exact below_new _ _
  have b0 : CellAt W0 s 36 (.slice none 0 0) := by rw [← hW0, ← hs]; exact World.alloc_heap_new w _
  have b1 : CellAt W0 Bx 42 (.slice a N cap) := hbx.th hBW
  have hbs : Bx < s := by rw [← hs]; exact hbx.lt
  rw [hW0]
  rw [hs]
  have hT0 := hT.below hBW
  have hTk : ∀ W', KeptX s s W0 W' → Strs W' (.slice a N cap) TS := fun W' hk => Cps.Strs.keep (W := W0) hT0 fun g o k c e hk0 => by
    cases e
    have hg := Cps.Strs.lt hT hk0
    exact hk.1 g (by omega) (by omega)
  have hsq : SeqSteps Fence.wide 6 Try.prog 80 #[.pointer (some ⟨Bx, 0, none⟩)] (encA TS) (KeptX s s) (31 * TS.length) W0 := by
    intro l J Jx W' hB hJ _ hY h0
    exact places1_in 6 (by decide) l Bx _ TS W0 (KeptX s s) (by omega) h508 J Jx _ hJ keptX_t (fun A B hA hB => hA.trans (KeptX.below hB (by have := hA.2; omega))) hY W' (KeptX.below hB (by omega)) (b1.th hB).c hTk h0
  have hlk : 31 * TS.length ≤ 1860 := by omega
  clear hW0 hT hT0 hTk hbx b1
  refine wpIn_rangeFunc_steps rfl (by decide) (gf := 80) (lb := #[.pointer (some ⟨Bx, 0, none⟩)]) rfl trivial (enters_of Try.func80 (by kernel_rfl) rfl)
    hsq keptX_t (keptX_b (by omega)) (Below.refl _ _) (fun _ => rfl)
    (ColI W0 TS s) (fun c k W => False) colI_own (fun c k W W' row hI hg hr => hI) ⟨Only.refl _ _, _, b0, World.ownsRow_nil _ _ _ _⟩
    (ColA (fun k B5 => #[.slice none 0 0, .func (.func 80) #[] #[.pointer (some ⟨Bx, 0, none⟩)], .pointer (some ⟨s, 0, none⟩), undef, .slice none 0 0, .pointer (some ⟨B5, 0, none⟩), .func (.func 80) #[] #[.pointer (some ⟨Bx, 0, none⟩)], (allT TS k).val, undef, undef, undef, undef, undef]) W0 TS) (fun k a' => colA_own k a') ?assign ?body ?done ?stop
  case assign =>
    intro l k W K hI hk hK
    have hz : W0.heap.size ≤ W.heap.size := hI.1.size
    have HK := Lib.hid (hK _ _ ((KeepsOthers.alloc W _).from _) (KeptX.below (below_new W _) (by omega)) (colI_own _ _ _ none hI (World.grownBy_alloc W _ _) (fun r e => by cases e)) ⟨W.heap.size, hz, At.new W (allT TS k), rfl⟩)
    unfold encA
    clear hK hI hsq
    dsimp only at HK
    unfold boxO T.val at HK
    unfold T.val
    dsimp only at HK ⊢
    generalize allT TS k = y at HK ⊢
    obtain ⟨y0, y1, y2⟩ := y
    dsimp only at HK ⊢
    gi_wp2
    exact HK.out
  case body =>
    rintro l k a' W hl hrec ⟨hon, v, hc, hown⟩ ⟨B5, hB5, hX, rfl⟩ hk
    have hsz := hon.size
    obtain ⟨ap, cp, rfl, HLI, hcp1, hcp2⟩ := lies_own hown
    have c4 := hc.c
    obtain ⟨x0, x1, x2⟩ := hX.c
    have hsuc : cellsL (plT TS (k + 1)) = cellsL (plT TS k) ++ (allT TS k).cells := by rw [plT_succ, cellsL_snoc]
    obtain ⟨y, hy⟩ : ∃ y, allT TS k = y := ⟨_, rfl⟩
    rw [hy] at x0 x1 x2 hsuc
    have hfin : ∀ v' W4, W4.ownsRow W0.heap.size 79 3 v' (k + 1) (cellsL (plT TS k) ++ y.cells) → (W.alloc (boxO y)).grownBy W4 (Value.slice ap k cp).ownBlock → CellAt W4 s 36 (Value.slice ap k cp) ∧ (KeepsFrom W0.heap.size W (W4.setCell ⟨s, 0, none⟩ v') ∧ KeptX s s W (W4.setCell ⟨s, 0, none⟩ v') ∧ ColI W0 TS s (k + 1) (W4.setCell ⟨s, 0, none⟩ v')) := fun v' W4 ho hg => by
      have hvb : ∀ r, (Value.slice ap k cp).ownBlock = some r → W0.heap.size ≤ r ∧ ∃ c t f, W.heap[r]? = some (.cells c t f) := fun r e => by
        rcases hown.2 with ⟨e1, _⟩ | ⟨g2, cap2, cur, e1, hb2, hgg, _⟩
        · rw [e1] at e; cases e
        · rw [e1] at e
          have e2 : g2 = r := by simpa [Value.ownBlock] using e
          rw [← e2]
          exact ⟨hb2, _, _, _, hgg⟩
      have hon2 : Only (fun i => i = s ∨ (Value.slice ap k cp).ownBlock = some i) W W4 := ((Only.refl _ W).alloc (boxO y)).grown hg (fun r e => .inr (.inr e))
      have hne : ∀ r, (Value.slice ap k cp).ownBlock = some r → ¬ s = r := fun r e => by have := (hvb r e).1; omega
      have hc4 : CellAt W4 s 36 (Value.slice ap k cp) := by
        have h3 : CellAt (W.alloc (boxO y)) s 36 (Value.slice ap k cp) := hc.of_heap (Below.heap_alloc _ _ _ hc.lt)
        exact h3.of_heap (hg.block s h3.lt (fun e => hne s e.symm rfl))
      have hon5 : Only (fun i => i = s ∨ (Value.slice ap k cp).ownBlock = some i) W (W4.setCell ⟨s, 0, none⟩ v') := hon2.setCell (p := ⟨s, 0, none⟩) (.inr (.inl rfl)) _
      refine ⟨hc4, keeps_of_only _ hon5 (fun j hj => ?_), ⟨fun y hy hys => ?_, hon5.size⟩, hon.step hon5 (fun i hi h => ?_), v', hc4.put v', ?_⟩
      · rcases hj with rfl | hj
        · exact ⟨_, _, _, hc⟩
        · exact (hvb j hj).2
      · refine hon5.block y (by omega) (fun hh => ?_)
        rcases hh with hh | hh
        · exact hys hh
        · have := (hvb y hh).1; omega
      · rcases h with h | h
        · exact h
        · have := (hvb i h).1; omega
      · rw [hsuc]
        have h6 := ho.kept (w' := W4.setCell ⟨s, 0, none⟩ v') (row := some s) ⟨rfl, rfl, rfl, (KeepsWalks.setCell W4 ⟨s, 0, none⟩ v').size, fun j hj hn => Below.heap_setCell _ _ _ _ (fun e => hn (by rw [e]))⟩ (by
          cases hv : v'.ownBlock with
          | none => exact .inl rfl
          | some g => exact .inr (fun e => by have := (ho.lt g hv).1; cases e; omega))
        exact h6
    have HOW : Hid ((W.alloc (boxO y)).ownsRow W0.heap.size 79 3 (.slice ap k cp) k (cellsL (plT TS k))) := hown.alloc _
    have hk9 : k ≤ 1860 := by omega
    dsimp only
    rw [hy]
    obtain ⟨y0, y1, y2⟩ := y
    unfold boxO at hfin HOW
    unfold T.cells at hfin
    unfold T.val
    dsimp only at hfin HOW x0 x1 x2 ⊢
    have HFIN := Lib.hid hfin
    clear hon hc hown hsq hX hsuc hy hfin HLI
    gi_wp2_with (gi_at_builtin; refine wpListIn_append_own _ rfl _ _ 36 rfl W0.heap.size 79 i0 (.agg #[.int .u32 0, .int .u64 0, .int .u64 0]) 3 24 Try.underlying36 hi hz0 hz1 hz2 rfl (by decide) (.slice ap k cp) k (cellsL (plT TS k)) rfl HOW.out ⟨W.heap.size, 0, none⟩ 1 1 [.int .u32 (y0 : Int), .int .u64 (y1 : Int), .int .u64 (y2 : Int)] rfl rfl (World.news_of_block (World.alloc_heap_new W _)) (by simp [Value.oneCell']) (by unfold maxLen; omega) (by omega) (by simp; omega) ?_; intro v' w5 hown' hgrow _; obtain ⟨hcc, hfi⟩ := HFIN.out _ _ hown' hgrow; have e4 := hcc.c; have f4 := hcc.f; obtain ⟨g', cap', rfl⟩ := ownsRow_succ hown'; have HFI := Lib.hid hfi; clear hown' hgrow hcc hfi)
    exact HFI.out
  case done =>
    rintro D W hD ⟨hon, v, hc, hown⟩ hKD
    have hsz := hon.size
    have c4 := hc.c
    have hBwW : Below s w W := (hs ▸ hBW : Below s w W0).trans (hon.below (by omega) (by rintro j rfl; exact Nat.le_refl _))
    obtain ⟨M, hM⟩ : ∃ M, plT TS (31 * TS.length) = M := ⟨_, rfl⟩
    have hLM : Trs W v (plT TS (31 * TS.length)) := Trs.own (by rw [plT_length]; exact hown)
    have hput : Trs (W.putObj D (.deferred none)) v (plT TS (31 * TS.length)) := hLM.keep fun g o k2 c2 e2 hk2 => World.putObj_heap_other (fun e => by
      subst e2
      obtain ⟨a9, c9, e9, _⟩ := hLM.parts
      cases e9
      obtain ⟨b9, o9, c99, e99, h9, _⟩ := hLM.at (k := 0) hk2
      cases e99
      rw [← e] at hKD
      simp only [World.cell?, hKD] at h9
      cases h9)
    have HP : Hid (ColPost TS w (.returned v) (W.putObj D (.deferred none))) := ⟨v, rfl, hput, below_putObj (by rw [hs]; exact hBwW) D (by omega) _⟩
    have HKD := Lib.hid hKD
    clear hon hc hown hsq hLM hput hKD b0 hBwW
    gi_wp2
    refine ⟨by simp, .inl ⟨_, _, rfl, run_takeDeferred HKD.out, ?_⟩⟩
    refine ⟨_, results_tmp1 rfl _ _, ?_⟩
    exact HP.out
  case stop =>
    rintro D c k W hD hk hf
    exact hf.elim
theorem collect_in (a : Option Addr) (N cap : Nat) (TS : List ByteArray) (Bx : Nat) (w : World) (hN : TS.length = N) (hT : Strs w (.slice a N cap) TS) (hbx : CellAt w Bx 42 (.slice a N cap)) (h60 : N ≤ 60) (h508 : ∀ b ∈ TS, b.size = 508) :
    CallsIn Fence.wide 8 Try.prog 52 #[.func (.func 80) #[] #[.pointer (some ⟨Bx, 0, none⟩)]] w (ColPost TS w) := by
  have hfn : ∀ f, Fence.wide.fn f := fun _ => trivial
  have HA := Lib.hid (appendSeq_in a N cap TS Bx w hN hT hbx h60 h508)
  refine callsIn_of_wp Try.func52 rfl trivial ?_ rfl
  simp only [Try.ntmps52, List.size_toArray, List.length_cons, List.length_nil, Nat.reduceAdd, Nat.reduceSub, Array.replicate_succ, Array.replicate_zero, List.push_toArray, List.append_toArray, List.nil_append, List.cons_append]
  gi_wp2_with (gi_at_call 79; refine (HA.out).mono ?_; rintro e w1 ⟨v, rfl, hv, hB⟩; have HV := Lib.hid (And.intro hv hB); clear hv hB)
  refine bodyPost_ret (results_tmp1 rfl _ _) rfl ?_
  exact ⟨v, rfl, HV.out.1, HV.out.2⟩
end
end Go.Proofs.Ytdniakoedgohkaa.Dat
