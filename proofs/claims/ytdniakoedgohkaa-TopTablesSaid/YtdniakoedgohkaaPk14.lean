/- Several texts in one, each under its own heading. -/
import Derived.Test.YtdniakoedgohkaaPk13
import Derived.Test.YtdniakoedgohkaaPk09
/- A block of the table, of the program. -/
namespace Go.Proofs.Ytdniakoedgohkaa.Cps
open Go.RowKit Go.Shelf
attribute [local go_sem] Oper.semAt_some
set_option linter.unusedVariables false
set_option linter.unusedSimpArgs false

section
set_option maxRecDepth 100000
set_option maxHeartbeats 4000000
theorem dput_any (n : Nat) (k : Nat) (w : World) (hn : n < 256 ^ k) (h1 : 1 ≤ k) (h2 : k ≤ 8) : Calls Try.prog 74 #[.int .u64 n, .int .i64 k] w fun e w' => e = .returned (.string (numB n k)) ∧ Below w.heap.size w w' := by
  have hok : putOk n k := ⟨by omega, by omega, by simpa using hn⟩
  have hp := put_any n k w (Nat.lt_of_lt_of_le hn (Nat.pow_le_pow_right (by decide) h2))
  rw [putS_yes hok, putE_yes hok, Int.toNat_natCast] at hp
  clear hok hn
  go_enter Try.func74, Try.ntmps74
  go_wp2_with (go_at_call 59; refine hp.mono ?_; rintro e w' ⟨rfl, hB⟩)
  go_ret
  exact ⟨rfl, hB⟩
theorem dtake_any (s : ByteArray) (a k : Nat) (w : World) (hs : s.size ≤ 281474976710656) (h1 : 1 ≤ k) (h2 : k ≤ 8) (hk : a + k ≤ s.size) : Calls Try.prog 101 #[.string s, .int .i64 a, .int .i64 k] w fun e w' => e = .returned (.int .u64 (takeN s a k)) ∧ Below w.heap.size w w' := by
  have hok : takeOk s a k := ⟨by omega, by omega, by omega, by omega⟩
  have hp := take_any s a k w hs (by omega)
  rw [takeV_yes hok, takeE_yes hok, Int.toNat_natCast, Int.toNat_natCast] at hp
  clear hok
  go_enter Try.func101, Try.ntmps101
  go_wp2_with (go_at_call 61; refine hp.mono ?_; rintro e w' ⟨rfl, hB⟩)
  go_ret
  exact ⟨rfl, hB⟩
theorem flagOf_any (c : C) (w : World) : Calls Try.prog 75 #[c.val] w fun e w' => e = .returned (.int .u64 (flagN c)) ∧ Below w.heap.size w w' := by
  have HB := below_new w (boxO c)
  obtain ⟨n, ti, sn, ro⟩ := c
  unfold C.val
  unfold boxO at HB
  dsimp only at HB ⊢
  cases sn with
  | true =>
    go_enter Try.func75, Try.ntmps75
    go_wp2
    go_ret
    exact ⟨rfl, HB⟩
  | false =>
    go_enter Try.func75, Try.ntmps75
    go_wp2
    go_ret
    exact ⟨rfl, HB⟩
theorem blockOf_any (v : Value) (M : List C) (w : World) (hL : Chs w v M) (h9 : M.length ≤ 9) (hf : ∀ i, i < M.length → fineP (ck M i)) : Calls Try.prog 50 #[v] w (Ans w (.string (blkB M))) := by
  obtain ⟨a, cap, rfl, hn, hm⟩ := hL.parts
  have HL := Lib.hid hL
  obtain ⟨N, hN⟩ : ∃ N, M.length = N := ⟨_, rfl⟩
  have hsz : ∀ k, k ≤ N → (saidK M k).size = 55 * k := fun k hk => saidK_size k (fun j hj => (hf j (by omega)).2.2)
  have hszN := hsz N (Nat.le_refl _)
  have hfo : fitOk (saidK M N) 508 := by
    unfold fitOk
    omega
  have hfit := fun W => fit_any (saidK M N) 508 W (by rw [hszN]; omega)
  rw [fitS_yes hfo, fitE_yes hfo] at hfit
  have hbl : blkB M = saidK M N ++ zeros ((508 : Int).toNat - (saidK M N).size) := by unfold blkB; rw [hN, hszN]; rfl
  rw [← hbl] at hfit
  have HF := Lib.hid hfit
  have HSZ := Lib.hid hsz
  have HSU := Lib.hid (fun k => show saidK M (k + 1) = saidK M k ++ chB (ck M k) from rfl)
  have HFT := Lib.hid hf
  obtain ⟨x, hx⟩ : ∃ x, blkB M = x := ⟨_, rfl⟩
  obtain ⟨sk, hsk⟩ : ∃ sk, saidK M = sk := ⟨_, rfl⟩
  have hsk0 : Hid (sk 0 = (⟨#[]⟩ : ByteArray)) := by rw [← hsk]; rfl
  rw [hx] at HF ⊢
  rw [hsk] at HF
  simp only [hsk] at HSZ HSU
  rw [hN] at HL hn h9 HFT ⊢
  have HN := Lib.hid hN
  clear hL hf hfo hfit hbl hx hsk hN hsz hszN
  obtain ⟨W0, rfl⟩ : ∃ W0 : World, W0 = w := ⟨_, rfl⟩
  go_enter Try.func50, Try.ntmps50
  go_wp2
  go_loopw [3, 5, 10] (fun t _ i wr => ∃ k : Nat, k ≤ N ∧ i = .int .i64 (k : Int) ∧ t = .string (sk k) ∧ Below W0.heap.size W0 wr) (fun _ _ i _ => N - (intOf i).toNat)
  case atStart => exact ⟨0, by omega, rfl, by rw [hsk0.out], Below.refl _ _⟩
  case round =>
    obtain ⟨k, hk, rfl, rfl, hB⟩ := hrel
    have hskz := HSZ.out k hk
    by_cases hlt : k < N
    · obtain ⟨b, off, cap2, e2, c0, c1, c2, c3⟩ := ((HL.out).below hB).at (k := k) (by rw [HN.out]; exact hlt)
      rw [HN.out] at e2
      cases e2
      obtain ⟨o1, o2, o3⟩ := HFT.out k hlt
      have hS := HSU.out k
      unfold chB at hS
      obtain ⟨st, hst⟩ : ∃ st, sk k = st := ⟨_, rfl⟩
      obtain ⟨q, hq⟩ : ∃ q, sk (k + 1) = q := ⟨_, rfl⟩
      rw [hst, hq] at hS
      rw [hst] at hskz
      have hfl := flagN_lt (ck M k)
      have hfo := fun W => flagOf_any (ck M k) W
      obtain ⟨fl, hfle⟩ : ∃ fl, flagN (ck M k) = fl := ⟨_, rfl⟩
      rw [hfle] at hS hfl hfo
      obtain ⟨W2, hW2⟩ : ∃ W2, wr.alloc (boxO (ck M k)) = W2 := ⟨_, rfl⟩
      have hA : At W2 wr.heap.size (ck M k) := by rw [← hW2]; exact At.new wr _
      have hB2 : Below W0.heap.size W0 W2 := by rw [← hW2]; exact below_al hB _
      obtain ⟨y, hy⟩ : ∃ y, ck M k = y := ⟨_, rfl⟩
      rw [hy] at c0 c1 c2 c3 hS hA hW2 o1 o2 o3 hfo
      obtain ⟨ncp, ti, sn, ro⟩ := y
      unfold boxO at hW2
      unfold C.val at hfo
      dsimp only at c0 c1 c2 c3 hS hW2 o1 o2 o3 hfo
      have P1 := Lib.hid (fun W => dput_any ncp 6 W (by omega) (by omega) (by omega))
      have P2 := Lib.hid (fun W => dput_any ti 6 W (by omega) (by omega) (by omega))
      have P3 := Lib.hid (fun W => dput_any fl 1 W (by omega) (by omega) (by omega))
      have P4 := Lib.hid hfo
      obtain ⟨C1, hC1⟩ : ∃ x, numB ncp 6 = x := ⟨_, rfl⟩
      obtain ⟨C2, hC2⟩ : ∃ x, numB ti 6 = x := ⟨_, rfl⟩
      obtain ⟨C3, hC3⟩ : ∃ x, numB fl 1 = x := ⟨_, rfl⟩
      have z1 : C1.size = 6 := by rw [← hC1, numB_size]
      have z2 : C2.size = 6 := by rw [← hC2, numB_size]
      have z3 : C3.size = 1 := by rw [← hC3, numB_size]
      simp only [hC1, hC2, hC3] at P1 P2 P3 hS
      have HCE : Hid (∀ W, Below W2.heap.size W2 W → W.cell? ⟨wr.heap.size, 0, none⟩ = some (.int .u64 (ncp : Int)) ∧ W.cell? ⟨wr.heap.size, 1, none⟩ = some (.int .u64 (ti : Int)) ∧ W.cell? ⟨wr.heap.size, 2, none⟩ = some (.bool sn) ∧ W.cell? ⟨wr.heap.size, 3, none⟩ = some (.string ro)) := fun W hW => (hA.th hW).c
      have HSS := Lib.hid hS
      have HQ := Lib.hid hq
      have HB2 := Lib.hid hB2
      have hself : Below W2.heap.size W2 W2 := Below.refl _ _
      have hself2 : Below W2.heap.size W2 W2.drew := hself.drew
      have hadd1 := fun W => run_string_add_sum (P := Try.prog) (w := W) C1 C2 (by omega)
      have hadd2 := fun W => run_string_add_sum (P := Try.prog) (w := W) (C1 ++ C2) C3 (by simp only [ByteArray.size_append]; omega)
      have hadd3 := fun W => run_string_add_sum (P := Try.prog) (w := W) (C1 ++ C2 ++ C3) ro (by simp only [ByteArray.size_append]; omega)
      have hadd4 := fun W => run_string_add_sum (P := Try.prog) (w := W) st (C1 ++ C2 ++ C3 ++ ro) (by simp only [ByteArray.size_append]; omega)
      clear hC1 hC2 hC3 hS hq hA hB2 hy hB hfo hfle
      go_wp2
      go_region_held3 (fun w' => (w'.cell? ⟨wr.heap.size, 0, none⟩ = some (.int .u64 (ncp : Int)) ∧ w'.cell? ⟨wr.heap.size, 1, none⟩ = some (.int .u64 (ti : Int)) ∧ w'.cell? ⟨wr.heap.size, 2, none⟩ = some (.bool sn) ∧ w'.cell? ⟨wr.heap.size, 3, none⟩ = some (.string ro))) (exact HCE.out _ (by assumption)) (first
        | (go_at_call 74; with_reducible refine Calls.mono (P1.out _) ?_; rintro e w' ⟨rfl, hBn⟩; have := below_th (by assumption : Below W2.heap.size W2 _) hBn)
        | (go_at_call 74; with_reducible refine Calls.mono (P2.out _) ?_; rintro e w' ⟨rfl, hBn⟩; have := below_th (by assumption : Below W2.heap.size W2 _) hBn)
        | (go_at_call 75; with_reducible refine Calls.mono (P4.out _) ?_; rintro e w' ⟨rfl, hBn⟩; have := below_th (by assumption : Below W2.heap.size W2 _) hBn)
        | (go_at_call 74; with_reducible refine Calls.mono (P3.out _) ?_; rintro e w' ⟨rfl, hBn⟩; have := below_th (by assumption : Below W2.heap.size W2 _) hBn))
      have HBZ2 := Lib.hid (below_th HB2.out (by assumption : Below W2.heap.size W2 _))
      go_wp2
      go_roundw
      case rel => exact ⟨k + 1, by omega, by go_num, by rw [HQ.out, HSS.out], HBZ2.out⟩
      case measure => simp [intOf]; omega
    · obtain rfl : N = k := by omega
      go_wp2_with (go_at_call 30; refine (HF.out _).mono ?_; rintro e w' ⟨rfl, hBf⟩)
      go_ret
      exact ⟨rfl, below_th hB hBf⟩
end
end Go.Proofs.Ytdniakoedgohkaa.Cps
/- Encode of the program. -/
namespace Go.Proofs.Ytdniakoedgohkaa.Cps
open Go.RowKit Go.Shelf
attribute [local go_sem] Oper.semAt_some
set_option linter.unusedVariables false
set_option linter.unusedSimpArgs false

/-- texts -/
def Strs (w : World) (v : Value) (C : List ByteArray) : Prop := Lies w v C.length 1 (C.map .string)
theorem Strs.below {w w' : World} {v : Value} {C : List ByteArray} (h : Strs w v C) (hB : Below w.heap.size w w') : Strs w' v C := Lies.below h hB
theorem Strs.nil (w : World) : Strs w (.slice none 0 0) [] := Lies.nil w 1
def EncPost (L : List C) (w : World) (e : Ending) (w' : World) : Prop := ∃ v, e = .returned (.tuple #[v, .int .i64 (encE L)]) ∧ Strs w' v (encV L) ∧ Below w.heap.size w w'
theorem infoStr : (Try.prog.info? 9).map (fun i => (i.zero, i.size, i.bytes)) = some (some (.string ⟨#[]⟩), 1, 16) := by kernel_rfl
theorem results_two {fn : Func} {r t : Tmp} (h : fn.results = #[.tmp r, .tmp t]) (tmps : Array Value) (w : World) : (results fn tmps).run Try.prog w = .ok (.tuple #[tmps.getD r undef, tmps.getD t undef]) w := by
  simp [results, h, go_sem]
/-- a piece of a table -/
theorem Chs.piece {w : World} {b off N cap : Nat} {L : List C} (hN : L.length = N) (h : Chs w (.slice (some ⟨b, off, none⟩) N cap) L) (k : Nat) (hk : 9 * k < N) : Chs w (.slice (some ⟨b, off + 9 * k * 4, none⟩) (chN N k) (chN N k)) (chunk L k) := by
  subst hN
  have hm := chunk_length L k
  have hmN : (chunk L k).length = chN L.length k := hm
  have hcap : L.length ≤ maxLen := by
    obtain ⟨a1, c1, e, g1, ⟨g2, _⟩, _⟩ := h
    cases e
    omega
  refine ⟨_, chN L.length k, by rw [hmN], by rw [hmN]; exact Nat.le_refl _, ⟨by unfold chN; omega, fun e => by cases e⟩, flat_length C.cells 4 _ (fun _ _ => rfl), fun hp => ⟨b, off + 9 * k * 4, rfl, fun j u hj => ?_⟩⟩
  have hjl := (List.getElem?_eq_some_iff.1 hj).1
  rw [flat_length C.cells 4 _ (fun _ _ => rfl), hm] at hjl
  obtain ⟨p, r, hr, rfl⟩ : ∃ p r, r < 4 ∧ j = p * 4 + r := ⟨j / 4, j % 4, Nat.mod_lt _ (by decide), by omega⟩
  have hp9 : p < 9 := by omega
  have hpl : 9 * k + p < L.length := by omega
  have h1 := flat_at C.cells 4 (chunk L k) (fun _ _ => rfl) p r (ck (chunk L k) p) (ck_get (by rw [hm]; omega)) hr
  rw [h1, ck_chunk L k hp9] at hj
  obtain ⟨a1, c1, e, _, _, _, h5⟩ := h
  cases e
  obtain ⟨b2, o2, e2, hc⟩ := h5 (by omega)
  cases e2
  have h2 := hc ((9 * k + p) * 4 + r) u (by rw [flat_at C.cells 4 L (fun _ _ => rfl) (9 * k + p) r (ck L (9 * k + p)) (ck_get hpl) hr]; exact hj)
  rw [show off + 9 * k * 4 + (p * 4 + r) = off + ((9 * k + p) * 4 + r) by omega]
  exact h2
def ActA (tmps : Nat → Array Value) (k : Nat) (a' : Act) (W : World) : Prop := a' = { tmps := tmps k, defers := [] }
theorem actA_own {tmps : Nat → Array Value} {B : Nat} (k : Nat) (a' : Act) : OwnFrom B (fun (_ : Unit) W => ActA tmps k a' W) := fun _ W W' row hI hg hr => hI
/-- what has been encoded behind k pieces -/
def EncI (W0 : World) (L : List C) (s : Nat) (k : Nat) (W : World) : Prop :=
  Only (fun i => i = s) W0 W ∧ ∃ v, CellAt W s 42 v ∧ W.ownsRow W0.heap.size 9 1 v k ((blksK L k).map .string)
theorem encI_own {W0 : World} {L : List C} {s : Nat} : OwnFrom W0.heap.size (EncI W0 L s) := fun k W W' row hI hg hr => by
  obtain ⟨h1, v, h2, h3⟩ := hI
  refine ⟨h1.grown hg (fun r e => .inl (hr r e).1), v, kept_cells h2 hg hr, h3.kept hg ?_⟩
  cases hv : v.ownBlock with
  | none => exact .inl rfl
  | some g =>
    right
    intro e
    obtain ⟨_, o, ho, hc⟩ := hr g e.symm
    rcases h3.2 with ⟨e1, _⟩ | ⟨g2, cap, cur, e1, _, hgg, _⟩
    · rw [e1] at hv; cases hv
    · rw [e1] at hv
      have e2 : g2 = g := by simpa [Value.ownBlock] using hv
      rw [e2, ho] at hgg
      cases hgg
      cases hc
section
set_option maxRecDepth 100000
set_option maxHeartbeats 4000000
theorem encode_in (b off cap N : Nat) (a : Option Addr) (ha : 0 < N → a = some ⟨b, off, none⟩) (L : List C) (w : World) (hN : L.length = N) (hL : Chs w (.slice a N cap) L) (hr : RightP L) :
    CallsIn Fence.wide 9 Try.prog 20 #[.slice a N cap] w (EncPost L w) := by
  have hfn : ∀ f, Fence.wide.fn f := fun _ => trivial
  obtain ⟨i0, hin, hz0, hz1, hz2⟩ := info_parts infoStr
  have hN2 : N ≤ 108 := by have := hr.1; omega
  have hR := right_any _ L w hL
  rw [rightB_yes hr] at hR
  have HNN := Lib.hid hN
  have HR := Lib.hid hR
  clear hR hN
  refine callsIn_of_wp_marks Try.func20 rfl trivial ?_ rfl
  simp only [Try.ntmps20, List.size_toArray, List.length_cons, List.length_nil, Nat.reduceAdd, Nat.reduceSub, Array.replicate_succ, Array.replicate_zero, List.push_toArray, List.append_toArray, List.nil_append, List.cons_append]
  gi_wp2_with (first
    | (gi_at_call 48; refine (callsIn_wide.2 HR.out).mono ?_; rintro e w1 ⟨rfl, hB1⟩)
    | (gi_at_call 49; refine (chunk_in _ _ _ _ _).mono ?_; rintro e w4 ⟨rfl, rfl⟩))
  obtain ⟨s, hs⟩ : ∃ s, w1.heap.size = s := ⟨_, rfl⟩
  obtain ⟨W0, hW0⟩ : ∃ W0, ((w1.alloc (.cells #[.slice none 0 0] 42)).alloc (.cells #[.slice a N cap] 37)).alloc (.cells #[.int .i64 9] 3) = W0 := ⟨_, rfl⟩
  have hs0 : W0.heap.size = s + 3 := by rw [← hW0, ← hs]; simp
  have hB0 : Below w1.heap.size w1 W0 := by rw [← hW0]; exact below_al (below_al (below_al (Below.refl _ _) _) _) _
  have hBW : Below w.heap.size w W0 := below_th hB1 hB0
  have hz : ∀ (W : World) (o : Obj) (k : Nat) (x : Obj), W.heap[k]? = some x → (W.alloc o).heap[k]? = some x := fun W o k x h => (Below.heap_alloc _ _ _ (Array.getElem?_eq_some_iff.1 h).1).trans h
  have hn : ∀ (W : World) (o : Obj) (n : Nat), W.heap.size = n → (W.alloc o).heap[n]? = some o := fun W o n h => h ▸ World.alloc_heap_new W o
  have b0 : CellAt W0 s 42 (.slice none 0 0) := by rw [← hW0, ← hs]; exact hz _ _ _ _ (hz _ _ _ _ (hn _ _ _ rfl))
  have b1 : CellAt W0 (s + 1) 37 (.slice a N cap) := by rw [← hW0, ← hs]; exact hz _ _ _ _ (hn _ _ _ (by simp))
  have b2 : CellAt W0 (s + 1 + 1) 3 (.int .i64 9) := by rw [← hW0, ← hs]; exact hn _ _ _ (by simp)
  have hws : w.heap.size ≤ s := by rw [← hs]; exact hB1.size
  rw [hW0]
  rw [hs]
  have hcaps : N ≤ cap ∧ cap ≤ 9223372036854775807 := by
    obtain ⟨a1, cap1, e, g1, g2⟩ := hL.parts
    have hN' : L.length = N := HNN.out
    rw [hN'] at e
    cases e
    omega
  have hsq : SeqSteps Fence.wide 8 Try.prog 73 #[.pointer (some ⟨s + 1, 0, none⟩), .pointer (some ⟨s + 1 + 1, 0, none⟩)] (chEnc b off N) (Same [s + 1, s + 1 + 1]) ((N + 8) / 9) W0 := by
    intro l J Jx W' hB hJ _ hY h0
    exact chunk1_in 8 (by decide) l (s + 1) (s + 1 + 1) b off cap N a ha (by omega) J Jx _ hJ (fun k W1 h1 h2 => hY k W1 h1 (by omega)) W' (b1.th hB).c (b2.th hB).c hcaps.1 hcaps.2 h0
  have hpiece := fun W k (h : Below w.heap.size w W) (hk : 9 * k < N) => blockOf_any _ (chunk L k) W (by have h2 := hL.below h; rw [ha (by omega)] at h2; exact h2.piece HNN.out k hk) (by rw [chunk_length]; omega) (fun i hi => by
    have hcl := chunk_length L k
    rw [ck_chunk L k (by omega)]; exact hr.fine (by omega))
  clear hW0 hz hn hL
  refine wpIn_rangeFunc_steps rfl (by decide) (gf := 73) (lb := #[.pointer (some ⟨s + 1, 0, none⟩), .pointer (some ⟨s + 1 + 1, 0, none⟩)]) rfl trivial (enters_of Try.func73 (by kernel_rfl) rfl)
    hsq sameK_t (sameK_b (by simp; omega)) (Below.refl _ _) (fun k => by unfold chEnc; rfl)
    (EncI W0 L s) (fun c k W => False) encI_own (fun c k W W' row hI hg hr => hI) ⟨Only.refl _ _, _, b0, World.ownsRow_nil _ _ _ _⟩
    (ActA (fun k => #[.slice a N cap, undef, .slice none 0 0, .int .i64 0, .pointer (some ⟨s, 0, none⟩), .slice (some ⟨b, off + 9 * k * 4, none⟩) (chN N k) (chN N k), .slice a N cap, .bool true, .bool false, .slice a N cap, .func (.func 73) #[] #[.pointer (some ⟨s + 1, 0, none⟩), .pointer (some ⟨s + 1 + 1, 0, none⟩)], .slice (some ⟨b, off + 9 * k * 4, none⟩) (chN N k) (chN N k), undef, undef, undef, undef, undef, undef])) (fun k a' => actA_own k a') ?assign ?body ?done ?stop
  case assign =>
    intro l k W K hI hk hK
    have HK := Lib.hid (hK _ _ (KeepsFrom.refl _ _) (Same.refl _ _) hI rfl)
    unfold chEnc
    clear hK hI hsq
    dsimp only at HK
    gi_wp2
    exact HK.out
  case body =>
    rintro l k a' W hl hrec ⟨hon, v, hc, hown⟩ rfl hk
    have hsz := hon.size
    have hk9 : 9 * k < N := by omega
    have hBwW : Below w.heap.size w W := hBW.trans (hon.below (by omega) (by rintro j rfl; exact hws))
    have HBL := Lib.hid (fun W2 (h : Below W.heap.size W W2) => hpiece W2 k (below_th hBwW h) hk9)
    obtain ⟨x, hx⟩ : ∃ x, blkB (chunk L k) = x := ⟨_, rfl⟩
    rw [hx] at HBL
    have hfin : ∀ W2 v' W4, Below W.heap.size W W2 → W4.ownsRow W0.heap.size 9 1 v' (k + 1) ((blksK L k).map .string ++ [.string x]) → (W2.alloc (.cells #[.string x] 9)).grownBy W4 v.ownBlock → CellAt W4 s 42 v ∧ (KeepsFrom W0.heap.size W (W4.setCell ⟨s, 0, none⟩ v') ∧ Same [s + 1, s + 1 + 1] W (W4.setCell ⟨s, 0, none⟩ v') ∧ EncI W0 L s (k + 1) (W4.setCell ⟨s, 0, none⟩ v')) := fun W2 v' W4 h2 ho hg => by
      have hvb : ∀ r, v.ownBlock = some r → W0.heap.size ≤ r ∧ ∃ c t f, W.heap[r]? = some (.cells c t f) := fun r e => by
        rcases hown.2 with ⟨e1, _⟩ | ⟨g2, cap2, cur, e1, hb2, hgg, _⟩
        · rw [e1] at e; cases e
        · rw [e1] at e
          have e2 : g2 = r := by simpa [Value.ownBlock] using e
          rw [← e2]
          exact ⟨hb2, _, _, _, hgg⟩
      have hon2 : Only (fun i => i = s ∨ v.ownBlock = some i) W W4 := ((Only.of_below h2).alloc (.cells #[.string x] 9)).grown hg (fun r e => .inr (.inr e))
      have hne : ∀ r, v.ownBlock = some r → ¬ s = r := fun r e => by have := (hvb r e).1; omega
      have hc4 : CellAt W4 s 42 v := by
        have h3 : CellAt (W2.alloc (.cells #[.string x] 9)) s 42 v := (hc.th h2).of_heap (Below.heap_alloc _ _ _ (hc.th h2).lt)
        exact h3.of_heap (hg.block s h3.lt (fun e => hne s e.symm rfl))
      have hon5 : Only (fun i => i = s ∨ v.ownBlock = some i) W (W4.setCell ⟨s, 0, none⟩ v') := hon2.setCell (p := ⟨s, 0, none⟩) (.inr (.inl rfl)) _
      refine ⟨hc4, keeps_of_only _ hon5 (fun j hj => ?_), fun y hy => ?_, hon.step hon5 (fun i hi h => ?_), v', hc4.put v', ?_⟩
      · rcases hj with rfl | hj
        · exact ⟨_, _, _, hc⟩
        · exact (hvb j hj).2
      · refine hon5.block y (by simp at hy; omega) (fun hh => ?_)
        rcases hh with rfl | hh
        · simp at hy; omega
        · have := (hvb y hh).1; simp at hy; omega
      · rcases h with h | h
        · exact h
        · have := (hvb i h).1; omega
      · rw [blksK_succ, List.map_append, hx]
        have h6 := ho.kept (w' := W4.setCell ⟨s, 0, none⟩ v') (row := some s) ⟨rfl, rfl, rfl, (KeepsWalks.setCell W4 ⟨s, 0, none⟩ v').size, fun j hj hn => Below.heap_setCell _ _ _ _ (fun e => hn (by rw [e]))⟩ (by
          cases hv : v'.ownBlock with
          | none => exact .inl rfl
          | some g => exact .inr (fun e => by have := (ho.lt g hv).1; cases e; omega))
        exact h6
    have HFIN := Lib.hid hfin
    have c4 := hc.c
    have hk9 : k ≤ 108 := by omega
    have HOW : Hid (∀ W2, Below W.heap.size W W2 → (W2.alloc (.cells #[.string x] 9)).ownsRow W0.heap.size 9 1 v k ((blksK L k).map .string)) := fun W2 h => (hown.kept (grown_of_below h) (by cases hv : v.ownBlock <;> simp)).alloc _
    have HC4 : Hid (∀ W2, Below W.heap.size W W2 → W2.cell? ⟨s, 0, none⟩ = some v ∧ (W2.alloc (.cells #[.string x] 9)).cell? ⟨s, 0, none⟩ = some v) := fun W2 h => ⟨(hc.th h).c, ((hc.th h).of_heap (Below.heap_alloc _ _ _ (hc.th h).lt)).c⟩
    have hself : Below W.heap.size W W.drew := (Below.refl _ _).drew
    have HSZ : Hid (∀ W2, Below W.heap.size W W2 → W0.heap.size ≤ (W2.alloc (.cells #[.string x] 9)).heap.size) := fun W2 h => by have := h.size; simp; omega
    have d4 : W.drew.cell? ⟨s, 0, none⟩ = some v := c4
    clear hon hc hown hsq hpiece hBwW hx hfin hrec b0 b1 b2 hk9 c4
    dsimp only
    gi_wp2
    refine wpIn_round_any (by kernel_rfl) (by kernel_rfl) (by rintro ⟨_, _, hh⟩; exact hh) ?_
    refine wpAny_take (i := 1) (v := .slice (some ⟨b, off + 9 * k * 4, none⟩) (chN N k) (chN N k)) rfl (by kernel_rfl) (by kernel_rfl) (by kernel_rfl) (fun _ _ _ h => h) (Or.inl ⟨by rfl, by intro w; go_simp⟩) ?_
    refine wpAny_ready (rs := [0, 2]) (by kernel_rfl) (by simp) ?_
    refine AllReady.cons rfl (fun K hK => ?_) (AllReady.cons rfl (fun K hK => ?_) AllReady.nil)
    · go_simp
      refine hK _ _ ?_
      clear hK K
      refine wpAny_ready (rs := [2]) (by kernel_rfl) (by simp) ?_
      refine AllReady.cons rfl (fun K hK => ?_) AllReady.nil
      go_simp
      go_at_call 50
      (with_reducible refine Calls.mono (HBL.out _ hself) ?_)
      rintro e w2 ⟨rfl, hB2⟩
      have hb2 : Below W.heap.size W w2 := below_th hself hB2
      obtain ⟨q1, q2⟩ := HC4.out _ hb2
      try go_simp
      refine hK _ _ ?_
      clear hK K
      refine wpAny_ready (rs := [3]) (by kernel_rfl) (by simp) ?_
      refine AllReady.cons rfl (fun K hK => ?_) AllReady.nil
      go_simp
      refine hK _ _ ?_
      clear hK K
      refine wpAny_ready (rs := [4]) (by kernel_rfl) (by simp) ?_
      refine AllReady.cons rfl (fun K hK => ?_) AllReady.nil
      refine step_append_lies _ rfl (.tmp 12) (.tmp 15) 42 rfl W0.heap.size 9 i0 (.string ⟨#[]⟩) 1 16 Try.underlying42 hin hz0 hz1 hz2 rfl (by decide) v k ((blksK L k).map .string) rfl (HOW.out _ hb2) ⟨w2.heap.size, 0, none⟩ 1 1 [.string x] rfl rfl (World.news_of_block (World.alloc_heap_new w2 _)) (by simp [Value.oneCell']) (by decide) (by unfold maxLen; omega) (by omega) (HSZ.out _ hb2) _ rfl ?_
      intro g2 cap2 w4 hown4 hgrow4 hat4 hlt4
      obtain ⟨hcc, hfi⟩ := HFIN.out w2 _ w4 hb2 hown4 hgrow4
      have e4 := hcc.c
      have f4 := hcc.f
      have HFI := Lib.hid hfi
      clear hown4 hgrow4 hat4 hlt4 hcc hfi
      try go_simp
      refine hK _ _ ?_
      clear hK K
      refine wpAny_ready (rs := [5]) (by kernel_rfl) (by simp) ?_
      refine AllReady.cons rfl (fun K hK => ?_) AllReady.nil
      go_simp
      refine hK _ _ ?_
      clear hK K
      refine wpAny_done (by kernel_rfl) ?_ _
      exact HFI.out
    · go_simp
      go_at_call 50
      (with_reducible refine Calls.mono (HBL.out _ hself) ?_)
      rintro e w2 ⟨rfl, hB2⟩
      have hb2 : Below W.heap.size W w2 := below_th hself hB2
      obtain ⟨q1, q2⟩ := HC4.out _ hb2
      try go_simp
      refine hK _ _ ?_
      clear hK K
      refine wpAny_ready (rs := [0, 3]) (by kernel_rfl) (by simp) ?_
      refine AllReady.cons rfl (fun K hK => ?_) (AllReady.cons rfl (fun K hK => ?_) AllReady.nil)
      · go_simp
        refine hK _ _ ?_
        clear hK K
        refine wpAny_ready (rs := [3]) (by kernel_rfl) (by simp) ?_
        refine AllReady.cons rfl (fun K hK => ?_) AllReady.nil
        go_simp
        refine hK _ _ ?_
        clear hK K
        refine wpAny_ready (rs := [4]) (by kernel_rfl) (by simp) ?_
        refine AllReady.cons rfl (fun K hK => ?_) AllReady.nil
        refine step_append_lies _ rfl (.tmp 12) (.tmp 15) 42 rfl W0.heap.size 9 i0 (.string ⟨#[]⟩) 1 16 Try.underlying42 hin hz0 hz1 hz2 rfl (by decide) v k ((blksK L k).map .string) rfl (HOW.out _ hb2) ⟨w2.heap.size, 0, none⟩ 1 1 [.string x] rfl rfl (World.news_of_block (World.alloc_heap_new w2 _)) (by simp [Value.oneCell']) (by decide) (by unfold maxLen; omega) (by omega) (HSZ.out _ hb2) _ rfl ?_
        intro g2 cap2 w4 hown4 hgrow4 hat4 hlt4
        obtain ⟨hcc, hfi⟩ := HFIN.out w2 _ w4 hb2 hown4 hgrow4
        have e4 := hcc.c
        have f4 := hcc.f
        have HFI := Lib.hid hfi
        clear hown4 hgrow4 hat4 hlt4 hcc hfi
        try go_simp
        refine hK _ _ ?_
        clear hK K
        refine wpAny_ready (rs := [5]) (by kernel_rfl) (by simp) ?_
        refine AllReady.cons rfl (fun K hK => ?_) AllReady.nil
        go_simp
        refine hK _ _ ?_
        clear hK K
        refine wpAny_done (by kernel_rfl) ?_ _
        exact HFI.out
      · go_simp
        refine hK _ _ ?_
        clear hK K
        refine wpAny_ready (rs := [0]) (by kernel_rfl) (by simp) ?_
        refine AllReady.cons rfl (fun K hK => ?_) AllReady.nil
        go_simp
        refine hK _ _ ?_
        clear hK K
        refine wpAny_ready (rs := [4]) (by kernel_rfl) (by simp) ?_
        refine AllReady.cons rfl (fun K hK => ?_) AllReady.nil
        refine step_append_lies _ rfl (.tmp 12) (.tmp 15) 42 rfl W0.heap.size 9 i0 (.string ⟨#[]⟩) 1 16 Try.underlying42 hin hz0 hz1 hz2 rfl (by decide) v k ((blksK L k).map .string) rfl (HOW.out _ hb2) ⟨w2.heap.size, 0, none⟩ 1 1 [.string x] rfl rfl (World.news_of_block (World.alloc_heap_new w2 _)) (by simp [Value.oneCell']) (by decide) (by unfold maxLen; omega) (by omega) (HSZ.out _ hb2) _ rfl ?_
        intro g2 cap2 w4 hown4 hgrow4 hat4 hlt4
        obtain ⟨hcc, hfi⟩ := HFIN.out w2 _ w4 hb2 hown4 hgrow4
        have e4 := hcc.c
        have f4 := hcc.f
        have HFI := Lib.hid hfi
        clear hown4 hgrow4 hat4 hlt4 hcc hfi
        try go_simp
        refine hK _ _ ?_
        clear hK K
        refine wpAny_ready (rs := [5]) (by kernel_rfl) (by simp) ?_
        refine AllReady.cons rfl (fun K hK => ?_) AllReady.nil
        go_simp
        refine hK _ _ ?_
        clear hK K
        refine wpAny_done (by kernel_rfl) ?_ _
        exact HFI.out
  case done =>
    rintro D W hD ⟨hon, v, hc, hown⟩ hKD
    have hsz := hon.size
    have c4 := hc.c
    have hnl : nBl L.length = (N + 8) / 9 := by unfold nBl; rw [HNN.out]
    have hlies := Lies.own hown
    have hgr : W.grownBy (W.putObj D (.deferred none)) (some D) := ⟨rfl, rfl, rfl, by simp [World.putObj], fun j _ hj => World.putObj_heap_other (fun e => hj (by rw [e]))⟩
    have HP : Hid (EncPost L w (.returned (.tuple #[v, .int .i64 0])) (W.putObj D (.deferred none))) := by
      refine ⟨v, by rw [show encE L = 0 from if_pos hr], ?_, below_putObj (hBW.trans (hon.below (by omega) (by rintro j rfl; exact hws))) D (by omega) _⟩
      have e : encV L = blksK L ((N + 8) / 9) := by unfold encV; rw [if_pos hr, hnl]
      rw [e]
      unfold Strs
      rw [blksK_length]
      exact hlies.grown hgr (fun j hj c t f h => by cases hj; rw [hKD] at h; cases h)
    have HKD := Lib.hid hKD
    clear hon hc hown hsq hpiece hlies hgr hKD b0 b1 b2
    gi_wp2
    refine ⟨by simp, .inl ⟨_, _, rfl, run_takeDeferred HKD.out, ?_⟩⟩
    refine ⟨_, results_two rfl _ _, ?_⟩
    exact HP.out
  case stop =>
    rintro D c k W hD hk hf
    exact hf.elim
theorem encode_any (v : Value) (L : List C) (w : World) (hL : Chs w v L) : Calls Try.prog 20 #[v] w (EncPost L w) := by
  by_cases hr : RightP L
  · rcases hL.open with ⟨a, cap, rfl, rfl⟩ | ⟨b, off, cap, rfl, h0, h1, h2⟩
    · exact callsIn_wide.1 (encode_in 0 0 cap 0 a (fun h => absurd h (by omega)) [] w rfl hL hr)
    · exact callsIn_wide.1 (encode_in b off cap L.length _ (fun _ => rfl) L w rfl hL hr)
  · have HF : Hid (∀ W, Below w.heap.size w W → EncPost L w (.returned (.tuple #[.slice none 0 0, .int .i64 90])) W) := fun W h => ⟨_, by rw [show encE L = 90 from if_neg hr], by rw [show encV L = [] from if_neg hr]; exact Strs.nil W, h⟩
    have hR := right_any v L w hL
    rw [rightB_no hr] at hR
    obtain ⟨a, cap, rfl, hn, hm⟩ := hL.parts
    obtain ⟨N, hN⟩ : ∃ N, L.length = N := ⟨_, rfl⟩
    rw [hN] at hR hn ⊢
    have HR := Lib.hid hR
    clear hR hL hr hN
    go_enter Try.func20, Try.ntmps20
    go_wp2_with (go_at_call 48; (with_reducible refine Calls.mono HR.out ?_); rintro e w1 ⟨rfl, hB1⟩)
    go_returns
    exact HF.out _ hB1
end
end Go.Proofs.Ytdniakoedgohkaa.Cps
/- A checkpoint that stands in a block; the iterator over all that blocks have room for, of the program. -/
namespace Go.Proofs.Ytdniakoedgohkaa.Cps
open Go.RowKit Go.Shelf
attribute [local go_sem] Oper.semAt_some
set_option linter.unusedVariables false
set_option linter.unusedSimpArgs false

theorem Strs.get {w : World} {a : Option Addr} {n cap : Nat} {X : List ByteArray} (h : Strs w (.slice a n cap) X) {k : Nat} (hk : k < X.length) : ∃ b off, a = some ⟨b, off, none⟩ ∧ w.cell? ⟨b, off + k, none⟩ = some (.string (X.getD k ⟨#[]⟩)) := by
  have hn : X.length = n := by
    obtain ⟨_, _, e, _⟩ := Lies.parts h
    cases e
    rfl
  unfold Strs at h
  rw [hn] at h
  exact Lies.read h (j := k) (u := .string (X.getD k ⟨#[]⟩)) (by rw [List.getElem?_map, List.getD_eq_getElem?_getD, List.getElem?_eq_getElem hk]; rfl)
theorem Strs.parts {w : World} {v : Value} {X : List ByteArray} (h : Strs w v X) : ∃ a cap, v = .slice a X.length cap ∧ X.length ≤ cap ∧ cap ≤ 9223372036854775807 := by
  obtain ⟨a, cap, e, _, h1, h2⟩ := Lies.parts h
  exact ⟨a, cap, e, h1, h2⟩
/-- a slice of texts stands where its block does -/
theorem Strs.keep {W W' : World} {v : Value} {X : List ByteArray} (h : Strs W v X) (hk : ∀ g o k c, v = .slice (some ⟨g, o, none⟩) k c → 0 < k → W'.heap[g]? = W.heap[g]?) : Strs W' v X := by
  obtain ⟨a, cap, rfl, h2, h3, h4, h5⟩ := h
  refine ⟨a, cap, rfl, h2, h3, h4, fun hn => ?_⟩
  obtain ⟨b, off, rfl, hc⟩ := h5 hn
  refine ⟨b, off, rfl, fun j u hj => ?_⟩
  have he : W'.cell? ⟨b, off + j, none⟩ = W.cell? ⟨b, off + j, none⟩ := World.cell?_of_block (w := W) (hk b off _ _ rfl hn)
  exact he.trans (hc j u hj)
theorem Strs.lt {W : World} {b off n cap : Nat} {X : List ByteArray} (h : Strs W (.slice (some ⟨b, off, none⟩) n cap) X) (hn : 0 < n) : b < W.heap.size := by
  obtain ⟨a1, cap1, e, _⟩ := h.parts
  cases e
  obtain ⟨b2, off2, e2, hc⟩ := h.get (k := 0) hn
  cases e2
  exact World.block_lt_of_cell? _ _ hc
section
set_option maxRecDepth 100000
set_option maxHeartbeats 4000000
theorem checkIn_any (b : ByteArray) (p : Nat) (w : World) (hb : b.size = 508) (hp : p + 55 ≤ 508) : Calls Try.prog 84 #[.string b, .int .i64 p] w (Ans w (chkAt b p).val) := by
  have T0 := Lib.hid (fun W => dtake_any b p 6 W (by omega) (by omega) (by omega) (by omega))
  have T1 := Lib.hid (fun W => dtake_any b (p + 6) 6 W (by omega) (by omega) (by omega) (by omega))
  have T2 := Lib.hid (fun W => dtake_any b (p + 12) 1 W (by omega) (by omega) (by omega) (by omega))
  have hV : chkAt b p = ⟨takeN b p 6, takeN b (p + 6) 6, decide (takeN b (p + 12) 1 = 1), b.extract (p + 13) (p + 55)⟩ := rfl
  have hrs : (b.extract (p + 13) (p + 55)).size = 42 := by rw [ByteArray.size_extract]; omega
  obtain ⟨p6, hp6⟩ : ∃ q, p + 6 = q := ⟨_, rfl⟩
  obtain ⟨p12, hp12⟩ : ∃ q, p + 12 = q := ⟨_, rfl⟩
  obtain ⟨p13, hp13⟩ : ∃ q, p + 13 = q := ⟨_, rfl⟩
  obtain ⟨p55, hp55⟩ : ∃ q, p + 55 = q := ⟨_, rfl⟩
  have w6 : IntKind.i64.wrap ((p : Int) + 6) = (p6 : Int) := by rw [IntKind.wrap_i64]; omega
  have w12 : IntKind.i64.wrap ((p : Int) + 12) = (p12 : Int) := by rw [IntKind.wrap_i64]; omega
  have w13 : IntKind.i64.wrap ((p : Int) + 13) = (p13 : Int) := by rw [IntKind.wrap_i64]; omega
  have w55 : IntKind.i64.wrap ((p : Int) + 55) = (p55 : Int) := by rw [IntKind.wrap_i64]; omega
  have r1 : p13 ≤ p55 := by omega
  have r2 : p55 ≤ b.size := by omega
  have r3 : (p13 : Int) ≤ (p55 : Int) := by omega
  have r4 : (p55 : Int) ≤ (b.size : Int) := by omega
  have r5 : (0 : Int) ≤ (p13 : Int) := by omega
  rw [hp6] at T1
  rw [hp12] at T2
  rw [hp6, hp12, hp13, hp55] at hV
  rw [hp13, hp55] at hrs
  obtain ⟨x0, hx0⟩ : ∃ x, takeN b p 6 = x := ⟨_, rfl⟩
  obtain ⟨x1, hx1⟩ : ∃ x, takeN b p6 6 = x := ⟨_, rfl⟩
  obtain ⟨x2, hx2⟩ : ∃ x, takeN b p12 1 = x := ⟨_, rfl⟩
  obtain ⟨sn, hsn⟩ : ∃ x, decide (x2 = 1) = x := ⟨_, rfl⟩
  have u1 : ((x2 : Int) == 1) = sn := by rw [← hsn, Bool.eq_iff_iff, decide_eq_true_iff]; simp; omega
  simp only [hx0, hx1, hx2, hsn] at T0 T1 T2 hV
  have HO := Lib.hid (fun W => own_any ⟨x0, x1, sn, b.extract p13 p55⟩ W (by show (b.extract p13 p55).size ≤ _; omega))
  unfold C.val at HO
  dsimp only at HO
  rw [hV]
  clear hV hx0 hx1 hx2 hsn hp6 hp12 hp13 hp55 hrs hb hp
  have HB0 := Lib.hid (below_new w boxZ)
  have HZ := Lib.hid (fun W (h : Below (w.alloc boxZ).heap.size (w.alloc boxZ) W) => (At.newZ w).th h)
  obtain ⟨W1, hW1⟩ : ∃ W1, w.alloc boxZ = W1 := ⟨_, rfl⟩
  rw [hW1] at HB0 HZ
  unfold boxZ at hW1
  have hself : Below W1.heap.size W1 W1 := Below.refl _ _
  have hself2 : Below W1.heap.size W1 W1.drew := hself.drew
  obtain ⟨y, hy⟩ : ∃ y : C, y = ⟨x0, x1, sn, b.extract p13 p55⟩ := ⟨_, rfl⟩
  go_enter Try.func84, Try.ntmps84
  go_wp2
  go_region_held3 (fun _ => True) (trivial) (first
    | (go_at_call 101; (with_reducible refine Calls.mono (T0.out _) ?_); rintro e w' ⟨rfl, hBn⟩; have := below_th (by assumption : Below W1.heap.size W1 _) hBn)
    | (go_at_call 101; (with_reducible refine Calls.mono (T1.out _) ?_); rintro e w' ⟨rfl, hBn⟩; have := below_th (by assumption : Below W1.heap.size W1 _) hBn)
    | (go_at_call 101; (with_reducible refine Calls.mono (T2.out _) ?_); rintro e w' ⟨rfl, hBn⟩; have := below_th (by assumption : Below W1.heap.size W1 _) hBn)
    | (go_at_call 100; (with_reducible refine Calls.mono (HO.out _) ?_); rintro e w' ⟨rfl, hBn⟩; have hbb := below_th (by assumption : Below W1.heap.size W1 _) hBn; have hA2 := HZ.out _ hbb; obtain ⟨k0, k1, k2, k3⟩ := hA2.put4k ⟨x0, x1, sn, b.extract p13 p55⟩; obtain ⟨a0, a1, a2, a3⟩ := hA2.cZ; have f0 := hA2.f 0; have f1 := hA2.f 1; have f2 := hA2.f 2; have f3 := hA2.f 3; obtain ⟨hAp, hBp⟩ := hA2.put4 ⟨x0, x1, sn, b.extract p13 p55⟩; dsimp only at k0 k1 k2 k3 hBp; have HAp := Lib.hid hAp; have HBp := Lib.hid hBp; have HBB := Lib.hid hbb; clear hAp hBp hA2 hbb))
  go_wp2
  refine bodyPost_ret (results_c rfl _ _ rfl HAp.out) rfl ?_
  exact ⟨rfl, (below_th HB0.out HBB.out).trans HBp.out⟩
end
end Go.Proofs.Ytdniakoedgohkaa.Cps
