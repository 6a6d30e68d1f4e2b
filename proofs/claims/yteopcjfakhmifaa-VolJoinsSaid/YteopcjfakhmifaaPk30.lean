/- Several texts in one, each under its own heading. -/
import Derived.Test.YteopcjfakhmifaaPk08
import Derived.Test.YteopcjfakhmifaaPk29
import Derived.Test.YteopcjfakhmifaaPk12
/- When contents are a file's, content by content, as the program asks it. It speaks of no program. -/
namespace Go.Proofs.Yteopcjfakhmifaa.Vol
open Ino
set_option linter.unusedVariables false
set_option linter.unusedSimpArgs false
/-- how many bytes of the content k are the file's -/
def pasL (n k : Nat) : Nat := min (n - 508 * k) 508
def pasC (L : List ByteArray) (n k : Nat) : Prop := pasL n k ≤ (tx L k).size ∧ (tx L k).size ≤ 508 ∧ bareB (tx L k) (pasL n k) = true
instance (L : List ByteArray) (n k : Nat) : Decidable (pasC L n k) := by unfold pasC; infer_instance
theorem pasL_on {n k : Nat} (h : k + 1 < nb n) : pasL n k = 508 := by unfold pasL; unfold nb at h; omega
theorem pasL_last {n k : Nat} (h : k + 1 = nb n) : pasL n k = n - 508 * k ∧ 508 * k ≤ n ∧ n ≤ 508 * k + 508 := by unfold pasL; unfold nb at h; omega
theorem bare_app {A x : ByteArray} {n m : Nat} (h : A.size = m) (hn : m ≤ n) : bareB (A ++ x) n = bareB x (n - m) := by
  unfold bareB
  have hl := len_list A
  rw [app_list, List.drop_append, List.drop_of_length_le (by omega), List.nil_append, hl, h]
theorem paste_iff (L : List ByteArray) (n : Nat) : pasteP L n ↔ (n ≤ 200000 ∧ L.length = nb n) ∧ ∀ k, k < L.length → pasC L n k := by
  unfold pasteP
  constructor
  · rintro ⟨⟨h1, h2⟩, h3, h4, h5⟩
    refine ⟨⟨h1, h2⟩, fun k hk => ?_⟩
    obtain ⟨f1, f2⟩ := h3 k hk
    by_cases hl : k + 1 = nb n
    · obtain ⟨e1, e2, e3⟩ := pasL_last hl
      have hjn : jn L L.length = jn L k ++ tx L k := by rw [h2, ← hl, jn_succ]
      have hsz : (jn L k).size = 508 * k := jn_size k hk (fun j hj => h3 j (by omega))
      rw [hjn] at h4 h5
      rw [ByteArray.size_append, hsz] at h4
      rw [bare_app hsz e2] at h5
      unfold pasC
      rw [e1]
      exact ⟨by omega, f1, h5⟩
    · have hon := pasL_on (n := n) (k := k) (by omega)
      have hs : (tx L k).size = 508 := by rcases f2 with h | h; omega; exact h
      unfold pasC
      rw [hon]
      exact ⟨by omega, f1, bareB_end _ _ (by omega)⟩
  · rintro ⟨⟨h1, h2⟩, h3⟩
    have hf : ∀ j, j < L.length → fitC L L.length j := fun j hj => by
      obtain ⟨c1, c2, c3⟩ := h3 j hj
      refine ⟨c2, ?_⟩
      by_cases hl : j + 1 = L.length
      · exact .inl hl
      · rw [pasL_on (by omega)] at c1
        exact .inr (by omega)
    refine ⟨⟨h1, h2⟩, hf, ?_⟩
    by_cases h0 : L.length = 0
    · have hn : n = 0 := by rw [h0] at h2; unfold nb at h2; omega
      rw [h0, hn]
      exact ⟨Nat.zero_le _, rfl⟩
    · obtain ⟨k, hk⟩ : ∃ k, L.length = k + 1 := ⟨L.length - 1, by omega⟩
      obtain ⟨c1, c2, c3⟩ := h3 k (by omega)
      obtain ⟨e1, e2, e3⟩ := pasL_last (n := n) (k := k) (by omega)
      have hsz : (jn L k).size = 508 * k := jn_size (n := L.length) k (by omega) (fun j hj => hf j (by omega))
      rw [e1] at c1 c3
      rw [hk, jn_succ, ByteArray.size_append, hsz, bare_app hsz e2]
      exact ⟨by omega, c3⟩
/-- the file's bytes among the first k contents -/
def pasB (L : List ByteArray) (n k : Nat) : List UInt8 := (jn L k).data.toList.take n
theorem pasB_zero (L : List ByteArray) (n : Nat) : pasB L n 0 = [] := List.take_nil
theorem pasB_len {L : List ByteArray} {n k : Nat} : (pasB L n k).length ≤ n := by unfold pasB; rw [List.length_take]; omega
theorem jn_len_full {L : List ByteArray} {n : Nat} : ∀ k, k < nb n → (∀ j, j < k → pasC L n j) → (jn L k).size = 508 * k
  | 0, _, _ => rfl
  | k + 1, h, hf => by
    obtain ⟨c1, c2, _⟩ := hf k (by omega)
    rw [pasL_on h] at c1
    rw [jn_succ, ByteArray.size_append, jn_len_full k (by omega) (fun j hj => hf j (by omega))]
    omega
theorem pasB_succ {L : List ByteArray} {n k : Nat} (hk : k < nb n) (h : ∀ j, j < k + 1 → pasC L n j) : pasB L n (k + 1) = pasB L n k ++ ((tx L k).extract 0 (pasL n k)).data.toList := by
  have hsz := jn_len_full k hk (fun j hj => h j (by omega))
  have hl := len_list (jn L k)
  obtain ⟨c1, c2, _⟩ := h k (by omega)
  unfold pasB
  have hkn : 508 * k ≤ n := by unfold nb at hk; omega
  rw [jn_succ, app_list, List.take_append, Lib.extract_data, List.drop_zero, Nat.sub_zero, hl, hsz]
  congr 1
  have hx := len_list (tx L k)
  unfold pasL
  by_cases hm : n - 508 * k ≤ 508
  · rw [Nat.min_eq_left hm]
  · rw [Nat.min_eq_right (by omega), List.take_of_length_le (by omega), List.take_of_length_le (by omega)]
theorem pasB_all (L : List ByteArray) (n : Nat) : (jn L L.length).extract 0 n = ⟨(pasB L n L.length).toArray⟩ := by
  apply ba_ext
  rw [Lib.extract_data, List.drop_zero, Nat.sub_zero]
  rfl
theorem pasB_pos {L : List ByteArray} {n : Nat} (h : pasteP L n) (h0 : 0 < L.length) : ¬ pasB L n L.length = [] := by
  have h1 := h.2.2.1
  have h2 := h.1.2
  have hn : 0 < n := by rw [h2] at h0; unfold nb at h0; omega
  intro e
  have e1 := congrArg List.length e
  unfold pasB at e1
  rw [List.length_take, len_list] at e1
  have e2 : min n (jn L L.length).size = 0 := e1
  omega
end Go.Proofs.Yteopcjfakhmifaa.Vol
/- Paste of the program. -/
namespace Go.Proofs.Yteopcjfakhmifaa.Vol
open Go.RowKit
attribute [local go_sem] Oper.semAt_some
set_option linter.unusedVariables false
set_option linter.unusedSimpArgs false
set_option maxRecDepth 100000 in
theorem results_cc {fn : Func} {r e : Tmp} (h : fn.results = #[.cell r 9, .cell e 26]) (tmps : Array Value) (w : World) {b1 b2 : Nat} {s : ByteArray} {x : Int} (hp : tmps.getD r undef = .pointer (some ⟨b1, 0, none⟩)) (hq : tmps.getD e undef = .pointer (some ⟨b2, 0, none⟩)) (c1 : w.cell? ⟨b1, 0, none⟩ = some (.string s)) (c2 : w.cell? ⟨b2, 0, none⟩ = some (.int .i64 x)) :
    (results fn tmps).run Try.prog w = .ok (.tuple #[.string s, .int .i64 x]) w := by
  rw [Array.getD_eq_getD_getElem?] at hp hq
  simp [results, h, hp, hq, go_sem, c1, c2]
/-- two boxes made, one behind the other -/
theorem pair_new (X : World) (t1 t2 : TypeId) (v1 v2 : Value) : CellAt ((X.alloc (.cells #[v1] t1)).alloc (.cells #[v2] t2)) X.heap.size t1 v1 ∧ CellAt ((X.alloc (.cells #[v1] t1)).alloc (.cells #[v2] t2)) (X.heap.size + 1) t2 v2 ∧ Below X.heap.size X ((X.alloc (.cells #[v1] t1)).alloc (.cells #[v2] t2)) := by
  refine ⟨(CellAt.new X t1 v1).th (below_new _ _), ?_, below_al (below_new _ _) _⟩
  have h := CellAt.new (X.alloc (.cells #[v1] t1)) t2 v2
  rw [World.size_alloc] at h
  exact h
/-- a builder that nothing has been written to -/
def Fresh (W : World) (b : Nat) : Prop := W.heap[b]? = some (.cells #[.pointer none, .slice none 0 0] 65 (0, 0))
structure PasI (W0 : World) (L : List ByteArray) (n b : Nat) (k : Nat) (W : World) : Prop where
  below : Below b W0 W
  bld : Bld W b (pasB L n k)
  fresh : k = 0 → Fresh W b
  fits : ∀ j, j < k → pasC L n j
theorem pasI_own {W0 : World} {L : List ByteArray} {n b : Nat} (hb : b ≤ W0.heap.size) : OwnFrom W0.heap.size (PasI W0 L n b) := fun k W W' row hI hg hr =>
  ⟨hI.below.grown hg (by have := hI.below.size; omega) (fun r e => by have := (hr r e).1; omega), bld_kept hI.bld hg (fun r e => (hr r e).2), fun h0 => kept_cells (hI.fresh h0) hg hr, hI.fits⟩
structure PasX (w W0 : World) (L : List ByteArray) (n q : Nat) (c : Code) (k : Nat) (W : World) : Prop where
  code : c = .ret
  bad : ¬ pasteP L n
  b1 : CellAt W (q + 1) 9 (.string ⟨#[]⟩)
  b2 : CellAt W (q + 1 + 1) 26 (.int .i64 154)
  below : Below w.heap.size w W
  size : W0.heap.size ≤ W.heap.size
theorem pasX_own {w W0 : World} {L : List ByteArray} {n q : Nat} (hz : w.heap.size ≤ W0.heap.size) (c : Code) : OwnFrom W0.heap.size (PasX w W0 L n q c) := fun k W W' row h hg hr =>
  ⟨h.code, h.bad, kept_cells h.b1 hg hr, kept_cells h.b2 hg hr, h.below.grown hg h.below.size (fun r e => Nat.le_trans hz (hr r e).1), Nat.le_trans h.size hg.size⟩
section
set_option maxRecDepth 100000
set_option maxHeartbeats 4000000
/-- what a builder holds that nothing was written to -/
theorem string_nil (b : Nat) (w : World) (h : Fresh w b) : Calls Try.prog 36 #[.pointer (some ⟨b, 0, none⟩)] w fun e w' => e = .returned (.string ⟨#[]⟩) ∧ Below b w w' ∧ NoC w w' := by
  have c1 : w.drew.cell? ⟨b, 1, none⟩ = some (.slice none 0 0) := by
    have : w.drew.heap[b]? = some (.cells #[.pointer none, .slice none 0 0] 65 (0, 0)) := h
    rw [Lib.cell_of_heap this]; rfl
  have hUS : (Builtin.unsafeString_ #[90, 3] 9 #[.pointer none, .int .i64 0]).run Try.prog w.drew = .ok (.string ⟨#[]⟩) w.drew := Lib.run_unsafeString_none _ _ _ _ _
  have hSD : (Builtin.unsafeSliceData_ #[57] 90 #[.slice none 0 0]).run Try.prog w.drew = .ok (.pointer none) w.drew := Lib.run_unsafeSliceData_nil _ _ _ _ _
  clear h
  go_enter Try.func36, Try.ntmps36
  go_wp2
  go_region
  all_goals (go_wp2; go_ret; exact ⟨rfl, (Below.refl b w).drew, NoC.of_below (Below.refl _ w).drew⟩)
theorem paste_in (a : Option Addr) (N cap n : Nat) (L : List ByteArray) (w : World) (hN : L.length = N) (hL : Strs w (.slice a N cap) L) (hl : N ≤ 100) (hz : ∀ i, i < N → (tx L i).size ≤ 9223372036854775807) (h1 : n ≤ 200000) (h2 : N = nb n) :
    CallsIn Fence.wide 9 Try.prog 12 #[.slice a N cap, .int .u32 (n : Int)] w (Ans w (.tuple #[.string (pasteV L n), .int .i64 (pasteE L n)])) := by
  have hfn : ∀ f, Fence.wide.fn f := fun _ => trivial
  have HNO : Hid (∀ w', ¬ pasteP L n → Below w.heap.size w w' → Ans w (.tuple #[.string (pasteV L n), .int .i64 (pasteE L n)]) (.returned (.tuple #[.string ⟨#[]⟩, .int .i64 154])) w') := fun w' h hB => by
    obtain ⟨e1, e2⟩ := paste_no h
    exact ⟨by rw [e1, e2], hB⟩
  have HYES : Hid (∀ w', pasteP L n → Below w.heap.size w w' → Ans w (.tuple #[.string (pasteV L n), .int .i64 (pasteE L n)]) (.returned (.tuple #[.string ⟨(pasB L n N).toArray⟩, .int .i64 0])) w') := fun w' h hB => by
    obtain ⟨e1, e2⟩ := paste_yes h
    exact ⟨by rw [e1, e2, pasB_all, hN], hB⟩
  have HPOS : Hid (0 < N → pasteP L n → ¬ pasB L n N = []) := fun h0 hp => by rw [← hN]; exact pasB_pos hp (by omega)
  have hHB := fun W => Ino.blocks_any n W (by omega)
  rw [bl_nb, ← h2] at hHB
  have HIF : Hid (pasteP L n ↔ ∀ k, k < N → pasC L n k) := by
    unfold Hid
    rw [paste_iff, hN]
    exact ⟨fun h => h.2, fun h => ⟨⟨h1, h2⟩, h⟩⟩
  have g2 : ¬ (200000 : Int) < (n : Int) := by omega
  have g1 : decide ((n : Int) > 200000) = false := decide_eq_false (by omega)
  have HN2 := Lib.hid h2
  have HN1 := Lib.hid hN
  have HHB := Lib.hid hHB
  obtain ⟨_, _, e0, hcap1, hcap2⟩ := hL.parts
  rw [hN] at e0 hcap1
  cases e0
  clear h2 hN hHB
  refine callsIn_of_wp_marks Try.func12 rfl trivial ?_ rfl
  simp only [Try.ntmps12, List.size_toArray, List.length_cons, List.length_nil, Nat.reduceAdd, Nat.reduceSub, Array.replicate_succ, Array.replicate_zero, List.push_toArray, List.append_toArray, List.nil_append, List.cons_append]
  gi_wp2_with (first
    | (gi_at_call 32; refine (callsIn_wide.2 (HHB.out _)).mono ?_; rintro e w1 ⟨rfl, hw⟩; rw [← hw]; clear hw w1)
    | (gi_at_call 33; refine (allS_in _ _ _ _ _).mono ?_; rintro e w4 ⟨rfl, hw⟩; rw [← hw]; clear hw w4))
  obtain ⟨q, hq⟩ : ∃ q, w.heap.size = q := ⟨_, rfl⟩
  obtain ⟨W0, hW0⟩ : ∃ W0, ((((w.alloc (.cells #[.int .u32 (n : Int)] 23)).alloc (.cells #[.string ⟨#[]⟩] 9)).alloc (.cells #[.int .i64 0] 26)).alloc (.cells #[.pointer none, .slice none 0 0] 65)).alloc (.cells #[.slice a N cap] 22) = W0 := ⟨_, rfl⟩
  have hs0 : W0.heap.size = q + 5 := by rw [← hW0, ← hq]; simp
  have hBW : Below w.heap.size w W0 := by rw [← hW0]; exact below_al (below_al (below_al (below_al (below_al (Below.refl _ _) _) _) _) _) _
  have hz' : ∀ (W : World) (o : Obj) (k : Nat) (x : Obj), W.heap[k]? = some x → (W.alloc o).heap[k]? = some x := fun W o k x h => (Below.heap_alloc _ _ _ (Array.getElem?_eq_some_iff.1 h).1).trans h
  have hn' : ∀ (W : World) (o : Obj) (n : Nat), W.heap.size = n → (W.alloc o).heap[n]? = some o := fun W o n h => h ▸ World.alloc_heap_new W o
  have b0 : CellAt W0 q 23 (.int .u32 (n : Int)) := by rw [← hW0, ← hq]; exact hz' _ _ _ _ (hz' _ _ _ _ (hz' _ _ _ _ (hz' _ _ _ _ (hn' _ _ _ rfl))))
  have b1 : CellAt W0 (q + 1) 9 (.string ⟨#[]⟩) := by rw [← hW0, ← hq]; exact hz' _ _ _ _ (hz' _ _ _ _ (hz' _ _ _ _ (hn' _ _ _ (by simp))))
  have b2 : CellAt W0 (q + 1 + 1) 26 (.int .i64 0) := by rw [← hW0, ← hq]; exact hz' _ _ _ _ (hz' _ _ _ _ (hn' _ _ _ (by simp)))
  have b3 : Fresh W0 (q + 1 + 1 + 1) := by rw [← hW0, ← hq]; exact hz' _ _ _ _ (hn' _ _ _ (by simp))
  have b4 : CellAt W0 (q + 1 + 1 + 1 + 1) 22 (.slice a N cap) := by rw [← hW0, ← hq]; exact hn' _ _ _ (by simp)
  have hbl : Bld W0 (q + 1 + 1 + 1) (pasB L n 0) := by
    rw [pasB_zero]
    exact .inl ⟨Nat.le_refl _, .slice none 0 0, b3, ⟨by simp, .inl ⟨rfl, rfl⟩⟩, by simp [Value.ownBlock]⟩
  have hsq : SeqSteps Fence.wide 8 Try.prog 55 #[.pointer (some ⟨q + 1 + 1 + 1 + 1, 0, none⟩)] (encS L) (KeptN q) N W0 := by
    intro l J Jx W' hB hJ _ hY h0
    have h := allS1_in 8 (by decide) l (q + 1 + 1 + 1 + 1) q (.slice a N cap) L J Jx _ hJ (by rw [HN1.out]; exact hY) W' (b4.th hB).c (fun W2 hk => hL.keptN ((KeptN.below hBW (Nat.le_refl _)).trans ((KeptN.below (hB.mono (Nat.le_refl _)) (by omega)).trans (by rw [hq]; exact hk)))) (by have := hB.size; omega) h0
    rw [HN1.out] at h
    exact h
  rw [hW0]
  rw [hq]
  clear hW0 hz' hn'
  have hI0 : PasI W0 L n (q + 1 + 1 + 1) 0 W0 := ⟨Below.refl _ _, hbl, fun _ => b3, fun j hj => absurd hj (Nat.not_lt_zero _)⟩
  refine wpIn_rangeFunc_steps rfl (by decide) (gf := 55) (lb := #[.pointer (some ⟨q + 1 + 1 + 1 + 1, 0, none⟩)]) rfl trivial (enters_of Try.func55 (by kernel_rfl) rfl)
    hsq keptN_t (keptN_b (by omega)) (Below.refl _ _) (fun k => by unfold encS; rfl)
    (PasI W0 L n (q + 1 + 1 + 1)) (PasX w W0 L n q) (pasI_own (by omega)) (pasX_own (by omega)) hI0
    (ActA (fun k => #[.slice a N cap, .int .u32 (n : Int), undef, .pointer (some ⟨q, 0, none⟩), .pointer (some ⟨q + 1, 0, none⟩), .pointer (some ⟨q + 1 + 1, 0, none⟩), .pointer (some ⟨q + 1 + 1 + 1, 0, none⟩), .int .i64 (k : Int), .string (tx L k), undef, .int .u32 (n : Int), .bool false, .bool false, .slice a N cap, .int .i64 (N : Int), .int .u32 (n : Int), .int .i64 (N : Int), .bool false, .bool false, .slice a N cap, .func (.func 55) #[] #[.pointer (some ⟨q + 1 + 1 + 1 + 1, 0, none⟩)], .int .i64 (k : Int), .string (tx L k), undef, undef, undef, undef, undef, undef, undef, undef, undef, undef, undef, undef, undef, undef, undef, undef, undef, undef, undef, undef, undef, undef, undef, undef, undef, undef])) (fun k a' => actA_own k a') ?assign ?body ?done ?stop
  case assign =>
    intro l k W K hI hk hK
    have HK := Lib.hid (hK _ _ (KeepsFrom.refl _ _) (KeptN.refl _ _) hI rfl)
    unfold encS
    clear hK hI hsq
    dsimp only at HK
    gi_wp2
    exact HK.out
  case body =>
    rintro l k a' W hl' hrec hI rfl hk
    dsimp only
    have hsz := hI.below.size
    have hkn : 508 * k < n := by
      have h5 := HN2.out
      have : k < nb n := by omega
      rw [nb_iff] at this
      exact this
    have d0 : CellAt W q 23 (.int .u32 (n : Int)) := b0.of_heap (hI.below.block q (by omega))
    have d1 : CellAt W (q + 1) 9 (.string ⟨#[]⟩) := b1.of_heap (hI.below.block _ (by omega))
    have d2 : CellAt W (q + 1 + 1) 26 (.int .i64 0) := b2.of_heap (hI.below.block _ (by omega))
    have c0 := d0.c
    have hzk := hz k hk
    obtain ⟨m, hm⟩ : ∃ m, pasL n k = m := ⟨_, rfl⟩
    have hm2 : m = min (n - 508 * k) 508 := by rw [← hm]; rfl
    obtain ⟨x, hx⟩ : ∃ x, tx L k = x := ⟨_, rfl⟩
    rw [hx] at hzk ⊢
    have HC : Hid (pasC L n k ↔ m ≤ x.size ∧ x.size ≤ 508 ∧ bareB x m = true) := by unfold Hid pasC; rw [hm, hx]
    have hw1 : IntKind.i64.wrap ((k : Int) * 508) = (k : Int) * 508 := by rw [IntKind.wrap_i64]; omega
    have hw2 : IntKind.i64.wrap ((n : Int) - (k : Int) * 508) = (n : Int) - (k : Int) * 508 := by rw [IntKind.wrap_i64]; omega
    have hw0 : IntKind.i64.wrap (n : Int) = (n : Int) := by rw [IntKind.wrap_i64]; omega
    have hmin : min ((n : Int) - (k : Int) * 508) 508 = (m : Int) := by omega
    have hm5 : m ≤ 508 := by omega
    have HBA := fun (h5 : x.size ≤ 508) W2 => bare_any x (m : Int) W2 (by omega)
    simp only [Int.toNat_natCast] at HBA
    have HWR := fun l9 h9 => write_any (q + 1 + 1 + 1) l9 (x.extract 0 m) W h9
    have HBAD : Hid (¬ pasC L n k → KeepsFrom W0.heap.size W ((W.setCell ⟨q + 1, 0, none⟩ (.string ⟨#[]⟩)).setCell ⟨q + 1 + 1, 0, none⟩ (.int .i64 154)) ∧ PasX w W0 L n q .ret k ((W.setCell ⟨q + 1, 0, none⟩ (.string ⟨#[]⟩)).setCell ⟨q + 1 + 1, 0, none⟩ (.int .i64 154))) := fun hb => by
      have hon : Only (fun i => i = q + 1 ∨ i = q + 1 + 1) W ((W.setCell ⟨q + 1, 0, none⟩ (.string ⟨#[]⟩)).setCell ⟨q + 1 + 1, 0, none⟩ (.int .i64 154)) := Only.setCell (p := ⟨q + 1 + 1, 0, none⟩) (Only.setCell (p := ⟨q + 1, 0, none⟩) (Only.refl _ W) (.inr (.inl rfl)) _) (.inr (.inr rfl)) _
      refine ⟨keeps_of_only _ hon (by rintro j (rfl | rfl); exact ⟨_, _, _, d1⟩; exact ⟨_, _, _, d2⟩), rfl, fun hp => hb ((HIF.out.1 hp) k hk), (d1.put _).other (by omega) _, (d2.other (by omega) _).put _, ?_, Nat.le_trans hsz hon.size⟩
      rw [hq] at hBW ⊢
      exact (hBW.trans (hI.below.mono (by omega))).trans (hon.below (n := q) (by omega) (by rintro j (rfl | rfl) <;> omega))
    have e1 := d1.c
    have e2 := d2.c
    have f1 := d1.f
    have f2 := (d2.other (r := q + 1) (by omega) (.string ⟨#[]⟩)).f
    have e3 := (d2.other (r := q + 1) (by omega) (.string ⟨#[]⟩)).c
    by_cases k1 : m ≤ x.size
    · have j1 : decide ((x.size : Int) < (m : Int)) = false := decide_eq_false (by omega)
      have j1' : ¬ (x.size : Int) < (m : Int) := by omega
      by_cases k2 : x.size ≤ 508
      · replace HBA := HBA k2
        have j2 : decide ((x.size : Int) > 508) = false := decide_eq_false (by omega)
        have j2' : ¬ (508 : Int) < (x.size : Int) := by omega
        cases k3 : bareB x m with
        | true =>
          rw [k3] at HBA
          have HBA := Lib.hid HBA
          have hC := HC.out.2 ⟨k1, k2, k3⟩
          have hfit : ∀ j, j < k + 1 → pasC L n j := fun j hj => by
            rcases Nat.lt_succ_iff_lt_or_eq.1 hj with h | h
            · exact hI.fits j h
            · rw [h]; exact hC
          have hsc := pasB_succ (L := L) (n := n) (k := k) (by rw [nb_iff]; exact hkn) hfit
          rw [hx, hm] at hsc
          have hlen := pasB_len (L := L) (n := n) (k := k)
          have hxl : (x.extract 0 m).size ≤ 508 := by rw [ByteArray.size_extract]; omega
          have hpl : (pasB L n k).length ≤ 508 * k := by
            have h6 := jn_len_full (L := L) (n := n) k (by rw [nb_iff]; exact hkn) hI.fits
            unfold pasB
            rw [List.length_take, len_list, h6]
            omega
          have HW := Lib.hid (HWR _ hI.bld (by omega))
          have HNX : Hid (∀ W2, Bld W2 (q + 1 + 1 + 1) (pasB L n k ++ (x.extract 0 m).data.toList) → Below (q + 1 + 1 + 1) W W2 → NoC W W2 → KeepsFrom W0.heap.size W W2 ∧ KeptN q W W2 ∧ PasI W0 L n (q + 1 + 1 + 1) (k + 1) W2) := fun W2 r1 r2 r3 =>
            ⟨r3.keeps _, ⟨fun b hb => r2.block b (by omega), r2.size⟩, ⟨hI.below.trans r2, by rw [hsc]; exact r1, fun h => by omega, hfit⟩⟩
          have gm1 : (m : Int) ≤ (x.size : Int) := by omega
          clear hI hsq hC hfit hsc hlen hxl hpl HBAD HWR HC k3 d0 d1 d2 b0 b1 b2 b3 b4 hbl hI0 hm hx hm2 hrec hs0
          gi_wp2_with (first
            | (gi_at_call 34; refine (callsIn_wide.2 (HBA.out _)).mono ?_; rintro e w1 ⟨rfl, hw⟩; rw [← hw]; clear hw w1)
            | (gi_at_call 35; refine (CallsIn.inRound l (callsIn_wide.2 HW.out)).mono ?_; rintro e w2 ⟨rfl, r1, r2, r3⟩; have HR := Lib.hid (HNX.out _ r1 r2 r3); clear r1 r2 r3))
          exact HR.out
        | false =>
          rw [k3] at HBA
          have HBA := Lib.hid HBA
          have HB := Lib.hid (HBAD.out (fun h => by have := (HC.out.1 h).2.2; rw [k3] at this; cases this))
          clear hI hsq HBAD HWR HC k3 d0 d1 d2 b0 b1 b2 b3 b4 hbl hI0 hm hx hm2 hrec hs0
          gi_wp2_with (gi_at_call 34; refine (callsIn_wide.2 (HBA.out _)).mono ?_; rintro e w1 ⟨rfl, hw⟩; rw [← hw]; clear hw w1)
          exact HB.out
      · have j2 : decide ((x.size : Int) > 508) = true := decide_eq_true (by omega)
        have j2' : (508 : Int) < (x.size : Int) := by omega
        have HB := Lib.hid (HBAD.out (fun h => k2 (HC.out.1 h).2.1))
        clear hI hsq HBAD HWR HC HBA d0 d1 d2 b0 b1 b2 b3 b4 hbl hI0 hm hx hm2 hrec hs0
        gi_wp2
        exact HB.out
    · have j1 : decide ((x.size : Int) < (m : Int)) = true := decide_eq_true (by omega)
      have j1' : (x.size : Int) < (m : Int) := by omega
      have HB := Lib.hid (HBAD.out (fun h => k1 (HC.out.1 h).1))
      clear hI hsq HBAD HWR HC HBA d0 d1 d2 b0 b1 b2 b3 b4 hbl hI0 hm hx hm2 hrec hs0
      gi_wp2
      exact HB.out
  case done =>
    rintro D W hD hI hKD
    have hp : pasteP L n := HIF.out.2 hI.fits
    have hsz := hI.below.size
    have d1 : CellAt W (q + 1) 9 (.string ⟨#[]⟩) := b1.of_heap (hI.below.block _ (by omega))
    have d2 : CellAt W (q + 1 + 1) 26 (.int .i64 0) := b2.of_heap (hI.below.block _ (by omega))
    have HST : Hid (Calls Try.prog 36 #[.pointer (some ⟨q + 1 + 1 + 1, 0, none⟩)] W fun e w' => e = .returned (.string ⟨(pasB L n N).toArray⟩) ∧ Below (q + 1 + 1 + 1) W w' ∧ NoC W w') := by
      by_cases h0 : N = 0
      · subst h0
        rw [pasB_zero]
        exact string_nil _ W (hI.fresh rfl)
      · exact string_any _ _ W hI.bld (HPOS.out (by omega) hp)
    obtain ⟨y, hy⟩ : ∃ y : ByteArray, (⟨(pasB L n N).toArray⟩ : ByteArray) = y := ⟨_, rfl⟩
    rw [hy] at HST
    have HFIN : Hid (∀ W2, Below (q + 1 + 1 + 1) W W2 → NoC W W2 → CellAt W2 (q + 1) 9 (.string ⟨#[]⟩) ∧ CellAt W2 (q + 1 + 1) 26 (.int .i64 0) ∧ ((W2.setCell ⟨q + 1, 0, none⟩ (.string y)).setCell ⟨q + 1 + 1, 0, none⟩ (.int .i64 0)).heap[D]? = some (.deferred (some [])) ∧
        (((W2.setCell ⟨q + 1, 0, none⟩ (.string y)).setCell ⟨q + 1 + 1, 0, none⟩ (.int .i64 0)).putObj D (.deferred none)).cell? ⟨q + 1, 0, none⟩ = some (.string y) ∧
        (((W2.setCell ⟨q + 1, 0, none⟩ (.string y)).setCell ⟨q + 1 + 1, 0, none⟩ (.int .i64 0)).putObj D (.deferred none)).cell? ⟨q + 1 + 1, 0, none⟩ = some (.int .i64 0) ∧
        Ans w (.tuple #[.string (pasteV L n), .int .i64 (pasteE L n)]) (.returned (.tuple #[.string y, .int .i64 0])) (((W2.setCell ⟨q + 1, 0, none⟩ (.string y)).setCell ⟨q + 1 + 1, 0, none⟩ (.int .i64 0)).putObj D (.deferred none))) := fun W2 r1 r2 => by
      have hon : Only (fun i => i = q + 1 ∨ i = q + 1 + 1) W2 ((W2.setCell ⟨q + 1, 0, none⟩ (.string y)).setCell ⟨q + 1 + 1, 0, none⟩ (.int .i64 0)) := Only.setCell (p := ⟨q + 1 + 1, 0, none⟩) (Only.setCell (p := ⟨q + 1, 0, none⟩) (Only.refl _ W2) (.inr (.inl rfl)) _) (.inr (.inr rfl)) _
      have g1 : CellAt W2 (q + 1) 9 (.string ⟨#[]⟩) := d1.of_heap (r1.block _ (by omega))
      have g2 : CellAt W2 (q + 1 + 1) 26 (.int .i64 0) := d2.of_heap (r1.block _ (by omega))
      have hDW : D < W.heap.size := (Array.getElem?_eq_some_iff.1 hKD).1
      have hD2 : W2.heap[D]? = some (.deferred (some [])) := (r2.block D hDW (fun ⟨c, t, f, e⟩ => by rw [hKD] at e; cases e)).trans hKD
      have hD3 := (hon.block D (Array.getElem?_eq_some_iff.1 hD2).1 (by omega)).trans hD2
      refine ⟨g1, g2, hD3, ?_, ?_, ?_⟩
      · exact (((g1.put (.string y)).other (by omega) _).of_heap (World.putObj_heap_other (by omega))).c
      · exact (((g2.other (by omega) _).put _).of_heap (World.putObj_heap_other (by omega))).c
      · have h6 := HYES.out (((W2.setCell ⟨q + 1, 0, none⟩ (.string y)).setCell ⟨q + 1 + 1, 0, none⟩ (.int .i64 0)).putObj D (.deferred none)) hp (by
          rw [hq] at hBW ⊢
          exact below_putObj (((hBW.trans (hI.below.mono (by omega))).trans (r1.mono (by omega))).trans (hon.below (n := q) (by have := r1.size; omega) (by rintro j (rfl | rfl) <;> omega))) D (by omega) _)
        rw [hy] at h6
        exact h6
    clear hI hsq hp b0 b1 b2 b3 b4 hbl hI0 hKD hy d1 d2
    gi_wp2_with (gi_at_call 36; (with_reducible refine CallsIn.mono (callsIn_wide.2 HST.out) ?_); rintro e w2 ⟨rfl, r1, r2⟩; obtain ⟨g1, g2, g3⟩ := HFIN.out _ r1 r2; have p1 := g1.c; have p2 := g1.f; have p3 := (g2.other (r := q + 1) (by omega) (.string y)).c; have p4 := (g2.other (r := q + 1) (by omega) (.string y)).f; have HG := Lib.hid g3; clear g1 g2 g3 r1 r2)
    refine ⟨by simp, .inl ⟨_, _, rfl, run_takeDeferred HG.out.1, ?_⟩⟩
    refine ⟨_, results_cc rfl _ _ rfl rfl HG.out.2.1 HG.out.2.2.1, ?_⟩
    exact HG.out.2.2.2
  case stop =>
    rintro D c k W hD hk hX hKD
    obtain rfl := hX.code
    have HKD := Lib.hid hKD
    have hsz := hX.size
    have HB := Lib.hid (HNO.out _ hX.bad (below_putObj hX.below D (by omega) (.deferred none)))
    have HC1 := Lib.hid (hX.b1.of_heap (W' := W.putObj D (.deferred none)) (World.putObj_heap_other (by omega))).c
    have HC2 := Lib.hid (hX.b2.of_heap (W' := W.putObj D (.deferred none)) (World.putObj_heap_other (by omega))).c
    clear hX hsq hKD b0 b1 b2 b3 b4 hbl hI0
    gi_wp2
    refine ⟨by simp, .inl ⟨_, _, rfl, run_takeDeferred HKD.out, ?_⟩⟩
    refine ⟨_, results_cc rfl _ _ rfl rfl HC1.out HC2.out, ?_⟩
    exact HB.out
theorem paste_any (v : Value) (L : List ByteArray) (n : Nat) (w : World) (hL : Strs w v L) (hn : n < 4294967296) (hl : L.length ≤ 100) (hz : ∀ i, i < L.length → (tx L i).size ≤ 9223372036854775807) :
    Calls Try.prog 12 #[v, .int .u32 (n : Int)] w (Ans w (.tuple #[.string (pasteV L n), .int .i64 (pasteE L n)])) := by
  obtain ⟨a, cap, rfl, m1, m2⟩ := hL.parts
  obtain ⟨N, hN⟩ : ∃ N, L.length = N := ⟨_, rfl⟩
  by_cases h1 : n ≤ 200000
  · by_cases h2 : N = nb n
    · rw [hN] at hL hl hz ⊢
      exact callsIn_wide.1 (paste_in a N cap n L w hN hL hl hz h1 h2)
    · have HNO := Lib.hid (paste_no (L := L) (n := n) (fun h => h2 (hN ▸ h.1.2)))
      have hHB := fun W => Ino.blocks_any n W hn
      rw [bl_nb] at hHB
      rw [hN] at hL hl hz m1 ⊢
      obtain ⟨B, hB⟩ : ∃ B, nb n = B := ⟨_, rfl⟩
      rw [hB] at h2 hHB
      have g1 : decide ((n : Int) > 200000) = false := decide_eq_false (by omega)
      have g2 : ¬ (200000 : Int) < (n : Int) := by omega
      have g3 : ((N : Int) != (B : Int)) = true := by simp; omega
      have HB := Lib.hid (pair_new (w.alloc (.cells #[.int .u32 (n : Int)] 23)) 9 26 (.string ⟨#[]⟩) (.int .i64 154))
      have HB0 := Lib.hid (below_new w (.cells #[.int .u32 (n : Int)] 23))
      have HHB := Lib.hid hHB
      clear h1 h2 hN hL hB hl hz hHB
      go_enter Try.func12, Try.ntmps12
      go_wp2_with (go_at_call 32; refine (HHB.out _).mono ?_; rintro e w1 ⟨rfl, hw⟩; rw [← hw]; clear hw w1)
      have hb := HB.out
      rw [World.size_alloc] at hb
      refine bodyPost_ret (results_cc rfl _ _ rfl rfl hb.1.c hb.2.1.c) rfl ?_
      rw [HNO.out.1, HNO.out.2]
      exact ⟨rfl, HB0.out.trans (hb.2.2.mono (by omega))⟩
  · have HNO := Lib.hid (paste_no (L := L) (n := n) (fun h => h1 h.1.1))
    rw [hN] at hL hl hz m1 ⊢
    have g1 : decide ((n : Int) > 200000) = true := decide_eq_true (by omega)
    have g2 : (200000 : Int) < (n : Int) := by omega
    have HB := Lib.hid (pair_new (w.alloc (.cells #[.int .u32 (n : Int)] 23)) 9 26 (.string ⟨#[]⟩) (.int .i64 154))
    have HB0 := Lib.hid (below_new w (.cells #[.int .u32 (n : Int)] 23))
    clear h1 hN hL hl hz
    go_enter Try.func12, Try.ntmps12
    go_wp2
    have hb := HB.out
    rw [World.size_alloc] at hb
    refine bodyPost_ret (results_cc rfl _ _ rfl rfl hb.1.c hb.2.1.c) rfl ?_
    rw [HNO.out.1, HNO.out.2]
    exact ⟨rfl, HB0.out.trans (hb.2.2.mono (by omega))⟩
end
end Go.Proofs.Yteopcjfakhmifaa.Vol
