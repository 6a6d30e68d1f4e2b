/- The first numbers of a block; bytes that are bare behind them. -/
import Derived.Deep.AppendLies
import Derived.Test.YtdakfdecfpebcaaBmpLyP
namespace Go.Proofs.Ytdakfdecfpebcaa.Bmp
open Go.RowKit Ino
attribute [local go_sem] Oper.semAt_some
set_option linter.unusedVariables false
set_option linter.unusedSimpArgs false
/-- the first k numbers of a block -/
def firsts (b : ByteArray) (k : Nat) : List Nat := (List.range k).map (nAt b)
theorem firsts_length (b : ByteArray) (k : Nat) : (firsts b k).length = k := by simp [firsts]
theorem firsts_succ (b : ByteArray) (k : Nat) : firsts b (k + 1) = firsts b k ++ [nAt b k] := by simp [firsts, List.range_succ]
theorem firsts_small (b : ByteArray) (k : Nat) : Small (firsts b k) := fun x hx => by
  obtain ⟨i, _, rfl⟩ := List.mem_map.1 hx
  exact nAt_lt b i
theorem firsts_all (b : ByteArray) : firsts b 127 = numsAt b := rfl
/-- is a block one of k numbers? -/
def frontP (b : ByteArray) (k : Nat) : Prop := b.size = 508 ∧ bareB b (4 * k) = true
instance (b : ByteArray) (k : Nat) : Decidable (frontP b k) := by unfold frontP; infer_instance
def U32Post (L : Option (List Nat)) (w : World) (e : Ending) (w' : World) : Prop := match L with
  | some L => ∃ v, e = .returned (.tuple #[v, .int .i64 0]) ∧ U32s w' v L ∧ Below w.heap.size w w'
  | none => e = .returned (.tuple #[.slice none 0 0, .int .i64 130]) ∧ Below w.heap.size w w'
theorem infoU3 : (Try.prog.info? 22).map (fun i => (i.zero, i.size, i.bytes)) = some (some (.int .u32 0), 1, 4) := by kernel_rfl
theorem results_two {fn : Func} {r t : Tmp} (h : fn.results = #[.tmp r, .tmp t]) (tmps : Array Value) (w : World) : (results fn tmps).run Try.prog w = .ok (.tuple #[tmps.getD r undef, tmps.getD t undef]) w := by
  simp [results, h, go_sem]
/-- what has been read behind k rounds -/
def FrI (W0 : World) (s : Nat) (b : ByteArray) (n : Nat) (k : Nat) (W : World) : Prop :=
  Only (fun i => i = s) W0 W ∧ k ≤ n ∧ ∃ v, CellAt W s 31 v ∧ W.ownsRow W0.heap.size 22 1 v k ((firsts b k).map fun (n : Nat) => Value.int .u32 (n : Int))
def FrX (W0 : World) (s : Nat) (b : ByteArray) (n : Nat) (c : Code) (k : Nat) (W : World) : Prop := c = .exit 0 ∧ k = n ∧ FrI W0 s b n k W
theorem frI_own {W0 : World} {s : Nat} {b : ByteArray} {n : Nat} : OwnFrom W0.heap.size (FrI W0 s b n) := fun k W W' row hI hg hr => by
  obtain ⟨h1, h0, v, h2, h3⟩ := hI
  refine ⟨h1.grown hg (fun r e => .inl (hr r e).1), h0, v, kept_cells h2 hg hr, h3.kept hg ?_⟩
  cases hv : v.ownBlock with
  | none => exact .inl rfl
  | some g =>
    right
    intro e
    obtain ⟨_, o, ho, hc⟩ := hr g e.symm
    rcases h3.2 with ⟨e1, _⟩ | ⟨g2, cap, cur, e1, _, hgg, _⟩
    · rw [e1] at hv; cases hv
    · rw [e1] at hv
      have e2 : g2 = g := by simpa [Value.ownBlock] using hv
      rw [e2, ho] at hgg
      cases hgg
      cases hc
theorem frX_own {W0 : World} {s : Nat} {b : ByteArray} {n : Nat} (c : Code) : OwnFrom W0.heap.size (FrX W0 s b n c) := fun k W W' row hI hg hr => ⟨hI.1, hI.2.1, frI_own _ _ _ _ hI.2.2 hg hr⟩
section
set_option maxRecDepth 100000
set_option maxHeartbeats 4000000
theorem front_in (b : ByteArray) (n : Nat) (w : World) (hn : n ≤ 127) (hp : frontP b n) :
    CallsIn Fence.wide 9 Try.prog 34 #[.string b, .int .i64 n] w (U32Post (some (firsts b n)) w) := by
  have hfn : ∀ f, Fence.wide.fn f := fun _ => trivial
  obtain ⟨i0, hin, hz0, hz1, hz2⟩ := info_parts infoU3
  obtain ⟨hb, hbare⟩ := hp
  have HBA := Lib.hid (fun W => bare_any b (4 * (n : Int)) W (by omega))
  rw [show (4 * (n : Int)).toNat = 4 * n by omega, hbare] at HBA
  have hw4 : IntKind.i64.wrap ((n : Int) * 4) = 4 * (n : Int) := by rw [IntKind.wrap_i64]; omega
  have hq : ((b.size : Int) != 508) = false := by rw [hb]; rfl
  have hq2 : (b.size == 508) = true := by rw [hb]; rfl
  have hnew := below_new w (.cells #[.int .i64 n] 3)
  have c0 : (w.alloc (.cells #[.int .i64 n] 3)).cell? ⟨w.heap.size, 0, none⟩ = some (.int .i64 n) := (CellAt.new w 3 (.int .i64 n)).c
  have HFIN : Hid (∀ W v, Below w.heap.size w W → U32s W v (firsts b n) → U32Post (some (firsts b n)) w (.returned (.tuple #[v, .int .i64 0])) W) := fun W v h1 h2 => ⟨v, rfl, h2, h1⟩
  obtain ⟨R, hR⟩ : ∃ R, U32Post (some (firsts b n)) w = R := ⟨_, rfl⟩
  rw [hR] at HFIN ⊢
  clear hbare hR
  refine callsIn_of_wp_marks Try.func34 rfl trivial ?_ rfl
  simp only [Try.ntmps34, List.size_toArray, List.length_cons, List.length_nil, Nat.reduceAdd, Nat.reduceSub, Array.replicate_succ, Array.replicate_zero, List.push_toArray, List.append_toArray, List.nil_append, List.cons_append]
  gi_wp2
  apply wide_scope
  gi_wp2_with (gi_at_call 43; refine (callsIn_wide.2 (HBA.out _)).mono ?_; rintro e w1 ⟨rfl, hw⟩; rw [← hw]; clear hw w1)
  apply wide_label
  gi_wp2_with (gi_at_call 44; refine (nums_in _ _ _).mono ?_; rintro e w4 ⟨rfl, rfl⟩)
  obtain ⟨s, hs⟩ : ∃ s, w.heap.size = s := ⟨_, rfl⟩
  obtain ⟨W0, hW0⟩ : ∃ W0, ((w.alloc (.cells #[.int .i64 n] 3)).alloc (.cells #[.slice none 0 0] 31)).alloc (.cells #[.string b] 9) = W0 := ⟨_, rfl⟩
  have hz : ∀ (W : World) (o : Obj) (k : Nat) (y : Obj), W.heap[k]? = some y → (W.alloc o).heap[k]? = some y := fun W o k y h => (Below.heap_alloc _ _ _ (Array.getElem?_eq_some_iff.1 h).1).trans h
  have hn9 : ∀ (W : World) (o : Obj) (n : Nat), W.heap.size = n → (W.alloc o).heap[n]? = some o := fun W o n h => h ▸ World.alloc_heap_new W o
  have hs0 : W0.heap.size = s + 3 := by rw [← hW0, ← hs]; simp
  have b0 : CellAt W0 s 3 (.int .i64 n) := by rw [← hW0, ← hs]; exact hz _ _ _ _ (hz _ _ _ _ (hn9 _ _ _ rfl))
  have b1 : CellAt W0 (s + 1) 31 (.slice none 0 0) := by rw [← hW0, ← hs]; exact hz _ _ _ _ (hn9 _ _ _ (by simp))
  have b2 : CellAt W0 (s + 1 + 1) 9 (.string b) := by rw [← hW0, ← hs]; exact hn9 _ _ _ (by simp)
  have hBW : Below w.heap.size w W0 := by rw [← hW0]; exact below_al (below_al (below_new w _) _) _
  rw [hW0, hs]
  rw [hs] at hBW
  have hsq := nums_steps (s + 1 + 1) b hb W0 b2.c
  rw [hs] at HFIN
  clear hW0 hz hn9 hnew c0 hs
  refine wpIn_rangeFunc_steps rfl (by decide) (gf := 50) (lb := #[.pointer (some ⟨s + 1 + 1, 0, none⟩)]) rfl trivial (enters_of Try.func50 (by kernel_rfl) rfl)
    hsq sameK_t (sameK_b (by simp; omega)) (Below.refl _ _) (fun _ => rfl)
    (FrI W0 (s + 1) b n) (FrX W0 (s + 1) b n) frI_own frX_own ⟨Only.refl _ _, Nat.zero_le _, _, b1, World.ownsRow_nil _ _ _ _⟩
    (fun k a' _ => a' = { tmps := #[.string b, .int .i64 n, undef, .pointer (some ⟨s, 0, none⟩), .slice none 0 0, .int .i64 0, .pointer (some ⟨s + 1, 0, none⟩), .int .i64 (k : Int), .int .u32 (nAt b k), .string b, .int .i64 508, .bool false, .bool false, .string b, .int .i64 n, .int .i64 (4 * (n : Int)), .bool true, .bool false, .bool false, .string b, .func (.func 50) #[] #[.pointer (some ⟨s + 1 + 1, 0, none⟩)], .int .i64 (k : Int), .int .u32 (nAt b k), undef, undef, undef, undef, undef, undef, undef, undef], defers := [] })
    (fun _ _ _ _ _ _ h _ _ => h) ?assign ?body ?done ?stop
  case assign =>
    intro l k W Q hI hk hQ
    have HQ := Lib.hid (hQ _ W (KeepsFrom.refl _ _) (Same.refl _ _) hI rfl)
    unfold encN
    clear hQ hI hsq
    gi_wp2
    exact HQ.out
  case body =>
    rintro l k a' W hl hrec hI rfl hk
    obtain ⟨hon, hkn, v, hc, hown⟩ := hI
    have hsz := hon.size
    have k0 : CellAt W s 3 (.int .i64 n) := b0.of_heap (hon.block _ b0.lt (by omega))
    have c0 := k0.c
    have c1 := hc.c
    have hnx := firsts_succ b k
    by_cases hkn2 : k = n
    · have q1 : ((k : Int) == (n : Int)) = true := by rw [hkn2]; simp
      have HI : Hid (FrX W0 (s + 1) b n (.exit 0) k W) := ⟨rfl, hkn2, hon, hkn, v, hc, hown⟩
      generalize nAt b k = x at *
      clear hon hown hsq hc hnx hrec hkn2
      gi_wp2
      exact ⟨KeepsFrom.refl _ _, HI.out⟩
    · have q1 : ((k : Int) == (n : Int)) = false := beq_eq_false_iff_ne.2 (by omega)
      have hvb : ∀ r, v.ownBlock = some r → W0.heap.size ≤ r ∧ ∃ c t f, W.heap[r]? = some (.cells c t f) := fun r e => by
        rcases hown.2 with ⟨e1, _⟩ | ⟨g2, cap2, cur, e1, hb2, hgg, _⟩
        · rw [e1] at e; cases e
        · rw [e1] at e
          have e2 : g2 = r := by simpa [Value.ownBlock] using e
          rw [← e2]
          exact ⟨hb2, _, _, _, hgg⟩
      obtain ⟨x, hx⟩ : ∃ x, nAt b k = x := ⟨_, rfl⟩
      rw [hx] at hnx
      simp only [hx]
      have hfin : ∀ v' W4, W4.ownsRow W0.heap.size 22 1 v' (k + 1) (((firsts b k).map fun (n : Nat) => Value.int .u32 (n : Int)) ++ [.int .u32 (x : Int)]) → (W.alloc (.cells #[.int .u32 (x : Int)] 22)).grownBy W4 v.ownBlock → CellAt W4 (s + 1) 31 v ∧ (KeepsFrom W0.heap.size W (W4.setCell ⟨s + 1, 0, none⟩ v') ∧ Same [s + 1 + 1] W (W4.setCell ⟨s + 1, 0, none⟩ v') ∧ FrI W0 (s + 1) b n (k + 1) (W4.setCell ⟨s + 1, 0, none⟩ v')) := fun v' W4 ho hg => by
        have hon2 : Only (fun i => i = s + 1 ∨ v.ownBlock = some i) W W4 := ((Only.refl _ W).alloc (.cells #[.int .u32 (x : Int)] 22)).grown hg (fun r e => .inr (.inr e))
        have hne : ∀ r, v.ownBlock = some r → ¬ s + 1 = r := fun r e => by have := (hvb r e).1; omega
        have hc4 : CellAt W4 (s + 1) 31 v := by
          have h3 : CellAt (W.alloc (.cells #[.int .u32 (x : Int)] 22)) (s + 1) 31 v := hc.of_heap (Below.heap_alloc _ _ _ hc.lt)
          exact h3.of_heap (hg.block _ h3.lt (fun e => hne _ e.symm rfl))
        have hon5 : Only (fun i => i = s + 1 ∨ v.ownBlock = some i) W (W4.setCell ⟨s + 1, 0, none⟩ v') := hon2.setCell (p := ⟨s + 1, 0, none⟩) (.inr (.inl rfl)) _
        refine ⟨hc4, keeps_of_only _ hon5 (fun j hj => ?_), fun y hy => ?_, hon.step hon5 (fun i hi h => ?_), by omega, v', hc4.put v', ?_⟩
        · rcases hj with rfl | hj
          · exact ⟨_, _, _, hc⟩
          · exact (hvb j hj).2
        · refine hon5.block y (by simp at hy; omega) (fun hh => ?_)
          rcases hh with rfl | hh
          · simp at hy
          · have := (hvb y hh).1; simp at hy; omega
        · rcases h with h | h
          · exact h
          · have := (hvb i h).1; omega
        · rw [hnx, List.map_append]
          exact ho.kept (w' := W4.setCell ⟨s + 1, 0, none⟩ v') (row := some (s + 1)) ⟨rfl, rfl, rfl, (KeepsWalks.setCell W4 ⟨s + 1, 0, none⟩ v').size, fun j hj hn => Below.heap_setCell _ _ _ _ (fun e => hn (by rw [e]))⟩ (by
            cases hv : v'.ownBlock with
            | none => exact .inl rfl
            | some g => exact .inr (fun e => by have := (ho.lt g hv).1; cases e; omega))
      have HFIN9 := Lib.hid hfin
      have HOW := Lib.hid (hown.alloc (.cells #[.int .u32 (x : Int)] 22))
      have hszW : W0.heap.size ≤ (W.alloc (.cells #[.int .u32 (x : Int)] 22)).heap.size := by simp; omega
      obtain ⟨xs, hxs⟩ : ∃ xs, ((firsts b k).map fun (n : Nat) => Value.int .u32 (n : Int)) = xs := ⟨_, rfl⟩
      rw [hxs] at HFIN9 HOW
      have hk9 : k ≤ 127 := by omega
      clear hon hown hsq hc hnx hrec hkn2 hfin hvb k0 hx hxs
      gi_wp2_with (gi_at_builtin; refine wpListIn_append_own _ rfl _ _ 31 rfl W0.heap.size 22 i0 (.int .u32 0) 1 4 Try.underlying31 hin hz0 hz1 hz2 rfl (by decide) v k xs rfl HOW.out ⟨W.heap.size, 0, none⟩ 1 1 [.int .u32 (x : Int)] rfl rfl (World.news_of_block (World.alloc_heap_new W _)) (by simp [Value.oneCell']) (by unfold maxLen; omega) (by omega) hszW ?_; intro v' w1 hown' hgrow _; obtain ⟨hcc, hfi⟩ := HFIN9.out _ _ hown' hgrow; have e4 := hcc.c; have f4 := hcc.f; obtain ⟨g', cap', rfl⟩ := ownsRow_succ hown')
      exact hfi
  case done =>
    rintro D W hD ⟨hon, hk, v, hc, hown⟩ hKD
    obtain rfl : n = 127 := by omega
    have hsz := hon.size
    have hU0 : U32s W v (firsts b 127) := by
      unfold U32s
      rw [firsts_length]
      exact Lies.own hown
    have hgr : W.grownBy (W.putObj D (.deferred none)) (some D) := ⟨rfl, rfl, rfl, by simp [World.putObj], fun j _ hj => World.putObj_heap_other (fun e => hj (by rw [e]))⟩
    have hU : U32s (W.putObj D (.deferred none)) v (firsts b 127) := Lies.grown hU0 hgr (fun j hj c t f h => by cases hj; rw [hKD] at h; cases h)
    have hB9 : Below s w W := hBW.trans (hon.below (n := s) (by omega) (by rintro i rfl; omega))
    have HP := Lib.hid (HFIN.out _ _ (below_putObj hB9 D (by omega) (.deferred none)) hU)
    have HKD := Lib.hid hKD
    have c4 := hc.c
    clear hon hc hown hsq hU0 hU hgr hKD hB9 b0 b1 b2
    gi_wp2
    refine ⟨by simp, .inl ⟨_, _, rfl, run_takeDeferred HKD.out, ?_⟩⟩
    refine ⟨_, results_two (r := 4) (t := 5) rfl _ _, ?_⟩
    exact HP.out
  case stop =>
    rintro D c k W hD hk ⟨rfl, rfl, hon, _, v, hc, hown⟩ hKD
    have hsz := hon.size
    have hU0 : U32s W v (firsts b k) := by
      unfold U32s
      rw [firsts_length]
      exact Lies.own hown
    have hgr : W.grownBy (W.putObj D (.deferred none)) (some D) := ⟨rfl, rfl, rfl, by simp [World.putObj], fun j _ hj => World.putObj_heap_other (fun e => hj (by rw [e]))⟩
    have hU : U32s (W.putObj D (.deferred none)) v (firsts b k) := Lies.grown hU0 hgr (fun j hj c t f h => by cases hj; rw [hKD] at h; cases h)
    have hB9 : Below s w W := hBW.trans (hon.below (n := s) (by omega) (by rintro i rfl; omega))
    have HP := Lib.hid (HFIN.out _ _ (below_putObj hB9 D (by omega) (.deferred none)) hU)
    have HKD := Lib.hid hKD
    have c4 := hc.c
    clear hon hc hown hsq hU0 hU hgr hKD hB9 b0 b1 b2
    gi_wp2
    refine ⟨by simp, .inl ⟨_, _, rfl, run_takeDeferred HKD.out, ?_⟩⟩
    refine ⟨_, results_two (r := 4) (t := 5) rfl _ _, ?_⟩
    exact HP.out
theorem front_any (b : ByteArray) (n : Nat) (w : World) (hn : n ≤ 127) :
    Calls Try.prog 34 #[.string b, .int .i64 n] w (U32Post (if frontP b n then some (firsts b n) else none) w) := by
  by_cases hp : frontP b n
  · rw [if_pos hp]
    exact callsIn_wide.1 (front_in b n w hn hp)
  · rw [if_neg hp]
    have hnew := below_new w (.cells #[.int .i64 n] 3)
    have c0 : (w.alloc (.cells #[.int .i64 n] 3)).cell? ⟨w.heap.size, 0, none⟩ = some (.int .i64 n) := (CellAt.new w 3 (.int .i64 n)).c
    have HF : Hid (∀ W, Below w.heap.size w W → U32Post none w (.returned (.tuple #[.slice none 0 0, .int .i64 130])) W) := fun W h => ⟨rfl, h⟩
    obtain ⟨R, hR⟩ : ∃ R, U32Post none w = R := ⟨_, rfl⟩
    rw [hR] at HF ⊢
    by_cases hb : b.size = 508
    · have HBA := Lib.hid (fun W => bare_any b (4 * (n : Int)) W (by omega))
      have hbr : bareB b (4 * n) = false := Bool.eq_false_iff.2 (fun h => hp ⟨hb, h⟩)
      rw [show (4 * (n : Int)).toNat = 4 * n by omega, hbr] at HBA
      have hw4 : IntKind.i64.wrap ((n : Int) * 4) = 4 * (n : Int) := by rw [IntKind.wrap_i64]; omega
      have hq : ((b.size : Int) != 508) = false := by rw [hb]; rfl
      have hq2 : (b.size == 508) = true := by rw [hb]; rfl
      clear hp hbr hR
      go_enter Try.func34, Try.ntmps34
      go_wp2
      go_step3
      go_wp2_with (go_at_call 43; refine (HBA.out _).mono ?_; rintro e w' ⟨rfl, hw⟩; rw [← hw]; clear hw w')
      exact HF.out _ hnew
    · have hq : ((b.size : Int) != 508) = true := bne_iff_ne.2 (by omega)
      have hq2 : (b.size == 508) = false := beq_eq_false_iff_ne.2 hb
      have hq3 : (b.size != 508) = true := bne_iff_ne.2 hb
      clear hp hR hb
      go_enter Try.func34, Try.ntmps34
      go_wp2
      go_step3
      go_wp2
      exact HF.out _ hnew
end
end Go.Proofs.Ytdakfdecfpebcaa.Bmp
