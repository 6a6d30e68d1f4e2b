/- A bag as it lies in memory; what Put, Get, Len and New do with it. -/
import Derived.Test.YtkhbfjncamobdaaBagAddWS
import Derived.Test.YtkhbfjncamobdaaBagPkA
namespace Go.Proofs.Ytkhbfjncamobdaa.S
open Go.RowKit Go.Shelf
attribute [local go_sem] Oper.semAt_some
set_option linter.unusedVariables false

set_option maxRecDepth 100000 in
set_option maxHeartbeats 1000000 in
theorem way_nil (at0 : Int) (w : World) : Calls Try.prog 19 #[.pointer none, .int .i64 at0] w fun e w' => e = .returned (.tuple #[.slice none 0 0, .bool false]) ∧ w = w' := by
  go_enter Try.func19, Try.ntmps19
  go_wp2
  go_step3
  go_wp2
  go_step3
  go_wp2
  go_loopg [0, 6] 0 (fun gk s0 s6 wr => s0 = .pointer none ∧ s6 = .slice none 0 0 ∧ w = wr)
  case atStart => exact ⟨rfl, rfl, rfl⟩
  case round =>
    obtain ⟨rfl, rfl, rfl⟩ := hrel
    go_wp2
    rw [Exit.noGoto_ret]
    go_ret2
    exact ⟨rfl, rfl⟩

/-- what stands in the bag, in which blocks -/
structure BagIs (w : World) (a : Nat) (F : Nat → Prop) (xs : List It) : Prop where
  rise : T.Rise xs
  own : F a
  tree : (BagAt w a none xs.length ∧ xs = []) ∨ ∃ t d, BagAt w a (some t.r.b) xs.length ∧ Mem w t.recs ∧ T.wf d t ∧ 1 ≤ t.r.items.length ∧ t.r.items.length ≤ 7 ∧ t.inord = xs ∧ ∀ r, r ∈ t.recs → ∀ k, k ∈ r.blocks → F k
theorem BagIs.lt {w : World} {a : Nat} {F : Nat → Prop} {xs : List It} (h : BagIs w a F xs) : a < w.heap.size := by
  rcases h.tree with ⟨h, _⟩ | ⟨t, d, h, _⟩
  · exact (Array.getElem?_eq_some_iff.1 h).1
  · exact (Array.getElem?_eq_some_iff.1 h).1
theorem BagIs.kept {w w' : World} {a : Nat} {F S : Nat → Prop} {xs : List It} (h : BagIs w a F xs) (ho : Only S w w') (hS : ∀ k, F k → ¬ S k) : BagIs w' a F xs := by
  have ha : w'.heap[a]? = w.heap[a]? := ho.block a h.lt (hS a h.own)
  refine ⟨h.rise, h.own, ?_⟩
  rcases h.tree with ⟨hb, hx⟩ | ⟨t, d, hb, hm, rest, rest2, rest3, rest4, hF⟩
  · exact .inl ⟨ha.trans hb, hx⟩
  · exact .inr ⟨t, d, ha.trans hb, hm.kept (fun r hr k hk => ho.block k ((hm.ok r hr).blk k hk) (hS k (hF r hr k hk))), rest, rest2, rest3, rest4, hF⟩
theorem BagIs.more {w : World} {a : Nat} {F G : Nat → Prop} {xs : List It} (h : BagIs w a F xs) (hG : ∀ k, F k → G k) : BagIs w a G xs := by
  refine ⟨h.rise, hG _ h.own, ?_⟩
  rcases h.tree with hh | ⟨t, d, hb, hm, r1, r2, r3, r4, hF⟩
  · exact .inl hh
  · exact .inr ⟨t, d, hb, hm, r1, r2, r3, r4, fun r hr k hk => hG k (hF r hr k hk)⟩

set_option maxRecDepth 100000 in
theorem new_bag (w : World) : Calls Try.prog 5 #[] w fun e w' => e = .returned (ptrV w.heap.size) ∧ BagIs w' w.heap.size (fun k => w.heap.size ≤ k) [] ∧ Below w.heap.size w w' := by
  unfold ptrV
  go_enter Try.func5, Try.ntmps5
  go_wp2
  go_ret
  exact ⟨rfl, ⟨List.Pairwise.nil, Nat.le_refl _, .inl ⟨heap_alloc_new w _, rfl⟩⟩, (Below.refl _ w).alloc (Nat.le_refl _) _⟩

theorem bag_cells {w : World} {a : Nat} {top : Option Nat} {n : Int} (h : BagAt w a top n) : w.cell? ⟨a, 0, none⟩ = some (.pointer (top.map fun b => ⟨b, 0, none⟩)) ∧ w.cell? ⟨a, 1, none⟩ = some (.int .i64 n) ∧ w.frozen? ⟨a, 0, none⟩ = false ∧ w.frozen? ⟨a, 1, none⟩ = false := by
  unfold BagAt at h
  exact ⟨by rw [cell_of_row w _ 0 _ _ _ h]; rfl, by rw [cell_of_row w _ 1 _ _ _ h]; rfl, by simp [World.frozen?, h], by simp [World.frozen?, h]⟩

theorem len_nil (w : World) : Calls Try.prog 7 #[.pointer none] w fun e w' => e = .returned (.int .i64 0) ∧ w = w' := by
  go_enter Try.func7, Try.ntmps7
  go_wp2
  go_ret
  exact ⟨rfl, rfl⟩
theorem len_bag (w : World) (a : Nat) (F : Nat → Prop) (xs : List It) (h : BagIs w a F xs) : Calls Try.prog 7 #[ptrV a] w fun e w' => e = .returned (.int .i64 xs.length) ∧ w = w' := by
  have h1 : w.cell? ⟨a, 1, none⟩ = some (.int .i64 (xs.length : Int)) := by
    rcases h.tree with ⟨h, _⟩ | ⟨t, d, h, _⟩
    · exact (bag_cells h).2.1
    · exact (bag_cells h).2.1
  unfold ptrV
  clear h
  go_enter Try.func7, Try.ntmps7
  go_wp2
  go_ret
  exact ⟨rfl, rfl⟩

/-- putting the first item -/
def FirstPost (x : It) (a : Nat) (n : Int) (w : World) (e : Ending) (W : World) : Prop :=
  e = .returned (.tuple #[]) ∧ ∃ r, BagAt W a (some r.b) n ∧ Ok W r ∧ r.items = [x] ∧ r.kv = none ∧ r.kids = [] ∧ Only (fun k => k = a) w W ∧ ∀ k, k ∈ r.blocks → w.heap.size ≤ k

def FirstI (x : It) (a : Nat) (n : Int) (w W0 : World) (_ : Nat) (W : World) : Prop :=
  W.heap[w.heap.size]? = some (.cells #[.int .i64 x.1, .string x.2] 62 (0, 0)) ∧ Boxed W (w.heap.size + 1) 40 (.pointer none) ∧ BagAt W a none n ∧ Below W0.heap.size W0 W
theorem firstI_own {x : It} {a : Nat} {n : Int} {w W0 : World} : OwnFrom W0.heap.size (FirstI x a n w W0) := fun k W W' row hI hg hr =>
  ⟨kept_cells hI.1 hg hr, kept_cells hI.2.1 hg hr, kept_cells hI.2.2.1 hg hr, hI.2.2.2.grown hg hI.2.2.2.size (fun r e => (hr r e).1)⟩

set_option maxRecDepth 100000 in
set_option maxHeartbeats 4000000 in
theorem add_first (x : It) (a : Nat) (n : Int) (w : World) (hbag : BagAt w a none n) :
    CallsIn Fence.wide 9 Try.prog 20 #[ptrV a, .slice none 0 0, .agg #[.int .i64 x.1, .string x.2]] w (FirstPost x a n w) := by
  have hfn : ∀ f, Fence.wide.fn f := fun _ => trivial
  unfold ptrV
  refine callsIn_of_wp_marks Try.func20 rfl trivial ?_ rfl
  simp only [Try.ntmps20, List.size_toArray, List.length_cons, List.length_nil, Nat.reduceAdd, Nat.reduceSub, Array.replicate_succ, Array.replicate_zero, List.push_toArray, List.append_toArray, List.nil_append, List.cons_append]
  gi_wp2_with (gi_at_call 32; refine (back_in Fence.wide _ trivial rfl _ ⟨_, _, _, rfl⟩ _).mono ?_; rintro e w' ⟨rfl, rfl⟩)
  obtain ⟨W0, hW0⟩ : ∃ W0, ((w.alloc (.cells #[.int .i64 x.1, .string x.2] 62)).alloc (.cells #[.pointer none] 40)).alloc (.cells #[.slice none 0 0] 56) = W0 := ⟨_, rfl⟩
  have hs0 : W0.heap.size = w.heap.size + 3 := by rw [← hW0]; simp
  have hBW : Below w.heap.size w W0 := by
    rw [← hW0]
    exact (((Below.refl _ w).alloc (Nat.le_refl _) _).alloc (by simp) _).alloc (by simp; omega) _
  have hx0 : W0.heap[w.heap.size]? = some (.cells #[.int .i64 x.1, .string x.2] 62 (0, 0)) := by
    rw [← hW0]
    exact (Below.heap_alloc _ _ _ (by simp; omega)).trans ((Below.heap_alloc _ _ _ (by simp)).trans (heap_alloc_new w _))
  have hr0 : Boxed W0 (w.heap.size + 1) 40 (.pointer none) := by
    rw [← hW0]
    have := Boxed.new (w.alloc (.cells #[.int .i64 x.1, .string x.2] 62)) 40 (.pointer none)
    rw [World.size_alloc] at this
    exact this.alloc _
  have hs2 : Boxed W0 (w.heap.size + 2) 56 (.slice none 0 0) := by
    rw [← hW0]
    have := Boxed.new ((w.alloc (.cells #[.int .i64 x.1, .string x.2] 62)).alloc (.cells #[.pointer none] 40)) 56 (.slice none 0 0)
    simp only [World.size_alloc] at this
    exact this
  have hb0 : BagAt W0 a none n := (hBW.block a (Array.getElem?_eq_some_iff.1 hbag).1).trans hbag
  have halt : a < w.heap.size := (Array.getElem?_eq_some_iff.1 hbag).1
  have hI0 : FirstI x a n w W0 0 W0 := ⟨hx0, hr0, hb0, Below.refl _ _⟩
  rw [hW0]
  have hst := back_steps Fence.wide 8 (by trivial) rfl (by decide) (w.heap.size + 2) [] (.slice none 0 0) 0 (by simp) W0 hs2.cell (World.ownsRow_nil _ _ _ _)
  refine wpIn_rangeFunc_steps rfl (by decide) (gf := 38) (lb := #[.pointer (some ⟨w.heap.size + 2, 0, none⟩)]) rfl trivial (enters_of Try.func38 (by kernel_rfl) rfl)
    hst SameV.trans (fun W l o o' hl _ _ _ b hb => World.putObj_heap_other (fun e => by have := (hb.resolve_right (fun h => by simp [Value.ownBlock] at h)); omega)) (Below.refl _ _) (fun _ => rfl)
    (FirstI x a n w W0) (fun _ _ _ => False) firstI_own (fun c _ _ _ _ h _ _ => h) hI0 (fun _ _ _ => False) (fun _ _ _ _ _ _ h _ _ => h) ?assign ?body ?done ?stop
  case assign =>
    intro l k W K hI hk
    simp at hk
  case body =>
    intro l k a' W _ _ _ _ hk
    simp at hk
  case stop =>
    intro D c k W _ hk
    simp at hk
  case done =>
    rintro D W hD ⟨hx, hr, hb, hB⟩ hKD
    have x0 : W.cell? ⟨w.heap.size, 0, none⟩ = some (.int .i64 x.1) := by rw [cell_of_row W _ 0 _ _ _ hx]; rfl
    have x1 : W.cell? ⟨w.heap.size, 1, none⟩ = some (.string x.2) := by rw [cell_of_row W _ 1 _ _ _ hx]; rfl
    have y0 : W.cell? ⟨w.heap.size + 1, 0, none⟩ = some (.pointer none) := hr.cell
    obtain ⟨z0, _, zf, _⟩ := bag_cells hb
    have hz := hB.size
    have hz1 : w.heap.size + 1 < W.heap.size := by omega
    have hz2 : w.heap.size < W.heap.size := by omega
    have hz3 : a < W.heap.size := by omega
    have hz4 : a < W.heap.size + 1 := by omega
    have HD := Lib.hid hKD
    have HBG := Lib.hid hb
    have HBL := Lib.hid hB
    clear hKD hst hx hr hB hb
    gi_wp2
    obtain ⟨V, hV⟩ : ∃ V, W.setCell ⟨a, 0, none⟩ (.pointer (some ⟨W.heap.size + 1, 0, none⟩)) = V := ⟨_, rfl⟩
    have hVs : V.heap.size = W.heap.size := by rw [← hV, World.size_setCell]
    have hbV : BagAt V a (some (W.heap.size + 1)) n := by rw [← hV]; exact set_node HBG.out
    rw [hV]
    obtain ⟨W5, hW5⟩ : ∃ W5, (V.alloc (.cells #[.int .i64 x.1, .string x.2] 62)).alloc (.cells #[.slice (some ⟨W.heap.size, 0, none⟩) 1 1, .slice none 0 0] 55) = W5 := ⟨_, rfl⟩
    have hb5 : Below V.heap.size V W5 := by rw [← hW5]; exact ((Below.refl _ V).alloc (Nat.le_refl _) _).alloc (by simp) _
    have e0 : W5.heap[W.heap.size]? = some (.cells #[.int .i64 x.1, .string x.2] 62 (0, 0)) := by
      rw [← hW5, ← hVs]
      exact (Below.heap_alloc _ _ _ (by simp)).trans (heap_alloc_new V _)
    have e1 : W5.heap[W.heap.size + 1]? = some (.cells #[.slice (some ⟨W.heap.size, 0, none⟩) 1 1, .slice none 0 0] 55 (0, 0)) := by
      rw [← hW5, ← hVs]
      have := heap_alloc_new (V.alloc (.cells #[.int .i64 x.1, .string x.2] 62)) (.cells #[.slice (some ⟨V.heap.size, 0, none⟩) 1 1, .slice none 0 0] 55)
      rw [World.size_alloc] at this
      exact this
    have hz6 : W.heap.size + 1 < W5.heap.size := (Array.getElem?_eq_some_iff.1 e1).1
    rw [hW5]
    have hDlt := (Array.getElem?_eq_some_iff.1 HD.out).1
    have hDa : D ≠ a := by omega
    have hD5 : W5.heap[D]? = some (.deferred (some [])) := (hb5.block D (by omega)).trans (by rw [← hV]; exact (set_far _ _ _ _ _ hDa).trans HD.out)
    refine ⟨by simp, .inl ⟨_, _, rfl, run_takeDeferred hD5, ?_⟩⟩
    refine ⟨_, results_none rfl _ _ _, rfl, { b := W.heap.size + 1, g := W.heap.size, cap := 1, items := [x], kv := none, kids := [] }, ?_, ⟨?_, ?_, ?_⟩, rfl, rfl, rfl, ?_, ?_⟩
    · exact (World.putObj_heap_other (fun h => hDa h.symm)).trans ((hb5.block a (by omega)).trans hbV)
    · exact (World.putObj_heap_other (show W.heap.size + 1 ≠ D by omega)).trans e1
    · exact own_of_row (rest := []) (by show (W5.putObj D (.deferred none)).heap[W.heap.size]? = _; rw [World.putObj_heap_other (show W.heap.size ≠ D by omega)]; simpa [cellsI] using e0) (by simp [cellsI]) (by simp) (by show 1 ≤ maxLen; unfold maxLen; omega) (by simp [cellsI]) (Nat.zero_le _)
    · exact ⟨rfl, .inl ⟨rfl, rfl⟩⟩
    · have h1 : Only (fun k => k = a) w W := Only.of_below (hBW.trans (HBL.out.mono (by omega)))
      have h2 : Only (fun k => k = a) w V := by rw [← hV]; exact Only.setCell (p := ⟨a, 0, none⟩) h1 (.inr rfl) _
      have h3 : Only (fun k => k = a) w W5 := h2.step (Only.of_below (S := fun k => k = a) hb5) (fun _ _ h => h)
      exact h3.grown (grownBy_putObj' W5 D (.deferred none)) (fun r e => .inl (by cases e; omega))
    · intro k hk
      simp only [Rec.blocks, List.mem_cons, List.not_mem_nil, or_false] at hk
      omega

/-- what stood there, and stands now -/
def PutPost (at0 : Int) (u : ByteArray) (xs : List It) (a : Nat) (F : Nat → Prop) (w : World) (e : Ending) (W : World) : Prop :=
  e = .returned (.bool (T.get at0 xs).isSome) ∧ BagIs W a (fun k => F k ∨ w.heap.size ≤ k) (T.put at0 u xs) ∧ Only F w W

theorem put_nil (at0 : Int) (u : ByteArray) (w : World) : Calls Try.prog 10 #[.pointer none, .int .i64 at0, .string u] w fun e w' => e = .returned (.bool false) ∧ w = w' := by
  go_enter Try.func10, Try.ntmps10
  go_wp2
  go_ret
  exact ⟨rfl, rfl⟩

theorem put_length_out (at0 : Int) (u : ByteArray) (l r : List It) : (l ++ (at0, u) :: r).length = (l ++ r).length + 1 := by simp; omega

set_option maxRecDepth 100000 in
set_option maxHeartbeats 4000000 in
theorem put_empty (at0 : Int) (u : ByteArray) (a : Nat) (F : Nat → Prop) (w : World) (hF : F a) (hb : BagAt w a none 0) :
    Calls Try.prog 10 #[ptrV a, .int .i64 at0, .string u] w (PutPost at0 u [] a F w) := by
  have cH := highest_some a none 0 w hb
  have cW := way_nil at0 w
  obtain ⟨b0, b1, bf0, bf1⟩ := bag_cells hb
  have halt : a < w.heap.size := (Array.getElem?_eq_some_iff.1 hb).1
  have hb2 : BagAt (w.setCell ⟨a, 1, none⟩ (.int .i64 1)) a none 1 := set_node1 hb
  have cA := callsIn_wide.1 (add_first (at0, u) a 1 _ hb2)
  unfold ptrV at cH cA ⊢
  have HH := Lib.hid hb
  simp only [Option.map_none] at cH b0
  clear hb hb2
  go_enter Try.func10, Try.ntmps10
  go_wp2_with (first | (go_at_call 17; refine cH.mono ?_; rintro e w' ⟨rfl, rfl⟩) | (go_at_call 19; refine cW.mono ?_; rintro e w' ⟨rfl, rfl⟩) | (go_at_call 20; refine cA.mono ?_; rintro e W ⟨rfl, hPost⟩))
  go_ret
  obtain ⟨r, h1, h2, h3, h4, h5, h6, h7⟩ := hPost
  refine ⟨rfl, ⟨List.pairwise_singleton _ _, .inl hF, .inr ⟨T.node r [], 0, h1, ⟨fun q hq => ?_, ?_⟩, ⟨rfl, h4, h5⟩, by show 1 ≤ r.items.length; rw [h3]; simp, by show r.items.length ≤ 7; rw [h3]; simp, ?_, ?_⟩⟩, ?_⟩
  · rw [T.recs_eq] at hq
    obtain rfl : q = r := by simpa [T.ks, T.r] using hq
    exact h2
  · rw [T.recs_eq]
    simpa [T.ks, T.r] using h2.nodup
  · rw [T.inord_eq]
    show T.inter [] r.items = [(at0, u)]
    rw [h3]; rfl
  · intro q hq k hk
    rw [T.recs_eq] at hq
    obtain rfl : q = r := by simpa [T.ks, T.r] using hq
    have := h7 k hk
    rw [World.size_setCell] at this
    exact .inr this
  · have h8 : Only F w (w.setCell ⟨a, 1, none⟩ (.int .i64 1)) := Only.setCell (p := ⟨a, 1, none⟩) (Only.refl F w) (.inr hF) _
    exact h8.step h6 (fun i _ hi => by subst hi; exact hF)

end Go.Proofs.Ytkhbfjncamobdaa.S
