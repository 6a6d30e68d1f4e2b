/- The shape of a bag that has nothing: no level. -/
import Derived.Test.YtkhbfjncamobdaaBagOnS
namespace Go.Proofs.Ytkhbfjncamobdaa.S
open Go.RowKit Go.Shelf
attribute [local go_sem] Oper.semAt_some
set_option linter.unusedVariables false

theorem levels_in (pv : Option Addr) (w : World) :
    CallsIn Fence.wide 8 Try.prog 18 #[.pointer pv] w fun e w' => e = .returned (.func (.func 29) #[] #[.pointer (some ⟨w.heap.size, 0, none⟩)]) ∧ w.alloc (.cells #[.pointer pv] 40) = w' := by
  have hfn : ∀ f, Fence.wide.fn f := fun _ => trivial
  refine callsIn_of_wp Try.func18 rfl trivial ?_ rfl
  simp only [Try.ntmps18, List.size_toArray, List.length_cons, List.length_nil, Nat.reduceAdd, Nat.reduceSub, Array.replicate_succ, Array.replicate_zero, List.push_toArray, List.append_toArray, List.nil_append, List.cons_append]
  gi_wp2
  go_ret
  exact ⟨rfl, rfl⟩

theorem levels_none (Bs : Nat) (encs : Nat → Array Value) (Kp : World → World → Prop) (w : World) (hBs : w.cell? ⟨Bs, 0, none⟩ = some (.pointer none)) :
    SeqSteps Fence.wide 8 Try.prog 29 #[.pointer (some ⟨Bs, 0, none⟩)] encs Kp 0 w := fun l J Jx W hW _ _ hY h0 => by
  have hfn : ∀ f, Fence.wide.fn f := fun _ => trivial
  have c0 : W.cell? ⟨Bs, 0, none⟩ = some (.pointer none) := (World.cell?_of_block (hW.block Bs (World.block_lt_of_cell? _ _ hBs))).trans hBs
  have H0 := Lib.hid h0
  clear hY h0 hW
  refine callsIn_of_wp Try.func29 rfl trivial ?_ rfl
  simp only [Try.ntmps29, List.size_toArray, List.length_cons, List.length_nil, Nat.reduceAdd, Nat.reduceSub, Array.replicate_succ, Array.replicate_zero, List.push_toArray, List.append_toArray, List.nil_append, List.cons_append]
  gi_wp2
  refine bodyPost_ret (results_none rfl _ _ _) rfl ?_
  exact ⟨⟨_, rfl⟩, .inl H0.out⟩

structure ShapeI (w W : World) : Prop where
  b0 : Boxed W w.heap.size 33 (.slice none 0 0)
  below : Below w.heap.size w W

set_option maxRecDepth 100000 in
set_option maxHeartbeats 4000000 in
theorem shape_none_in (pv : Option Addr) (w : World)
    (cH : Calls Try.prog 17 #[.pointer pv] (w.alloc (.cells #[.slice none 0 0] 33)) fun e w' => e = .returned (.pointer none) ∧ (w.alloc (.cells #[.slice none 0 0] 33)) = w') :
    CallsIn Fence.wide 9 Try.prog 9 #[.pointer pv] w fun e w' => e = .returned (.slice none 0 0) ∧ Below w.heap.size w w' := by
  have hfn : ∀ f, Fence.wide.fn f := fun _ => trivial
  refine callsIn_of_wp_marks Try.func9 rfl trivial ?_ rfl
  simp only [Try.ntmps9, List.size_toArray, List.length_cons, List.length_nil, Nat.reduceAdd, Nat.reduceSub, Array.replicate_succ, Array.replicate_zero, List.push_toArray, List.append_toArray, List.nil_append, List.cons_append]
  gi_wp2_with (first | (gi_at_call 17; refine (callsIn_wide.2 cH).mono ?_; rintro e w' ⟨rfl, rfl⟩) | (gi_at_call 18; refine (levels_in _ _).mono ?_; rintro e w' ⟨rfl, rfl⟩))
  obtain ⟨W0, hW0⟩ : ∃ W0, ((w.alloc (.cells #[.slice none 0 0] 33)).alloc (.cells #[.pointer none] 40)) = W0 := ⟨_, rfl⟩
  have hs0 : W0.heap.size = w.heap.size + 2 := by rw [← hW0]; simp
  have hBW : Below w.heap.size w W0 := by
    rw [← hW0]
    exact ((Below.refl _ w).alloc (Nat.le_refl _) _).alloc (by simp) _
  have ht0 : Boxed W0 w.heap.size 33 (.slice none 0 0) := by rw [← hW0]; exact (Boxed.new _ _ _).alloc _
  have hn0 : Boxed W0 (w.heap.size + 1) 40 (.pointer none) := by
    rw [← hW0]
    have := Boxed.new (w.alloc (.cells #[.slice none 0 0] 33)) 40 (.pointer none)
    rw [World.size_alloc] at this
    exact this
  have HS0 := Lib.hid hs0
  have hst := levels_none (w.heap.size + 1) (fun _ => #[.bool true]) (fun _ _ => True) W0 hn0.cell
  clear hs0
  have hI0 : ShapeI w W0 := ⟨ht0, hBW⟩
  rw [hW0]
  refine wpIn_rangeFunc_steps rfl (by decide) (gf := 29) (lb := #[.pointer (some ⟨w.heap.size + 1, 0, none⟩)]) rfl trivial (enters_of Try.func29 (by kernel_rfl) rfl)
    hst (fun _ _ => trivial) (fun _ _ _ _ _ _ _ _ => trivial) (Below.refl _ _) (fun _ => rfl)
    (fun k W => ShapeI w W) (fun _ _ _ => False) (fun k W W' row h hg hr => ⟨kept_cells h.b0 hg hr, h.below.grown hg h.below.size (fun r e => by have := (hr r e).1; have := HS0.out; omega)⟩)
    (fun c k W W' row h hg hr => h) hI0
    (fun k a' _ => True)
    (fun _ _ _ _ _ _ h _ _ => h) ?assign ?body ?done ?stop
  case assign => intro l k W Q hI hk hQ; omega
  case body => intro l k a' W hl hrec hI hA hk; omega
  case stop => intro D c k W hD hk hX hKD; omega
  case done =>
    rintro D W hD hI hKD
    have c0 := hI.b0.cell
    have f0 := hI.b0.frozen
    have HI := Lib.hid hI
    clear hI hst
    gi_wp2
    refine ⟨by simp, .inl ⟨_, _, rfl, run_takeDeferred hKD, ?_⟩⟩
    exact ⟨_, results_tmp rfl _ _ _, rfl, HI.out.below.trans (belowK_b (w := w) (Nat.le_refl _) W D _ _ (by have := HS0.out; omega) hKD rfl rfl)⟩

theorem shape_nil (w : World) : Calls Try.prog 9 #[.pointer none] w fun e w' => e = .returned (.slice none 0 0) ∧ Below w.heap.size w w' := callsIn_wide.1 (shape_none_in none w (highest_nil _))
theorem shape_empty (N a : Nat) (w : World) (h : BagOn w N a []) : Calls Try.prog 9 #[.pointer (some ⟨a, 0, none⟩)] w fun e w' => e = .returned (.slice none 0 0) ∧ Below w.heap.size w w' := by
  have hB : Below w.heap.size w (w.alloc (.cells #[.slice none 0 0] 33)) := (Below.refl _ w).alloc (Nat.le_refl _) _
  refine callsIn_wide.1 (shape_none_in (some ⟨a, 0, none⟩) w ?_)
  rcases h.bag.tree with ⟨hb, _⟩ | ⟨t, d, hb, hm, hw, h1, h7, hx, hF⟩
  · exact highest_some a none 0 _ ((hB.block a h.bag.lt).trans hb)
  · exfalso
    have hi : t.r.items = [] := by
      rw [T.inord_eq] at hx
      cases hr : t.r.items with
      | nil => rfl
      | cons x l =>
        have hlen := congrArg List.length hx
        rw [hr] at hlen
        revert hlen
        cases hks : t.ks.map T.inord with
        | nil => simp [T.inter]
        | cons y m => simp [T.inter]
    rw [hi] at h1
    simp at h1
end Go.Proofs.Ytkhbfjncamobdaa.S
