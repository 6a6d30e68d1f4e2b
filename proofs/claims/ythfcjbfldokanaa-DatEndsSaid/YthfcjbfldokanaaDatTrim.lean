/- A table without free places at its end, a copy of a table, Sweep, of the program. -/
import Derived.Test.YthfcjbfldokanaaBagRow
import Derived.Test.YthfcjbfldokanaaDatLow
import Derived.Test.YthfcjbfldokanaaDatLives
namespace Go.Proofs.Ythfcjbfldokanaa.Dat
open Go.RowKit Go.Shelf
attribute [local go_sem] Oper.semAt_some
set_option linter.unusedVariables false

theorem eqlS (a : Option Addr) (n c : Nat) (w : World) : (binOp .eql 22 (.slice a n c) (.slice none 0 0)).run Try.prog w = .ok (.bool a.isNone) w :=
  Lib.run_eql_slice_nil w _ _ a n c 0 0 Try.underlying22

section
set_option maxRecDepth 100000
set_option maxHeartbeats 4000000
theorem clone_any (v : Value) (L : List T) (w : World) (hL : Trs w v L) (h1 : 1 ≤ L.length) (h2 : L.length ≤ 4096) :
    Calls Try.prog 41 #[v] w fun e w' => ∃ v', e = .returned v' ∧ w'.ownsRow w.heap.size 40 3 v' L.length (cellsL L) ∧ Below w.heap.size w w' := by
  obtain ⟨i0, hi, hz0, hz1, hz2⟩ := info_parts infoTr
  obtain ⟨b, off, cap, rfl, _⟩ := hL.at (k := 0) (by omega)
  obtain ⟨N, hN⟩ : ∃ N, L.length = N := ⟨_, rfl⟩
  have HC := Lib.hid (fun W (hB : Below w.heap.size w W) => (hL.below hB).news)
  have HV := Lib.hid (cellsL_length L)
  have HO := Lib.hid (cellsL_one L)
  have hcap : N ≤ cap ∧ cap ≤ 9223372036854775807 := by
    obtain ⟨a1, cap1, e, g1, g2⟩ := hL.parts
    cases e
    omega
  obtain ⟨hcap1, hcap2⟩ := hcap
  rw [hN] at HV h1 h2 ⊢
  obtain ⟨xs, hxs⟩ : ∃ xs, cellsL L = xs := ⟨_, rfl⟩
  simp only [hxs] at HC HV HO ⊢
  clear hL hN hxs
  obtain ⟨W0, rfl⟩ : ∃ W0 : World, W0 = w := ⟨_, rfl⟩
  go_enter Try.func41, Try.ntmps41
  have hq := eqlS (some ⟨b, off, none⟩) N cap
  have hmade : (W0.alloc (.cells #[] 40)).ownsRow W0.heap.size 40 3 (.slice (some ⟨W0.heap.size, 0, none⟩) 0 0) 0 [] := World.ownsRow_made W0 #[] 0 (Nat.le_refl _) (Nat.zero_le _) (by simp)
  go_wp2_with (at_builtin; refine wpList_append_lies _ rfl _ _ 22 rfl W0.heap.size 40 i0 (.agg #[.int .u32 0, .int .u64 0, .int .u64 0]) 3 24 Try.underlying22 hi hz0 hz1 hz2 rfl (by decide) (.slice (some ⟨W0.heap.size, 0, none⟩) 0 0) 0 [] rfl hmade ⟨b, off, none⟩ N cap xs rfl HV.out (HC.out _ (below_new _ _)) HO.out (by omega) (by unfold maxLen; omega) (by omega) (by simp) _ rfl ?_; intro g cap3 w1 hown1 hgrow hat hlt; simp only [Nat.zero_add, List.nil_append] at hown1)
  go_ret
  refine ⟨.slice (some ⟨g, 0, none⟩) N cap3, by simp, hown1, ((Below.refl _ W0).alloc (Nat.le_refl _) _).grown hgrow (by simp) (fun k hk => by simp [Value.ownBlock] at hk; omega)⟩


theorem trim_in (b off cap N : Nat) (L : List T) (w : World) (hN : L.length = N) (hL : Trs w (.slice (some ⟨b, off, none⟩) N cap) L) (h1 : 1 ≤ N) (h2 : N ≤ 1000000) :
    CallsIn Fence.wide 9 Try.prog 43 #[.slice (some ⟨b, off, none⟩) N cap] w (Ans w (.slice (some ⟨b, off, none⟩) (bareN L) cap)) := by
  have hfn : ∀ f, Fence.wide.fn f := fun _ => trivial
  refine callsIn_of_wp_marks Try.func43 rfl trivial ?_ rfl
  simp only [Try.ntmps43, List.size_toArray, List.length_cons, List.length_nil, Nat.reduceAdd, Nat.reduceSub, Array.replicate_succ, Array.replicate_zero, List.push_toArray, List.append_toArray, List.nil_append, List.cons_append]
  gi_wp2_with (gi_at_call 42; refine (used_in _ _ _ _ _).mono ?_; rintro e w4 ⟨rfl, rfl⟩)
  obtain ⟨s, hs⟩ : ∃ s, w.heap.size = s := ⟨_, rfl⟩
  obtain ⟨W0, hW0⟩ : ∃ W0, (w.alloc (.cells #[.int .i64 1] 3)).alloc (.cells #[.slice (some ⟨b, off, none⟩) N cap] 22) = W0 := ⟨_, rfl⟩
  have hs0 : W0.heap.size = s + 2 := by rw [← hW0, ← hs]; simp
  have hBW : Below w.heap.size w W0 := by rw [← hW0]; exact below_al (below_al (Below.refl _ _) _) _
  have hb0 : IntAt W0 s 1 := by rw [← hW0, ← hs]; exact (IntAt.new w 1).alloc _
  have hb6 : W0.cell? ⟨s + 1, 0, none⟩ = some (.slice (some ⟨b, off, none⟩) N cap) := by
    have : W0.heap[s + 1]? = some (.cells #[.slice (some ⟨b, off, none⟩) N cap] 22 (0, 0)) := by
      rw [← hW0, ← hs]
      have := World.alloc_heap_new (w.alloc (.cells #[.int .i64 1] 3)) (.cells #[.slice (some ⟨b, off, none⟩) N cap] 22)
      rwa [World.size_alloc] at this
    simp only [World.cell?, this]; rfl
  rw [hW0]
  rw [hs]
  have hL0 := hL.below hBW
  have hblt : b < w.heap.size := hL.lt (by omega)
  have hcap : N ≤ cap := by
    obtain ⟨a1, cap1, e, h1, h2⟩ := hL.parts
    cases e
    omega
  have hsq : SeqSteps Fence.wide 8 Try.prog 52 #[.pointer (some ⟨s + 1, 0, none⟩)] (enc L) (Same [b]) (cnd L).length W0 := by
    intro l J Jx W' hB hJ _ hY h0
    exact used1_in 8 (by decide) l _ b off cap N L hN (by omega) J Jx _ hJ hY W' ((hB.cell (p := ⟨s + 1, 0, none⟩) (by show s + 1 < _; omega)).trans hb6) (hL0.below hB) h0
  have hnx := fun k (hk : k < (cnd L).length) => show bareOf ((cnd L).take (k + 1)) = ix L k + 1 by rw [take_ix hk, bareOf_snoc]
  have hixl := fun k (hk : k < (cnd L).length) => (ix_ok hk).1
  have HV : Hid (bareOf ((cnd L).take (cnd L).length) = bareN L) := by unfold Hid bareN; rw [List.take_length]
  have hbn := bareN_le (L := L) (by omega)
  rw [hN] at hbn
  obtain ⟨r, hr⟩ : ∃ r, bareN L = r := ⟨_, rfl⟩
  rw [hr] at HV hbn
  have HR := Lib.hid hr
  clear hW0 hL hL0 hr
  refine wpIn_rangeFunc_steps rfl (by decide) (gf := 52) (lb := #[.pointer (some ⟨s + 1, 0, none⟩)]) rfl trivial (enters_of Try.func52 (by kernel_rfl) rfl)
    hsq sameK_t (sameK_b (by simp; omega)) (Below.refl _ _) (fun k => by unfold enc; rfl)
    (OneI W0 s (fun k => True) (fun k => bareOf ((cnd L).take k))) (fun c k W => False) oneI_own (fun c k W W' row hI hg hr => hI) ⟨trivial, Only.refl _ _, hb0⟩
    (ActA (fun k => #[.slice (some ⟨b, off, none⟩) N cap, undef, .slice none 0 0, .pointer (some ⟨s, 0, none⟩), .int .i64 (ix L k : Nat), .slice (some ⟨b, off, none⟩) N cap, .func (.func 52) #[] #[.pointer (some ⟨s + 1, 0, none⟩)], .int .i64 (ix L k : Nat), (tr L (ix L k)).val, undef, undef, undef, undef, undef])) (fun k a' => actA_own k a') ?assign ?body ?done ?stop
  case assign =>
    intro l k W K hI hk hK
    have HK := Lib.hid (hK _ _ (KeepsFrom.refl _ _) (Same.refl _ _) hI rfl)
    unfold enc
    clear hK hI hsq
    dsimp only at HK
    unfold T.val at HK ⊢
    dsimp only at HK ⊢
    generalize tr L (ix L k) = y at HK ⊢
    obtain ⟨ph, st, fi⟩ := y
    dsimp only at HK ⊢
    gi_wp2
    exact HK.out
  case body =>
    rintro l k a' W hl hrec ⟨_, hon, hA⟩ rfl hk
    have hsz := hon.size
    have c0 := hA.c
    have f0 := hA.f
    have hx1 := hnx k hk
    have hlt := hixl k hk
    have HI : Hid (OneI W0 s (fun k => True) (fun k => bareOf ((cnd L).take k)) (k + 1) (W.setCell ⟨s, 0, none⟩ (.int .i64 ((ix L k + 1 : Nat) : Int)))) :=
      ⟨trivial, hon.setCell (p := ⟨s, 0, none⟩) (.inr rfl) _, by show IntAt _ _ (bareOf ((cnd L).take (k + 1))); rw [hx1]; exact hA.put _⟩
    have HK : Hid (KeepsFrom W0.heap.size W (W.setCell ⟨s, 0, none⟩ (.int .i64 ((ix L k + 1 : Nat) : Int))) ∧ Same [b] W (W.setCell ⟨s, 0, none⟩ (.int .i64 ((ix L k + 1 : Nat) : Int)))) :=
      ⟨keeps_of_only _ ((Only.refl (fun i => i = s) W).setCell (p := ⟨s, 0, none⟩) (.inr rfl) _) (by rintro j rfl; exact ⟨_, _, _, hA⟩), fun x hx => by simp at hx; subst hx; exact Below.heap_setCell _ _ _ _ (by show x ≠ s; omega)⟩
    rw [hs0] at HK
    have hw1 : IntKind.i64.wrap (((ix L k : Nat) : Int) + 1) = ((ix L k + 1 : Nat) : Int) := by rw [IntKind.wrap_i64]; omega
    clear hon hA hsq hnx hixl hrec hx1
    unfold T.val
    dsimp only
    gi_wp2
    exact ⟨HK.out.1, HK.out.2, HI.out⟩
  case done =>
    rintro D W hD ⟨_, hon, hA⟩ hKD
    have hsz := hon.size
    dsimp only at hA
    rw [HV.out] at hA
    have c0 := hA.c
    have HBW := Lib.hid (show ∀ W', Below w.heap.size W W' → Below w.heap.size w W' from fun W' h => (below_one hBW (by omega) hon).trans h)
    have HKD := Lib.hid hKD
    have hrc : r ≤ cap := by omega
    have h0r : (0 : Int) ≤ (r : Int) := by omega
    clear hon hA hsq hnx hixl hKD hb0 hb6 HV
    gi_wp2
    refine ⟨by simp, .inl ⟨_, _, rfl, run_takeDeferred HKD.out, ?_⟩⟩
    exact ⟨_, results_tmp1 rfl _ _, by rw [HR.out]; rfl, HBW.out _ (below_putObj (Below.refl _ W) D (by omega) _)⟩
  case stop =>
    rintro D c k W hD hk hf
    exact hf.elim
theorem trim_any (b off cap N : Nat) (L : List T) (w : World) (hN : L.length = N) (hL : Trs w (.slice (some ⟨b, off, none⟩) N cap) L) (h1 : 1 ≤ N) (h2 : N ≤ 1000000) : Calls Try.prog 43 #[.slice (some ⟨b, off, none⟩) N cap] w (Ans w (.slice (some ⟨b, off, none⟩) (bareN L) cap)) :=
  callsIn_wide.1 (trim_in b off cap N L w hN hL h1 h2)
end
end Go.Proofs.Ythfcjbfldokanaa.Dat
