/- Several texts in one, each under its own heading. -/
import Derived.Test.YtdniakoedgohkaaPk11
/- A table without those that have a number, of the program: the iterator, and what it leaves. -/
namespace Go.Proofs.Ytdniakoedgohkaa.Cps
open Go.RowKit Go.Shelf
attribute [local go_sem] Oper.semAt_some
set_option linter.unusedVariables false
set_option linter.unusedSimpArgs false

section
set_option maxRecDepth 100000
set_option maxHeartbeats 4000000
end
end Go.Proofs.Ytdniakoedgohkaa.Cps
/- A table without those that expire, of the program: the iterator, and what it leaves. -/
namespace Go.Proofs.Ytdniakoedgohkaa.Cps
open Go.RowKit Go.Shelf
attribute [local go_sem] Oper.semAt_some
set_option linter.unusedVariables false
set_option linter.unusedSimpArgs false

section
set_option maxRecDepth 100000
set_option maxHeartbeats 4000000
end
end Go.Proofs.Ytdniakoedgohkaa.Cps
/- Mark, Delete, Expire, Numbers of the program. -/
namespace Go.Proofs.Ytdniakoedgohkaa.Cps
open Go.RowKit Go.Shelf
attribute [local go_sem] Oper.semAt_some
set_option linter.unusedVariables false
set_option linter.unusedSimpArgs false

/-- a table is answered, and an error's number -/
def TabPost (M : List C) (n : Int) (w : World) (e : Ending) (w' : World) : Prop := ∃ v, e = .returned (.tuple #[v, .int .i64 n]) ∧ Chs w' v M ∧ Below w.heap.size w w'
theorem tab_no {M : List C} {n m : Int} {w w' : World} (hM : M = []) (hn : n = m) (hB : Below w.heap.size w w') : TabPost M n w (.returned (.tuple #[.slice none 0 0, .int .i64 m])) w' := ⟨_, by rw [hn], by rw [hM]; exact Chs.nil w', hB⟩
theorem tab_yes {M K : List C} {n : Int} {w w' : World} {v : Value} (hM : M = K) (hn : n = 0) (hL : Chs w' v K) (hB : Below w.heap.size w w') : TabPost M n w (.returned (.tuple #[v, .int .i64 0])) w' := ⟨_, by rw [hn], by rw [hM]; exact hL, hB⟩
theorem own_lower {w : World} {base base' e size n : Nat} {v : Value} {xs : List Value} (h : w.ownsRow base' e size v n xs) (hb : base ≤ base') : w.ownsRow base e size v n xs := by
  refine ⟨h.1, ?_⟩
  rcases h.2 with h2 | ⟨g, cap, cur, e1, hb2, hrest⟩
  · exact .inl h2
  · exact .inr ⟨g, cap, cur, e1, by omega, hrest⟩
theorem fine_sizes {L : List C} (h : RightP L) : ∀ c ∈ L, c.root.size ≤ 281474976710656 := fun c hc => by have := (h.fine_mem hc).2.2; omega
/-- numbers -/
def Nums (w : World) (v : Value) (X : List Int) : Prop := Lies w v X.length 1 (X.map (.int .u64))
theorem Nums.below {w w' : World} {v : Value} {X : List Int} (h : Nums w v X) (hB : Below w.heap.size w w') : Nums w' v X := Lies.below h hB
theorem infoU : (Try.prog.info? 22).map (fun i => (i.zero, i.size, i.bytes)) = some (some (.int .u64 0), 1, 8) := by kernel_rfl
def NumPost (L : List C) (w : World) (e : Ending) (w' : World) : Prop := ∃ v, e = .returned v ∧ Nums w' v (numV L) ∧ Below w.heap.size w w'
section
set_option maxRecDepth 100000
set_option maxHeartbeats 4000000
theorem numbers_any (v : Value) (L : List C) (w : World) (hL : Chs w v L) (h9 : L.length ≤ 1000) : Calls Try.prog 18 #[v] w (NumPost L w) := by
  obtain ⟨a, cap, rfl, hn, hm⟩ := hL.parts
  obtain ⟨i0, hin, hz0, hz1, hz2⟩ := info_parts infoU
  have HX := Lib.hid (fun W k (h : Below w.heap.size w W) (hk : k < L.length) => (hL.below h).at hk)
  have HSU : Hid (∀ k, k < L.length → (numV (L.take (k + 1))).map (Value.int .u64) = (numV (L.take k)).map (Value.int .u64) ++ [.int .u64 ((ck L k).cp : Int)]) := fun k hk => by
    rw [take_snoc hk]
    simp [numV]
  have HFin : Hid (∀ W v, W.ownsRow w.heap.size 22 1 v L.length ((numV (L.take L.length)).map (Value.int .u64)) → Below w.heap.size w W → NumPost L w (.returned v) W) := fun W v hown hB => by
    refine ⟨v, rfl, ?_, hB⟩
    rw [List.take_length] at hown
    have := Lies.own hown
    unfold Nums
    rw [show (numV L).length = L.length by simp [numV]]
    exact this
  obtain ⟨N, hN⟩ : ∃ N, L.length = N := ⟨_, rfl⟩
  simp only [hN] at HX HSU HFin hn h9 ⊢
  clear hL hN
  obtain ⟨W0, rfl⟩ : ∃ W0 : World, W0 = w := ⟨_, rfl⟩
  go_enter Try.func18, Try.ntmps18
  go_wp2
  go_loopw [3, 5, 8] (fun v _ i wr => ∃ k : Nat, k ≤ N ∧ i = .int .i64 (k : Int) ∧ Hid (wr.ownsRow W0.heap.size 22 1 v k ((numV (L.take k)).map (Value.int .u64))) ∧ Hid (Below W0.heap.size W0 wr)) (fun _ _ i _ => N - (intOf i).toNat)
  case atStart => exact ⟨0, by omega, rfl, World.ownsRow_nil _ _ _ _, Below.refl _ _⟩
  case round =>
    obtain ⟨k, hk, rfl, HOW, HBk⟩ := hrel
    by_cases hlt : k < N
    · obtain ⟨b, off, cap2, e2, c0, c1, c2, c3⟩ := HX.out wr k HBk.out hlt
      cases e2
      have hA := At.new wr (ck L k)
      obtain ⟨d0, d1, d2, d3⟩ := hA.c
      have hsu := HSU.out k hlt
      obtain ⟨s, hs⟩ : ∃ s, ck L k = s := ⟨_, rfl⟩
      rw [hs] at c0 c1 c2 c3 d0 d1 d2 d3 hsu
      clear hA hs
      obtain ⟨ncp, ti, sn, ro⟩ := s
      unfold boxO at d0 d1 d2 d3
      dsimp only at c0 c1 c2 c3 d0 d1 d2 d3 hsu
      have HS := Lib.hid hsu
      have hown2 := (HOW.out.alloc (.cells #[.int .u64 ncp, .int .u64 ti, .bool sn, .string ro] 85)).alloc (.cells #[.int .u64 ncp] 22)
      have hnew : ∀ j u, ([.int .u64 (ncp : Int)] : List Value)[j]? = some u → ((wr.alloc (.cells #[.int .u64 ncp, .int .u64 ti, .bool sn, .string ro] 85)).alloc (.cells #[.int .u64 ncp] 22)).cell? ((⟨wr.heap.size + 1, 0, none⟩ : Addr).add j) = some u := World.news_of_block (cs := #[.int .u64 (ncp : Int)]) (by
        have := World.alloc_heap_new (wr.alloc (.cells #[.int .u64 ncp, .int .u64 ti, .bool sn, .string ro] 85)) (.cells #[.int .u64 ncp] 22)
        rwa [World.size_alloc] at this)
      have HOWN := Lib.hid hown2
      have HNEW := Lib.hid hnew
      have HB2 := Lib.hid (below_al (below_al HBk.out (.cells #[.int .u64 ncp, .int .u64 ti, .bool sn, .string ro] 85)) (.cells #[.int .u64 ncp] 22))
      clear hown2 hnew hsu
      go_wp2_with (at_builtin; (refine wpList_append_own _ rfl _ _ 40 rfl W0.heap.size 22 i0 (.int .u64 0) 1 8 Try.underlying40 hin hz0 hz1 hz2 rfl (by decide) _ k ((numV (L.take k)).map (Value.int .u64)) rfl HOWN.out ⟨wr.heap.size + 1, 0, none⟩ 1 1 [.int .u64 ncp] rfl rfl HNEW.out (by simp [Value.oneCell']) (by unfold maxLen; omega) (by omega) HB2.out.size ?_; intro v3 w3 hown3 hgrow3 _; have HO3 := Lib.hid hown3; have HB3 := Lib.hid (HB2.out.grown hgrow3 HB2.out.size (fun r e => ((HOWN.out).lt r e).1)); clear hown3 hgrow3))
      go_roundw
      case rel => exact ⟨k + 1, by omega, by go_num, by rw [HS.out]; exact HO3.out, HB3.out⟩
      case measure => simp [intOf]; omega
    · obtain rfl : N = k := by omega
      have HF := Lib.hid (HFin.out wr _ HOW.out HBk.out)
      go_wp2
      go_returns
      exact HF.out
end
end Go.Proofs.Ytdniakoedgohkaa.Cps
