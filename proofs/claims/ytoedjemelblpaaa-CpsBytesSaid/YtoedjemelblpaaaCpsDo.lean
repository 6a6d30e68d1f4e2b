/- Mark, Delete, Expire, Numbers of the program. -/
import Derived.Test.YtoedjemelblpaaaCpsOutDel
import Derived.Test.YtoedjemelblpaaaCpsOutExp
namespace Go.Proofs.Ytoedjemelblpaaa.Cps
open Go.RowKit Go.Shelf
attribute [local go_sem] Oper.semAt_some
set_option linter.unusedVariables false
set_option linter.unusedSimpArgs false

/-- a table is answered, and an error's number -/
def TabPost (M : List C) (n : Int) (w : World) (e : Ending) (w' : World) : Prop := ∃ v, e = .returned (.tuple #[v, .int .i64 n]) ∧ Chs w' v M ∧ Below w.heap.size w w'
theorem tab_no {M : List C} {n m : Int} {w w' : World} (hM : M = []) (hn : n = m) (hB : Below w.heap.size w w') : TabPost M n w (.returned (.tuple #[.slice none 0 0, .int .i64 m])) w' := ⟨_, by rw [hn], by rw [hM]; exact Chs.nil w', hB⟩
theorem tab_yes {M K : List C} {n : Int} {w w' : World} {v : Value} (hM : M = K) (hn : n = 0) (hL : Chs w' v K) (hB : Below w.heap.size w w') : TabPost M n w (.returned (.tuple #[v, .int .i64 0])) w' := ⟨_, by rw [hn], by rw [hM]; exact hL, hB⟩
theorem own_lower {w : World} {base base' e size n : Nat} {v : Value} {xs : List Value} (h : w.ownsRow base' e size v n xs) (hb : base ≤ base') : w.ownsRow base e size v n xs := by
  refine ⟨h.1, ?_⟩
  rcases h.2 with h2 | ⟨g, cap, cur, e1, hb2, hrest⟩
  · exact .inl h2
  · exact .inr ⟨g, cap, cur, e1, by omega, hrest⟩
theorem fine_sizes {L : List C} (h : RightP L) : ∀ c ∈ L, c.root.size ≤ 281474976710656 := fun c hc => by have := (h.fine_mem hc).2.2; omega
/-- numbers -/
def Nums (w : World) (v : Value) (X : List Int) : Prop := Lies w v X.length 1 (X.map (.int .u64))
theorem Nums.below {w w' : World} {v : Value} {X : List Int} (h : Nums w v X) (hB : Below w.heap.size w w') : Nums w' v X := Lies.below h hB
theorem infoU : (Try.prog.info? 23).map (fun i => (i.zero, i.size, i.bytes)) = some (some (.int .u64 0), 1, 8) := by kernel_rfl
def NumPost (L : List C) (w : World) (e : Ending) (w' : World) : Prop := ∃ v, e = .returned v ∧ Nums w' v (numV L) ∧ Below w.heap.size w w'
section
set_option maxRecDepth 100000
set_option maxHeartbeats 4000000
/-- a copy of a table -/
theorem tabV_any (a : Option Addr) (N cap : Nat) (M : List C) (w : World) (hL : Chs w (.slice a N cap) M) (h1 : M.length ≤ 1000) (hr : ∀ c ∈ M, c.root.size ≤ 281474976710656) :
    Calls Try.prog 36 #[.func (.func 57) #[] #[.pointer (some ⟨w.heap.size, 0, none⟩)]] (w.alloc (.cells #[.slice a N cap] 22)) fun e w' => ∃ v', e = .returned v' ∧ w'.ownsRow w.heap.size 25 4 v' M.length (cellsL M) ∧ Below w.heap.size w w' := by
  have hb : (w.alloc (.cells #[.slice a N cap] 22)).cell? ⟨w.heap.size, 0, none⟩ = some (.slice a N cap) := (CellAt.new w _ _).c
  have hB := below_new w (.cells #[.slice a N cap] 22)
  refine (tableOf_any _ _ M _ h1 hr (enters_of Try.func57 (by kernel_rfl) rfl) (fun W0 hW => values_iter w.heap.size _ M _ hb (hL.below hB) W0 hW)).mono ?_
  rintro e w' ⟨v', rfl, hown, hB2⟩
  exact ⟨v', rfl, own_lower hown (by simp), below_th hB hB2⟩
theorem mark_any (v : Value) (L : List C) (cp : Nat) (s : Bool) (w : World) (hL : Chs w v L) : Calls Try.prog 23 #[v, .int .u64 cp, .bool s] w (TabPost (mrkV L cp s) (fndE L cp) w) := by
  have hf := find_any v L cp w hL
  obtain ⟨a, cap, rfl, hn, hm⟩ := hL.parts
  by_cases h : fndE L cp = 0
  · obtain ⟨hr, h1⟩ := fndE_zero.1 h
    have hP : fndP L cp = at_ L cp := (fnd_yes hr h1).2.1
    rw [h, hP] at hf
    have hV : mrkV L cp s = L.set (at_ L cp) (markC (ck L (at_ L cp)) s) := if_pos h
    have h8 := hr.1
    have hT := fun W (hB : Below w.heap.size w W) => tabV_any a L.length cap L W (hL.below hB) (by omega) (fine_sizes hr)
    have hfin : ∀ W g cg, W.ownsRow w.heap.size 25 4 (.slice (some ⟨g, 0, none⟩) L.length cg) L.length (cellsL L) → Below w.heap.size w W → (∃ u, W.cell? ⟨g, at_ L cp * 4 + 2, none⟩ = some u) ∧ W.frozen? ⟨g, at_ L cp * 4 + 2, none⟩ = false ∧ Hid (TabPost (mrkV L cp s) (fndE L cp) w (.returned (.tuple #[.slice (some ⟨g, 0, none⟩) L.length cg, .int .i64 0])) (W.setCell ⟨g, at_ L cp * 4 + 2, none⟩ (.bool s))) := fun W g cg hown hB => by
      obtain ⟨q1, q2, q3, q4⟩ := own_snap rfl hown h1 s
      have hg := (hown.lt g rfl).1
      refine ⟨q1, q2, tab_yes hV h ?_ (hB.trans (q4.mono hg))⟩
      have := Chs.own (L := L.set (at_ L cp) (markC (ck L (at_ L cp)) s)) (by rw [List.length_set]; exact q3)
      exact this
    obtain ⟨i, hi⟩ : ∃ i, at_ L cp = i := ⟨_, rfl⟩
    rw [hi] at hf hfin h1
    obtain ⟨N, hN⟩ : ∃ N, L.length = N := ⟨_, rfl⟩
    rw [hN] at hf hfin hn h1 h8 ⊢
    simp only [hN] at hT
    have HT := Lib.hid hT
    have HFIN := Lib.hid hfin
    have HF := Lib.hid hf
    clear hT hfin hf hL hr h hP hV hi hN
    go_enter Try.func23, Try.ntmps23
    go_wp2_with (first
      | (go_at_call 38; (with_reducible refine Calls.mono HF.out ?_); rintro e w1 ⟨rfl, hB1⟩)
      | (go_at_call 37; (with_reducible refine Calls.mono (values_any _ _ _ _) ?_); rintro e w2 ⟨rfl, rfl⟩)
      | (go_at_call 36; (with_reducible refine Calls.mono (HT.out _ hB1) ?_); rintro e w3 ⟨v3, rfl, hown, hB3⟩; obtain ⟨g, cg, rfl, hg, hcg1, hcg2⟩ := own_open hown (by omega); obtain ⟨⟨u, hu⟩, hfz, HP⟩ := HFIN.out _ _ _ (own_lower hown hB1.size) (below_th hB1 hB3); clear hown))
    go_returns
    exact HP.out
  · have HF : Hid (∀ W, Below w.heap.size w W → TabPost (mrkV L cp s) (fndE L cp) w (.returned (.tuple #[.slice none 0 0, .int .i64 (fndE L cp)])) W) := fun W hB => tab_no (if_neg h) rfl hB
    obtain ⟨n, hne⟩ : ∃ n, fndE L cp = n := ⟨_, rfl⟩
    rw [hne] at hf HF h ⊢
    have g1 : (n == 0) = false := by simp [h]
    have g2 : (n != 0) = true := by simp [h]
    obtain ⟨N, hN⟩ : ∃ N, L.length = N := ⟨_, rfl⟩
    rw [hN] at hf hn ⊢
    have HFD := Lib.hid hf
    generalize fndP L cp = i at HFD
    clear hf hL hN h hne
    go_enter Try.func23, Try.ntmps23
    go_wp2_with (go_at_call 38; (with_reducible refine Calls.mono HFD.out ?_); rintro e w1 ⟨rfl, hB1⟩)
    go_returns
    exact HF.out _ hB1
theorem delete_any (v : Value) (L : List C) (cp : Nat) (w : World) (hL : Chs w v L) : Calls Try.prog 25 #[v, .int .u64 cp] w (TabPost (delV L cp) (delE L cp) w) := by
  have HB0 := Lib.hid (below_new w (.cells #[.int .u64 cp] 23))
  have hc : ∀ W, Below (w.alloc (.cells #[.int .u64 cp] 23)).heap.size (w.alloc (.cells #[.int .u64 cp] 23)) W → W.cell? ⟨w.heap.size, 0, none⟩ = some (.int .u64 cp) := fun W h => ((CellAt.new w 23 (.int .u64 cp)).th h).c
  have hc0 := hc _ (Below.refl _ _)
  have hf := fun W (h : Below w.heap.size w W) => find_any v L cp W (hL.below h)
  obtain ⟨a, cap, rfl, hn, hm⟩ := hL.parts
  by_cases h : fndE L cp = 0
  · obtain ⟨hr, h1⟩ := fndE_zero.1 h
    have hP : fndP L cp = at_ L cp := (fnd_yes hr h1).2.1
    rw [h, hP] at hf
    have hE : delE L cp = if at_ L cp + 1 = L.length then 94 else if (ck L (at_ L cp)).snap = true then 93 else 0 := if_pos h
    have h8 := hr.1
    obtain ⟨b, off, cap2, e2, _⟩ := hL.at h1
    cases e2
    have HRd := Lib.hid (fun W (h : Below w.heap.size w W) => ((hL.below h).get rfl h1).2.2.1)
    have hO := fun W (hB : Below (w.alloc (.cells #[.int .u64 cp] 23)).heap.size (w.alloc (.cells #[.int .u64 cp] 23)) W) => delout_any _ L (isB cp) w.heap.size W (hL.below (below_th HB0.out hB)) (by omega) (fine_sizes hr) (fun c W' hk => del1_any c cp w.heap.size W' (hk.cell_some (hc W hB)))
    have hNo : ∀ (n : Int), delE L cp = n → ¬ n = 0 → ∀ W, Below w.heap.size w W → TabPost (delV L cp) (delE L cp) w (.returned (.tuple #[.slice none 0 0, .int .i64 n])) W := fun n hn hn0 W hB => tab_no (if_neg (by rw [hn]; exact hn0)) hn hB
    have hYes : delE L cp = 0 → ∀ W v, Chs W v (L.filter (fun c => !isB cp c)) → Below w.heap.size w W → TabPost (delV L cp) (delE L cp) w (.returned (.tuple #[v, .int .i64 0])) W := fun h0 W v hT hB => tab_yes (if_pos h0) h0 hT hB
    obtain ⟨i, hi⟩ : ∃ i, at_ L cp = i := ⟨_, rfl⟩
    rw [hi] at hf h1 HRd hE
    obtain ⟨N, hN⟩ : ∃ N, L.length = N := ⟨_, rfl⟩
    rw [hN] at hf hn h1 h8 hE ⊢
    simp only [hN] at hO
    have HO := Lib.hid hO
    have HF := Lib.hid hf
    have hw : IntKind.i64.wrap ((N : Int) - 1) = ((N - 1 : Nat) : Int) := by rw [IntKind.wrap_i64]; omega
    by_cases h2 : i + 1 = N
    · rw [if_pos h2] at hE
      have HFin := Lib.hid (hNo 94 hE (by decide))
      subst h2
      have hw2 : IntKind.i64.wrap (((i + 1 : Nat) : Int) - 1) = (i : Int) := by rw [IntKind.wrap_i64]; omega
      have hw3 : IntKind.i64.wrap (i : Int) = (i : Int) := by rw [IntKind.wrap_i64]; omega
      clear hw hO hf hL hr h hP hE hNo hYes hi hN hc
      go_enter Try.func25, Try.ntmps25
      go_wp2_with (go_at_call 38; (with_reducible refine Calls.mono (HF.out _ HB0.out) ?_); rintro e w1 ⟨rfl, hB1⟩)
      go_returns
      exact HFin.out _ (below_th HB0.out hB1)
    · rw [if_neg h2] at hE
      obtain ⟨r, hr1⟩ : ∃ r, N - 1 = r := ⟨_, rfl⟩
      rw [hr1] at hw
      have g1 : (i == r) = false := by simp; omega
      have g2 : ((i : Int) == (r : Int)) = false := by simp; omega
      cases h3 : (ck L i).snap with
      | true =>
        rw [h3] at HRd
        rw [if_pos h3] at hE
        have HFin := Lib.hid (hNo 93 hE (by decide))
        clear hO hf hL hr h hP hE hNo hYes hi hN hc h2 h3 hr1
        go_enter Try.func25, Try.ntmps25
        go_wp2_with (go_at_call 38; (with_reducible refine Calls.mono (HF.out _ HB0.out) ?_); rintro e w1 ⟨rfl, hB1⟩; have hrd := HRd.out _ (below_th HB0.out hB1))
        go_returns
        exact HFin.out _ (below_th HB0.out hB1)
      | false =>
        rw [h3] at HRd
        rw [if_neg (by rw [h3]; decide)] at hE
        have HFin := Lib.hid (hYes hE)
        clear hO hf hL hr h hP hE hNo hYes hi hN hc h2 h3 hr1
        go_enter Try.func25, Try.ntmps25
        go_wp2_with (first
          | (go_at_call 38; (with_reducible refine Calls.mono (HF.out _ HB0.out) ?_); rintro e w1 ⟨rfl, hB1⟩; have hrd := HRd.out _ (below_th HB0.out hB1))
          | (go_at_call 42; (with_reducible refine Calls.mono (HO.out _ hB1) ?_); rintro e w2 ⟨v2, rfl, hT2, hB2⟩))
        go_returns
        exact HFin.out _ _ hT2 (below_th HB0.out (below_th hB1 hB2))
  · have hE : delE L cp = fndE L cp := if_neg h
    have HF : Hid (∀ W, Below w.heap.size w W → TabPost (delV L cp) (delE L cp) w (.returned (.tuple #[.slice none 0 0, .int .i64 (fndE L cp)])) W) := fun W hB => tab_no (if_neg (by rw [hE]; exact h)) hE hB
    obtain ⟨n, hne⟩ : ∃ n, fndE L cp = n := ⟨_, rfl⟩
    rw [hne] at hf HF h
    have g1 : (n == 0) = false := by simp [h]
    have g2 : (n != 0) = true := by simp [h]
    obtain ⟨N, hN⟩ : ∃ N, L.length = N := ⟨_, rfl⟩
    rw [hN] at hf hn ⊢
    have HFD := Lib.hid hf
    generalize fndP L cp = i at HFD
    clear hf hL hN h hne hE hc
    go_enter Try.func25, Try.ntmps25
    go_wp2_with (go_at_call 38; (with_reducible refine Calls.mono (HFD.out _ HB0.out) ?_); rintro e w1 ⟨rfl, hB1⟩)
    go_returns
    exact HF.out _ (below_th HB0.out hB1)
theorem numbers_any (v : Value) (L : List C) (w : World) (hL : Chs w v L) (h9 : L.length ≤ 1000) : Calls Try.prog 21 #[v] w (NumPost L w) := by
  obtain ⟨a, cap, rfl, hn, hm⟩ := hL.parts
  obtain ⟨i0, hin, hz0, hz1, hz2⟩ := info_parts infoU
  have HX := Lib.hid (fun W k (h : Below w.heap.size w W) (hk : k < L.length) => (hL.below h).at hk)
  have HSU : Hid (∀ k, k < L.length → (numV (L.take (k + 1))).map (Value.int .u64) = (numV (L.take k)).map (Value.int .u64) ++ [.int .u64 ((ck L k).cp : Int)]) := fun k hk => by
    rw [take_snoc hk]
    simp [numV]
  have HFin : Hid (∀ W v, W.ownsRow w.heap.size 23 1 v L.length ((numV (L.take L.length)).map (Value.int .u64)) → Below w.heap.size w W → NumPost L w (.returned v) W) := fun W v hown hB => by
    refine ⟨v, rfl, ?_, hB⟩
    rw [List.take_length] at hown
    have := Lies.own hown
    unfold Nums
    rw [show (numV L).length = L.length by simp [numV]]
    exact this
  obtain ⟨N, hN⟩ : ∃ N, L.length = N := ⟨_, rfl⟩
  simp only [hN] at HX HSU HFin hn h9 ⊢
  clear hL hN
  obtain ⟨W0, rfl⟩ : ∃ W0 : World, W0 = w := ⟨_, rfl⟩
  go_enter Try.func21, Try.ntmps21
  go_wp2
  go_loopw [3, 5, 8] (fun v _ i wr => ∃ k : Nat, k ≤ N ∧ i = .int .i64 (k : Int) ∧ Hid (wr.ownsRow W0.heap.size 23 1 v k ((numV (L.take k)).map (Value.int .u64))) ∧ Hid (Below W0.heap.size W0 wr)) (fun _ _ i _ => N - (intOf i).toNat)
  case atStart => exact ⟨0, by omega, rfl, World.ownsRow_nil _ _ _ _, Below.refl _ _⟩
  case round =>
    obtain ⟨k, hk, rfl, HOW, HBk⟩ := hrel
    by_cases hlt : k < N
    · obtain ⟨b, off, cap2, e2, c0, c1, c2, c3⟩ := HX.out wr k HBk.out hlt
      cases e2
      have hA := At.new wr (ck L k)
      obtain ⟨d0, d1, d2, d3⟩ := hA.c
      have hsu := HSU.out k hlt
      obtain ⟨s, hs⟩ : ∃ s, ck L k = s := ⟨_, rfl⟩
      rw [hs] at c0 c1 c2 c3 d0 d1 d2 d3 hsu
      clear hA hs
      obtain ⟨ncp, ti, sn, ro⟩ := s
      unfold boxO at d0 d1 d2 d3
      dsimp only at c0 c1 c2 c3 d0 d1 d2 d3 hsu
      have HS := Lib.hid hsu
      have hown2 := (HOW.out.alloc (.cells #[.int .u64 ncp, .int .u64 ti, .bool sn, .string ro] 25)).alloc (.cells #[.int .u64 ncp] 23)
      have hnew : ∀ j u, ([.int .u64 (ncp : Int)] : List Value)[j]? = some u → ((wr.alloc (.cells #[.int .u64 ncp, .int .u64 ti, .bool sn, .string ro] 25)).alloc (.cells #[.int .u64 ncp] 23)).cell? ((⟨wr.heap.size + 1, 0, none⟩ : Addr).add j) = some u := World.news_of_block (cs := #[.int .u64 (ncp : Int)]) (by
        have := World.alloc_heap_new (wr.alloc (.cells #[.int .u64 ncp, .int .u64 ti, .bool sn, .string ro] 25)) (.cells #[.int .u64 ncp] 23)
        rwa [World.size_alloc] at this)
      have HOWN := Lib.hid hown2
      have HNEW := Lib.hid hnew
      have HB2 := Lib.hid (below_al (below_al HBk.out (.cells #[.int .u64 ncp, .int .u64 ti, .bool sn, .string ro] 25)) (.cells #[.int .u64 ncp] 23))
      clear hown2 hnew hsu
      go_wp2_with (at_builtin; (refine wpList_append_own _ rfl _ _ 36 rfl W0.heap.size 23 i0 (.int .u64 0) 1 8 Try.underlying36 hin hz0 hz1 hz2 rfl (by decide) _ k ((numV (L.take k)).map (Value.int .u64)) rfl HOWN.out ⟨wr.heap.size + 1, 0, none⟩ 1 1 [.int .u64 ncp] rfl rfl HNEW.out (by simp [Value.oneCell']) (by unfold maxLen; omega) (by omega) HB2.out.size ?_; intro v3 w3 hown3 hgrow3 _; have HO3 := Lib.hid hown3; have HB3 := Lib.hid (HB2.out.grown hgrow3 HB2.out.size (fun r e => ((HOWN.out).lt r e).1)); clear hown3 hgrow3))
      go_roundw
      case rel => exact ⟨k + 1, by omega, by go_num, by rw [HS.out]; exact HO3.out, HB3.out⟩
      case measure => simp [intOf]; omega
    · obtain rfl : N = k := by omega
      have HF := Lib.hid (HFin.out wr _ HOW.out HBk.out)
      go_wp2
      go_returns
      exact HF.out
end
end Go.Proofs.Ytoedjemelblpaaa.Cps
