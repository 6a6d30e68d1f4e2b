/- The document's Split. -/
import Derived.Test.YtgmpfkhcohlijaaPathRefP
import Derived.Deep.RegionLaw
namespace Go.Proofs.Ytgmpfkhcohlijaa.Pth
open Go.RowKit Nam
attribute [local go_sem] Oper.semAt_some
set_option linter.unusedVariables false
set_option linter.unusedSimpArgs false
def splitV (s : ByteArray) : List ByteArray := (splitD s).getD []
def splitE (s : ByteArray) : Int := match splitD s with | some _ => 0 | none => 120
def SplitPost (s : ByteArray) (w : World) (e : Ending) (w' : World) : Prop := ∃ v, e = .returned (.tuple #[v, .int .i64 (splitE s)]) ∧ Strs w' v (splitV s) ∧ Below w.heap.size w w'
theorem split_bad {s : ByteArray} {w w' : World} (h : splitD s = none) (hB : Below w.heap.size w w') : SplitPost s w (.returned (.tuple #[.slice none 0 0, .int .i64 120])) w' := by
  refine ⟨.slice none 0 0, ?_, ?_, hB⟩
  · unfold splitE; rw [h]
  · unfold splitV; rw [h]; exact Strs.nil _
theorem split_good {s : ByteArray} {w w' : World} {l : List ByteArray} {v : Value} (h : splitD s = some l) (hv : Strs w' v l) (hB : Below w.heap.size w w') : SplitPost s w (.returned (.tuple #[v, .int .i64 0])) w' := by
  refine ⟨v, ?_, ?_, hB⟩
  · unfold splitE; rw [h]
  · unfold splitV; rw [h]; exact hv
theorem pcs_size {s x : ByteArray} (h : x ∈ pcs s) : x.size ≤ s.size := by
  have h1 : szP (pcs s) = s.size + 1 := by unfold pcs; rw [szP_cut, size_list]
  have h2 : ∀ {P : List ByteArray}, x ∈ P → x.size + 1 ≤ szP P := by
    intro P
    induction P with
    | nil => intro h; cases h
    | cons p r ih =>
      intro h
      simp only [szP]
      rcases List.mem_cons.1 h with h | h
      · rw [h]; omega
      · have := ih h; omega
  have := h2 h
  omega
theorem pcs_many (s : ByteArray) : (pcs s).length ≤ s.size + 1 := by
  have h1 : szP (pcs s) = s.size + 1 := by unfold pcs; rw [szP_cut, size_list]
  have h2 : ∀ P : List ByteArray, P.length ≤ szP P := by
    intro P
    induction P with
    | nil => exact Nat.le_refl _
    | cons p r ih => simp only [szP, List.length_cons]; omega
  have := h2 (pcs s)
  omega
theorem Strs.cut {w : World} {a : Option Addr} {n cap : Nat} {X : List ByteArray} (h : Strs w (.slice a n cap) X) (m : Nat) (hm : m ≤ X.length) : Strs w (.slice a m cap) (X.take m) := by
  obtain ⟨a', cap', e, h2, h3, h4, h5⟩ := h
  cases e
  have hl : (X.take m).length = m := by rw [List.length_take]; omega
  refine ⟨a, cap, by rw [hl], by omega, h3, by rw [List.length_map, hl, Nat.mul_one], fun hn => ?_⟩
  obtain ⟨b, off, rfl, hc⟩ := h5 (by rw [hl] at hn; omega)
  refine ⟨b, off, rfl, fun j u hj => hc j u ?_⟩
  have hj2 := (List.getElem?_eq_some_iff.1 hj).1
  rw [List.length_map, hl] at hj2
  rw [List.getElem?_map, List.getElem?_take_of_lt hj2] at hj
  rw [List.getElem?_map]
  exact hj
theorem make_strs (n : Nat) (hn : n ≤ 4096) : ∃ X : Array Value, X.size = n * 1 ∧ ∀ W : World, (Instr.makeSlice 22 (.int .i64 0) (.int .i64 (n : Int))).run Try.prog W = .ok (.slice (some ⟨W.heap.size, 0, none⟩) 0 n) (W.alloc (.cells X 9)) := by
  obtain ⟨i0, hi, hz0, hz1, hz2⟩ := info_parts infoStr
  refine ⟨madeCells (Value.string ⟨#[]⟩).cells (n * 1), by rw [size_madeCells], fun W => ?_⟩
  have hr := run_make (P := Try.prog) W 22 9 i0 (.string ⟨#[]⟩) Try.underlying22 hi hz0 .i64 .i64 0 n (Int.le_refl _) (by omega) (by rw [hz2]; omega) (by omega)
  simp only [Int.toNat_zero, Int.toNat_natCast, hz1] at hr
  exact hr
theorem step_append_strs {w : World} {ops : Array Oper} {o : Oper} {a : Act} {K : Act → World → Prop} {Q : Exit → Act → World → Prop} {E : Prop} (hgd : o.guard = none) (s x : Operand)
    (ho : o.op = .call { callee := .builtin .append, args := #[s, x], argTypes := #[22, 22] }) (hty : o.type = 22)
    (base : Nat) (v : Value) (n : Nat) (xs : List Value) (hs : a.eval s = v) (hown : w.ownsRow base 9 1 v n xs) (vL : Value) (L : List ByteArray) (hx : a.eval x = vL) (hL : Strs w vL L) (h1 : n + L.length ≤ 100000) (hb : base ≤ w.heap.size)
    (h : ∀ v' w', w'.ownsRow base 9 1 v' (n + L.length) (xs ++ L.map .string) → w.grownBy w' v.ownBlock → K (a.put o.dst v') w') :
    if Region.wanted o (yielded ops a.tmps) = true then Oper.wp Try.prog o a w K Q else E := by
  have hw : Region.wanted o (yielded ops a.tmps) = true := by simp [Region.wanted, hgd]
  rw [if_pos hw]
  exact wp_append_strs s x ho hty base v n xs hs hown vL L hx hL h1 hb h
theorem goP_next {P l : List ByteArray} {k : Nat} (hk : k < P.length) (h : goP (P.take k) (some []) = some l) : goP (P.take (k + 1)) (some []) = stp (some l) (P.getD k ⟨#[]⟩) := by
  rw [take_snocS hk, goP_app, h]
  rfl
theorem goP_stop {P : List ByteArray} {k : Nat} (h : goP (P.take k) (some []) = none) : goP P (some []) = none := by
  have h2 := goP_app (P.take k) (P.drop k) (some [])
  rw [List.take_append_drop, h, goP_none] at h2
  exact h2
theorem lit_no2 {s : ByteArray} {l : List UInt8} (h : ¬ s = ⟨l.toArray⟩) : (s.toList == l) = false := by
  rw [beq_eq_false_iff_ne]
  intro he
  apply h
  apply ba_ext
  rw [← Lib.toList_data, he]
namespace R
section
set_option maxRecDepth 100000
set_option maxHeartbeats 8000000
theorem split_any (s : ByteArray) (w : World) (hs : s.size ≤ 281474976710656) : Calls Try.prog 10 #[.string s] w (SplitPost s w) := by
  by_cases hp : pathP s
  case neg =>
    have HBAD : Hid (∀ w', Below w.heap.size w w' → SplitPost s w (.returned (.tuple #[.slice none 0 0, .int .i64 120])) w') := fun w' hB => split_bad (if_neg hp) hB
    by_cases h1 : 1000 < s.size
    · have g1 : (1000 : Int) < (s.size : Int) := by omega
      clear hp h1
      go_enter Try.func10, Try.ntmps10
      go_wp2
      go_returns
      exact HBAD.out _ (Below.refl _ _)
    · have g1 : ¬ (1000 : Int) < (s.size : Int) := by omega
      by_cases h2 : s.size = 0
      · have g2 : ((s.size : Int) == 0) = true := by rw [h2]; rfl
        clear hp h1 h2
        go_enter Try.func10, Try.ntmps10
        go_wp2
        go_returns
        exact HBAD.out _ (Below.refl _ _)
      · have g2 : ((s.size : Int) == 0) = false := beq_eq_false_iff_ne.2 (by omega)
        have h7 : ¬ sb s 0 = 47 := fun h => hp ⟨by omega, by omega, h⟩
        have hlt : 0 < s.size := by omega
        have hlt2 : (0 : Int) < (s.size : Int) := by omega
        have e3 : ∀ h : 0 < s.size, (((s[0]'h).toNat : Nat) : Int) = sbyte s 0 := fun h => by
          have : s.data.toList[0]? = some (s[0]'h) := Go.Proofs.byte_at s 0 h
          simp [sbyte, this]
        have hb : (sbyte s 0 == 47) = false := by rw [sbyte_eq]; exact beq_eq_false_iff_ne.2 (by omega)
        clear hp h1 h2 h7
        go_enter Try.func10, Try.ntmps10
        go_wp2
        go_returns
        exact HBAD.out _ (Below.refl _ _)
  case pos =>
    obtain ⟨h1, h2, h7⟩ := hp
    obtain ⟨i0, hin, hz0, hz1, hz2⟩ := info_parts infoStr
    have hp : pathP s := ⟨h1, h2, h7⟩
    have HBAD : Hid (goP (pcs s) (some []) = none → ∀ w', Below w.heap.size w w' → SplitPost s w (.returned (.tuple #[.slice none 0 0, .int .i64 120])) w') := fun h w' hB => split_bad (by unfold splitD; rw [if_pos hp, h]; rfl) hB
    have HBIG : Hid (∀ l, goP (pcs s) (some []) = some l → 40 < l.length → ∀ w', Below w.heap.size w w' → SplitPost s w (.returned (.tuple #[.slice none 0 0, .int .i64 120])) w') := fun l h h4 w' hB => split_bad (by unfold splitD; rw [if_pos hp, h]; exact if_neg (by omega)) hB
    have HYES : Hid (∀ l, goP (pcs s) (some []) = some l → ¬ 40 < l.length → ∀ v w', Strs w' v l → Below w.heap.size w w' → SplitPost s w (.returned (.tuple #[v, .int .i64 0])) w') := fun l h h4 v w' hv hB => split_good (by unfold splitD; rw [if_pos hp, h]; exact if_pos (by omega)) hv hB
    have g1 : ¬ (1000 : Int) < (s.size : Int) := by omega
    have g2 : ((s.size : Int) == 0) = false := beq_eq_false_iff_ne.2 (by omega)
    have hlt2 : (0 : Int) < (s.size : Int) := by omega
    have e3 : ∀ h : 0 < s.size, (((s[0]'h).toNat : Nat) : Int) = sbyte s 0 := fun h => by
      have : s.data.toList[0]? = some (s[0]'h) := Go.Proofs.byte_at s 0 h
      simp [sbyte, this]
    have hb : (sbyte s 0 == 47) = true := by rw [sbyte_eq, h7]; rfl
    have hP := Lib.hid (fun W => pieces_any s W (by omega))
    have hmany := pcs_many s
    have HSZ : Hid (∀ k, k < (pcs s).length → ((pcs s).getD k ⟨#[]⟩).size ≤ 1000) := fun k hk => Nat.le_trans (pcs_size (getD_mem hk)) h1
    generalize pcs s = P at *
    obtain ⟨n, hn⟩ : ∃ n, P.length = n := ⟨_, rfl⟩
    rw [hn] at hmany HSZ
    have HPN := Lib.hid hn
    have hn1 : n ≤ 1001 := by omega
    clear hp h7 hmany hs
    go_enter Try.func10, Try.ntmps10
    go_wp2_with (go_at_call 22; (with_reducible refine Calls.mono (hP.out _) ?_); rintro e w1 ⟨pv, rfl, hO, hB1⟩; obtain ⟨pa, pcap, epv, hp1, hp2⟩ := (Strs.own hO).parts; have HPS := Lib.hid (Strs.own hO); have HB1 := Lib.hid hB1; rw [hn] at epv hp1; subst epv; clear hO hB1)
    clear e3 hb g1 g2 hlt2 h1 h2 hn
    go_loopw [4, 6, 7] (fun v i _ wr => ∃ (k : Nat) (L : List ByteArray), k ≤ n ∧ i = .int .i64 (k : Int) ∧ L.length ≤ k ∧ Hid (goP (P.take k) (some []) = some L) ∧ Hid (Strs wr v L) ∧ Hid (Below w1.heap.size w1 wr)) (fun _ i _ _ => n - (intOf i).toNat)
    case atStart => exact ⟨0, [], by omega, rfl, Nat.le_refl _, rfl, Strs.nil _, Below.refl _ _⟩
    case round =>
      obtain ⟨k, L, hk, rfl, hLk, HG, HL, HB⟩ := hrel
      obtain ⟨va, vcap, rfl, hv1, hv2⟩ := HL.out.parts
      obtain ⟨N, hN⟩ : ∃ N, L.length = N := ⟨_, rfl⟩
      have HN := Lib.hid hN
      rw [hN] at HL hv1 hLk ⊢
      by_cases hlt : k < n
      · have hkn : (k : Int) < (n : Int) := by omega
        obtain ⟨b, off, e1, _⟩ := HPS.out.get (k := k) (by rw [HPN.out]; exact hlt)
        cases e1
        have hC := fun (W : World) (h : Below wr.heap.size wr W) => ((HPS.out.below HB.out).below h).get (k := k) (by rw [HPN.out]; exact hlt)
        have hS := goP_next (by rw [HPN.out]; exact hlt) HG.out
        have hz := HSZ.out k hlt
        obtain ⟨x, hx⟩ : ∃ x, P.getD k ⟨#[]⟩ = x := ⟨_, rfl⟩
        rw [hx] at hS hz
        have HC : Hid (∀ W, Below wr.heap.size wr W → W.cell? ⟨b, off + k, none⟩ = some (.string x)) := fun W h => by
          obtain ⟨b', o', e, c⟩ := hC W h
          cases e
          rw [hx] at c
          exact c
        have c1 := HC.out _ (Below.refl _ _)
        clear hC hx hN
        rw [stp_some] at hS
        by_cases k1 : x = ⟨#[]⟩
        · rw [if_pos (Or.inl k1)] at hS
          have HS := Lib.hid hS
          have q0 : (x.toList == []) = true := by rw [k1, Lib.toList_data]; rfl
          clear hS k1
          go_wp2
          go_roundw
          case rel => exact ⟨k + 1, L, by omega, by go_num, by rw [HN.out]; omega, HS.out, HL.out, HB.out⟩
          case measure => simp [intOf]; omega
        have q0 : (x.toList == []) = false := lit_no2 k1
        by_cases k2 : x = dot
        · rw [if_pos (Or.inr k2)] at hS
          have HS := Lib.hid hS
          have q1 : (x.toList == [46]) = true := by rw [k2, Lib.toList_data]; rfl
          clear hS k1 k2
          go_wp2
          go_roundw
          case rel => exact ⟨k + 1, L, by omega, by go_num, by rw [HN.out]; omega, HS.out, HL.out, HB.out⟩
          case measure => simp [intOf]; omega
        have q1 : (x.toList == [46]) = false := lit_no2 k2
        rw [if_neg (fun h => h.elim k1 k2)] at hS
        by_cases k3 : x = dots
        · rw [if_pos k3] at hS
          have HS := Lib.hid hS
          have q2 : (x.toList == [46, 46]) = true := by rw [k3, Lib.toList_data]; rfl
          have hcut : Strs wr (.slice va (N - 1) vcap) L.dropLast := by
            have h := HL.out.cut (N - 1) (by rw [HN.out]; omega)
            have e : L.dropLast = L.take (N - 1) := by rw [List.dropLast_eq_take, HN.out]
            rw [e]
            exact h
          have HCUT := Lib.hid hcut
          have hw1 : IntKind.i64.wrap ((N : Int) - 1) = (N : Int) - 1 := by rw [IntKind.wrap_i64] <;> omega
          have hw2 : max (0 : Int) ((N : Int) - 1) = ((N - 1 : Nat) : Int) := by omega
          have hm1 : N - 1 ≤ vcap := by omega
          have hm2 : ((N - 1 : Nat) : Int) ≤ (vcap : Int) := by omega
          obtain ⟨m, hm⟩ : ∃ m, N - 1 = m := ⟨_, rfl⟩
          rw [hm] at HCUT hw2 hm1 hm2
          have HM := Lib.hid hm
          clear hS k1 k2 k3 hcut hm
          go_wp2
          go_roundw
          case rel => exact ⟨k + 1, L.dropLast, by omega, by go_num, by rw [List.length_dropLast, HN.out]; omega, HS.out, HCUT.out, HB.out⟩
          case measure => simp [intOf]; omega
        have q2 : (x.toList == [46, 46]) = false := lit_no2 k3
        rw [if_neg k3] at hS
        have hI := fun W => Nam.R.isName_any x W
        by_cases k4 : nameP x
        · rw [if_pos k4] at hS
          rw [nameB_yes k4] at hI
          have HI := Lib.hid hI
          have HS := Lib.hid hS
          obtain ⟨N1, hN1⟩ : ∃ N1, N + 1 = N1 := ⟨_, rfl⟩
          obtain ⟨X, hX, hmk⟩ := make_strs N1 (by omega)
          have hw1 : IntKind.i64.wrap ((N : Int) + 1) = (N1 : Int) := by rw [IntKind.wrap_i64]; omega
          have hN9 : 0 + L.length ≤ 100000 := by rw [HN.out]; omega
          have hN1b : N1 ≤ 1002 := by omega
          have hNb : N ≤ 1001 := by omega
          have HOWN : Hid (∀ W base v, W.ownsRow base 9 1 v (N + 1) (L.map .string ++ [.string x]) → Strs W v (L ++ [x])) := fun W base v h => Strs.own (base := base) (by rw [List.length_append, HN.out, List.map_append]; exact h)
          have hself : Below wr.heap.size wr wr.drew := (Below.refl _ wr).drew
          have hself1 : Below wr.heap.size wr (wr.drew.alloc (.cells X 9)) := below_al hself _
          have x0 := HC.out _ hself
          have y0 := HC.out _ hself1
          have xb := HC.out _ (below_new wr (.cells X 9))
          have xc := HC.out _ (below_new wr (.cells X 9)).drew
          have HLB : Hid (∀ W, Below wr.heap.size wr W → Strs W (.slice va N vcap) L) := fun W h => HL.out.below h
          have HO1 : Hid ((wr.drew.alloc (.cells X 9)).ownsRow wr.heap.size 9 1 (.slice (some ⟨wr.heap.size, 0, none⟩) 0 N1) 0 []) := World.ownsRow_made wr.drew X N1 (Nat.le_refl _) (by unfold maxLen; omega) hX
          have HO3 : Hid (((wr.drew.alloc (.cells #[.string x] 9)).alloc (.cells X 9)).ownsRow wr.heap.size 9 1 (.slice (some ⟨wr.heap.size + 1, 0, none⟩) 0 N1) 0 []) := by
            have := World.ownsRow_made (base := wr.heap.size) (e := 9) (size := 1) (wr.drew.alloc (.cells #[.string x] 9)) X N1 (by simp) (by unfold maxLen; omega) hX
            rw [World.size_alloc] at this
            exact this
          have HN1 := Lib.hid hN1
          clear hI hS k1 k2 k3 k4 hN1
          go_wp2_with (go_at_call 23; (with_reducible refine Calls.mono (HI.out _) ?_); rintro e w2 ⟨rfl, rfl⟩)
          go_region_law (first
            | (refine step_append_lies _ rfl (.tmp 64) (.tmp 69) 22 rfl wr.heap.size 9 i0 (.string ⟨#[]⟩) 1 16 Try.underlying22 hin hz0 hz1 hz2 rfl (by decide) v4 N (L.map .string) rfl (HO4.out.alloc _) ⟨w4.heap.size, 0, none⟩ 1 1 [.string x] rfl rfl (World.news_of_block (World.alloc_heap_new w4 _)) (by simp [Value.oneCell']) (by decide) (by unfold maxLen; omega) (by omega) (by have := HB4.out.size; simp; omega) _ rfl ?_; intro g2 cap2 w6 hown6 hgrow6 hat6 hlt6; have hT6 := HOWN.out _ _ _ hown6; have hB6 : Below wr.heap.size wr w6 := (below_al HB4.out (.cells #[.string x] 9)).grown hgrow6 (by have := HB4.out.size; simp; omega) (fun r e => (HO4.out.lt r e).1))
            | (refine step_append_lies _ rfl (.tmp 64) (.tmp 69) 22 rfl wr.heap.size 9 i0 (.string ⟨#[]⟩) 1 16 Try.underlying22 hin hz0 hz1 hz2 rfl (by decide) v4 N (L.map .string) rfl HO4.out ⟨nb, 0, none⟩ 1 1 [.string x] rfl rfl (World.news_of_block hnb.out) (by simp [Value.oneCell']) (by decide) (by unfold maxLen; omega) (by omega) HB4.out.size _ rfl ?_; intro g2 cap2 w6 hown6 hgrow6 hat6 hlt6; have hT6 := HOWN.out _ _ _ hown6; have hB6 : Below wr.heap.size wr w6 := HB4.out.grown hgrow6 HB4.out.size (fun r e => (HO4.out.lt r e).1))
            | (refine step_append_strs rfl (.tmp 62) (.tmp 63) rfl rfl wr.heap.size (.slice (some ⟨wr.heap.size, 0, none⟩) 0 N1) 0 [] rfl HO1.out _ L rfl (HLB.out _ (below_al hself _)) hN9 (by simp) ?_; intro v4 w4 hown4 hgrow4; rw [Nat.zero_add, List.nil_append, HN.out] at hown4; have hb4 : Below wr.heap.size wr w4 := (below_al hself (.cells X 9)).grown hgrow4 (by simp) (fun r e => Nat.le_of_eq (by simpa [Value.ownBlock] using e)); have z0 := HC.out _ hb4; have HO4 := Lib.hid hown4; have HB4 := Lib.hid hb4; clear hown4 hgrow4 hb4)
            | (refine step_append_strs rfl (.tmp 62) (.tmp 63) rfl rfl wr.heap.size (.slice (some ⟨wr.heap.size, 0, none⟩) 0 N1) 0 [] rfl (HO1.out.alloc _) _ L rfl (HLB.out _ (below_al (below_al hself _) _)) hN9 (by simp; omega) ?_; intro v4 w4 hown4 hgrow4; rw [Nat.zero_add, List.nil_append, HN.out] at hown4; have hb4 : Below wr.heap.size wr w4 := (below_al (below_al hself (.cells X 9)) (.cells #[.string x] 9)).grown hgrow4 (by simp; omega) (fun r e => Nat.le_of_eq (by simpa [Value.ownBlock] using e)); obtain ⟨nb, hnbe⟩ : ∃ nb, wr.heap.size + 1 = nb := ⟨_, rfl⟩; have hnb : Hid (w4.heap[nb]? = some (.cells #[.string x] 9 (0, 0))) := (hgrow4.block nb (by simp; omega) (by simp [Value.ownBlock]; omega)).trans (by have := World.alloc_heap_new (wr.drew.alloc (.cells X 9)) (.cells #[.string x] 9); rw [World.size_alloc] at this; rw [← hnbe]; exact this); have HO4 := Lib.hid hown4; have HB4 := Lib.hid hb4; clear hown4 hgrow4 hb4)
            | (refine step_append_strs rfl (.tmp 62) (.tmp 63) rfl rfl wr.heap.size (.slice (some ⟨wr.heap.size + 1, 0, none⟩) 0 N1) 0 [] rfl HO3.out _ L rfl (HLB.out _ (below_al (below_al hself _) _)) hN9 (by simp; omega) ?_; intro v4 w4 hown4 hgrow4; rw [Nat.zero_add, List.nil_append, HN.out] at hown4; have hb4 : Below wr.heap.size wr w4 := (below_al (below_al hself (.cells #[.string x] 9)) (.cells X 9)).grown hgrow4 (by simp; omega) (fun r e => by simp [Value.ownBlock] at e; exact Nat.le_trans (Nat.le_succ _) (Nat.le_of_eq e)); obtain ⟨nb, hnbe⟩ : ∃ nb, wr.heap.size = nb := ⟨_, rfl⟩; have hnb : Hid (w4.heap[nb]? = some (.cells #[.string x] 9 (0, 0))) := (hgrow4.block nb (by simp; omega) (by simp [Value.ownBlock]; omega)).trans ((Below.heap_alloc _ _ _ (by simp; omega)).trans (by rw [← hnbe]; exact World.alloc_heap_new wr.drew _)); have HO4 := Lib.hid hown4; have HB4 := Lib.hid hb4; clear hown4 hgrow4 hb4))
          all_goals
            have HT6 := Lib.hid hT6
            have HB6 := Lib.hid hB6
            clear hT6 hB6 hown6 hgrow6
            go_wp2
            go_roundw
            case rel => exact ⟨k + 1, L ++ [x], by omega, by go_num, by rw [List.length_append, HN.out]; show N + 1 ≤ _; omega, HS.out, HT6.out, below_th HB.out HB6.out⟩
            case measure => simp [intOf]; omega
        · rw [if_neg k4] at hS
          rw [nameB_no k4] at hI
          have HI := Lib.hid hI
          have HFIN := Lib.hid (HBAD.out (goP_stop hS) _ (below_th HB1.out HB.out))
          clear hI hS k1 k2 k3 k4
          go_wp2_with (go_at_call 23; (with_reducible refine Calls.mono (HI.out _) ?_); rintro e w2 ⟨rfl, rfl⟩)
          go_returns
          exact HFIN.out
      · obtain rfl : k = n := by omega
        have hG := HG.out
        rw [List.take_of_length_le (by rw [HPN.out]; exact Nat.le_refl _)] at hG
        by_cases h4 : 40 < N
        · have g4 : (40 : Int) < (N : Int) := by omega
          have HFIN := Lib.hid (HBIG.out L hG (by rw [HN.out]; exact h4) _ (below_th HB1.out HB.out))
          clear hG h4 hN
          go_wp2
          go_returns
          exact HFIN.out
        · have g4 : ¬ (40 : Int) < (N : Int) := by omega
          have HFIN := Lib.hid (HYES.out L hG (by rw [HN.out]; exact h4) _ _ HL.out (below_th HB1.out HB.out))
          clear hG h4 hN
          go_wp2
          go_returns
          exact HFIN.out
end
end R
end Go.Proofs.Ytgmpfkhcohlijaa.Pth
