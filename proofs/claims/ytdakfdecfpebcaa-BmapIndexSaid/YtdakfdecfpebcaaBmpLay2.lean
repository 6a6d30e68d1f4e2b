/- The document's Lay, of the depth two. -/
import Derived.Deep.AppendLies
import Derived.Test.YtdakfdecfpebcaaBmpLay1
namespace Go.Proofs.Ytdakfdecfpebcaa.Bmp
open Go.RowKit Ino
attribute [local go_sem] Oper.semAt_some
set_option linter.unusedVariables false
set_option linter.unusedSimpArgs false
theorem infoStr : (Try.prog.info? 9).map (fun i => (i.zero, i.size, i.bytes)) = some (some (.string ⟨#[]⟩), 1, 16) := by kernel_rfl
theorem run_append_strs (w : World) (base : Nat) (v : Value) (n : Nat) (xs : List Value) (hown : w.ownsRow base 9 1 v n xs) (vL : Value) (L : List ByteArray) (hL : Strs w vL L) (h1 : n + L.length ≤ 100000) (hb : base ≤ w.heap.size) :
    ∃ v' w', (Builtin.append_ #[33, 33] 33 #[v, vL]).run Try.prog w = .ok v' w' ∧ w'.ownsRow base 9 1 v' (n + L.length) (xs ++ L.map .string) ∧ w.grownBy w' v.ownBlock := by
  obtain ⟨i0, hi, hz0, hz1, hz2⟩ := info_parts infoStr
  obtain ⟨a, cap, rfl, hc1, hc2⟩ := hL.parts
  cases a with
  | none =>
    have hc0 : cap = 0 := Lies.none_cap hL
    have hl0 : L = [] := List.eq_nil_of_length_eq_zero (by omega)
    subst hl0
    subst hc0
    refine ⟨v, w, run_append_owned_none (P := Try.prog) w base 33 33 9 i0 1 Try.underlying33 hi v n xs hown, ?_, ⟨rfl, rfl, rfl, Nat.le_refl _, fun _ _ _ => rfl⟩⟩
    simpa using hown
  | some ad =>
    have hnews : ∀ j u, (L.map Value.string)[j]? = some u → w.cell? (ad.add j) = some u := fun j u hj => by
      obtain ⟨a', cap', e, _, _, h4, h5⟩ := hL
      cases e
      have hl := (List.getElem?_eq_some_iff.1 hj).1
      rw [List.length_map] at hl
      obtain ⟨b, off, e2, hc⟩ := h5 (by omega)
      cases e2
      rw [add_plain]
      exact hc j u hj
    obtain ⟨v', w', hr, h2, h3, _⟩ := run_append_own (P := Try.prog) w base 33 33 9 i0 (.string ⟨#[]⟩) 1 16 Try.underlying33 hi hz0 hz1 hz2 rfl (by decide) v n xs hown ad L.length cap (L.map .string) (by rw [List.length_map, Nat.mul_one]) hnews (fun u hu => by obtain ⟨x, _, rfl⟩ := List.mem_map.1 hu; rfl) (by unfold maxLen; omega) (by omega) hb
    exact ⟨v', w', hr, h2, h3⟩
theorem wp_append_strs {w : World} {o : Oper} {a : Act} {K : Act → World → Prop} {Q : Exit → Act → World → Prop} (s x : Operand)
    (ho : o.op = .call { callee := .builtin .append, args := #[s, x], argTypes := #[33, 33] }) (hty : o.type = 33)
    (base : Nat) (v : Value) (n : Nat) (xs : List Value) (hs : a.eval s = v) (hown : w.ownsRow base 9 1 v n xs) (vL : Value) (L : List ByteArray) (hx : a.eval x = vL) (hL : Strs w vL L) (h1 : n + L.length ≤ 100000) (hb : base ≤ w.heap.size)
    (h : ∀ v' w', w'.ownsRow base 9 1 v' (n + L.length) (xs ++ L.map .string) → w.grownBy w' v.ownBlock → K (a.put o.dst v') w') : o.wp Try.prog a w K Q := by
  obtain ⟨v', w', hr, h2, h3⟩ := run_append_strs w base v n xs hown vL L hL h1 hb
  unfold Oper.wp execOp
  simp only [ho, hty, resolve, invoke, builtin, Sem.run_bind, Sem.run_pure, Result.andThen_ok, List.map_toArray, List.map_cons, List.map_nil, hs, hx, hr]
  exact h v' w' h2 h3
theorem wpList_append_strs {w : World} {ops : Array Oper} {rest : List Oper} {o : Oper} {a : Act} {Q : Exit → Act → World → Prop} (hgd : o.guard = none) (s x : Operand)
    (ho : o.op = .call { callee := .builtin .append, args := #[s, x], argTypes := #[33, 33] }) (hty : o.type = 33)
    (base : Nat) (v : Value) (n : Nat) (xs : List Value) (hs : a.eval s = v) (hown : w.ownsRow base 9 1 v n xs) (vL : Value) (L : List ByteArray) (hx : a.eval x = vL) (hL : Strs w vL L) (h1 : n + L.length ≤ 100000) (hb : base ≤ w.heap.size)
    (h : ∀ v' w', w'.ownsRow base 9 1 v' (n + L.length) (xs ++ L.map .string) → w.grownBy w' v.ownBlock → wpList Try.prog ops Q rest (a.put o.dst v') w') : wpList Try.prog ops Q (o :: rest) a w :=
  wpList_plain hgd fun _ hK => wp_append_strs s x ho hty base v n xs hs hown vL L hx hL h1 hb fun v' w' h2 h3 => hK _ _ (h v' w' h2 h3)
theorem grown_of_below {W W' : World} (h : Below W.heap.size W W') : W.grownBy W' none := ⟨h.1, h.2, h.3, h.4, fun k hk _ => h.5 k hk⟩
theorem own_below2 {w w' : World} {base n : Nat} {t : TypeId} {sz : Nat} {v : Value} {xs : List Value} (h : w.ownsRow base t sz v n xs) (hB : Below w.heap.size w w') : w'.ownsRow base t sz v n xs :=
  h.kept (grown_of_below hB) (by cases hv : v.ownBlock <;> simp)
/-- a slice built of one text is one's own -/
theorem own_one {W : World} {b base : Nat} {x : ByteArray} (h : W.heap[b]? = some (.cells #[.string x] 9 (0, 0))) (hb : base ≤ b) : W.ownsRow base 9 1 (.slice (some ⟨b, 0, none⟩) 1 1) 1 [.string x] :=
  ⟨rfl, .inr ⟨b, 1, #[.string x], rfl, hb, h, Nat.le_refl _, by unfold maxLen; omega, rfl, rfl⟩⟩
/-- a piece of numbers -/
theorem U32s.sub {w : World} {b off n cap : Nat} {X : List Nat} (h : U32s w (.slice (some ⟨b, off, none⟩) n cap) X) (lo hi : Nat) (h1 : lo ≤ hi) (h2 : hi ≤ X.length) : U32s w (.slice (some ⟨b, off + lo, none⟩) (hi - lo) (cap - lo)) ((X.drop lo).take (hi - lo)) := by
  obtain ⟨a', cap', e, h3, ⟨h4, _⟩, h5, h6⟩ := h
  cases e
  have hl : ((X.drop lo).take (hi - lo)).length = hi - lo := by rw [List.length_take, List.length_drop]; omega
  refine ⟨some ⟨b, off + lo, none⟩, cap - lo, by rw [hl], by rw [hl]; omega, ⟨by omega, fun e => by cases e⟩, by rw [List.length_map, hl, Nat.mul_one], fun hn => ⟨b, off + lo, rfl, fun j u hj => ?_⟩⟩
  have hj2 := (List.getElem?_eq_some_iff.1 hj).1
  rw [List.length_map, hl] at hj2
  obtain ⟨b2, o2, e2, hc⟩ := h6 (by omega)
  cases e2
  rw [List.getElem?_map, List.getElem?_take_of_lt hj2, List.getElem?_drop] at hj
  rw [Nat.add_assoc]
  exact hc (lo + j) u (by rw [List.getElem?_map]; exact hj)
theorem own_set1 {w : World} {base n : Nat} {v : Value} {xs : List Value} {q i : Nat} {u : Value} (h : w.ownsRow base 9 1 v n xs) (hq : q < base) : (w.setCell ⟨q, i, none⟩ u).ownsRow base 9 1 v n xs :=
  h.kept (row := some q) ⟨rfl, rfl, rfl, (KeepsWalks.setCell w ⟨q, i, none⟩ u).size, fun j hj hn => Below.heap_setCell _ _ _ _ (fun e => hn (by rw [e]))⟩ (by
    cases hv : v.ownBlock with
    | none => exact .inl rfl
    | some g => exact .inr (fun e => by have := (h.lt g hv).1; cases e; omega))
theorem own_set6 {w : World} {base n : Nat} {v : Value} {xs : List Value} {q : Nat} {u : Value} (h : w.ownsRow base 9 1 v n xs) (hq : q < base) : ((((((w.setCell ⟨q, 0, none⟩ u).setCell ⟨q, 1, none⟩ (.int .u32 0)).setCell ⟨q, 2, none⟩ (.int .u32 0)).setCell ⟨q, 3, none⟩ (.int .u32 0)).setCell ⟨q, 4, none⟩ (.int .u32 0)).setCell ⟨q, 5, none⟩ (.int .u32 0)).ownsRow base 9 1 v n xs :=
  own_set1 (own_set1 (own_set1 (own_set1 (own_set1 (own_set1 h hq) hq) hq) hq) hq) hq
namespace R
section
set_option maxRecDepth 100000
set_option maxHeartbeats 4000000
theorem lay_two (s : Nat) (v1 v2 : Value) (V I : List Nat) (w : World) (h : s < 4294967296) (hV : U32s w v1 V) (hI : U32s w v2 I) (hok : layP s V I) (hsm : Small V) (hsi : Small I) (hd : dpN s = 2) :
    Calls Try.prog 16 #[.int .u32 s, v1, v2] w (LayPost s V I w) := by
  have HY := Lib.hid (fun v w' (hv : Strs w' v (blocksOf s V I)) (hB : Below w.heap.size w w') => lay_yes (w := w) hok hv hB)
  obtain ⟨o1, o2, o3, o4⟩ := hok
  obtain ⟨a1, cv1, rfl, hca, hcb⟩ := hV.parts
  obtain ⟨a2, c2, rfl, hcc, hcd⟩ := hI.parts
  have hBl := Lib.hid (fun W => Ino.R.blocks_any s W h)
  have hDp := Lib.hid (fun W => Ino.R.depth_any s W h)
  have hC := Lib.hid (fun W => count_any s W h)
  have HZ : Hid (∀ k, k < I.length → ¬ I.getD k 0 = 0) := fun k hk => by
    rw [List.getD_eq_getElem?_getD, List.getElem?_eq_getElem hk]
    exact o4 _ (List.getElem_mem hk)
  have g1 : ¬ (8193532 : Int) < (s : Int) := by omega
  obtain ⟨W0, rfl⟩ : ∃ W0 : World, W0 = w := ⟨_, rfl⟩
  have HI := Lib.hid (fun W (hB : Below W0.heap.size W0 W) k (hk : k < I.length) => (hI.below hB).get (k := k) hk)
  have HV := Lib.hid (fun W (hB : Below W0.heap.size W0 W) k (hk : k < V.length) => (hV.below hB).get (k := k) hk)
  have hbo : blocksOf s V I = blkB I.tail :: lowers V (lowN s) := by unfold blocksOf; rw [if_neg (by omega), if_neg (by omega)]
  have hmo : mapOf s V I = ⟨I.getD 0 0, 0, 0, 0, 0, 0⟩ := by unfold mapOf; rw [if_neg (by omega)]
  have hni1 : I.length = 1 + lowN s := by rw [o3, cnt_def o1, if_pos hd]
  have hlow := low_max o1
  have hlw : lowN s = (V.length + 126) / 127 := by rw [o2]; rfl
  have hbl := bl_max o1
  have hb2 := dp_two hd
  rw [← o2] at hbl hb2
  obtain ⟨b1, off1, ea, _⟩ := hV.get (k := 0) (by omega)
  subst ea
  obtain ⟨bi, offi, eb, _⟩ := hI.get (k := 0) (by omega)
  subst eb
  have HTOP : Hid (∀ W, Below W0.heap.size W0 W → Calls Try.prog 30 #[.slice (some ⟨bi, offi + 1, none⟩) (I.length - 1) (c2 - 1)] W (Ans W (.string (blkB I.tail)))) := fun W hB => by
    have h1 := U32s.sub (U32s.below hI hB) 1 I.length (by omega) (Nat.le_refl _)
    have e : (I.drop 1).take (I.length - 1) = I.tail := by rw [List.drop_one, List.take_of_length_le (by rw [List.length_tail]; exact Nat.le_refl _)]
    rw [e] at h1
    exact block_any _ I.tail W h1 (small_tail hsi) (by rw [List.length_tail]; omega)
  have HLOW : Hid (∀ W k p q, Below W0.heap.size W0 W → p = 127 * k → q = min V.length (p + 127) → p ≤ V.length → Calls Try.prog 30 #[.slice (some ⟨b1, off1 + p, none⟩) (q - p) (cv1 - p)] W (Ans W (.string (blkB (chk V k))))) := fun W k p q hB h1 h2 h3 => by
    have h4 := U32s.sub (U32s.below hV hB) p q (by omega) (by omega)
    have e : (V.drop p).take (q - p) = chk V k := by
      unfold chk
      rw [h1]
      by_cases h : p + 127 ≤ V.length
      · rw [show q - 127 * k = 127 by omega]
      · rw [List.take_of_length_le (by rw [List.length_drop]; omega), List.take_of_length_le (by rw [List.length_drop]; omega)]
    rw [e] at h4
    exact block_any _ (chk V k) W h4 (chk_small hsm k) (by rw [chk_length]; omega)
  rw [hbo] at HY
  rw [hmo] at HY
  rw [hd] at hDp
  have HFIN := Lib.hid HY
  obtain ⟨R, hR⟩ : ∃ R, LayPost s V I W0 = R := ⟨_, rfl⟩
  rw [hR] at HFIN ⊢
  clear hV hI hR HY hbo hmo hd
  obtain ⟨ni, hni⟩ : ∃ ni, I.length = ni := ⟨_, rfl⟩
  rw [hni] at HI HZ HTOP o3 hcc hni1 ⊢
  rw [← o3] at hC
  rw [← o2] at hBl
  obtain ⟨b, hb⟩ : ∃ b, V.length = b := ⟨_, rfl⟩
  rw [hb] at HV HLOW hBl hca hlw hb2 hbl ⊢
  have hlt0 : (0 : Int) < (ni : Int) := by omega
  have hlt1 : 0 < ni := by omega
  have hni2 : 2 < ni := by omega
  clear o1 o2 o3 o4 hni h hb hni1
  have g2 : ((b : Int) != (b : Int)) = false := by simp
  have g3 : ((ni : Int) != (ni : Int)) = false := by simp
  have hZ1 := (zM_new W0).th (below_new _ boxZM)
  have hZ2 := zM_new (W0.alloc boxZM)
  have HB := Lib.hid (below_al (below_new W0 boxZM) boxZM)
  rw [World.size_alloc] at hZ2
  obtain ⟨x0, x1, x2, x3, x4, x5⟩ := zM_c hZ1
  obtain ⟨y0, y1, y2, y3, y4, y5⟩ := zM_c hZ2
  unfold boxZM at x0 x1 x2 x3 x4 x5 y0 y1 y2 y3 y4 y5 HB
  clear hZ1 hZ2
  go_enter Try.func16, Try.ntmps16
  go_wp2_with (first
    | (go_at_call 24; (with_reducible refine Calls.mono (hBl.out _) ?_); rintro e w1 ⟨rfl, hw⟩; rw [← hw]; clear hw w1)
    | (go_at_call 13; (with_reducible refine Calls.mono (hC.out _) ?_); rintro e w1 ⟨rfl, hw⟩; rw [← hw]; clear hw w1))
  go_loop [10] (fun i => ∃ k : Nat, i = .int .i64 (k : Int) ∧ k ≤ ni) (fun i => ni - (intOf i).toNat)
  case atStart => exact ⟨0, rfl, by omega⟩
  case round =>
    obtain ⟨k, rfl, hk⟩ := hrel
    by_cases hlt : k < ni
    · obtain ⟨bb, off, e1, c1⟩ := HI.out _ HB.out k hlt
      cases e1
      have hx := HZ.out k hlt
      have q0 : (((I.getD k 0 : Nat) : Int) == 0) = false := beq_eq_false_iff_ne.2 (by omega)
      have q00 : (I.getD k 0 == 0) = false := beq_eq_false_iff_ne.2 hx
      clear hx
      generalize I.getD k 0 = x at c1 q0 q00
      go_wp2
      go_round
      case rel => exact ⟨k + 1, by go_num, by omega⟩
      case measure => simp [intOf]; omega
    · obtain rfl : k = ni := by omega
      have hA0 := (((zM_new W0).th (below_new _ boxZM)).th (below_new _ boxZM))
      have hA2 := zM_new ((W0.alloc boxZM).alloc boxZM)
      have hB2 := below_al (below_al (below_new W0 boxZM) boxZM) boxZM
      simp only [World.size_alloc] at hA2
      unfold boxZM at hA2 hB2 hA0
      have HA := Lib.hid (And.intro hA0 (And.intro hA2 hB2))
      clear hA0 hA2 hB2
      obtain ⟨bb, off, e1, c1⟩ := HI.out _ HA.out.2.2 0 hlt1
      cases e1
      rw [Nat.add_zero] at c1
      generalize I.getD 0 0 = x at c1 HFIN
      have hM := AtM.new ((W0.alloc boxZM).alloc boxZM) ⟨x, 0, 0, 0, 0, 0⟩
      have hR := ((zM_new W0).th (below_new _ boxZM)).th (below_new _ (boxM ⟨x, 0, 0, 0, 0, 0⟩))
      have hB4 := below_al (below_al (below_new W0 boxZM) boxZM) (boxM ⟨x, 0, 0, 0, 0, 0⟩)
      simp only [World.size_alloc] at hM
      unfold boxZM boxM at hM hR hB4
      dsimp only at hM hR hB4
      have HK := Lib.hid (And.intro hM (And.intro hR hB4))
      clear hM hR hB4
      have hcc1 : 1 < c2 := by omega
      have hcc2 : ¬ c2 = 1 := by omega
      have hcc3 : ¬ c2 - 1 = 0 := by omega
      have hcc4 : (1 : Int) < (c2 : Int) := by omega
      obtain ⟨TB, hTB⟩ : ∃ TB, blkB I.tail = TB := ⟨_, rfl⟩
      rw [hTB] at HFIN
      simp only [hTB] at HTOP
      have HTOP2 := Lib.hid (HTOP.out _ HK.out.2.2)
      clear HTOP hTB
      go_wp2_with (first
        | (go_at_call 25; (with_reducible refine Calls.mono (hDp.out _) ?_); rintro e w1 ⟨rfl, hw⟩; rw [← hw]; clear hw w1)
        | (go_at_call 30; (with_reducible refine Calls.mono HTOP2.out ?_); rintro e w2 ⟨rfl, hB2⟩))
      have HM := Lib.hid (HK.out.1.th hB2)
      have HR0 := Lib.hid (HK.out.2.1.th hB2)
      have HB2 := Lib.hid (below_th HK.out.2.2 hB2)
      have HS := Lib.hid (And.intro HK.out.1.lt hB2.size)
      clear hB2 HK HTOP2 hcc1 hcc2 hcc3 hcc4
      go_loopw [14, 15] (fun v i wr => ∃ k : Nat, k ≤ lowN s ∧ i = .int .i64 ((127 * k : Nat) : Int) ∧ Hid (wr.ownsRow w2.heap.size 9 1 v (k + 1) ((TB :: lowers V k).map .string)) ∧ Hid (Below w2.heap.size w2 wr)) (fun _ i _ => b + 127 - (intOf i).toNat)
      case atStart => exact ⟨0, Nat.zero_le _, rfl, own_one (World.alloc_heap_new w2 _) (Nat.le_refl _), below_new _ _⟩
      case round =>
        obtain ⟨k, hk, rfl, HO, HBk⟩ := hrel
        obtain ⟨p, hp⟩ : ∃ p, 127 * k = p := ⟨_, rfl⟩
        rw [hp]
        by_cases hlt : p < b
        · obtain ⟨q, hq⟩ : ∃ q, min b (p + 127) = q := ⟨_, rfl⟩
          have hkl : k < lowN s := by omega
          have hltI : (p : Int) < (b : Int) := by omega
          have hwr : IntKind.i64.wrap ((p : Int) + 127) = (p : Int) + 127 := by rw [IntKind.wrap_i64] <;> omega
          have hmin : min (b : Int) ((p : Int) + 127) = (q : Int) := by omega
          have hq1 : p ≤ q := by omega
          have hq2 : q ≤ b := by omega
          have hq3 : q ≤ cv1 := by omega
          have hq4 : (p : Int) ≤ (q : Int) := by omega
          have hq5 : (q : Int) ≤ (cv1 : Int) := by omega
          have hq6 : ¬ cv1 - p = 0 := by omega
          have hq7 : p < cv1 := by omega
          have hq8 : ¬ cv1 = p := by omega
          have HLK := Lib.hid (fun W hB => HLOW.out W k p q hB hp.symm hq.symm (by omega))
          have hsucc : (TB :: lowers V (k + 1)).map Value.string = (TB :: lowers V k).map Value.string ++ [.string (blkB (chk V k))] := by rw [lowers_succ]; simp
          have hnext : p + 127 = 127 * (k + 1) := by omega
          have HPN := Lib.hid hnext
          obtain ⟨x5, hx5⟩ : ∃ x5, blkB (chk V k) = x5 := ⟨_, rfl⟩
          rw [hx5] at hsucc
          simp only [hx5] at HLK
          have HSU := Lib.hid hsucc
          have hk9 : k ≤ 200 := by omega
          clear hp hq hsucc hx5 hnext
          go_wp2_with (first
            | (go_at_call 30; (with_reducible refine Calls.mono (HLK.out _ (below_th HB2.out HBk.out)) ?_); rintro e w5 ⟨rfl, hB5⟩; have HOWN := Lib.hid (own_below2 HO.out (below_th hB5 (below_new w5 (.cells #[.string x5] 9)))); have HNEW := Lib.hid (Strs.one (World.alloc_heap_new w5 (.cells #[.string x5] 9))); have HBN := Lib.hid (below_al (below_th HBk.out hB5) (.cells #[.string x5] 9)); clear hB5)
            | (at_builtin; (refine wpList_append_strs rfl _ _ rfl rfl w2.heap.size _ (k + 1) ((TB :: lowers V k).map .string) rfl HOWN.out _ [x5] rfl HNEW.out (by show k + 1 + 1 ≤ _; omega) HBN.out.size ?_; intro v6 w6 hown6 hgrow6; have HO6 := Lib.hid hown6; have HB6 := Lib.hid (HBN.out.grown hgrow6 HBN.out.size (fun r e => ((HOWN.out).lt r e).1)); clear hown6 hgrow6)))
          go_roundw
          case rel => exact ⟨k + 1, by omega, by rw [← HPN.out, Int.natCast_add]; rfl, by rw [HSU.out]; exact HO6.out, HB6.out⟩
          case measure => simp [intOf]; omega
        · have hke : k = lowN s := by omega
          have hge : ¬ (p : Int) < (b : Int) := by omega
          have hM := HM.out.th HBk.out
          have hR := HR0.out.th HBk.out
          obtain ⟨z0, z1, z2, z3, z4, z5⟩ := hM.c
          obtain ⟨r0, r1, r2, r3, r4, r5⟩ := zM_c hR
          have f0 := hR.f 0
          have f1 := hR.f 1
          have f2 := hR.f 2
          have f3 := hR.f 3
          have f4 := hR.f 4
          have f5 := hR.f 5
          obtain ⟨hP, hBP⟩ := put6M hR (⟨x, 0, 0, 0, 0, 0⟩ : M)
          have hv : Strs ((((((wr.setCell ⟨W0.heap.size, 0, none⟩ (.int .u32 (x : Int))).setCell ⟨W0.heap.size, 1, none⟩ (.int .u32 0)).setCell ⟨W0.heap.size, 2, none⟩ (.int .u32 0)).setCell ⟨W0.heap.size, 3, none⟩ (.int .u32 0)).setCell ⟨W0.heap.size, 4, none⟩ (.int .u32 0)).setCell ⟨W0.heap.size, 5, none⟩ (.int .u32 0)) u14 (TB :: lowers V (lowN s)) := by
            have h := HO.out
            rw [hke] at h
            refine Strs.own (base := w2.heap.size) ?_
            rw [List.length_cons, lowers_length]
            exact own_set6 h (by have := HS.out.1; have := HS.out.2; omega)
          have HP := Lib.hid hP
          have HF2 := Lib.hid (HFIN.out u14 _ hv ((below_th HB2.out HBk.out).trans hBP))
          dsimp only at z0 z1 z2 z3 z4 z5
          clear hP hBP hM hR hv
          go_wp2
          refine bodyPost_ret (results_lay rfl _ _ rfl HP.out) rfl ?_
          exact HF2.out
theorem lay_any (s : Nat) (v1 v2 : Value) (V I : List Nat) (w : World) (h : s < 4294967296) (hV : U32s w v1 V) (hI : U32s w v2 I) (hsm : Small V) (hsi : Small I) :
    Calls Try.prog 16 #[.int .u32 s, v1, v2] w (LayPost s V I w) := by
  by_cases h1 : s ≤ 8193532 ∧ V.length = blN s ∧ I.length = cntN s
  · by_cases hz : ∃ j, j < I.length ∧ I.getD j 0 = 0
    · exact lay_null s v1 v2 V I w h hV hI h1 hz
    · have hok : layP s V I := ⟨h1.1, h1.2.1, h1.2.2, fun x hx e => hz (by
        obtain ⟨j, hj, he⟩ := List.getElem_of_mem hx
        exact ⟨j, hj, by rw [List.getD_eq_getElem?_getD, List.getElem?_eq_getElem hj, Option.getD_some, he, e]⟩)⟩
      have hd := dp_le s
      by_cases h0 : dpN s = 0
      · exact lay_zero s v1 v2 V I w h hV hI hok h0
      · by_cases h2 : dpN s = 1
        · exact lay_one s v1 v2 V I w h hV hI hok hsm h2
        · exact lay_two s v1 v2 V I w h hV hI hok hsm hsi (by omega)
  · exact lay_size s v1 v2 V I w h hV hI h1
end
end R
end Go.Proofs.Ytdakfdecfpebcaa.Bmp
