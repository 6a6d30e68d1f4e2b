/- What the laws on roots show first. -/
import Derived.Deep.RegionHeld3
import Derived.BigQuiet
import Derived.Deep.QuietTactic
import Derived.Test.YtdniakoedgohkaaRootDec
import Derived.Test.YtdniakoedgohkaaRootSame
namespace Go.Proofs.Ytdniakoedgohkaa.Root
open Go.RowKit
attribute [local go_sem] Oper.semAt_some
set_option linter.unusedVariables false
set_option linter.unusedSimpArgs false
def F0 : Q := ⟨2, 3, [17], [18]⟩
def F1 : Q := ⟨2, 0, [17], [17]⟩
theorem f0_right : RightP F0 := by decide
theorem f1_wrong : ¬ RightP F1 := by decide
theorem nums_one {W : World} {b : Nat} {x : Nat} (h : W.heap[b]? = some (.cells #[.int .u32 (x : Int)] 35 (0, 0))) : Nums W (.slice (some ⟨b, 0, none⟩) 1 1) [x] := by
  refine ⟨_, 1, rfl, Nat.le_refl _, ⟨by unfold maxLen; decide, fun e => by cases e⟩, rfl, fun _ => ⟨b, 0, rfl, fun j u hj => ?_⟩⟩
  rcases j with _ | j
  · cases hj
    simp only [World.cell?, h]
    rfl
  · simp at hj
theorem results_root1 {fn : Func} {r : Tmp} (h : fn.results = #[.cell r 25]) (tmps : Array Value) (w : World) {b : Nat} {n : Q} {vd vc : Value} (hp : tmps.getD r undef = .pointer (some ⟨b, 0, none⟩)) (hA : QAt w b n vd vc) :
    (results fn tmps).run Try.prog w = .ok (n.val vd vc) w := by
  obtain ⟨c0, c1, c2, c3⟩ := hA.c
  rw [Array.getD_eq_getD_getElem?] at hp
  simp [results, h, hp, go_sem, c0, c1, c2, c3]
  rfl
theorem f1_ok : QOk F1 := ⟨by decide, by decide, fun x h => by simp [F1] at h; omega, fun x h => by simp [F1] at h; omega⟩
def FirstPost (w : World) (e : Ending) (w' : World) : Prop := ∃ b1 b2, e = .returned (F0.val (.slice (some ⟨b1, 0, none⟩) 1 1) (.slice (some ⟨b2, 0, none⟩) 1 1)) ∧ Nums w' (.slice (some ⟨b1, 0, none⟩) 1 1) F0.dats ∧ Nums w' (.slice (some ⟨b2, 0, none⟩) 1 1) F0.cps ∧ Below w.heap.size w w'
section
set_option maxRecDepth 100000
set_option maxHeartbeats 2000000
theorem first_any (w : World) : Calls Try.prog 26 #[] w (FirstPost w) := by
  obtain ⟨W1, hW1⟩ : ∃ W, w.alloc (.cells #[.int .u64 2, .int .u64 3, .slice (some ⟨w.heap.size + 1, 0, none⟩) 1 1, .slice (some ⟨w.heap.size + 1 + 1, 0, none⟩) 1 1] 25) = W := ⟨_, rfl⟩
  have hs1 : W1.heap.size = w.heap.size + 1 := by rw [← hW1]; exact World.size_alloc ..
  obtain ⟨W2, hW2⟩ : ∃ W, W1.alloc (.cells #[.int .u32 17] 35) = W := ⟨_, rfl⟩
  have hs2 : W2.heap.size = w.heap.size + 1 + 1 := by rw [← hW2, World.size_alloc, hs1]
  obtain ⟨W3, hW3⟩ : ∃ W, W2.alloc (.cells #[.int .u32 18] 35) = W := ⟨_, rfl⟩
  have hB2 : Below W1.heap.size W1 W2 := by rw [← hW2]; exact below_new _ _
  have hB3 : Below W2.heap.size W2 W3 := by rw [← hW3]; exact below_new _ _
  have hB1 : Below w.heap.size w W1 := by rw [← hW1]; exact below_new _ _
  have HA : Hid (QAt W3 w.heap.size F0 (.slice (some ⟨w.heap.size + 1, 0, none⟩) 1 1) (.slice (some ⟨w.heap.size + 1 + 1, 0, none⟩) 1 1)) := ((show QAt W1 w.heap.size F0 (.slice (some ⟨w.heap.size + 1, 0, none⟩) 1 1) (.slice (some ⟨w.heap.size + 1 + 1, 0, none⟩) 1 1) by rw [← hW1]; exact QAt.new w F0 _ _).th hB2).th hB3
  have n1 : W3.heap[w.heap.size + 1]? = some (.cells #[.int .u32 ((17 : Nat) : Int)] 35 (0, 0)) := by
    refine (hB3.block _ (by omega)).trans ?_
    rw [← hW2, ← hs1]
    exact World.alloc_heap_new W1 _
  have n2 : W3.heap[w.heap.size + 1 + 1]? = some (.cells #[.int .u32 ((18 : Nat) : Int)] 35 (0, 0)) := by
    rw [← hW3, ← hs2]
    exact World.alloc_heap_new W2 _
  have HF : Hid (FirstPost w (.returned (F0.val (.slice (some ⟨w.heap.size + 1, 0, none⟩) 1 1) (.slice (some ⟨w.heap.size + 1 + 1, 0, none⟩) 1 1))) W3) := ⟨_, _, rfl, nums_one (x := 17) n1, nums_one (x := 18) n2, below_th (below_th hB1 hB2) hB3⟩
  clear n1 n2 hB1 hB2 hB3 hs1 hs2
  go_enter Try.func26, Try.ntmps26
  subst hW3 hW2 hW1
  go_wp2
  refine bodyPost_ret (results_root1 rfl _ _ rfl HA.out) rfl ?_
  exact HF.out
theorem shown_any (w : World) : Calls Try.prog 8 #[] w (Ans w (.bool true)) := by
  have hd := dec_rot f0_right
  have HF := Lib.hid first_any
  have hE := fun d c W (h1 : Nums W d F0.dats) (h2 : Nums W c F0.cps) => encode_any F0 d c W h1 h2 f0_right.ok
  rw [encS_yes f0_right, encE_yes f0_right] at hE
  have hE1 := fun d c W (h1 : Nums W d F1.dats) (h2 : Nums W c F1.cps) => encode_any F1 d c W h1 h2 f1_ok
  rw [encS_no f1_wrong, encE_no f1_wrong] at hE1
  have hsz := rotB_size f0_right.1
  have hD := fun W => decode_any (rotB F0) W (by omega)
  unfold DecPost at hD
  rw [hd.2, decE_yes hd.1] at hD
  obtain ⟨s, hss⟩ : ∃ s, rotB F0 = s := ⟨_, rfl⟩
  rw [hss] at hE hsz hD
  have hq : ((s.size : Int) == 508) = true := by simp; omega
  have hS := fun d c e f W h1 h2 h3 h4 => same_any F0 F0 d c e f W h1 h2 h3 h4
  rw [decide_eq_true (rfl : F0 = F0)] at hS
  unfold Q.val at hE hE1 hD hS
  unfold Ans at hE hE1 hS
  unfold F1 at hE1
  unfold FirstPost Q.val at HF
  dsimp only at hE1
  have HE := Lib.hid hE
  have HE1 := Lib.hid hE1
  have HD := Lib.hid hD
  have HS := Lib.hid hS
  clear hE hE1 hD hS hss hsz hd
  have HN1 := Lib.hid (fun (W : World) => nums_one (x := 17) (World.alloc_heap_new W (.cells #[.int .u32 ((17 : Nat) : Int)] 35)))
  go_enter Try.func8, Try.ntmps8
  go_wp2_with (first
    | (go_at_call 26; (with_reducible refine Calls.mono (HF.out _) ?_); rintro e w1 ⟨b1, b2, rfl, hn1, hn2, hB1⟩)
    | (go_at_call 9; (with_reducible refine Calls.mono (HE.out _ _ _ hn1 hn2) ?_); rintro e w2 ⟨rfl, hB2⟩)
    | (go_at_call 11; (with_reducible refine Calls.mono (HD.out _) ?_); rintro e w3 ⟨vd, vc, rfl, hd, hc, hB3⟩; obtain ⟨xa, xc, rfl, _, _⟩ := hd.parts; obtain ⟨ya, yc, rfl, _, _⟩ := hc.parts))
  have hb1 := below_new w3 (boxQ F0 (.slice xa F0.dats.length xc) (.slice ya F0.cps.length yc))
  have hA1 := QAt.new w3 F0 (.slice xa F0.dats.length xc) (.slice ya F0.cps.length yc)
  have hd1 := hd.below hb1
  have hc1 := hc.below hb1
  have hz1 : (w3.alloc (boxQ F0 (.slice xa F0.dats.length xc) (.slice ya F0.cps.length yc))).heap.size = w3.heap.size + 1 := World.size_alloc ..
  unfold boxQ at hb1 hA1 hd1 hc1 hz1
  obtain ⟨w4, hw4⟩ : ∃ w4, w3.alloc (.cells #[.int .u64 (F0.cp : Int), .int .u64 (F0.tick : Int), .slice xa F0.dats.length xc, .slice ya F0.cps.length yc] 25) = w4 := ⟨_, rfl⟩
  rw [hw4] at hb1 hA1 hd1 hc1 hz1 ⊢
  obtain ⟨q, hqq⟩ : ∃ q, w3.heap.size = q := ⟨_, rfl⟩
  have hBw4 : Below w.heap.size w w4 := below_th (below_th (below_th hB1 hB2) hB3) hb1
  simp only [hqq] at hA1 hz1 ⊢
  have n1 := HN1.out w4
  have hb2 := below_new w4 (.cells #[.int .u32 17] 35)
  have n2 := HN1.out (w4.alloc (.cells #[.int .u32 17] 35))
  have hb3 := below_new (w4.alloc (.cells #[.int .u32 17] 35)) (.cells #[.int .u32 17] 35)
  have n1' := n1.below hb3
  rw [World.size_alloc] at n2
  rw [hz1] at n1' n2
  have hEN := HE1.out _ _ _ n1' n2
  have hb23 := below_th hb2 hb3
  have hBw5 := below_th hBw4 hb23
  have hA2 := hA1.th hb23
  have hd2 := hd1.below hb23
  have hc2 := hc1.below hb23
  obtain ⟨w5, hw5⟩ : ∃ w5, (w4.alloc (.cells #[.int .u32 17] 35)).alloc (.cells #[.int .u32 17] 35) = w5 := ⟨_, rfl⟩
  rw [hw5] at hEN hBw5 hA2 hd2 hc2 ⊢
  clear n1 n2 n1' hb2 hb3 hb23 hA1 hd1 hc1 hb1 hz1 hBw4 hw4 hw5 HN1 HE1 hqq hd hc
  refine Calls.mono hEN ?_
  rintro e w6 ⟨rfl, hB6⟩
  clear hEN
  have hA6 := hA2.th hB6
  have HD6 := Lib.hid (hd2.below hB6)
  have HC6 := Lib.hid (hc2.below hB6)
  have HBw := Lib.hid (below_th hBw5 hB6)
  have HC : Hid (∀ W, Below w6.heap.size w6 W → W.cell? ⟨q, 0, none⟩ = some (.int .u64 (F0.cp : Int)) ∧ W.cell? ⟨q, 1, none⟩ = some (.int .u64 (F0.tick : Int)) ∧ W.cell? ⟨q, 2, none⟩ = some (.slice xa F0.dats.length xc) ∧ W.cell? ⟨q, 3, none⟩ = some (.slice ya F0.cps.length yc)) := fun W hW => (hA6.th hW).c
  obtain ⟨c0, c1, c2, c3⟩ := hA6.c
  have hD1 : Below w6.heap.size w6 w6.drew := (Below.refl _ _).drew
  clear hA6 hA2 hd2 hc2 hBw5 HE HD hB1 hB2 hB3 hB6 hn1 hn2
  go_wp2
  go_region_held3 (fun w' => (w'.cell? ⟨q, 0, none⟩ = some (.int .u64 (F0.cp : Int)) ∧ w'.cell? ⟨q, 1, none⟩ = some (.int .u64 (F0.tick : Int)) ∧ w'.cell? ⟨q, 2, none⟩ = some (.slice xa F0.dats.length xc) ∧ w'.cell? ⟨q, 3, none⟩ = some (.slice ya F0.cps.length yc))) (first | exact HC.out _ hD1 | exact HC.out _ (by assumption)) (first
    | (go_at_call 26; (with_reducible refine Calls.mono (HF.out _) ?_); rintro e x1 ⟨d1, d2, rfl, hm1, hm2, hBn⟩; have hx1 := below_th hD1 hBn)
    | (go_at_call 15; (with_reducible refine Calls.mono (HS.out _ _ _ _ _ (HD6.out.below hx1) (HC6.out.below hx1) hm1 hm2) ?_); rintro e x2 ⟨rfl, hBm⟩; have hx2 := below_th hx1 hBm))
  go_wp2
  go_ret
  exact ⟨rfl, below_th HBw.out (by assumption)⟩
end
end Go.Proofs.Ytdniakoedgohkaa.Root
