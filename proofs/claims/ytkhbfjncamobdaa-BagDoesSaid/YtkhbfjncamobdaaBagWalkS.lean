/- The walk through a bag's tree: it hands out the numbers from a number on, rising, to any loop body that leaves the tree alone. -/
import Derived.BigFrameIn
import Derived.Test.YtkhbfjncamobdaaBagGetS
import Derived.Test.YtkhbfjncamobdaaBagPkA
namespace Go.Proofs.Ytkhbfjncamobdaa.S
open Go.RowKit Go.Shelf
attribute [local go_sem] Oper.semAt_some
set_option linter.unusedVariables false

theorem room_none {F : Fence} (hd : F.depth = none) (k : Nat) : F.room k := fun d h => by rw [hd] at h; cases h
theorem yield_any {F : Fence} (hd : F.depth = none) {m : Nat} (m' : Nat) {P : Program} {l : Nat} {args : Array Value} {W : World} {R : Ending → World → Prop} (h : YieldAt F m P l args W R) : YieldAt F m' P l args W R := by
  obtain ⟨fn, tmps, assign, body, hy, h1, h2⟩ := h
  exact ⟨fn, tmps, assign, body, hy, h1, fun c cs _ => h2 c cs (room_none hd _)⟩

/-- the blocks of S lie as they lay -/
def SameS (S : Nat → Prop) (W W' : World) : Prop := ∀ b, S b → W'.heap[b]? = W.heap[b]?
theorem SameS.refl (S : Nat → Prop) (W : World) : SameS S W W := fun _ _ => rfl
theorem SameS.trans {S : Nat → Prop} {A B C : World} (h : SameS S A B) (k : SameS S B C) : SameS S A C := fun b hb => (k b hb).trans (h b hb)
theorem SameS.ok {S : Nat → Prop} {W W' : World} {r : Rec ByteArray} (h : SameS S W W') (ho : Ok W r) (hS : ∀ k, k ∈ r.blocks → S k) : Ok W' r := ho.kept fun k hk => h k (hS k hk)

def WalkPost (S : Nat → Prop) (K : List Int) (J Jx : Nat → World → Prop) (j : Nat) (W : World) (e : Ending) (W' : World) : Prop :=
  ∃ b, e = .returned (.bool b) ∧ Hid ((b = true ∧ J j W' ∧ SameS S W W') ∨ (b = false ∧ ∃ k, k < K.length ∧ Jx k W'))

set_option maxRecDepth 100000 in
set_option maxHeartbeats 1000000 in
theorem walk_none (n l : Nat) (S : Nat → Prop) (K : List Int) (J Jx : Nat → World → Prop) (from0 : Int) (j : Nat) (W : World) (h : J j W) :
    CallsIn Fence.wide n Try.prog 48 #[.pointer none, .int .i64 from0, .func (.yield l) #[] #[]] W (WalkPost S K J Jx j W) := by
  refine callsIn_of_wp Try.func48 rfl trivial ?_ rfl
  simp only [Try.ntmps48, List.size_toArray, List.length_cons, List.length_nil, Nat.reduceAdd, Nat.reduceSub, Array.replicate_succ, Array.replicate_zero, List.push_toArray, List.append_toArray, List.nil_append, List.cons_append]
  gi_wp2
  go_ret
  exact ⟨true, rfl, .inl ⟨rfl, h, SameS.refl _ _⟩⟩

set_option maxRecDepth 100000 in
set_option maxHeartbeats 4000000 in
theorem walk_node (l : Nat) (S : Nat → Prop) (K : List Int) (J Jx : Nat → World → Prop) (from0 : Int)
    (hY : ∀ m k W, J k W → k < K.length → YieldAt Fence.wide m Try.prog l #[.int .i64 (K.getD k 0)] W fun e W' => (e = .returned (.bool true) ∧ J (k + 1) W' ∧ SameS S W W') ∨ (e = .returned (.bool false) ∧ Jx k W'))
    (d : Nat) (t : T ByteArray) (n i : Nat) (W : World) (hw : T.wf d t) (hok : Ok W t.r) (hS : ∀ k, k ∈ t.r.blocks → S k) (hr : T.Rise t.inord) (hK : T.vis from0 t.inord <+: K.drop i) (hJ : J i W)
    (hkid : ∀ p, p ≤ t.r.items.length → ∃ qv : Option Addr, (∀ W1, Ok W1 t.r → Calls Try.prog 31 #[ptrV t.r.b, .int .i64 p] W1 fun e w' => e = .returned (.pointer qv) ∧ W1 = w') ∧
      ∀ m j W1, SameS S W W1 → J j W1 → T.vis from0 (T.seg t p) <+: K.drop j → CallsIn Fence.wide m Try.prog 48 #[.pointer qv, .int .i64 from0, .func (.yield l) #[] #[]] W1 (WalkPost S K J Jx (j + (T.vis from0 (T.seg t p)).length) W1)) :
    CallsIn Fence.wide n Try.prog 48 #[ptrV t.r.b, .int .i64 from0, .func (.yield l) #[] #[]] W (WalkPost S K J Jx (i + (T.vis from0 t.inord).length) W) := by
  have hfn : ∀ f, Fence.wide.fn f := fun _ => trivial
  have hdd : ∀ k : Nat, (Fence.wide.depth.isSome = true → 1 ≤ k) := fun k h => by cases h
  have hil := hok.ilen
  have c00 := hok.c0
  unfold Rec.iv at c00
  have HW := Lib.hid hw
  have HOK := Lib.hid hok
  have HS := Lib.hid hS
  have HR := Lib.hid hr
  have HK := Lib.hid hK
  have HKID := Lib.hid hkid
  have HYY := Lib.hid hY
  unfold ptrV
  clear hw hok hS hr hK hkid hY
  refine callsIn_of_wp Try.func48 rfl trivial ?_ rfl
  simp only [Try.ntmps48, List.size_toArray, List.length_cons, List.length_nil, Nat.reduceAdd, Nat.reduceSub, Array.replicate_succ, Array.replicate_zero, List.push_toArray, List.append_toArray, List.nil_append, List.cons_append]
  gi_wp2
  gi_loopw [16] (fun q wr => ∃ p : Nat, p ≤ t.r.items.length ∧ q = .int .i64 p ∧ J (i + (T.vis from0 (T.fl (t, p))).length) wr ∧ SameS S W wr) (fun q _ => t.r.items.length - (intOf q).toNat)
  case atStart => exact ⟨0, Nat.zero_le _, rfl, by rw [T.fl_zero]; exact hJ, SameS.refl _ _⟩
  case round =>
    obtain ⟨p, hp, rfl, hJp, hSp⟩ := hrel
    have hokr := hSp.ok HOK.out HS.out
    have c0 := hokr.c0
    unfold Rec.iv at c0
    clear c00
    obtain ⟨qv, hU, hWk⟩ := HKID.out p hp
    have cU := hU wr hokr
    have hwh := T.whole_at d t p HW.out hp
    unfold ptrV at cU
    by_cases hlt : p < t.r.items.length
    · obtain ⟨x, hx⟩ : ∃ x, t.r.items[p]? = some x := ⟨_, List.getElem?_eq_getElem hlt⟩
      have cx := (hokr.item hx).1
      have hfl := T.fl_succ d t p x HW.out hx
      by_cases hlow : x.1 < from0
      · have hpre : T.Rise (T.fl (t, p + 1)) := by
          have := HR.out
          rw [T.whole_at d t (p + 1) HW.out (by omega)] at this
          exact T.Rise.left this
        have hv : T.vis from0 (T.seg t p ++ [x]) = [] := T.vis_low _ _ fun y hy => by
          rw [hfl] at hpre
          rcases List.mem_append.1 hy with hy | hy
          · have := T.Rise.across (T.Rise.right hpre) y hy x (by simp)
            omega
          · obtain rfl : y = x := by simpa using hy
            exact hlow
        have HV : Hid (T.vis from0 (T.fl (t, p + 1)) = T.vis from0 (T.fl (t, p))) := by unfold Hid; rw [hfl, T.vis_append, hv, List.append_nil]
        clear hx hfl hv hpre hwh cU
        gi_wp2
        go_roundw
        case rel => exact ⟨p + 1, by omega, by go_num, by rw [HV.out]; exact hJp, hSp⟩
        case measure => simp [intOf]; omega
      · have hpk : T.vis from0 (T.seg t p) ++ (x.1 :: []) <+: K.drop (i + (T.vis from0 (T.fl (t, p))).length) := by
          have h1 := HK.out
          rw [T.whole_at d t (p + 1) HW.out (by omega), hfl, List.append_assoc, T.vis_append, List.append_assoc, T.vis_append, T.vis_append] at h1
          have h2 := T.prefix_drop h1
          rw [T.vis_append, T.vis_one _ _ (by omega), ← List.append_assoc] at h2
          exact T.prefix_left h2
        obtain ⟨hg, hkl⟩ := T.prefix_at (T.prefix_drop hpk)
        have cW := hWk (n - 1) _ wr hSp hJp (T.prefix_left hpk)
        have HV : Hid (i + (T.vis from0 (T.fl (t, p + 1))).length = i + (T.vis from0 (T.fl (t, p))).length + (T.vis from0 (T.seg t p)).length + 1) := by
          unfold Hid
          rw [hfl, T.vis_append, T.vis_append, T.vis_one _ _ (by omega), List.length_append, List.length_append]
          simp only [List.length_cons, List.length_nil]
          omega
        have HYI : Hid (∀ W1, J (i + (T.vis from0 (T.fl (t, p))).length + (T.vis from0 (T.seg t p)).length) W1 → YieldAt Fence.wide (n - 1) Try.prog l #[.int .i64 x.1] W1 fun e W' => (e = .returned (.bool true) ∧ J (i + (T.vis from0 (T.fl (t, p))).length + (T.vis from0 (T.seg t p)).length + 1) W' ∧ SameS S W1 W') ∨ (e = .returned (.bool false) ∧ Jx (i + (T.vis from0 (T.fl (t, p))).length + (T.vis from0 (T.seg t p)).length) W')) := fun W1 h1 => by
          have := HYY.out (n - 1) _ W1 h1 hkl
          rw [hg] at this
          exact this
        have HKL := Lib.hid hkl
        clear hx hfl hpk hg hkl hwh hWk hU
        gi_wp2_with (first | ((try refine ⟨hdd _, ?_⟩); gi_at_call 31; refine (callsIn_wide.2 cU).mono ?_; clear cU; rintro e w' ⟨rfl, rfl⟩) | ((try refine ⟨hdd _, ?_⟩); gi_at_call 48; refine cW.mono ?_; clear cW; rintro e W1 ⟨b, rfl, hb⟩; rcases hb.out with ⟨rfl, hJ1, hS1⟩ | ⟨rfl, hx1⟩; clear hb; obtain ⟨fn, tmps, assign, body, hy, hR⟩ := HYI.out W1 hJ1) | ((try refine ⟨hdd _, ?_⟩); refine hR.mono ?_; clear hR; rintro e W2 (⟨rfl, hJ2, hS2⟩ | ⟨rfl, hx2⟩)))
        · go_roundw
          case rel => exact ⟨p + 1, by omega, by go_num, by rw [HV.out]; exact hJ2, hSp.trans (hS1.trans hS2)⟩
          case measure => simp [intOf]; omega
        · go_ret
          exact ⟨false, rfl, .inr ⟨rfl, _, HKL.out, hx2⟩⟩
        · go_ret
          exact ⟨false, rfl, .inr ⟨rfl, hx1⟩⟩
    · obtain rfl : p = t.r.items.length := by omega
      have hpk : T.vis from0 (T.seg t t.r.items.length) <+: K.drop (i + (T.vis from0 (T.fl (t, t.r.items.length))).length) := by
        have h1 := HK.out
        rw [hwh, T.fr_last d t HW.out, List.append_nil, T.vis_append] at h1
        exact T.prefix_drop h1
      have cW := hWk (n - 1) _ wr hSp hJp hpk
      have HV : Hid (i + (T.vis from0 (T.fl (t, t.r.items.length))).length + (T.vis from0 (T.seg t t.r.items.length)).length = i + (T.vis from0 t.inord).length) := by
        unfold Hid
        rw [hwh, T.fr_last d t HW.out, List.append_nil, T.vis_append, List.length_append]
        omega
      clear hwh hWk hU hpk
      gi_wp2_with (first | ((try refine ⟨hdd _, ?_⟩); gi_at_call 31; refine (callsIn_wide.2 cU).mono ?_; clear cU; rintro e w' ⟨rfl, rfl⟩) | ((try refine ⟨hdd _, ?_⟩); gi_at_call 48; refine cW.mono ?_; clear cW; rintro e W1 ⟨b, rfl, hb⟩))
      go_ret
      refine ⟨b, rfl, ?_⟩
      rcases hb.out with ⟨rfl, hJ1, hS1⟩ | ⟨rfl, hx1⟩
      · exact .inl ⟨rfl, by rw [← HV.out]; exact hJ1, hSp.trans hS1⟩
      · exact .inr ⟨rfl, hx1⟩

/-- the walk through a tree, whatever its height -/
theorem walk_in (l : Nat) (S : Nat → Prop) (K : List Int) (J Jx : Nat → World → Prop) (from0 : Int)
    (hY : ∀ m k W, J k W → k < K.length → YieldAt Fence.wide m Try.prog l #[.int .i64 (K.getD k 0)] W fun e W' => (e = .returned (.bool true) ∧ J (k + 1) W' ∧ SameS S W W') ∨ (e = .returned (.bool false) ∧ Jx k W'))
    (d : Nat) (t : T ByteArray) (n i : Nat) (W : World) (hw : T.wf d t) (hok : ∀ r, r ∈ t.recs → Ok W r) (hS : ∀ r, r ∈ t.recs → ∀ k, k ∈ r.blocks → S k) (hr : T.Rise t.inord) (hK : T.vis from0 t.inord <+: K.drop i) (hJ : J i W) :
    CallsIn Fence.wide n Try.prog 48 #[ptrV t.r.b, .int .i64 from0, .func (.yield l) #[] #[]] W (WalkPost S K J Jx (i + (T.vis from0 t.inord).length) W) := by
  induction d generalizing t n i W with
  | zero =>
    refine walk_node l S K J Jx from0 hY 0 t n i W hw (hok _ t.r_mem) (hS _ t.r_mem) hr hK hJ fun p hp => ⟨none, fun W1 h1 => under_none t.r (p : Int) W1 h1 hw.2.1, fun m j W1 h1 hj hv => ?_⟩
    have : T.seg t p = [] := by unfold T.seg; rw [hw.1]; rfl
    rw [this]
    exact walk_none m l S K J Jx from0 j W1 hj
  | succ d ih =>
    refine walk_node l S K J Jx from0 hY (d + 1) t n i W hw (hok _ t.r_mem) (hS _ t.r_mem) hr hK hJ fun p hp => ?_
    obtain ⟨k, hk1, hk2, hk3, hk4⟩ := T.kid_at d t p hw hp
    obtain ⟨q, hq⟩ := Option.isSome_iff_exists.1 hw.1
    refine ⟨some ⟨k.r.b, 0, none⟩, fun W1 h1 => under_some t.r p q k.r.b W1 h1 hq hk2, fun m j W1 h1 hj hv => ?_⟩
    have hseg : T.seg t p = k.inord := by unfold T.seg; rw [hk1]
    rw [hseg] at hv ⊢
    have hrk : T.Rise k.inord := by
      rw [T.node_at d t k p hw hp hk1] at hr
      exact T.Rise.left (T.Rise.right hr)
    exact ih k m j W1 hk3 (fun r hr' => h1.ok (hok r (T.ks_sub hk4 r hr')) (hS r (T.ks_sub hk4 r hr'))) (fun r hr' => hS r (T.ks_sub hk4 r hr')) hrk hv hj

end Go.Proofs.Ytkhbfjncamobdaa.S
