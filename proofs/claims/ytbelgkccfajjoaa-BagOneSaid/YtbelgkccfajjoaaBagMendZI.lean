/- mend, at whatever tree. -/
import Derived.Test.YtbelgkccfajjoaaBagMendXI
namespace Go.Proofs.Ytbelgkccfajjoaa.I
open Go.RowKit
set_option linter.unusedVariables false

def TreeQ (k : Nat) (t A C : T Int) (j : Nat) (x : It) (S X : Nat → Prop) (w0 W : World) (B : Nat → Prop) (rest : List (Rec Int)) (W' : World) : Prop :=
  Mended k t j x A.inord C.inord S X w0 W' rest ∧ Only B W W'
theorem tree_calls {f : FuncId} {args : Array Value} {k : Nat} {t A C : T Int} {j : Nat} {x : It} {S X : Nat → Prop} {w0 W : World} {B : Nat → Prop} {rest : List (Rec Int)}
    (h : Calls Try.prog f args W (TreePost k t A C j x S X w0 W B rest)) : Calls Try.prog f args W fun e W' => e = .returned (.tuple #[]) ∧ TreeQ k t A C j x S X w0 W B rest W' := h.mono fun e W' h => h
def MendB (t H : T Int) (q : Nat) (b : Nat) : Prop := ∃ r, r ∈ t.r :: (T.sibs (t, q) ++ H.recs) ∧ b ∈ r.blocks

theorem done_left {k : Nat} {t H K : T Int} {q : Nat} {x : It} {S X : Nat → Prop} {w0 W W' : World} {rest : List (Rec Int)} {e : Ending} (hx : t.r.items[q]? = some x) (hK : t.ks[q + 1]? = some K)
    (h : e = .returned (.tuple #[]) ∧ TreeQ k t H K q x S X w0 W (MendB t H q) rest W') : MendPost k (t, q) H S X w0 W rest e W' := by
  obtain ⟨he, ⟨H', h1, h2, h3, h4, h5, h6⟩, ho⟩ := h
  exact ⟨he, H', h1, h2, h3, h4, h5, by rw [h6, T.two_left t q x K hx hK], ho⟩
theorem done_right {k : Nat} {t H K : T Int} {j : Nat} {x : It} {S X : Nat → Prop} {w0 W W' : World} {rest : List (Rec Int)} {e : Ending} (hx : t.r.items[j]? = some x) (hK : t.ks[j]? = some K)
    (h : e = .returned (.tuple #[]) ∧ TreeQ k t K H j x S X w0 W (MendB t H (j + 1)) rest W') : MendPost k (t, j + 1) H S X w0 W rest e W' := by
  obtain ⟨he, ⟨H', h1, h2, h3, h4, h5, h6⟩, ho⟩ := h
  exact ⟨he, H', h1, h2, h3, h4, h5, by rw [h6, T.two_right t j x K hx hK], ho⟩

theorem trio_left {k : Nat} {t H K : T Int} {q : Nat} {S X : Nat → Prop} {w0 W : World} {rest : List (Rec Int)} (hK : t.ks[q + 1]? = some K) (hg : Grew S X w0 W (t.r :: (T.sibs (t, q) ++ H.recs ++ rest))) :
    Trio S X w0 W (MendB t H q) ((H.ks ++ K.ks).flatMap T.recs ++ T.rest2 t q ++ rest) W t.r H.r K.r :=
  mend_trio k (t, q) H H K q S X w0 W rest (((T.sibs_left t q K hK).append_right _).trans (List.perm_append_comm.trans (by rw [List.append_assoc]))) hg
theorem trio_right {k : Nat} {t H K : T Int} {j : Nat} {S X : Nat → Prop} {w0 W : World} {rest : List (Rec Int)} (hK : t.ks[j]? = some K) (hg : Grew S X w0 W (t.r :: (T.sibs (t, j + 1) ++ H.recs ++ rest))) :
    Trio S X w0 W (MendB t H (j + 1)) ((K.ks ++ H.ks).flatMap T.recs ++ T.rest2 t j ++ rest) W t.r K.r H.r :=
  mend_trio k (t, j + 1) H K H j S X w0 W rest (((T.sibs_right t j K hK).append_right _).trans (by
    rw [List.append_assoc, List.append_assoc]
    exact (List.perm_append_comm).append_left _)) hg

theorem mend_said : MendSaid := by
  intro k f H S X w0 W rest hw hq hkd h1 h7 hH h2 hg
  obtain ⟨t, q⟩ := f
  obtain ⟨kd, hkd, hbd⟩ := hkd
  change T.wf (k + 1) t at hw
  change q ≤ t.r.items.length at hq
  change t.ks[q]? = some kd at hkd
  change 1 ≤ t.r.items.length at h1
  change t.r.items.length ≤ 7 at h7
  change Grew S X w0 W (t.r :: (T.sibs (t, q) ++ H.recs ++ rest)) at hg
  show Calls Try.prog 58 #[ptrV t.r.b, .int .i64 (q : Int)] W (MendPost k (t, q) H S X w0 W rest)
  obtain ⟨f, hkv⟩ := Option.isSome_iff_exists.1 hw.1
  have n1 := (hg.mem.ok t.r (by simp)).c1
  have n0 := (hg.mem.ok t.r (by simp)).c0
  simp only [Rec.kvv, hkv] at n1
  unfold Rec.iv at n0
  have hkl := hw.2.2.1
  have hsib : ∀ K : T Int, K.r ∈ T.sibs (t, q) → K.r ∈ t.r :: (T.sibs (t, q) ++ H.recs ++ rest) := fun K hK => by simp [hK]
  cases q with
  | zero =>
    obtain ⟨K, hK⟩ : ∃ K, t.ks[0 + 1]? = some K := ⟨_, List.getElem?_eq_getElem (by omega)⟩
    obtain ⟨x, hx⟩ : ∃ x, t.r.items[0]? = some x := ⟨_, List.getElem?_eq_getElem (by omega)⟩
    obtain ⟨kw, k3, k7⟩ := hw.2.2.2 K (List.mem_of_getElem? hK)
    obtain ⟨k0, l0, hb⟩ := look hg.mem (by simp) (hsib K ((T.sibs_left t 0 K hK).symm.mem_iff.1 (List.mem_append_left _ K.r_mem))) hw hkv hK
    have trio := trio_left (k := k) hK hg
    by_cases hl : 3 < K.r.items.length
    · exact (mend_zero_left W t.r.b f.1 f.2 t.r.kids.length K.r.b K.r.g K.r.items.length K.r.cap 0 0 0 0 t.r.g t.r.items.length t.r.cap 0 _ n1 n0 k0 l0 (by omega) (by omega) (by omega)
        (tree_calls (moveLeft_tree k t H K kd K 0 x S X w0 W _ rest hw hx hkd hK hH kw hbd.symm rfl h7 h2 (by omega) k7 trio))).mono fun e W' h => done_left hx hK h
    · exact (mend_zero_join W t.r.b f.1 f.2 t.r.kids.length K.r.b K.r.g K.r.items.length K.r.cap 0 0 0 0 t.r.g t.r.items.length t.r.cap 0 _ n1 n0 k0 l0 (by omega) (by omega) (decide_eq_false (by omega))
        (tree_calls (join_tree k t H K kd K 0 x S X w0 W _ rest hw hx hkd hK hH kw hbd.symm rfl h7 (by omega) (by omega) (by omega) trio))).mono fun e W' h => done_left hx hK h
  | succ j =>
    have hcast : ((j + 1 : Nat) : Int) = (j : Int) + 1 := by omega
    obtain ⟨L, hL⟩ : ∃ K, t.ks[j]? = some K := ⟨_, List.getElem?_eq_getElem (by omega)⟩
    obtain ⟨x, hx⟩ : ∃ x, t.r.items[j]? = some x := ⟨_, List.getElem?_eq_getElem (by omega)⟩
    obtain ⟨lw, l3, l7⟩ := hw.2.2.2 L (List.mem_of_getElem? hL)
    obtain ⟨k0, l0, hb⟩ := look hg.mem (by simp) (hsib L ((T.sibs_right t j L hL).symm.mem_iff.1 (List.mem_append_left _ L.r_mem))) hw hkv hL
    have hw1 : IntKind.i64.wrap (j : Int) = (j : Int) := by rw [IntKind.wrap_i64]; omega
    have trio := trio_right (k := k) hL hg
    rw [hcast]
    by_cases hl : 3 < L.r.items.length
    · exact (mend_right W t.r.b f.1 f.2 t.r.kids.length 0 0 0 0 L.r.b L.r.g L.r.items.length L.r.cap t.r.g t.r.items.length t.r.cap j _ n1 n0 k0 l0 (by omega) (by omega) (by omega) hw1 (by omega)
        (tree_calls (moveRight_tree k t L H L kd j x S X w0 W _ rest hw hx hL hkd lw hH rfl hbd.symm h7 h2 (by omega) l7 trio))).mono fun e W' h => done_right hx hL h
    · by_cases hp : j + 1 < t.r.items.length
      · obtain ⟨K, hK⟩ : ∃ K, t.ks[j + 1 + 1]? = some K := ⟨_, List.getElem?_eq_getElem (by omega)⟩
        obtain ⟨x', hx'⟩ : ∃ x, t.r.items[j + 1]? = some x := ⟨_, List.getElem?_eq_getElem (by omega)⟩
        obtain ⟨kw, k3, k7⟩ := hw.2.2.2 K (List.mem_of_getElem? hK)
        obtain ⟨k2, l2, hb2⟩ := look hg.mem (by simp) (hsib K ((T.sibs_left t (j + 1) K hK).symm.mem_iff.1 (List.mem_append_left _ K.r_mem))) hw hkv hK
        have hw2 : IntKind.i64.wrap ((j : Int) + 1 + 1) = (j : Int) + 2 := by rw [IntKind.wrap_i64]; omega
        have hw3 : IntKind.i64.wrap ((j : Int) + 2) = (j : Int) + 2 := by rw [IntKind.wrap_i64]; omega
        by_cases hr : 3 < K.r.items.length
        · have cM := tree_calls (moveLeft_tree k t H K kd K (j + 1) x' S X w0 W _ rest hw hx' hkd hK hH kw hbd.symm rfl h7 h2 (by omega) k7 (trio_left (k := k) hK hg))
          rw [hcast] at cM
          exact (mend_left W t.r.b f.1 f.2 t.r.kids.length K.r.b K.r.g K.r.items.length K.r.cap L.r.b L.r.g L.r.items.length L.r.cap t.r.g t.r.items.length t.r.cap j _ n1 n0 k0 l0 (by omega) (by omega) (by omega) hw1 (decide_eq_false (by omega)) k2 l2 (by omega) (by omega) hw2 hw3 (by omega) cM).mono fun e W' h => done_left hx' hK h
        · exact (mend_join W t.r.b f.1 f.2 t.r.kids.length K.r.b K.r.g K.r.items.length K.r.cap L.r.b L.r.g L.r.items.length L.r.cap t.r.g t.r.items.length t.r.cap j _ n1 n0 k0 l0 (by omega) (by omega) (by omega) hw1 (decide_eq_false (by omega)) k2 l2 (by omega) (by omega) hw2 hw3 (decide_eq_false (by omega))
            (tree_calls (join_tree k t L H L kd j x S X w0 W _ rest hw hx hL hkd lw hH rfl hbd.symm h7 (by omega) (by omega) (by omega) trio))).mono fun e W' h => done_right hx hL h
      · exact (mend_join_last W t.r.b f.1 f.2 t.r.kids.length 0 0 0 0 L.r.b L.r.g L.r.items.length L.r.cap t.r.g t.r.items.length t.r.cap j _ n1 n0 k0 l0 (by omega) (by omega) (by omega) hw1 (decide_eq_false (by omega)) (decide_eq_false (by omega))
          (tree_calls (join_tree k t L H L kd j x S X w0 W _ rest hw hx hL hkd lw hH rfl hbd.symm h7 (by omega) (by omega) (by omega) trio))).mono fun e W' h => done_right hx hL h
end Go.Proofs.Ytbelgkccfajjoaa.I
