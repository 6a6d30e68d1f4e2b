/- Drop, where something stands: remove behind toLowest. -/
import Derived.Test.YtbelgkccfajjoaaBagReadyS
import Derived.Test.YtbelgkccfajjoaaBagRemWS
namespace Go.Proofs.Ytbelgkccfajjoaa.S
open Go.RowKit Go.Shelf
set_option linter.unusedVariables false

theorem drop_fin {t t' : T ByteArray} {fs' : T.Fs ByteArray} {dh a g : Nat} {x : It} {l r : List It} {F : Nat → Prop} {w w1 W2 W3 : World} {e : Ending} (hM : 0 < fs'.length + dh → MendSaid) (hFt : ∀ q, q ∈ t.recs → ∀ k, k ∈ q.blocks → F k) (hFa : F a) (hP : (T.ctx fs' ++ t'.recs).Perm t.recs)
    (hR : T.Rise (l ++ x :: r)) (htop : T.topOf fs' t'.r.b = t.r.b) (ha : a < w.heap.size) (hB : Below w.heap.size w w1) (hg : w.heap.size ≤ g) (ho : Only (fun b => b = a) w1 W2) (hm2 : Mem W2 t.recs) (hb2 : BagAt W2 a (some t.r.b) ((l ++ r).length : Int)) (hga : g ≠ a) (low : LowAny t' fs' dh (l ++ r) g W2 e W3) :
    ∃ v, e = .returned v ∧ Calls Try.prog 46 #[.pointer (some ⟨a, 0, none⟩), v] W3 fun e W => e = .returned (.tuple #[]) ∧ BagIs W a (fun k => F k ∨ w.heap.size ≤ k) (l ++ r) ∧ Only F w W := by
  obtain ⟨z, q, fs, g2, c2, rfl, hv, hm3, k1, k2, k3, k4, k5, k6, k7, k8, k9, hon, hbl⟩ := low
  have hag : a ≠ t'.r.g := fun h => by
    have hmem : t'.r ∈ t.recs := hP.mem_iff.1 (List.mem_append_right _ t'.r_mem)
    exact hm2.not_in hb2 (by decide) (by decide) (by decide) t'.r hmem (by rw [h]; simp [Rec.blocks])
  have hb3 : BagAt W3 a (some t.r.b) ((l ++ r).length : Int) := (hon.block a (Array.getElem?_eq_some_iff.1 hb2).1 (fun h => h.elim (fun h => hga h.symm) hag)).trans hb2
  refine ⟨_, rfl, ?_⟩
  have cR := remove_tree z q fs a t.r.b g2 c2 ((l ++ r).length : Int) W3 (fun h => hM (by have := List.length_pos_iff.2 h; omega)) hm3 k1 k2 k3 k4 k5 (k6.trans htop) hb3 k8 hv
  rw [k7] at cR
  refine (callsIn_wide.1 cR).mono ?_
  rintro e W ⟨rfl, hO, hT⟩
  have hFk : ∀ k, RemOwn z fs a k → F k := fun k hk => by
    rcases hk with hk | rfl
    · obtain ⟨r0, hr0, hk0⟩ := hbl k hk
      exact hFt r0 (hP.mem_iff.1 hr0) k hk0
    · exact hFa
  have hO2 : Only F w W2 := (Only.of_below hB).step ho (fun i _ h => h ▸ hFa)
  have hO3 : Only F w W3 := hO2.step hon (fun i hi h => by
    rcases h with rfl | rfl
    · omega
    · exact hFt t'.r (hP.mem_iff.1 (List.mem_append_right _ t'.r_mem)) _ (by simp [Rec.blocks]))
  refine ⟨rfl, ⟨T.rise_drop hR, .inl hFa, ?_⟩, hO3.step hO (fun i _ h => hFk i h)⟩
  rcases hT with ⟨h1, h2⟩ | ⟨t2, d2, h1, h2, h3, h4, h5, h6⟩
  · exact .inl ⟨h1, h2⟩
  · exact .inr ⟨t2, d2, h1, h2.mem, h3, h4, h5, h6, fun r0 hr0 k hk => (h2.bnd r0 hr0 k hk).imp (hFk k) (fun h => Nat.le_trans hO3.size h)⟩

end Go.Proofs.Ytbelgkccfajjoaa.S
