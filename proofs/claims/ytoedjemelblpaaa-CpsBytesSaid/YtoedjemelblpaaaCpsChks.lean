/- A checkpoint that stands in a block; the iterator over all that blocks have room for, of the program. -/
import Derived.Test.YtoedjemelblpaaaCpsEnc
namespace Go.Proofs.Ytoedjemelblpaaa.Cps
open Go.RowKit Go.Shelf
attribute [local go_sem] Oper.semAt_some
set_option linter.unusedVariables false
set_option linter.unusedSimpArgs false

theorem Strs.get {w : World} {a : Option Addr} {n cap : Nat} {X : List ByteArray} (h : Strs w (.slice a n cap) X) {k : Nat} (hk : k < X.length) : ∃ b off, a = some ⟨b, off, none⟩ ∧ w.cell? ⟨b, off + k, none⟩ = some (.string (X.getD k ⟨#[]⟩)) := by
  have hn : X.length = n := by
    obtain ⟨_, _, e, _⟩ := Lies.parts h
    cases e
    rfl
  unfold Strs at h
  rw [hn] at h
  exact Lies.read h (j := k) (u := .string (X.getD k ⟨#[]⟩)) (by rw [List.getElem?_map, List.getD_eq_getElem?_getD, List.getElem?_eq_getElem hk]; rfl)
theorem Strs.parts {w : World} {v : Value} {X : List ByteArray} (h : Strs w v X) : ∃ a cap, v = .slice a X.length cap ∧ X.length ≤ cap ∧ cap ≤ 9223372036854775807 := by
  obtain ⟨a, cap, e, _, h1, h2⟩ := Lies.parts h
  exact ⟨a, cap, e, h1, h2⟩
/-- a slice of texts stands where its block does -/
theorem Strs.keep {W W' : World} {v : Value} {X : List ByteArray} (h : Strs W v X) (hk : ∀ g o k c, v = .slice (some ⟨g, o, none⟩) k c → 0 < k → W'.heap[g]? = W.heap[g]?) : Strs W' v X := by
  obtain ⟨a, cap, rfl, h2, h3, h4, h5⟩ := h
  refine ⟨a, cap, rfl, h2, h3, h4, fun hn => ?_⟩
  obtain ⟨b, off, rfl, hc⟩ := h5 hn
  refine ⟨b, off, rfl, fun j u hj => ?_⟩
  have he : W'.cell? ⟨b, off + j, none⟩ = W.cell? ⟨b, off + j, none⟩ := World.cell?_of_block (w := W) (hk b off _ _ rfl hn)
  exact he.trans (hc j u hj)
theorem Strs.lt {W : World} {b off n cap : Nat} {X : List ByteArray} (h : Strs W (.slice (some ⟨b, off, none⟩) n cap) X) (hn : 0 < n) : b < W.heap.size := by
  obtain ⟨a1, cap1, e, _⟩ := h.parts
  cases e
  obtain ⟨b2, off2, e2, hc⟩ := h.get (k := 0) hn
  cases e2
  exact World.block_lt_of_cell? _ _ hc
section
set_option maxRecDepth 100000
set_option maxHeartbeats 4000000
theorem checkIn_any (b : ByteArray) (p : Nat) (w : World) (hb : b.size = 508) (hp : p + 55 ≤ 508) : Calls Try.prog 68 #[.string b, .int .i64 p] w (Ans w (chkAt b p).val) := by
  have T0 := Lib.hid (fun W => dtake_any b p 6 W (by omega) (by omega) (by omega) (by omega))
  have T1 := Lib.hid (fun W => dtake_any b (p + 6) 6 W (by omega) (by omega) (by omega) (by omega))
  have T2 := Lib.hid (fun W => dtake_any b (p + 12) 1 W (by omega) (by omega) (by omega) (by omega))
  have hV : chkAt b p = ⟨takeN b p 6, takeN b (p + 6) 6, decide (takeN b (p + 12) 1 = 1), b.extract (p + 13) (p + 55)⟩ := rfl
  have hrs : (b.extract (p + 13) (p + 55)).size = 42 := by rw [ByteArray.size_extract]; omega
  obtain ⟨p6, hp6⟩ : ∃ q, p + 6 = q := ⟨_, rfl⟩
  obtain ⟨p12, hp12⟩ : ∃ q, p + 12 = q := ⟨_, rfl⟩
  obtain ⟨p13, hp13⟩ : ∃ q, p + 13 = q := ⟨_, rfl⟩
  obtain ⟨p55, hp55⟩ : ∃ q, p + 55 = q := ⟨_, rfl⟩
  have w6 : IntKind.i64.wrap ((p : Int) + 6) = (p6 : Int) := by rw [IntKind.wrap_i64]; omega
  have w12 : IntKind.i64.wrap ((p : Int) + 12) = (p12 : Int) := by rw [IntKind.wrap_i64]; omega
  have w13 : IntKind.i64.wrap ((p : Int) + 13) = (p13 : Int) := by rw [IntKind.wrap_i64]; omega
  have w55 : IntKind.i64.wrap ((p : Int) + 55) = (p55 : Int) := by rw [IntKind.wrap_i64]; omega
  have r1 : p13 ≤ p55 := by omega
  have r2 : p55 ≤ b.size := by omega
  have r3 : (p13 : Int) ≤ (p55 : Int) := by omega
  have r4 : (p55 : Int) ≤ (b.size : Int) := by omega
  have r5 : (0 : Int) ≤ (p13 : Int) := by omega
  rw [hp6] at T1
  rw [hp12] at T2
  rw [hp6, hp12, hp13, hp55] at hV
  rw [hp13, hp55] at hrs
  obtain ⟨x0, hx0⟩ : ∃ x, takeN b p 6 = x := ⟨_, rfl⟩
  obtain ⟨x1, hx1⟩ : ∃ x, takeN b p6 6 = x := ⟨_, rfl⟩
  obtain ⟨x2, hx2⟩ : ∃ x, takeN b p12 1 = x := ⟨_, rfl⟩
  obtain ⟨sn, hsn⟩ : ∃ x, decide (x2 = 1) = x := ⟨_, rfl⟩
  have u1 : ((x2 : Int) == 1) = sn := by rw [← hsn, Bool.eq_iff_iff, decide_eq_true_iff]; simp; omega
  simp only [hx0, hx1, hx2, hsn] at T0 T1 T2 hV
  have HO := Lib.hid (fun W => own_any ⟨x0, x1, sn, b.extract p13 p55⟩ W (by show (b.extract p13 p55).size ≤ _; omega))
  unfold C.val at HO
  dsimp only at HO
  rw [hV]
  clear hV hx0 hx1 hx2 hsn hp6 hp12 hp13 hp55 hrs hb hp
  have HB0 := Lib.hid (below_new w boxZ)
  have HZ := Lib.hid (fun W (h : Below (w.alloc boxZ).heap.size (w.alloc boxZ) W) => (At.newZ w).th h)
  obtain ⟨W1, hW1⟩ : ∃ W1, w.alloc boxZ = W1 := ⟨_, rfl⟩
  rw [hW1] at HB0 HZ
  unfold boxZ at hW1
  have hself : Below W1.heap.size W1 W1 := Below.refl _ _
  have hself2 : Below W1.heap.size W1 W1.drew := hself.drew
  obtain ⟨y, hy⟩ : ∃ y : C, y = ⟨x0, x1, sn, b.extract p13 p55⟩ := ⟨_, rfl⟩
  go_enter Try.func68, Try.ntmps68
  go_wp2
  go_region_held3 (fun _ => True) (trivial) (first
    | (go_at_call 72; (with_reducible refine Calls.mono (T0.out _) ?_); rintro e w' ⟨rfl, hBn⟩; have := below_th (by assumption : Below W1.heap.size W1 _) hBn)
    | (go_at_call 72; (with_reducible refine Calls.mono (T1.out _) ?_); rintro e w' ⟨rfl, hBn⟩; have := below_th (by assumption : Below W1.heap.size W1 _) hBn)
    | (go_at_call 72; (with_reducible refine Calls.mono (T2.out _) ?_); rintro e w' ⟨rfl, hBn⟩; have := below_th (by assumption : Below W1.heap.size W1 _) hBn)
    | (go_at_call 39; (with_reducible refine Calls.mono (HO.out _) ?_); rintro e w' ⟨rfl, hBn⟩; have hbb := below_th (by assumption : Below W1.heap.size W1 _) hBn; have hA2 := HZ.out _ hbb; obtain ⟨k0, k1, k2, k3⟩ := hA2.put4k ⟨x0, x1, sn, b.extract p13 p55⟩; obtain ⟨a0, a1, a2, a3⟩ := hA2.cZ; have f0 := hA2.f 0; have f1 := hA2.f 1; have f2 := hA2.f 2; have f3 := hA2.f 3; obtain ⟨hAp, hBp⟩ := hA2.put4 ⟨x0, x1, sn, b.extract p13 p55⟩; dsimp only at k0 k1 k2 k3 hBp; have HAp := Lib.hid hAp; have HBp := Lib.hid hBp; have HBB := Lib.hid hbb; clear hAp hBp hA2 hbb))
  go_wp2
  refine bodyPost_ret (results_c rfl _ _ rfl HAp.out) rfl ?_
  exact ⟨rfl, (below_th HB0.out HBB.out).trans HBp.out⟩
end
end Go.Proofs.Ytoedjemelblpaaa.Cps
