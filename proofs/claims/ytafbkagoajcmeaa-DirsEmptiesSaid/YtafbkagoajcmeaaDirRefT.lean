/- The document's Sorted, List. -/
import Derived.Test.YtafbkagoajcmeaaDirRefS
namespace Go.Proofs.Ytafbkagoajcmeaa.Dir
set_option linter.unusedVariables false
set_option linter.unusedSimpArgs false
/-- two neighbours change places -/
def swp (L : List N) (m : Nat) : List N := (L.set (m + 1) (nm L m)).set m (nm L (m + 1))
theorem swp_length (L : List N) (m : Nat) : (swp L m).length = L.length := by unfold swp; rw [List.length_set, List.length_set]
theorem nm_swp {L : List N} {m : Nat} (h : m + 1 < L.length) (i : Nat) : nm (swp L m) i = if i = m then nm L (m + 1) else if i = m + 1 then nm L m else nm L i := by
  unfold swp
  rw [nm_set (by rw [List.length_set]; omega), nm_set h]
theorem swp_perm {L : List N} {m : Nat} (h : m + 1 < L.length) : (swp L m).Perm L := by
  unfold swp
  rw [← nm_elem h, ← nm_elem (show m < L.length by omega)]
  exact List.set_set_perm h (by omega)
def Lt (L : List N) (p q : Nat) : Prop := ltB (nm L p).name (nm L q).name = true
def UpTo (L : List N) (i : Nat) : Prop := ∀ p q, p < q → q < i → Lt L p q
def Ins (L : List N) (i k : Nat) : Prop := (∀ p q, p < q → q ≤ i → ¬ p = k → ¬ q = k → Lt L p q) ∧ ∀ q, k < q → q ≤ i → Lt L k q
theorem Ins.start {L : List N} {i : Nat} (h : UpTo L i) : Ins L i i := ⟨fun p q h1 h2 h3 h4 => h p q h1 (by omega), fun q h1 h2 => by omega⟩
theorem Ins.swap {L : List N} {i m : Nat} (hl : m + 1 < L.length) (hm : m + 1 ≤ i) (h : Ins L i (m + 1)) (hlt : Lt L (m + 1) m) : Ins (swp L m) i m := by
  unfold Lt at hlt
  refine ⟨fun p q h1 h2 h3 h4 => ?_, fun q h1 h2 => ?_⟩
  · unfold Lt
    rw [nm_swp hl, nm_swp hl, if_neg h3, if_neg h4]
    by_cases hp : p = m + 1
    · subst hp
      rw [if_pos rfl, if_neg (by omega)]
      exact h.1 m q (by omega) h2 (by omega) (by omega)
    · rw [if_neg hp]
      by_cases hq : q = m + 1
      · rw [if_pos hq]
        exact h.1 p m (by omega) (by omega) hp (by omega)
      · rw [if_neg hq]
        exact h.1 p q h1 h2 hp hq
  · unfold Lt
    rw [nm_swp hl, nm_swp hl, if_pos rfl, if_neg (by omega)]
    by_cases hq : q = m + 1
    · rw [if_pos hq]
      exact hlt
    · rw [if_neg hq]
      exact h.2 q (by omega) h2
theorem Ins.zero {L : List N} {i : Nat} (h : Ins L i 0) : UpTo L (i + 1) := fun p q h1 h2 => by
  by_cases hp : p = 0
  · rw [hp]; exact h.2 q (by omega) (by omega)
  · exact h.1 p q h1 (by omega) hp (by omega)
theorem Ins.stop {L : List N} {i m : Nat} (hF : Fine L) (hl : m + 1 < L.length) (hm : m + 1 ≤ i) (h : Ins L i (m + 1)) (hn : ¬ Lt L (m + 1) m) : UpTo L (i + 1) := by
  have hlt : Lt L m (m + 1) := by
    unfold Lt at hn ⊢
    rcases ltB_total (nm L m).name (nm L (m + 1)).name with k | k | k
    · exact k
    · have := hF.2 m (m + 1) (by omega) hl k
      omega
    · exact absurd k hn
  intro p q h1 h2
  by_cases hq : q = m + 1
  · subst hq
    by_cases hp : p = m
    · rw [hp]; exact hlt
    · have := h.1 p m (by omega) (by omega) (by omega) (by omega)
      unfold Lt at this hlt ⊢
      exact ltB_trans this hlt
  · by_cases hp : p = m + 1
    · rw [hp]; exact h.2 q (by omega) (by omega)
    · exact h.1 p q h1 (by omega) hp hq
theorem UpTo.all {L : List N} {i : Nat} (h : UpTo L i) (hi : L.length ≤ i) : Up L := Up.of fun p q h1 h2 => h p q h1 (by omega)
theorem UpTo.one (L : List N) : UpTo L 1 := fun p q h1 h2 => by omega
open Go.RowKit
attribute [local go_sem] Oper.semAt_some
theorem grown_of_below {W W' : World} (h : Below W.heap.size W W') : W.grownBy W' none := ⟨h.1, h.2, h.3, h.4, fun k hk _ => h.5 k hk⟩
theorem own_below {W W' : World} {base : Nat} {e : TypeId} {sz : Nat} {v : Value} {n : Nat} {xs : List Value} (h : W.ownsRow base e sz v n xs) (hB : Below W.heap.size W W') : W'.ownsRow base e sz v n xs := h.kept (grown_of_below hB) (by cases hv : v.ownBlock <;> simp)
theorem own_put {w : World} {base n cap g k : Nat} {L : List N} (hn : L.length = n) (h : w.ownsRow base 40 2 (.slice (some ⟨g, 0, none⟩) n cap) n (cellsL L)) (hk : k < n) (e : N) :
    (∃ u, w.cell? ⟨g, k * 2, none⟩ = some u) ∧ w.frozen? ⟨g, k * 2, none⟩ = false ∧
    (∃ u, (w.setCell ⟨g, k * 2, none⟩ (.string e.name)).cell? ⟨g, k * 2 + 1, none⟩ = some u) ∧ (w.setCell ⟨g, k * 2, none⟩ (.string e.name)).frozen? ⟨g, k * 2 + 1, none⟩ = false ∧
    ((w.setCell ⟨g, k * 2, none⟩ (.string e.name)).setCell ⟨g, k * 2 + 1, none⟩ (.int .u32 e.ino)).ownsRow base 40 2 (.slice (some ⟨g, 0, none⟩) n cap) n (cellsL (L.set k e)) ∧
    Below g w ((w.setCell ⟨g, k * 2, none⟩ (.string e.name)).setCell ⟨g, k * 2 + 1, none⟩ (.int .u32 e.ino)) := by
  have hl := cellsL_length L
  have h1 := (h.stored (k * 2) (.string e.name)).1
  have h2 := (h1.stored (k * 2 + 1) (.int .u32 e.ino)).1
  rw [cellsL_set e L k (by omega)] at h2
  exact ⟨⟨_, (h.cellAt (k * 2) (by omega)).trans (List.getElem?_eq_getElem (by omega))⟩, h.frozenAt _, ⟨_, (h1.cellAt (k * 2 + 1) (by omega)).trans (List.getElem?_eq_getElem (by simp; omega))⟩, h1.frozenAt _, h2,
    ((Below.refl g w).setCell (p := ⟨g, k * 2, none⟩) (Nat.le_refl _) _).setCell (p := ⟨g, k * 2 + 1, none⟩) (Nat.le_refl _) _⟩
/-- two neighbours change places in memory -/
theorem swap_mem {w W : World} {n cap g m : Nat} {L : List N} (hn : L.length = n) (h : W.ownsRow w.heap.size 40 2 (.slice (some ⟨g, 0, none⟩) n cap) n (cellsL L)) (hg : w.heap.size ≤ g) (hB : Below w.heap.size w W) (hm : m + 1 < n) (x y : N) (hx : nm L (m + 1) = x) (hy : nm L m = y) :
    (∃ u, (W.alloc (.cells #[.string x.name, .int .u32 (x.ino : Int)] 40)).cell? ⟨g, (m + 1) * 2, none⟩ = some u) ∧ (W.alloc (.cells #[.string x.name, .int .u32 (x.ino : Int)] 40)).frozen? ⟨g, (m + 1) * 2, none⟩ = false ∧ (W.alloc (.cells #[.string x.name, .int .u32 (x.ino : Int)] 40)).cell? ⟨g, m * 2, none⟩ = some (.string y.name) ∧ (W.alloc (.cells #[.string x.name, .int .u32 (x.ino : Int)] 40)).cell? ⟨g, m * 2 + 1, none⟩ = some (.int .u32 (y.ino : Int)) ∧
    (∃ u, ((W.alloc (.cells #[.string x.name, .int .u32 (x.ino : Int)] 40)).setCell ⟨g, (m + 1) * 2, none⟩ (.string y.name)).cell? ⟨g, (m + 1) * 2 + 1, none⟩ = some u) ∧ ((W.alloc (.cells #[.string x.name, .int .u32 (x.ino : Int)] 40)).setCell ⟨g, (m + 1) * 2, none⟩ (.string y.name)).frozen? ⟨g, (m + 1) * 2 + 1, none⟩ = false ∧
    (((W.alloc (.cells #[.string x.name, .int .u32 (x.ino : Int)] 40)).setCell ⟨g, (m + 1) * 2, none⟩ (.string y.name)).setCell ⟨g, (m + 1) * 2 + 1, none⟩ (.int .u32 (y.ino : Int))).cell? ⟨W.heap.size, 0, none⟩ = some (.string x.name) ∧ (((W.alloc (.cells #[.string x.name, .int .u32 (x.ino : Int)] 40)).setCell ⟨g, (m + 1) * 2, none⟩ (.string y.name)).setCell ⟨g, (m + 1) * 2 + 1, none⟩ (.int .u32 (y.ino : Int))).cell? ⟨W.heap.size, 1, none⟩ = some (.int .u32 (x.ino : Int)) ∧
    (∃ u, (((W.alloc (.cells #[.string x.name, .int .u32 (x.ino : Int)] 40)).setCell ⟨g, (m + 1) * 2, none⟩ (.string y.name)).setCell ⟨g, (m + 1) * 2 + 1, none⟩ (.int .u32 (y.ino : Int))).cell? ⟨g, m * 2, none⟩ = some u) ∧ (((W.alloc (.cells #[.string x.name, .int .u32 (x.ino : Int)] 40)).setCell ⟨g, (m + 1) * 2, none⟩ (.string y.name)).setCell ⟨g, (m + 1) * 2 + 1, none⟩ (.int .u32 (y.ino : Int))).frozen? ⟨g, m * 2, none⟩ = false ∧ (∃ u, ((((W.alloc (.cells #[.string x.name, .int .u32 (x.ino : Int)] 40)).setCell ⟨g, (m + 1) * 2, none⟩ (.string y.name)).setCell ⟨g, (m + 1) * 2 + 1, none⟩ (.int .u32 (y.ino : Int))).setCell ⟨g, m * 2, none⟩ (.string x.name)).cell? ⟨g, m * 2 + 1, none⟩ = some u) ∧ ((((W.alloc (.cells #[.string x.name, .int .u32 (x.ino : Int)] 40)).setCell ⟨g, (m + 1) * 2, none⟩ (.string y.name)).setCell ⟨g, (m + 1) * 2 + 1, none⟩ (.int .u32 (y.ino : Int))).setCell ⟨g, m * 2, none⟩ (.string x.name)).frozen? ⟨g, m * 2 + 1, none⟩ = false ∧
    Hid ((((((W.alloc (.cells #[.string x.name, .int .u32 (x.ino : Int)] 40)).setCell ⟨g, (m + 1) * 2, none⟩ (.string y.name)).setCell ⟨g, (m + 1) * 2 + 1, none⟩ (.int .u32 (y.ino : Int))).setCell ⟨g, m * 2, none⟩ (.string x.name)).setCell ⟨g, m * 2 + 1, none⟩ (.int .u32 (x.ino : Int))).ownsRow w.heap.size 40 2 (.slice (some ⟨g, 0, none⟩) n cap) n (cellsL (swp L m))) ∧ Hid (Below w.heap.size w (((((W.alloc (.cells #[.string x.name, .int .u32 (x.ino : Int)] 40)).setCell ⟨g, (m + 1) * 2, none⟩ (.string y.name)).setCell ⟨g, (m + 1) * 2 + 1, none⟩ (.int .u32 (y.ino : Int))).setCell ⟨g, m * 2, none⟩ (.string x.name)).setCell ⟨g, m * 2 + 1, none⟩ (.int .u32 (x.ino : Int)))) := by
  have hgl : g < W.heap.size := by
    rcases h.2 with ⟨e, _⟩ | ⟨g2, cap2, cur, e, _, hh, _⟩
    · cases e
    · cases e; exact (Array.getElem?_eq_some_iff.1 hh).1
  have o8 := h.alloc (.cells #[.string x.name, .int .u32 (x.ino : Int)] 40)
  have r8 := (Nms.own (L := L) (by rw [hn]; exact o8)).get hn (k := m) (by omega)
  rw [hy, Nat.zero_add] at r8
  obtain ⟨a1, a2, a3, a4, o9, b9⟩ := own_put hn o8 hm y
  have hl9 : (L.set (m + 1) y).length = n := by rw [List.length_set]; exact hn
  obtain ⟨c1, c2, c3, c4, o10, b10⟩ := own_put hl9 o9 (show m < n by omega) x
  have hat := At.new W x
  have hat9 : At (((W.alloc (.cells #[.string x.name, .int .u32 (x.ino : Int)] 40)).setCell ⟨g, (m + 1) * 2, none⟩ (.string y.name)).setCell ⟨g, (m + 1) * 2 + 1, none⟩ (.int .u32 (y.ino : Int))) W.heap.size x := ((Below.heap_setCell _ _ _ _ (show W.heap.size ≠ g by omega)).trans (Below.heap_setCell _ _ _ _ (show W.heap.size ≠ g by omega))).trans hat
  have hsw : (L.set (m + 1) y).set m x = swp L m := by unfold swp; rw [hx, hy]
  rw [hsw] at o10
  exact ⟨a1, a2, r8.1, r8.2, a3, a4, hat9.c.1, hat9.c.2, c1, c2, c3, c4, o10, ((hB.alloc hB.size _).trans (b9.mono hg)).trans (b10.mono hg)⟩
namespace R
def SortPost (L : List N) (w : World) (e : Ending) (w' : World) : Prop := ∃ v M, e = .returned v ∧ SortP L M ∧ w'.ownsRow w.heap.size 40 2 v M.length (cellsL M) ∧ Below w.heap.size w w'
section
set_option maxRecDepth 100000
set_option maxHeartbeats 8000000
theorem sorted_any (v : Value) (L : List N) (w : World) (hL : Nms w v L) (hF : Fine L) (hl : L.length ≤ 4000) (hsz : ∀ i, (nm L i).name.size ≤ 1000) : Calls Try.prog 32 #[v] w (SortPost L w) := by
  obtain ⟨X, hX, hmk⟩ := make_fun L.length (by omega)
  have HOWN : Hid (∀ W : World, (W.alloc (.cells X 40)).ownsRow W.heap.size 40 2 (.slice (some ⟨W.heap.size, 0, none⟩) 0 L.length) 0 []) := fun W =>
    ⟨rfl, .inr ⟨W.heap.size, L.length, X, rfl, Nat.le_refl _, World.alloc_heap_new W _, Nat.zero_le _, by unfold maxLen; omega, by rw [hX], by simp⟩⟩
  have HL := Lib.hid hL
  have HSZ : Hid (∀ O : List N, O.Perm L → ∀ i, i < O.length → (nm O i).name.size ≤ 1000) := fun O hp i hi => by
    obtain ⟨j, _, hj⟩ := mem_nm (hp.mem_iff.1 (nm_mem hi))
    rw [← hj]
    exact hsz j
  have HFP : Hid (∀ O : List N, O.Perm L → Fine O ∧ O.length = L.length) := fun O hp => ⟨hF.perm hp.symm, hp.length_eq⟩
  have HR : Hid (∀ O v w', O.Perm L → UpTo O O.length → w'.ownsRow w.heap.size 40 2 v O.length (cellsL O) → Below w.heap.size w w' → SortPost L w (.returned v) w') := fun O v w' h1 h2 h3 h4 => ⟨v, O, rfl, ⟨h1, h2.all (Nat.le_refl _)⟩, h3, h4⟩
  obtain ⟨av, capv, rfl, hv1, hv2⟩ := hL.parts
  obtain ⟨n, hn⟩ : ∃ n, L.length = n := ⟨_, rfl⟩
  have HLN := Lib.hid hn
  rw [hn] at HL HOWN HFP hmk hl hv1 ⊢
  clear hL hsz hF hn hX
  obtain ⟨W0, rfl⟩ : ∃ W0 : World, W0 = w := ⟨_, rfl⟩
  go_enter Try.func32, Try.ntmps32
  go_wp2_with (at_builtin; go_must (refine wpList_append_tab rfl _ _ rfl rfl W0.heap.size (.slice (some ⟨W0.heap.size, 0, none⟩) 0 n) 0 [] rfl (HOWN.out W0) _ L rfl (HL.out.below (below_new W0 _)) (by rw [HLN.out]; omega) (by simp) ?_; intro v4 w4 hown4 hgrow4; rw [Nat.zero_add, List.nil_append, HLN.out] at hown4; have hb4 : Below W0.heap.size W0 w4 := (below_new W0 (.cells X 40)).grown hgrow4 (by simp) (fun r e => Nat.le_of_eq (by simpa [Value.ownBlock] using e)); obtain ⟨a4, cap4, rfl, hc1, hc2⟩ := own_parts hown4; have HO4 := Lib.hid hown4; have HB4 := Lib.hid hb4; clear hown4 hgrow4 hb4))
  go_loopw [4, 5, 6] (fun i _ _ wr => ∃ (q : Nat) (O : List N), i = .int .i64 (q : Int) ∧ 1 ≤ q ∧ q ≤ n + 1 ∧ Hid (O.Perm L) ∧ Hid (UpTo O q) ∧ Hid (wr.ownsRow W0.heap.size 40 2 (.slice a4 n cap4) n (cellsL O)) ∧ Hid (Below W0.heap.size W0 wr)) (fun i _ _ _ => n + 1 - (intOf i).toNat)
  case atStart => exact ⟨1, L, rfl, by omega, by omega, List.Perm.refl _, UpTo.one L, HO4.out, HB4.out⟩
  case round =>
    obtain ⟨q, O, rfl, hq1, hq2, HP, HU, HO, HB⟩ := hrel
    by_cases hlt : q < n
    · have hli : (q : Int) < (n : Int) := by omega
      obtain ⟨WO, rfl⟩ : ∃ WO : World, WO = wr := ⟨_, rfl⟩
      obtain ⟨g, cap5, e5, hg, _, _⟩ := own_open HO.out (by omega)
      cases e5
      go_wp2
      go_loopw [5, 6] (fun kk _ wq => ∃ (k : Nat) (P : List N), kk = .int .i64 (k : Int) ∧ k ≤ q ∧ Hid (P.Perm L) ∧ Hid (Ins P q k) ∧ Hid (wq.ownsRow W0.heap.size 40 2 (.slice (some ⟨g, 0, none⟩) n cap4) n (cellsL P)) ∧ Hid (Below W0.heap.size W0 wq)) (fun kk _ _ => (intOf kk).toNat)
      case atStart => exact ⟨q, O, rfl, by omega, HP, Ins.start HU.out, HO, HB⟩
      case round =>
        obtain ⟨k, P, rfl, hkq, HPP, HI, HOP, HBP⟩ := hrel
        obtain ⟨hFP, hPl⟩ := HFP.out P HPP.out
        by_cases hk0 : k = 0
        · subst hk0
          have HU2 := Lib.hid (Ins.zero HI.out)
          clear hFP hPl
          go_wp2
          go_quiet (fail)
          go_wp2
          go_roundw
          case rel => exact ⟨q + 1, P, by go_num, by omega, by omega, HPP, HU2, HOP.out, below_drewN HBP.out _⟩
          case measure => simp [intOf]; omega
        · obtain ⟨m, hm⟩ : ∃ m, m + 1 = k := ⟨k - 1, by omega⟩
          have hmn : m + 1 < n := by omega
          have hIm : Ins P q (m + 1) := by rw [hm]; exact HI.out
          have hrd := fun (W : World) (h : Below wr.heap.size wr W) => (Nms.own (L := P) (by rw [hPl]; exact own_below HOP.out h))
          have hr1 := fun (W : World) (h : Below wr.heap.size wr W) => (hrd W h).get hPl (k := m + 1) (by omega)
          have hr2 := fun (W : World) (h : Below wr.heap.size wr W) => (hrd W h).get hPl (k := m) (by omega)
          have hz1 := HSZ.out P HPP.out (m + 1) (by omega)
          have hz2 := HSZ.out P HPP.out m (by omega)
          have hLS := fun W => less_any (nm P (m + 1)).name (nm P m).name W (by omega) (by omega)
          have hSM := fun (W : World) (x y : N) (h : Below wr.heap.size wr W) (e1 : nm P (m + 1) = x) (e2 : nm P m = y) => swap_mem hPl (own_below HOP.out h) hg (below_th HBP.out h) hmn x y e1 e2
          have hstop := fun (h : ¬ ltB (nm P (m + 1)).name (nm P m).name = true) => Ins.stop hFP (by omega) (by omega) hIm h
          have hswap := fun (h : ltB (nm P (m + 1)).name (nm P m).name = true) => Ins.swap (by omega) (by omega) hIm h
          have hperm : (swp P m).Perm L := (swp_perm (by omega)).trans HPP.out
          obtain ⟨x, hx⟩ : ∃ x, nm P (m + 1) = x := ⟨_, rfl⟩
          obtain ⟨y, hy⟩ : ∃ y, nm P m = y := ⟨_, rfl⟩
          rw [hx, hy] at hLS hstop hswap
          simp only [hx, Nat.zero_add] at hr1
          simp only [hy, Nat.zero_add] at hr2
          unfold Reads at hr1 hr2
          have HSM := Lib.hid (fun W h => hSM W x y h hx hy)
          obtain ⟨xn, xi⟩ := x
          obtain ⟨yn, yi⟩ := y
          dsimp only at hLS hstop hswap hr1 hr2 HSM
          have HLS := Lib.hid hLS
          have HC : Hid (∀ W, Below wr.heap.size wr W → W.cell? ⟨g, (m + 1) * 2, none⟩ = some (.string xn) ∧ W.cell? ⟨g, m * 2, none⟩ = some (.string yn)) := fun W h => ⟨(hr1 W h).1, (hr2 W h).1⟩
          have HC1 := Lib.hid hr1
          have HPM := Lib.hid hperm
          have hself : Below wr.heap.size wr wr := Below.refl _ _
          have hself2 : Below wr.heap.size wr wr.drew := hself.drew
          have hk0 : (0 : Int) < (k : Int) := by omega
          have hk1 : decide (0 < k) = true := decide_eq_true (by omega)
          have hk2 : decide ((0 : Int) < (k : Int)) = true := decide_eq_true (by omega)
          have hkn : (k : Int) < (n : Int) := by omega
          have hm1 : (m : Int) < (n : Int) := by omega
          have hwk : IntKind.i64.wrap ((k : Int) - 1) = (m : Int) := by rw [IntKind.wrap_i64]; omega
          have HM := Lib.hid hm
          simp only [hm] at HC HC1 HSM
          clear hLS hr1 hr2 hSM hrd hz1 hz2 hx hy hFP hPl hperm hIm hmn hm
          go_wp2
          go_region_held3 (fun w' => (w'.cell? ⟨g, k * 2, none⟩ = some (.string xn) ∧ w'.cell? ⟨g, m * 2, none⟩ = some (.string yn))) (exact HC.out _ (by assumption)) (first
            | (go_at_call 48; (with_reducible refine Calls.mono (HLS.out _) ?_); rintro e w2 ⟨rfl, hBn⟩; have hb6 := below_th (by assumption : Below wr.heap.size wr _) hBn))
          cases hlt2 : ltB xn yn with
          | true =>
            have HI2 := Lib.hid (hswap hlt2)
            obtain ⟨k1, k2⟩ := HC1.out _ hb6
            obtain ⟨⟨u1, p1⟩, p2, p3, p4, ⟨u5, p5⟩, p6, p7, p8, ⟨u9, p9⟩, p10, ⟨u11, p11⟩, p12, HO2, HB2⟩ := HSM.out _ hb6
            clear hstop hswap hlt2
            go_wp2
            go_roundw
            case rel => exact ⟨m, swp P m, by go_num, by have := HM.out; omega, HPM.out, HI2, HO2, HB2⟩
            case measure => have h9 : m + 1 = k := HM.out; simp only [intOf, IntKind.wrap_i64]; omega
          | false =>
            have HU2 := Lib.hid (hstop (by rw [hlt2]; decide))
            have HB2 := Lib.hid (below_th HBP.out hb6)
            have HO2 := Lib.hid (own_below HOP.out hb6)
            clear hstop hswap hlt2
            go_wp2
            go_roundw
            case rel => exact ⟨q + 1, P, by go_num, by omega, by omega, HPP, HU2, HO2, HB2⟩
            case measure => simp [intOf]; omega
    · have hOl := (HFP.out O HP.out).2
      have HF := Lib.hid (HR.out O _ wr HP.out (by rw [hOl]; exact fun p r h1 h2 => HU.out p r h1 (by omega)) (by rw [hOl]; exact HO.out) HB.out)
      have hli : ¬ (q : Int) < (n : Int) := by omega
      clear hOl
      go_wp2
      go_returns
      exact HF.out
end
end R
end Go.Proofs.Ytafbkagoajcmeaa.Dir
