/- An entry of a directory in memory; entryAt of the program. -/
import Derived.Test.YtafbkagoajcmeaaDirPar
import Derived.Test.YtafbkagoajcmeaaDirIsN
namespace Go.Proofs.Ytafbkagoajcmeaa.Dir
open Go.RowKit
attribute [local go_sem] Oper.semAt_some
set_option linter.unusedVariables false
set_option linter.unusedSimpArgs false

/-- a name, whose it is, and where its bytes stand -/
structure Et where
  name : ByteArray
  ino : Nat
  a : Nat
  b : Nat
def Et.zero : Et := ⟨⟨#[]⟩, 0, 0, 0⟩
def Et.val (t : Et) : Value := .agg #[.string t.name, .int .u32 t.ino, .int .i64 t.a, .int .i64 t.b]
def boxT (t : Et) : Obj := .cells #[.string t.name, .int .u32 t.ino, .int .i64 t.a, .int .i64 t.b] 46
def boxTZ : Obj := .cells #[.string ⟨#[]⟩, .int .u32 0, .int .i64 0, .int .i64 0] 46
def AtT (W : World) (b : Nat) (t : Et) : Prop := W.heap[b]? = some (.cells #[.string t.name, .int .u32 t.ino, .int .i64 t.a, .int .i64 t.b] 46 (0, 0))
theorem AtT.c {W : World} {b : Nat} {t : Et} (h : AtT W b t) : W.cell? ⟨b, 0, none⟩ = some (.string t.name) ∧ W.cell? ⟨b, 1, none⟩ = some (.int .u32 t.ino) ∧ W.cell? ⟨b, 2, none⟩ = some (.int .i64 t.a) ∧ W.cell? ⟨b, 3, none⟩ = some (.int .i64 t.b) := by
  unfold AtT at h
  simp only [World.cell?, h]
  exact ⟨rfl, rfl, rfl, rfl⟩
theorem AtT.f {W : World} {b : Nat} {t : Et} (h : AtT W b t) (i : Nat) : W.frozen? ⟨b, i, none⟩ = false := by
  unfold AtT at h
  simp [World.frozen?, h]
theorem AtT.lt {W : World} {b : Nat} {t : Et} (h : AtT W b t) : b < W.heap.size := (Array.getElem?_eq_some_iff.1 h).1
theorem AtT.th {W W' : World} {b : Nat} {t : Et} (h : AtT W b t) (hB : Below W.heap.size W W') : AtT W' b t := (hB.block b h.lt).trans h
theorem AtT.new (w : World) (t : Et) : AtT (w.alloc (boxT t)) w.heap.size t := World.alloc_heap_new w _
theorem AtT.newZ (w : World) : AtT (w.alloc boxTZ) w.heap.size Et.zero := AtT.new w Et.zero
theorem AtT.drew {W : World} {b : Nat} {t : Et} (h : AtT W b t) : AtT W.drew b t := h
theorem AtT.of_heap {W W' : World} {b : Nat} {t : Et} (h : AtT W b t) (hb : W'.heap[b]? = W.heap[b]?) : AtT W' b t := hb.trans h
theorem AtT.cZ {W : World} {b : Nat} (h : AtT W b Et.zero) : W.cell? ⟨b, 0, none⟩ = some (.string ⟨#[]⟩) ∧ W.cell? ⟨b, 1, none⟩ = some (.int .u32 0) ∧ W.cell? ⟨b, 2, none⟩ = some (.int .i64 0) ∧ W.cell? ⟨b, 3, none⟩ = some (.int .i64 0) := h.c
theorem AtT.put4 {W : World} {b : Nat} {s : Et} (h : AtT W b s) (t : Et) :
    (W.setCell ⟨b, 0, none⟩ (.string t.name)).cell? ⟨b, 0, none⟩ = some (.string t.name) ∧
    ((W.setCell ⟨b, 0, none⟩ (.string t.name)).setCell ⟨b, 1, none⟩ (.int .u32 t.ino)).cell? ⟨b, 1, none⟩ = some (.int .u32 t.ino) ∧
    (((W.setCell ⟨b, 0, none⟩ (.string t.name)).setCell ⟨b, 1, none⟩ (.int .u32 t.ino)).setCell ⟨b, 2, none⟩ (.int .i64 t.a)).cell? ⟨b, 2, none⟩ = some (.int .i64 t.a) ∧
    ((((W.setCell ⟨b, 0, none⟩ (.string t.name)).setCell ⟨b, 1, none⟩ (.int .u32 t.ino)).setCell ⟨b, 2, none⟩ (.int .i64 t.a)).setCell ⟨b, 3, none⟩ (.int .i64 t.b)).cell? ⟨b, 3, none⟩ = some (.int .i64 t.b) ∧
    AtT ((((W.setCell ⟨b, 0, none⟩ (.string t.name)).setCell ⟨b, 1, none⟩ (.int .u32 t.ino)).setCell ⟨b, 2, none⟩ (.int .i64 t.a)).setCell ⟨b, 3, none⟩ (.int .i64 t.b)) b t ∧
    Below b W ((((W.setCell ⟨b, 0, none⟩ (.string t.name)).setCell ⟨b, 1, none⟩ (.int .u32 t.ino)).setCell ⟨b, 2, none⟩ (.int .i64 t.a)).setCell ⟨b, 3, none⟩ (.int .i64 t.b)) := by
  unfold AtT at h
  have h0 := heap_setCell_same W b 0 _ _ (.string t.name) h
  have h1 := heap_setCell_same _ b 1 _ _ (.int .u32 t.ino) h0
  have h2 := heap_setCell_same _ b 2 _ _ (.int .i64 t.a) h1
  have h3 := heap_setCell_same _ b 3 _ _ (.int .i64 t.b) h2
  exact ⟨by simp only [World.cell?, h0]; rfl, by simp only [World.cell?, h1]; rfl, by simp only [World.cell?, h2]; rfl, by simp only [World.cell?, h3]; rfl, h3,
    ((((Below.refl b W).setCell (p := ⟨b, 0, none⟩) (Nat.le_refl _) _).setCell (p := ⟨b, 1, none⟩) (Nat.le_refl _) _).setCell (p := ⟨b, 2, none⟩) (Nat.le_refl _) _).setCell (p := ⟨b, 3, none⟩) (Nat.le_refl _) _⟩
theorem AtT.putZ {W : World} {b : Nat} {s : Et} (h : AtT W b s) :
    (W.setCell ⟨b, 0, none⟩ (.string ⟨#[]⟩)).cell? ⟨b, 0, none⟩ = some (.string ⟨#[]⟩) ∧
    ((W.setCell ⟨b, 0, none⟩ (.string ⟨#[]⟩)).setCell ⟨b, 1, none⟩ (.int .u32 0)).cell? ⟨b, 1, none⟩ = some (.int .u32 0) ∧
    (((W.setCell ⟨b, 0, none⟩ (.string ⟨#[]⟩)).setCell ⟨b, 1, none⟩ (.int .u32 0)).setCell ⟨b, 2, none⟩ (.int .i64 0)).cell? ⟨b, 2, none⟩ = some (.int .i64 0) ∧
    ((((W.setCell ⟨b, 0, none⟩ (.string ⟨#[]⟩)).setCell ⟨b, 1, none⟩ (.int .u32 0)).setCell ⟨b, 2, none⟩ (.int .i64 0)).setCell ⟨b, 3, none⟩ (.int .i64 0)).cell? ⟨b, 3, none⟩ = some (.int .i64 0) ∧
    AtT ((((W.setCell ⟨b, 0, none⟩ (.string ⟨#[]⟩)).setCell ⟨b, 1, none⟩ (.int .u32 0)).setCell ⟨b, 2, none⟩ (.int .i64 0)).setCell ⟨b, 3, none⟩ (.int .i64 0)) b Et.zero ∧
    Below b W ((((W.setCell ⟨b, 0, none⟩ (.string ⟨#[]⟩)).setCell ⟨b, 1, none⟩ (.int .u32 0)).setCell ⟨b, 2, none⟩ (.int .i64 0)).setCell ⟨b, 3, none⟩ (.int .i64 0)) := h.put4 Et.zero
theorem results_et {fn : Func} {r e : Tmp} (h : fn.results = #[.cell r 46, .tmp e]) (tmps : Array Value) (w : World) {b : Nat} {t : Et} (hp : tmps.getD r undef = .pointer (some ⟨b, 0, none⟩)) (hA : AtT w b t) :
    (results fn tmps).run Try.prog w = .ok (.tuple #[t.val, tmps.getD e undef]) w := by
  obtain ⟨c0, c1, c2, c3⟩ := hA.c
  rw [Array.getD_eq_getD_getElem?] at hp
  simp [results, h, hp, go_sem, c0, c1, c2, c3]
  rfl
/-- what stands at a place -/
def etOf (e : N) (a : Nat) : Et := ⟨e.name, e.ino, a, a + 6 + e.name.size⟩
def etV (s : ByteArray) (a : Nat) : Et := if good s a then etOf (here s a) a else Et.zero
theorem etV_yes {s : ByteArray} {a : Nat} (h : good s a) : etV s a = etOf (here s a) a := if_pos h
theorem etV_no {s : ByteArray} {a : Nat} (h : ¬ good s a) : etV s a = Et.zero := if_neg h
theorem ans_no {s : ByteArray} {a : Nat} {w w' : World} (h : ¬ good s a) (hB : Below w.heap.size w w') : Ans w (.tuple #[(etV s a).val, .bool (decide (good s a))]) (.returned (.tuple #[Et.zero.val, .bool false])) w' := by
  rw [etV_no h, decide_eq_false h]
  exact ⟨rfl, hB⟩
theorem ans_yes {s : ByteArray} {a : Nat} {w w' : World} (h : good s a) (hB : Below w.heap.size w w') : Ans w (.tuple #[(etV s a).val, .bool (decide (good s a))]) (.returned (.tuple #[(etOf (here s a) a).val, .bool true])) w' := by
  rw [etV_yes h, decide_eq_true h]
  exact ⟨rfl, hB⟩
section
set_option maxRecDepth 100000
set_option maxHeartbeats 4000000
theorem entryAt_any (s : ByteArray) (a : Nat) (w : World) (hs : s.size ≤ 281474976710656) (ha : a ≤ s.size) : Calls Try.prog 41 #[.string s, .int .i64 (a : Int)] w (Ans w (.tuple #[(etV s a).val, .bool (decide (good s a))])) := by
  have hT := Lib.hid (fun W => take_any s (a : Int) 4 W hs (by omega))
  have hK := Lib.hid (fun W => tok_any s ((a : Int) + 4) W hs (by omega))
  have hpp : (a : Int) + 4 = ((a + 4 : Nat) : Int) := by omega
  have hw1 : IntKind.i64.wrap ((a : Int) + 4) = (a : Int) + 4 := by rw [IntKind.wrap_i64]; omega
  have hts : (tokS s ((a : Int) + 4)).size ≤ 281474976710656 := by
    by_cases h : tokOk s ((a : Int) + 4)
    · rw [hpp] at h ⊢
      rw [tokS_yes h, ByteArray.size_extract]
      omega
    · rw [tokS_no h]
      decide
  have hNB := Lib.hid (fun W => isName_any (tokS s ((a : Int) + 4)) W hts)
  have HBAD : Hid (¬ good s a → ∀ W, Below w.heap.size w W → Ans w (.tuple #[(etV s a).val, .bool (decide (good s a))]) (.returned (.tuple #[Et.zero.val, .bool false])) W) := fun h W hB => ans_no h hB
  have HGOOD : Hid (good s a → ∀ W, Below w.heap.size w W → Ans w (.tuple #[(etV s a).val, .bool (decide (good s a))]) (.returned (.tuple #[(etOf (here s a) a).val, .bool true])) W) := fun h W hB => ans_yes h hB
  have HZ := Lib.hid (AtT.newZ w)
  have HB0 := Lib.hid (below_new w boxTZ)
  unfold boxTZ at HZ HB0
  obtain ⟨R, hR⟩ : ∃ R, Ans w (.tuple #[(etV s a).val, .bool (decide (good s a))]) = R := ⟨_, rfl⟩
  simp only [hR] at HBAD HGOOD ⊢
  clear hR
  by_cases k1 : takeOk s (a : Int) 4
  · have hv : takeV s (a : Int) 4 = ((takeN s a 4 : Nat) : Int) := by rw [takeV_yes k1, Int.toNat_natCast]; rfl
    rw [hv, takeE_yes k1] at hT
    by_cases k4 : takeN s a 4 = 0
    · have hng := HBAD.out (fun h => h.2.2.1 k4)
      have HN := Lib.hid hng
      rw [k4] at hT
      clear HBAD HGOOD hng hK hNB hpp hw1 hts hv k1 k4
      go_enter Try.func41, Try.ntmps41
      go_wp2_with (go_at_call 54; (with_reducible refine Calls.mono (hT.out _) ?_); rintro e w1 ⟨rfl, hB1⟩; have hZ1 := HZ.out.th hB1; obtain ⟨c0, c1, c2, c3⟩ := hZ1.cZ; have f0 := hZ1.f 0; have f1 := hZ1.f 1; have f2 := hZ1.f 2; have f3 := hZ1.f 3; obtain ⟨p0, p1, p2, p3, hP, hBp⟩ := hZ1.putZ; have HP := Lib.hid hP; have HBp := Lib.hid hBp; clear hP hBp hZ1)
      refine bodyPost_ret (results_et rfl _ _ rfl HP.out) rfl ?_
      exact HN.out _ ((below_th HB0.out hB1).trans HBp.out)
    · have q4 : (((takeN s a 4 : Nat) : Int) == 0) = false := beq_eq_false_iff_ne.2 (by omega)
      by_cases k2 : tokOk s ((a + 4 : Nat) : Int)
      · have hgd : hereOk s a := ⟨k1, k2⟩
        obtain ⟨z1, z2, z3⟩ := here_size hgd
        have hname : (here s a).name = tokS s ((a : Int) + 4) := by unfold here; rw [hpp]
        have hino : (here s a).ino = takeN s a 4 := rfl
        have hil := takeN_lt s a 4
        rw [show (256 : Nat) ^ 4 = 4294967296 by decide] at hil
        have hgi : good s a ↔ nameP (here s a).name := ⟨fun h => h.2.1, fun h => ⟨hgd, h, k4, hil⟩⟩
        have hgv : etOf (here s a) a = ⟨(here s a).name, (here s a).ino, a, a + 6 + (here s a).name.size⟩ := rfl
        rw [hgi] at HBAD HGOOD
        obtain ⟨X, hX⟩ : ∃ X, here s a = X := ⟨_, rfl⟩
        rw [hX] at z1 z2 z3 hname hino HBAD HGOOD hgv
        rw [hgv] at HGOOD
        rw [← hpp] at z3
        obtain ⟨xn, xi⟩ := X
        dsimp only at z1 z2 z3 hname hino HBAD HGOOD
        obtain ⟨xb, hxb⟩ : ∃ xb, a + 6 + xn.size = xb := ⟨_, rfl⟩
        rw [hxb] at z3 HGOOD
        rw [z3, tokE_yes (by rw [hpp]; exact k2), ← hname] at hK
        rw [← hname] at hNB
        rw [← hino] at hT hil q4
        have hwx : IntKind.u32.wrap (xi : Int) = (xi : Int) := by rw [IntKind.wrap_u32]; omega
        clear z1 z2 z3 hname hino hX hv hts hgi hgv k1 k2 k4 hgd hpp hil hxb
        by_cases k3 : nameP xn
        · have HN := Lib.hid (HGOOD.out k3)
          rw [nameB_yes k3] at hNB
          clear HBAD HGOOD k3
          unfold Et.val at HN
          dsimp only at HN
          go_enter Try.func41, Try.ntmps41
          go_wp2_with (first
            | (go_at_call 54; (with_reducible refine Calls.mono (hT.out _) ?_); rintro e w1 ⟨rfl, hB1⟩)
            | (go_at_call 55; (with_reducible refine Calls.mono (hK.out _) ?_); rintro e w2 ⟨rfl, hB2⟩)
            | (go_at_call 13; (with_reducible refine Calls.mono (hNB.out _) ?_); rintro e w3 ⟨rfl, hB3⟩; have hZ9 := ((HZ.out.th hB1).th hB2).th hB3; obtain ⟨c0, c1, c2, c3⟩ := hZ9.cZ; have f0 := hZ9.f 0; have f1 := hZ9.f 1; have f2 := hZ9.f 2; have f3 := hZ9.f 3; obtain ⟨p0, p1, p2, p3, hP, hBp⟩ := hZ9.put4 ⟨xn, xi, a, xb⟩; dsimp only at p0 p1 p2 p3 hP hBp; have HP := Lib.hid hP; have HBp := Lib.hid hBp; clear hP hBp hZ9))
          refine bodyPost_ret (results_et rfl _ _ rfl HP.out) rfl ?_
          exact HN.out _ ((below_th (below_th (below_th HB0.out hB1) hB2) hB3).trans HBp.out)
        · have HN := Lib.hid (HBAD.out k3)
          rw [nameB_no k3] at hNB
          clear HBAD HGOOD k3
          go_enter Try.func41, Try.ntmps41
          go_wp2_with (first
            | (go_at_call 54; (with_reducible refine Calls.mono (hT.out _) ?_); rintro e w1 ⟨rfl, hB1⟩)
            | (go_at_call 55; (with_reducible refine Calls.mono (hK.out _) ?_); rintro e w2 ⟨rfl, hB2⟩)
            | (go_at_call 13; (with_reducible refine Calls.mono (hNB.out _) ?_); rintro e w3 ⟨rfl, hB3⟩; have hZ9 := ((HZ.out.th hB1).th hB2).th hB3; obtain ⟨c0, c1, c2, c3⟩ := hZ9.cZ; have f0 := hZ9.f 0; have f1 := hZ9.f 1; have f2 := hZ9.f 2; have f3 := hZ9.f 3; obtain ⟨p0, p1, p2, p3, hP, hBp⟩ := hZ9.putZ; have HP := Lib.hid hP; have HBp := Lib.hid hBp; clear hP hBp hZ9))
          refine bodyPost_ret (results_et rfl _ _ rfl HP.out) rfl ?_
          exact HN.out _ ((below_th (below_th (below_th HB0.out hB1) hB2) hB3).trans HBp.out)
      · have HN := Lib.hid (HBAD.out (fun h => k2 h.1.2))
        rw [tokE_no (by rw [hpp]; exact k2)] at hK
        obtain ⟨xi, hxi⟩ : ∃ xi, takeN s a 4 = xi := ⟨_, rfl⟩
        rw [hxi] at hT q4
        generalize tokS s ((a : Int) + 4) = xn at hK
        generalize tokI s ((a : Int) + 4) = xj at hK
        clear HBAD HGOOD hts hNB hv k1 k2 k4 hpp hxi
        go_enter Try.func41, Try.ntmps41
        go_wp2_with (first
          | (go_at_call 54; (with_reducible refine Calls.mono (hT.out _) ?_); rintro e w1 ⟨rfl, hB1⟩)
          | (go_at_call 55; (with_reducible refine Calls.mono (hK.out _) ?_); rintro e w2 ⟨rfl, hB2⟩; have hZ9 := (HZ.out.th hB1).th hB2; obtain ⟨c0, c1, c2, c3⟩ := hZ9.cZ; have f0 := hZ9.f 0; have f1 := hZ9.f 1; have f2 := hZ9.f 2; have f3 := hZ9.f 3; obtain ⟨p0, p1, p2, p3, hP, hBp⟩ := hZ9.putZ; have HP := Lib.hid hP; have HBp := Lib.hid hBp; clear hP hBp hZ9))
        refine bodyPost_ret (results_et rfl _ _ rfl HP.out) rfl ?_
        exact HN.out _ ((below_th (below_th HB0.out hB1) hB2).trans HBp.out)
  · have HN := Lib.hid (HBAD.out (fun h => k1 h.1.1))
    rw [takeE_no k1] at hT
    generalize takeV s (a : Int) 4 = xi at hT
    clear HBAD HGOOD hK hNB hpp hw1 hts k1
    go_enter Try.func41, Try.ntmps41
    go_wp2_with (go_at_call 54; (with_reducible refine Calls.mono (hT.out _) ?_); rintro e w1 ⟨rfl, hB1⟩; have hZ9 := HZ.out.th hB1; obtain ⟨c0, c1, c2, c3⟩ := hZ9.cZ; have f0 := hZ9.f 0; have f1 := hZ9.f 1; have f2 := hZ9.f 2; have f3 := hZ9.f 3; obtain ⟨p0, p1, p2, p3, hP, hBp⟩ := hZ9.putZ; have HP := Lib.hid hP; have HBp := Lib.hid hBp; clear hP hBp hZ9)
    refine bodyPost_ret (results_et rfl _ _ rfl HP.out) rfl ?_
    exact HN.out _ ((below_th HB0.out hB1).trans HBp.out)
end
end Go.Proofs.Ytafbkagoajcmeaa.Dir
