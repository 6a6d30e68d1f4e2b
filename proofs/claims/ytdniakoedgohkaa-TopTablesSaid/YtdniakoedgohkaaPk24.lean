/- Several texts in one, each under its own heading. -/
import Derived.Lib.SmallJoins
import Derived.OpenShut
import Derived.Test.YtdniakoedgohkaaPk23
import Derived.Test.YtdniakoedgohkaaPk15
import Derived.Test.YtdniakoedgohkaaPk04
import Derived.Lib.Hide
/- What comes in to the laws on tables. -/
namespace Go.Proofs.Ytdniakoedgohkaa.Dat
open Go.RowKit Go.ChangeShapes Go.WideShapes Go.Deep
set_option linter.unusedVariables false

theorem bounds64 {n : Int} (h : (Lit.int .i64 n).wf = true) : -9223372036854775808 ≤ n ∧ n ≤ 9223372036854775807 := by
  have h1 : IntKind.i64.min = -9223372036854775808 := rfl
  have h2 : IntKind.i64.max = 9223372036854775807 := rfl
  simp only [Lit.wf, Bool.and_eq_true, decide_eq_true_eq] at h
  omega
theorem boundsU {n : Int} (h : (Lit.int .u64 n).wf = true) : 0 ≤ n ∧ n ≤ 18446744073709551615 := by
  have h1 : IntKind.u64.min = 0 := rfl
  have h2 : IntKind.u64.max = 18446744073709551615 := rfl
  simp only [Lit.wf, Bool.and_eq_true, decide_eq_true_eq] at h
  omega
theorem bounds32 {n : Int} (h : (Lit.int .u32 n).wf = true) : 0 ≤ n ∧ n ≤ 4294967295 := by
  have h1 : IntKind.u32.min = 0 := rfl
  have h2 : IntKind.u32.max = 4294967295 := rfl
  simp only [Lit.wf, Bool.and_eq_true, decide_eq_true_eq] at h
  omega
theorem cells_tr : Try.prog.cellsOf 79 = 3 := by kernel_rfl
theorem cells_u32 : Try.prog.cellsOf 35 = 1 := by kernel_rfl
theorem cells_u64 : Try.prog.cellsOf 22 = 1 := by kernel_rfl
theorem list3 {α : Type} {l : List α} (h : l.length = 3) : ∃ a b c, l = [a, b, c] := by
  match l, h with
  | [a, b, c], _ => exact ⟨a, b, c, rfl⟩
section
variable {H : Type} {enc : TypeId × Value → H} {w : World} {base fuel : Nat} {cs : List Value} {x : DataW H × List MemPlace}
theorem open_tr {n : Nat} {c : List Value} {y : DataW H × List MemPlace} (h : DataW.trod enc Try.prog w base (fun _ => true) true n 79 c = some y) : ∃ s : T, c = s.cells ∧ TOk s := by
  obtain ⟨xs, m, _, _, hl, hxl, hf⟩ := DataW.trod_struct Try.underlying79 h
  rw [cells_tr] at hl
  obtain ⟨c0, c1, c2, rfl⟩ := list3 hl
  have hxs : xs.length = 3 := by simpa using hxl
  have hz : ∀ i, i < 3 → ∃ z, xs[i]? = some z := fun i hi => ⟨xs[i]'(by omega), by simp⟩
  have f0 : DataW.trod enc Try.prog w base (fun _ => true) true m 35 [c0] = xs[0]? := by have hh : DataW.trod enc Try.prog w base (fun _ => true) true m 35 (([c0, c1, c2].drop 0).take (Try.prog.cellsOf 35)) = xs[0]? := hf 0 _ rfl; rw [cells_u32] at hh; exact hh
  have f1 : DataW.trod enc Try.prog w base (fun _ => true) true m 22 [c1] = xs[1]? := by have hh : DataW.trod enc Try.prog w base (fun _ => true) true m 22 (([c0, c1, c2].drop 1).take (Try.prog.cellsOf 22)) = xs[1]? := hf 1 _ rfl; rw [cells_u64] at hh; exact hh
  have f2 : DataW.trod enc Try.prog w base (fun _ => true) true m 22 [c2] = xs[2]? := by have hh : DataW.trod enc Try.prog w base (fun _ => true) true m 22 (([c0, c1, c2].drop 2).take (Try.prog.cellsOf 22)) = xs[2]? := hf 2 _ rfl; rw [cells_u64] at hh; exact hh
  obtain ⟨z0, h0⟩ := hz 0 (by omega)
  obtain ⟨z1, h1⟩ := hz 1 (by omega)
  obtain ⟨z2, h2⟩ := hz 2 (by omega)
  rw [h0] at f0
  rw [h1] at f1
  rw [h2] at f2
  obtain ⟨n0, e0, _, w0⟩ := DataW.trod_int Try.underlying35 f0
  obtain ⟨n1, e1, _, w1⟩ := DataW.trod_int Try.underlying22 f1
  obtain ⟨n2, e2, _, w2⟩ := DataW.trod_int Try.underlying22 f2
  simp only [List.cons.injEq, and_true] at e0 e1 e2
  subst e0 e1 e2
  have k0 := bounds32 w0
  have k1 := boundsU w1
  have k2 := boundsU w2
  obtain ⟨q0, rfl⟩ := Int.eq_ofNat_of_zero_le k0.1
  obtain ⟨q1, rfl⟩ := Int.eq_ofNat_of_zero_le k1.1
  obtain ⟨q2, rfl⟩ := Int.eq_ofNat_of_zero_le k2.1
  exact ⟨⟨q0, q1, q2⟩, rfl, ⟨by show q0 < _; omega, by show q1 < _; omega, by show q2 < _; omega⟩⟩
theorem lies_trs (h : DataW.trod enc Try.prog w base (fun _ => true) true fuel 36 cs = some x) :
    ∃ (v : Value) (L : List T), cs = [v] ∧ Trs w v L ∧ (∀ o ∈ L, TOk o) := by
  obtain ⟨v, L, h1, h2, h3, _⟩ := lies_flat T.cells TOk 3 Try.underlying36 cells_tr (by decide) (fun n c y hh => open_tr hh) h
  exact ⟨v, L, h1, h2, h3⟩
end
end Go.Proofs.Ytdniakoedgohkaa.Dat
/- What comes in to the laws on checkpoints: one by value, a table, texts. -/
namespace Go.Proofs.Ytdniakoedgohkaa.Cps
open Go.RowKit Go.Shelf Go.ChangeShapes Go.WideShapes Go.Deep
set_option linter.unusedVariables false
set_option linter.unusedSimpArgs false
set_option maxRecDepth 100000

theorem boundsU {n : Int} (h : (Lit.int .u64 n).wf = true) : 0 ≤ n ∧ n ≤ 18446744073709551615 := by
  have h1 : IntKind.u64.min = 0 := rfl
  have h2 : IntKind.u64.max = 18446744073709551615 := rfl
  simp only [Lit.wf, Bool.and_eq_true, decide_eq_true_eq] at h
  omega
theorem cells_ch : Try.prog.cellsOf 85 = 4 := by kernel_rfl
theorem cells_u64 : Try.prog.cellsOf 22 = 1 := by kernel_rfl
theorem cells_bool : Try.prog.cellsOf 4 = 1 := by kernel_rfl
theorem cells_str : Try.prog.cellsOf 9 = 1 := by kernel_rfl
theorem list4 {α : Type} {l : List α} (h : l.length = 4) : ∃ a b c d, l = [a, b, c, d] := by
  match l, h with
  | [a, b, c, d], _ => exact ⟨a, b, c, d, rfl⟩
section
variable {H : Type} {enc : TypeId × Value → H} {w : World} {base fuel : Nat} {cs : List Value} {x : DataW H × List MemPlace}
theorem open_chk {n : Nat} {c : List Value} {y : DataW H × List MemPlace} (h : DataW.trod enc Try.prog w base (fun _ => true) true n 85 c = some y) : ∃ s : C, c = s.cells ∧ COk s := by
  obtain ⟨xs, m, _, _, hl, hxl, hf⟩ := DataW.trod_struct Try.underlying85 h
  rw [cells_ch] at hl
  obtain ⟨c0, c1, c2, c3, rfl⟩ := list4 hl
  have hxs : xs.length = 4 := by simpa using hxl
  have hz : ∀ i, i < 4 → ∃ z, xs[i]? = some z := fun i hi => ⟨xs[i]'(by omega), by simp⟩
  have f0 : DataW.trod enc Try.prog w base (fun _ => true) true m 22 [c0] = xs[0]? := by have hh : DataW.trod enc Try.prog w base (fun _ => true) true m 22 (([c0, c1, c2, c3].drop 0).take (Try.prog.cellsOf 22)) = xs[0]? := hf 0 _ rfl; rw [cells_u64] at hh; exact hh
  have f1 : DataW.trod enc Try.prog w base (fun _ => true) true m 22 [c1] = xs[1]? := by have hh : DataW.trod enc Try.prog w base (fun _ => true) true m 22 (([c0, c1, c2, c3].drop 1).take (Try.prog.cellsOf 22)) = xs[1]? := hf 1 _ rfl; rw [cells_u64] at hh; exact hh
  have f2 : DataW.trod enc Try.prog w base (fun _ => true) true m 4 [c2] = xs[2]? := by have hh : DataW.trod enc Try.prog w base (fun _ => true) true m 4 (([c0, c1, c2, c3].drop 2).take (Try.prog.cellsOf 4)) = xs[2]? := hf 2 _ rfl; rw [cells_bool] at hh; exact hh
  have f3 : DataW.trod enc Try.prog w base (fun _ => true) true m 9 [c3] = xs[3]? := by have hh : DataW.trod enc Try.prog w base (fun _ => true) true m 9 (([c0, c1, c2, c3].drop 3).take (Try.prog.cellsOf 9)) = xs[3]? := hf 3 _ rfl; rw [cells_str] at hh; exact hh
  obtain ⟨z0, h0⟩ := hz 0 (by omega)
  obtain ⟨z1, h1⟩ := hz 1 (by omega)
  obtain ⟨z2, h2⟩ := hz 2 (by omega)
  obtain ⟨z3, h3⟩ := hz 3 (by omega)
  rw [h0] at f0
  rw [h1] at f1
  rw [h2] at f2
  rw [h3] at f3
  obtain ⟨n0, e0, _, w0⟩ := DataW.trod_int Try.underlying22 f0
  obtain ⟨n1, e1, _, w1⟩ := DataW.trod_int Try.underlying22 f1
  obtain ⟨n2, e2, _⟩ := DataW.trod_bool Try.underlying4 f2
  obtain ⟨n3, e3, _, w3⟩ := DataW.trod_string Try.underlying9 f3
  simp only [List.cons.injEq, and_true] at e0 e1 e2 e3
  subst e0 e1 e2 e3
  have k0 := boundsU w0
  have k1 := boundsU w1
  obtain ⟨q0, rfl⟩ := Int.eq_ofNat_of_zero_le k0.1
  obtain ⟨q1, rfl⟩ := Int.eq_ofNat_of_zero_le k1.1
  exact ⟨⟨q0, q1, n2, n3⟩, rfl, ⟨by show q0 < _; omega, by show q1 < _; omega⟩⟩
theorem lies_chs (h : DataW.trod enc Try.prog w base (fun _ => true) true fuel 37 cs = some x) :
    ∃ (v : Value) (L : List C), cs = [v] ∧ Chs w v L ∧ (∀ o ∈ L, COk o) := by
  obtain ⟨v, L, h1, h2, h3, _⟩ := lies_flat C.cells COk 4 Try.underlying37 cells_ch (by decide) (fun n c y hh => open_chk hh) h
  exact ⟨v, L, h1, h2, h3⟩
/-- a checkpoint that came in as a parameter -/
theorem chk_arg {v : Value} {dd : DataW H} {pl : List MemPlace} {r : Reach} {b0 : Nat} (hv : Value.okWide Try.prog w r b0 85 v) (h : DataW.Trod enc Try.prog w base (fun _ => true) true 85 v dd pl) : ∃ s : C, v = s.val ∧ COk s := by
  obtain ⟨cs, rfl, hsz⟩ := okWide_struct Try.underlying85 hv
  obtain ⟨fuel, hf0⟩ := h
  have hf1 : DataW.trod enc Try.prog w base (fun _ => true) true fuel 85 cs.toList = some (dd, pl) := by simpa [Value.cells] using hf0
  clear hf0 hv
  obtain ⟨l⟩ := cs
  obtain ⟨s, e, hs⟩ := open_chk hf1
  simp only at e
  subst e
  exact ⟨s, rfl, hs⟩
end
end Go.Proofs.Ytdniakoedgohkaa.Cps
/- Roots as data: which are right, their contents, what contents are read as. They speak of no program. -/
namespace Go.Proofs.Ytdniakoedgohkaa.Root
set_option linter.unusedVariables false
set_option linter.unusedSimpArgs false

/-- a root -/
structure Q where
  cp : Nat
  tick : Nat
  dats : List Nat
  cps : List Nat
deriving DecidableEq
def Q.zero : Q := ⟨0, 0, [], []⟩
def Small (l : List Nat) : Prop := ∀ x ∈ l, x < 4294967296
/-- numbers of their types -/
structure QOk (r : Q) : Prop where
  cp : r.cp < 18446744073709551616
  tick : r.tick < 18446744073709551616
  dats : Small r.dats
  cps : Small r.cps
theorem QOk.zero : QOk Q.zero := ⟨by decide, by decide, (fun x h => by cases h), (fun x h => by cases h)⟩
def Q.all (r : Q) : List Nat := r.dats ++ r.cps
/-- the numbers of a root, apart from its blocks -/
def NumP (r : Q) : Prop := 1 ≤ r.cp ∧ r.cp < 281474976710656 ∧ r.tick < 281474976710656 ∧ (1 ≤ r.dats.length ∧ r.dats.length ≤ 60) ∧ 1 ≤ r.cps.length ∧ r.cps.length ≤ 12
def inP (x : Nat) : Prop := 16 ≤ x ∧ x < 4096
def RightP (r : Q) : Prop := NumP r ∧ (∀ x ∈ r.all, inP x) ∧ r.all.Nodup
instance (r : Q) : Decidable (NumP r) := by unfold NumP; infer_instance
instance (x : Nat) : Decidable (inP x) := by unfold inP; infer_instance
instance (r : Q) : Decidable (RightP r) := by unfold RightP; infer_instance
def rightB (r : Q) : Bool := decide (RightP r)
theorem RightP.small {r : Q} (h : RightP r) : Small r.dats ∧ Small r.cps :=
  ⟨fun x hx => Nat.lt_trans (h.2.1 x (List.mem_append_left _ hx)).2 (by decide), fun x hx => Nat.lt_trans (h.2.1 x (List.mem_append_right _ hx)).2 (by decide)⟩
theorem RightP.ok {r : Q} (h : RightP r) : QOk r := ⟨by have := h.1.2.1; omega, by have := h.1.2.2.1; omega, h.small.1, h.small.2⟩
/-- the i-th of all its blocks is another than each ahead of it -/
theorem right_iff (r : Q) : RightP r ↔ NumP r ∧ ∀ (i x : Nat), r.all[i]? = some x → inP x ∧ ∀ k : Nat, k < i → ∀ y : Nat, r.all[k]? = some y → y ≠ x := by
  unfold RightP
  refine and_congr_right fun _ => ⟨fun ⟨h1, h2⟩ i x hx => ⟨h1 x (List.mem_of_getElem? hx), fun k (hk : k < i) y hy e => ?_⟩, fun h => ⟨fun x hx => ?_, ?_⟩⟩
  · subst e
    have hi := (List.getElem?_eq_some_iff.1 hx).1
    have e2 := (List.getElem?_inj hi h2).1 (hx.trans hy.symm)
    omega
  · obtain ⟨i, hi, e⟩ := List.mem_iff_getElem.1 hx
    exact (h i x (by rw [List.getElem?_eq_getElem hi, e])).1
  · rw [List.nodup_iff_pairwise_ne, List.pairwise_iff_getElem]
    intro i j hi hj hij
    exact (h j _ (List.getElem?_eq_getElem hj)).2 i hij _ (List.getElem?_eq_getElem hi)

/-! ### contents -/
def numsB : List Nat → ByteArray
  | [] => ⟨#[]⟩
  | x :: l => numB x 4 ++ numsB l
theorem none_app (s : ByteArray) : (⟨#[]⟩ : ByteArray) ++ s = s := by
  apply ByteArray.ext
  simp
theorem numsB_size : ∀ l : List Nat, (numsB l).size = 4 * l.length
  | [] => rfl
  | x :: l => by
    show (numB x 4 ++ numsB l).size = _
    rw [ByteArray.size_append, numB_size, numsB_size l, List.length_cons]
    omega
theorem numsB_app : ∀ a b : List Nat, numsB (a ++ b) = numsB a ++ numsB b
  | [], b => (none_app _).symm
  | x :: a, b => by
    show numB x 4 ++ numsB (a ++ b) = (numB x 4 ++ numsB a) ++ numsB b
    rw [numsB_app a b, app_assoc]
theorem numsB_snoc (a : List Nat) (x : Nat) : numsB (a ++ [x]) = numsB a ++ numB x 4 := by
  rw [numsB_app]
  show numsB a ++ (numB x 4 ++ ⟨#[]⟩) = _
  rw [app_none]
def headB (r : Q) : ByteArray := numB r.cp 6 ++ numB r.tick 6 ++ numB r.dats.length 1 ++ numB r.cps.length 1
def rawB (r : Q) : ByteArray := headB r ++ numsB r.dats ++ numsB r.cps
def rotB (r : Q) : ByteArray := rawB r ++ zeros (508 - (rawB r).size)
theorem headB_size (r : Q) : (headB r).size = 14 := by
  unfold headB
  rw [ByteArray.size_append, ByteArray.size_append, ByteArray.size_append, numB_size, numB_size, numB_size, numB_size]
theorem rawB_size (r : Q) : (rawB r).size = 14 + 4 * r.dats.length + 4 * r.cps.length := by
  unfold rawB
  rw [ByteArray.size_append, ByteArray.size_append, headB_size, numsB_size, numsB_size]
theorem rotB_size {r : Q} (h : NumP r) : (rotB r).size = 508 := by
  obtain ⟨_, _, _, h1, h2⟩ := h
  unfold rotB
  rw [ByteArray.size_append, zeros_size, rawB_size]
  omega
def encS (r : Q) : ByteArray := if RightP r then rotB r else ⟨#[]⟩
def encE (r : Q) : Int := if RightP r then 0 else 153
theorem encS_yes {r : Q} (h : RightP r) : encS r = rotB r := if_pos h
theorem encS_no {r : Q} (h : ¬ RightP r) : encS r = ⟨#[]⟩ := if_neg h
theorem encE_yes {r : Q} (h : RightP r) : encE r = 0 := if_pos h
theorem encE_no {r : Q} (h : ¬ RightP r) : encE r = 153 := if_neg h

/-! ### what is read -/
/-- so many numbers of four bytes from a place on -/
def nAt (s : ByteArray) (a : Nat) : Nat → List Nat
  | 0 => []
  | n + 1 => takeN s a 4 :: nAt s (a + 4) n
theorem nAt_length (s : ByteArray) : ∀ (n a : Nat), (nAt s a n).length = n
  | 0, _ => rfl
  | n + 1, a => by simp [nAt, nAt_length s n (a + 4)]
theorem nAt_get (s : ByteArray) : ∀ (n a i : Nat), i < n → (nAt s a n)[i]? = some (takeN s (a + 4 * i) 4)
  | 0, _, _, h => by omega
  | n + 1, a, 0, _ => by simp [nAt]
  | n + 1, a, i + 1, h => by
    show (nAt s (a + 4) n)[i]? = _
    rw [nAt_get s n (a + 4) i (by omega), show a + 4 + 4 * i = a + 4 * (i + 1) by omega]
theorem nAt_small (s : ByteArray) : ∀ (n a : Nat), Small (nAt s a n)
  | 0, _ => fun x h => by cases h
  | n + 1, a => fun x h => by
    rcases List.mem_cons.1 h with rfl | h
    · exact takeN_lt s a 4
    · exact nAt_small s n (a + 4) x h
theorem nAt_snoc (s : ByteArray) : ∀ (n a : Nat), nAt s a (n + 1) = nAt s a n ++ [takeN s (a + 4 * n) 4]
  | 0, a => rfl
  | n + 1, a => by
    show takeN s a 4 :: nAt s (a + 4) (n + 1) = takeN s a 4 :: (nAt s (a + 4) n ++ _)
    rw [nAt_snoc s n (a + 4), show a + 4 + 4 * n = a + 4 * (n + 1) by omega]
theorem take_mid (p q : ByteArray) (n k : Nat) (h : n < 256 ^ k) : takeN (p ++ numB n k ++ q) p.size k = n := by
  have e := takeN_back p n k h
  rw [← e]
  rw [e]
  refine (takeN_congr _ (p ++ numB n k) _ p.size k fun i hi => ?_).trans e
  exact sb_left _ _ _ (by rw [ByteArray.size_append, numB_size]; omega)
theorem sb_take (s : ByteArray) (a : Nat) : takeN s a 1 = sb s a := by
  rw [takeN_front s a 0]
  show sb s a + 256 * 0 = _
  omega
theorem sb_mid (p q : ByteArray) (n : Nat) (h : n < 256) : sb (p ++ numB n 1 ++ q) p.size = n := by
  rw [← sb_take]
  exact take_mid p q n 1 (by omega)
theorem nAt_mid (q : ByteArray) : ∀ (l : List Nat) (p : ByteArray), Small l → nAt (p ++ numsB l ++ q) p.size l.length = l
  | [], _, _ => rfl
  | x :: l, p, h => by
    have hx : x < 256 ^ 4 := h x (List.mem_cons_self ..)
    have e : p ++ numsB (x :: l) ++ q = (p ++ numB x 4) ++ numsB l ++ q := by
      show p ++ (numB x 4 ++ numsB l) ++ q = _
      rw [app_assoc p]
    have e2 : p ++ numsB (x :: l) ++ q = p ++ numB x 4 ++ (numsB l ++ q) := by rw [e, app_assoc (p ++ numB x 4)]
    show takeN _ p.size 4 :: nAt _ (p.size + 4) l.length = x :: l
    have h1 : takeN (p ++ numsB (x :: l) ++ q) p.size 4 = x := by rw [e2]; exact take_mid p _ x 4 hx
    have h2 : nAt (p ++ numsB (x :: l) ++ q) (p.size + 4) l.length = l := by
      rw [e]
      have hs : p.size + 4 = (p ++ numB x 4).size := by rw [ByteArray.size_append, numB_size]
      rw [hs]
      exact nAt_mid q l _ fun y hy => h y (List.mem_cons_of_mem _ hy)
    rw [h1, h2]
def rd (s : ByteArray) : Q := ⟨takeN s 0 6, takeN s 6 6, nAt s 14 (sb s 12), nAt s (14 + 4 * sb s 12) (sb s 13)⟩
theorem rd_rot {r : Q} (h : RightP r) : rd (rotB r) = r := by
  obtain ⟨cp, tick, D, C⟩ := r
  obtain ⟨⟨_, h2, h3, ⟨_, h4⟩, _, h5⟩, _⟩ := id h
  obtain ⟨hD, hC⟩ := h.small
  dsimp only at h2 h3 h4 h5 hD hC
  obtain ⟨z, hz⟩ : ∃ z, zeros (508 - (rawB ⟨cp, tick, D, C⟩).size) = z := ⟨_, rfl⟩
  have e0 : rotB ⟨cp, tick, D, C⟩ = numB cp 6 ++ numB tick 6 ++ numB D.length 1 ++ numB C.length 1 ++ numsB D ++ numsB C ++ z := by rw [← hz]; rfl
  rw [e0]
  have s1 : (numB cp 6 ++ numB tick 6).size = 12 := by rw [ByteArray.size_append, numB_size, numB_size]
  have s2 : (numB cp 6 ++ numB tick 6 ++ numB D.length 1).size = 13 := by rw [ByteArray.size_append, s1, numB_size]
  have s3 : (numB cp 6 ++ numB tick 6 ++ numB D.length 1 ++ numB C.length 1).size = 14 := by rw [ByteArray.size_append, s2, numB_size]
  have s4 : (numB cp 6 ++ numB tick 6 ++ numB D.length 1 ++ numB C.length 1 ++ numsB D).size = 14 + 4 * D.length := by rw [ByteArray.size_append, s3, numsB_size]
  have a1 : takeN (numB cp 6 ++ numB tick 6 ++ numB D.length 1 ++ numB C.length 1 ++ numsB D ++ numsB C ++ z) 0 6 = cp := by
    have := take_mid ⟨#[]⟩ (numB tick 6 ++ numB D.length 1 ++ numB C.length 1 ++ numsB D ++ numsB C ++ z) cp 6 (by omega)
    rw [none_app] at this
    simp only [← app_assoc] at this ⊢
    exact this
  have a2 : takeN (numB cp 6 ++ numB tick 6 ++ numB D.length 1 ++ numB C.length 1 ++ numsB D ++ numsB C ++ z) 6 6 = tick := by
    have := take_mid (numB cp 6) (numB D.length 1 ++ numB C.length 1 ++ numsB D ++ numsB C ++ z) tick 6 (by omega)
    rw [numB_size] at this
    simp only [← app_assoc] at this ⊢
    exact this
  have a3 : sb (numB cp 6 ++ numB tick 6 ++ numB D.length 1 ++ numB C.length 1 ++ numsB D ++ numsB C ++ z) 12 = D.length := by
    have := sb_mid (numB cp 6 ++ numB tick 6) (numB C.length 1 ++ numsB D ++ numsB C ++ z) D.length (by omega)
    rw [s1] at this
    simp only [← app_assoc] at this ⊢
    exact this
  have a4 : sb (numB cp 6 ++ numB tick 6 ++ numB D.length 1 ++ numB C.length 1 ++ numsB D ++ numsB C ++ z) 13 = C.length := by
    have := sb_mid (numB cp 6 ++ numB tick 6 ++ numB D.length 1) (numsB D ++ numsB C ++ z) C.length (by omega)
    rw [s2] at this
    simp only [← app_assoc] at this ⊢
    exact this
  have a5 : nAt (numB cp 6 ++ numB tick 6 ++ numB D.length 1 ++ numB C.length 1 ++ numsB D ++ numsB C ++ z) 14 D.length = D := by
    have := nAt_mid (numsB C ++ z) D (numB cp 6 ++ numB tick 6 ++ numB D.length 1 ++ numB C.length 1) hD
    rw [s3] at this
    simp only [← app_assoc] at this ⊢
    exact this
  have a6 : nAt (numB cp 6 ++ numB tick 6 ++ numB D.length 1 ++ numB C.length 1 ++ numsB D ++ numsB C ++ z) (14 + 4 * D.length) C.length = C := by
    have := nAt_mid z C (numB cp 6 ++ numB tick 6 ++ numB D.length 1 ++ numB C.length 1 ++ numsB D) hC
    rw [s4] at this
    exact this
  unfold rd
  rw [a1, a2, a3, a4, a5, a6]
theorem rot_inj {a b : Q} (ha : RightP a) (hb : RightP b) (h : rotB a = rotB b) : a = b := by rw [← rd_rot ha, h, rd_rot hb]
/-- a content -/
def DecP (s : ByteArray) : Prop := s.size = 508 ∧ RightP (rd s) ∧ rotB (rd s) = s
instance (s : ByteArray) : Decidable (DecP s) := by unfold DecP; infer_instance
def decV (s : ByteArray) : Q := if DecP s then rd s else Q.zero
def decE (s : ByteArray) : Int := if DecP s then 0 else 153
theorem decV_yes {s : ByteArray} (h : DecP s) : decV s = rd s := if_pos h
theorem decV_no {s : ByteArray} (h : ¬ DecP s) : decV s = Q.zero := if_neg h
theorem decE_yes {s : ByteArray} (h : DecP s) : decE s = 0 := if_pos h
theorem decE_no {s : ByteArray} (h : ¬ DecP s) : decE s = 153 := if_neg h
theorem dec_rot {r : Q} (h : RightP r) : DecP (rotB r) ∧ decV (rotB r) = r := by
  have e := rd_rot h
  have hd : DecP (rotB r) := ⟨rotB_size h.1, by rw [e]; exact h, by rw [e]⟩
  exact ⟨hd, by rw [decV_yes hd, e]⟩
theorem decP_iff {s : ByteArray} : DecP s ↔ ∃ r, RightP r ∧ rotB r = s := ⟨fun h => ⟨_, h.2.1, h.2.2⟩, fun ⟨r, h, e⟩ => by rw [← e]; exact (dec_rot h).1⟩
theorem dec_ok (s : ByteArray) : QOk (decV s) := by
  by_cases h : DecP s
  · rw [decV_yes h]; exact h.2.1.ok
  · rw [decV_no h]; exact QOk.zero
theorem not_zero : ¬ RightP Q.zero := fun h => absurd h.1.1 (by decide)

/-! ### what the laws ask -/
theorem twice_not {r : Q} {x : Nat} (h : r.cps[0]? = some x) : ¬ RightP ⟨r.cp, r.tick, r.dats ++ [x], r.cps⟩ := fun hr => by
  have h1 : (r.dats ++ [x] ++ r.cps).Nodup := hr.2.2
  have h2 := (List.nodup_append.1 h1).2.2 x (by simp) x (List.mem_of_getElem? h)
  exact h2 rfl
theorem less_iff {r : Q} (h : RightP r) : RightP ⟨r.cp, r.tick, r.dats.tail, r.cps⟩ ↔ 1 < r.dats.length := by
  obtain ⟨⟨h1, h2, h3, h4, h5⟩, h6, h7⟩ := h
  have ht : r.dats.tail.length = r.dats.length - 1 := List.length_tail
  refine ⟨fun hr => ?_, fun hl => ⟨⟨h1, h2, h3, ?_, h5⟩, fun x hx => ?_, ?_⟩⟩
  · have : 1 ≤ r.dats.tail.length := hr.1.2.2.2.1.1
    omega
  · show 1 ≤ r.dats.tail.length ∧ r.dats.tail.length ≤ 60
    omega
  · refine h6 x ?_
    have hx : x ∈ r.dats.tail ++ r.cps := hx
    rcases List.mem_append.1 hx with hx | hx
    · exact List.mem_append_left _ (List.mem_of_mem_tail hx)
    · exact List.mem_append_right _ hx
  · show (r.dats.tail ++ r.cps).Nodup
    have h7 : (r.dats ++ r.cps).Nodup := h7
    refine h7.sublist ?_
    exact (List.tail_sublist r.dats).append_right r.cps
end Go.Proofs.Ytdniakoedgohkaa.Root
