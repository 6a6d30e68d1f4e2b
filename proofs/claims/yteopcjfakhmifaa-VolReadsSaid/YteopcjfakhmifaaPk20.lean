/- Several texts in one, each under its own heading. -/
import Derived.Test.YteopcjfakhmifaaPk19
import Derived.Test.YteopcjfakhmifaaPk07
/- Encode of the program. -/
namespace Go.Proofs.Yteopcjfakhmifaa.Ino
open Go.RowKit Go.Shelf
attribute [local go_sem] Oper.semAt_some
set_option linter.unusedVariables false
set_option linter.unusedSimpArgs false

/-- a region's plain walk holds in a round, too -/
theorem wpIn_round_any {P : Program} {ops : Array Oper} {Q : Exit → Act → World → Prop} {id l0 nF : Nat} {a : Act} {w : World} (hm : P.follows .mixedOrders = true) (hd : noDefer ops = true) (hQ : ¬ LetsOut Q)
    (h : wpAny P .any ops Q ops.size (Array.replicate ops.size false) a w.drew) : (Code.region id ops true).wpIn (Fence.wide.inRound l0) nF P Q a w := wpIn_region_any hm (anyIn_of_any hd hQ _ _ _ _ h)
/-- a text in a block that is new -/
structure SBox (wr W : World) (b : Nat) (s : ByteArray) : Prop where
  le : wr.heap.size ≤ b
  at_ : W.heap[b]? = some (.cells #[.string s] 9 (0, 0))
  below : Below wr.heap.size wr W
theorem SBox.new {wr w : World} (h : Below wr.heap.size wr w) (s : ByteArray) : SBox wr (w.alloc (.cells #[.string s] 9)) w.heap.size s := ⟨h.size, World.alloc_heap_new w _, below_al h _⟩
theorem SBox.th {wr W W' : World} {b : Nat} {s : ByteArray} (h : SBox wr W b s) (hB : Below W.heap.size W W') : SBox wr W' b s := ⟨h.le, (hB.block b (Array.getElem?_eq_some_iff.1 h.at_).1).trans h.at_, below_th h.below hB⟩
theorem SBox.drew {wr W : World} {b : Nat} {s : ByteArray} (h : SBox wr W b s) : SBox wr W.drew b s := ⟨h.le, h.at_, h.below.drew⟩
theorem SBox.put {wr W : World} {b : Nat} {s : ByteArray} (h : SBox wr W b s) (t : ByteArray) : SBox wr (W.setCell ⟨b, 0, none⟩ (.string t)) b t :=
  ⟨h.le, heap_setCell_same W b 0 _ _ (.string t) h.at_, h.below.setCell (p := ⟨b, 0, none⟩) h.le _⟩
theorem SBox.c {wr W : World} {b : Nat} {s : ByteArray} (h : SBox wr W b s) : W.cell? ⟨b, 0, none⟩ = some (.string s) := by
  simp only [World.cell?, h.at_]; rfl
theorem SBox.f {wr W : World} {b : Nat} {s : ByteArray} (h : SBox wr W b s) (i : Nat) : W.frozen? ⟨b, i, none⟩ = false := by
  simp [World.frozen?, h.at_]

/-- what has been encoded behind k numbers -/
def EncI (W0 : World) (wk : Nat → ByteArray) (s : Nat) (k : Nat) (W : World) : Prop := Only (fun i => i = s) W0 W ∧ W.heap[s]? = some (.cells #[.string (wk k)] 9 (0, 0))
theorem encI_own {W0 : World} {wk : Nat → ByteArray} {s : Nat} : OwnFrom W0.heap.size (EncI W0 wk s) := fun k W W' row hI hg hr =>
  ⟨hI.1.grown hg (fun r e => .inl (hr r e).1), kept_cells hI.2 hg hr⟩
/-- a frame of the rounds -/
def ActA (sl : Nat → List Value) (k : Nat) (a' : Act) (_ : World) : Prop := a' = { tmps := (sl k).toArray, defers := [] }
theorem actA_own {sl : Nat → List Value} {B : Nat} (k : Nat) (a' : Act) : OwnFrom B (fun (_ : Unit) W => ActA sl k a' W) := fun _ _ _ _ h _ _ => h
theorem results_two {fn : Func} {r t : Tmp} (h : fn.results = #[.tmp r, .tmp t]) (tmps : Array Value) (w : World) : (results fn tmps).run Try.prog w = .ok (.tuple #[tmps.getD r undef, tmps.getD t undef]) w := by
  simp [results, h, go_sem]

section
set_option maxRecDepth 100000
set_option maxHeartbeats 4000000
theorem iput_any (n : Nat) (k : Nat) (w : World) (hn : n < 256 ^ k) (h1 : 1 ≤ k) (h2 : k ≤ 8) : Calls Try.prog 79 #[.int .u64 n, .int .i64 k] w fun e w' => e = .returned (.string (numB n k)) ∧ Below w.heap.size w w' := by
  have hok : putOk n k := ⟨by omega, by omega, by simpa using hn⟩
  have hp := put_any n k w (Nat.lt_of_lt_of_le hn (Nat.pow_le_pow_right (by decide) h2))
  rw [putS_yes hok, putE_yes hok, Int.toNat_natCast] at hp
  clear hok hn
  go_enter Try.func79, Try.ntmps79
  go_wp2_with (go_at_call 84; refine hp.mono ?_; rintro e w' ⟨rfl, hB⟩)
  go_ret
  exact ⟨rfl, hB⟩
theorem encode_no (n : I) (hn : IOk n) (w : World) (h : ¬ RightP n) : Calls Try.prog 74 #[n.val] w (Ans w (.tuple #[.string (encS n), .int .i64 (encE n)])) := by
  have HS := Lib.hid (encS_no h)
  have HE := Lib.hid (encE_no h)
  have hr := fun W => right_any n hn W
  rw [rightB_no h] at hr
  have HB := below_new w (boxO n)
  unfold boxO at HB
  unfold I.val at hr ⊢
  clear h hn
  go_enter Try.func74, Try.ntmps74
  go_wp2_with (go_at_call 45; refine (hr _).mono ?_; rintro e w' ⟨rfl, hB⟩)
  go_ret2
  exact ⟨by rw [HS.out, HE.out]; rfl, below_th HB hB⟩
theorem encode_in (kk mode links size time dd : Nat) (m : M) (n : I) (hI : n = ⟨kk, mode, links, size, time, dd, m⟩) (hn : IOk n) (hr : RightP n) (w : World) :
    CallsIn Fence.wide 9 Try.prog 74 #[n.val] w (Ans w (.tuple #[.string (encS n), .int .i64 (encE n)])) := by
  have hfn : ∀ f, Fence.wide.fn f := fun _ => trivial
  have hmix : Try.prog.follows .mixedOrders = true := by kernel_rfl
  have hF := Fits.of hr hn
  have hR := fun W => right_any n hn W
  rw [rightB_yes hr] at hR
  rw [encS_yes hr, encE_yes hr]
  have hfo : fitOk (whole n) 42 := by
    unfold fitOk
    rw [whole_size]
    omega
  have hfit := fun W => fit_any (whole n) 42 W (by rw [whole_size]; omega)
  rw [fitS_yes hfo, fitE_yes hfo] at hfit
  have hby : bytes n = whole n ++ zeros ((42 : Int).toNat - (whole n).size) := by rw [whole_size]; rfl
  rw [← hby] at hfit
  have HFIT := Lib.hid hfit
  have HW6 : Hid (whole n = wholeK n 6) := rfl
  have HWS : Hid (∀ k, wholeK n (k + 1) = wholeK n k ++ numB (m.at' k) 4) := fun k => by rw [hI]; rfl
  have HWZ := Lib.hid (fun k => wholeK_size n k)
  have hsaid : wholeK n 0 = numB kk 1 ++ numB mode 2 ++ numB links 2 ++ numB size 4 ++ numB time 6 ++ numB dd 1 := by rw [hI]; rfl
  obtain ⟨wk, hwk⟩ : ∃ wk, wholeK n = wk := ⟨_, rfl⟩
  rw [hwk] at HW6 HWS HWZ hsaid
  rw [HW6.out] at HFIT
  obtain ⟨by_, hby_⟩ : ∃ x, bytes n = x := ⟨_, rfl⟩
  rw [hby_] at HFIT ⊢
  have hA := At.new w n
  have hB := below_new w (boxO n)
  clear hfit hby hfo hwk hby_ HW6
  subst hI
  obtain ⟨f1, f2, f3, f4, f5, f6, fm⟩ := hF
  dsimp only at f1 f2 f3 f4 f5 f6 fm
  have HMO := Lib.hid fm
  unfold I.val at hR ⊢
  unfold boxO at hA hB
  dsimp only at hR hA hB ⊢
  have HR := Lib.hid hR
  have w1 : IntKind.u64.wrap (kk : Int) = kk := by rw [IntKind.wrap_u64]; omega
  have w2 : IntKind.u64.wrap (mode : Int) = mode := by rw [IntKind.wrap_u64]; omega
  have w3 : IntKind.u64.wrap (links : Int) = links := by rw [IntKind.wrap_u64]; omega
  have w4 : IntKind.u64.wrap (size : Int) = size := by rw [IntKind.wrap_u64]; omega
  have w6 : IntKind.u64.wrap (dd : Int) = dd := by rw [IntKind.wrap_u64]; omega
  have e1 : (256 : Nat) ^ 1 = 256 := by decide
  have e2 : (256 : Nat) ^ 2 = 65536 := by decide
  have e4 : (256 : Nat) ^ 4 = 4294967296 := by decide
  have e6 : (256 : Nat) ^ 6 = 281474976710656 := by decide
  have P1 := Lib.hid (fun W => iput_any kk 1 W (by omega) (by omega) (by omega))
  have P2 := Lib.hid (fun W => iput_any mode 2 W (by omega) (by omega) (by omega))
  have P3 := Lib.hid (fun W => iput_any links 2 W (by omega) (by omega) (by omega))
  have P4 := Lib.hid (fun W => iput_any size 4 W (by omega) (by omega) (by omega))
  have P5 := Lib.hid (fun W => iput_any time 6 W (by omega) (by omega) (by omega))
  have P6 := Lib.hid (fun W => iput_any dd 1 W (by omega) (by omega) (by omega))
  obtain ⟨B1, hB1⟩ : ∃ x, numB kk 1 = x := ⟨_, rfl⟩
  have z1 : B1.size = 1 := by rw [← hB1, numB_size]
  obtain ⟨B2, hB2⟩ : ∃ x, numB mode 2 = x := ⟨_, rfl⟩
  have z2 : B2.size = 2 := by rw [← hB2, numB_size]
  obtain ⟨B3, hB3⟩ : ∃ x, numB links 2 = x := ⟨_, rfl⟩
  have z3 : B3.size = 2 := by rw [← hB3, numB_size]
  obtain ⟨B4, hB4⟩ : ∃ x, numB size 4 = x := ⟨_, rfl⟩
  have z4 : B4.size = 4 := by rw [← hB4, numB_size]
  obtain ⟨B5, hB5⟩ : ∃ x, numB time 6 = x := ⟨_, rfl⟩
  have z5 : B5.size = 6 := by rw [← hB5, numB_size]
  obtain ⟨B6, hB6⟩ : ∃ x, numB dd 1 = x := ⟨_, rfl⟩
  have z6 : B6.size = 1 := by rw [← hB6, numB_size]
  simp only [hB1, hB2, hB3, hB4, hB5, hB6] at P1 P2 P3 P4 P5 P6 hsaid
  have hadd1 := fun W => run_string_add_sum (P := Try.prog) (w := W) B1 B2 (by omega)
  have hadd2 := fun W => run_string_add_sum (P := Try.prog) (w := W) (B1 ++ B2) B3 (by simp only [ByteArray.size_append]; omega)
  have hadd3 := fun W => run_string_add_sum (P := Try.prog) (w := W) (B1 ++ B2 ++ B3) B4 (by simp only [ByteArray.size_append]; omega)
  have hadd4 := fun W => run_string_add_sum (P := Try.prog) (w := W) (B1 ++ B2 ++ B3 ++ B4) B5 (by simp only [ByteArray.size_append]; omega)
  have hadd5 := fun W => run_string_add_sum (P := Try.prog) (w := W) (B1 ++ B2 ++ B3 ++ B4 ++ B5) B6 (by simp only [ByteArray.size_append]; omega)
  clear hB1 hB2 hB3 hB4 hB5 hB6 f1 f2 f3 f4 f5 f6 fm e1 e2 e4 e6 hR hn hr
  refine callsIn_of_wp_marks Try.func74 rfl trivial ?_ rfl
  simp only [Try.ntmps74, List.size_toArray, List.length_cons, List.length_nil, Nat.reduceAdd, Nat.reduceSub, Array.replicate_succ, Array.replicate_zero, List.push_toArray, List.append_toArray, List.nil_append, List.cons_append]
  gi_wp2_with (first
    | (gi_at_call 45; refine (callsIn_wide.2 (HR.out _)).mono ?_; rintro e W1 ⟨rfl, hB1⟩))
  have hA1 := hA.th hB1
  have hBw1 := below_th hB hB1
  obtain ⟨c0, c1, c2, c3, c4, c5, c6, c7, c8, c9, c10, c11⟩ := hA1.c
  dsimp only at c0 c1 c2 c3 c4 c5 c6 c7 c8 c9 c10 c11
  have HC : Hid (∀ W, Below W1.heap.size W1 W → W.cell? ⟨w.heap.size, 0, none⟩ = some (.int .i64 (kk : Int)) ∧ W.cell? ⟨w.heap.size, 1, none⟩ = some (.int .u16 (mode : Int)) ∧ W.cell? ⟨w.heap.size, 2, none⟩ = some (.int .u16 (links : Int)) ∧ W.cell? ⟨w.heap.size, 3, none⟩ = some (.int .u32 (size : Int)) ∧ W.cell? ⟨w.heap.size, 4, none⟩ = some (.int .u64 (time : Int)) ∧ W.cell? ⟨w.heap.size, 5, none⟩ = some (.int .i64 (dd : Int))) := fun W hW => by
    obtain ⟨a0, a1, a2, a3, a4, a5, _⟩ := (hA1.th hW).c
    exact ⟨a0, a1, a2, a3, a4, a5⟩
  have HA1 := Lib.hid hA1
  have HBw1 := Lib.hid hBw1
  have hself : Below W1.heap.size W1 W1 := Below.refl _ _
  have hself2 : Below W1.heap.size W1 W1.drew := hself.drew
  clear hA hB hB1 hA1 hBw1
  refine wpIn_wide.2 ?_
  refine Code.wp_mono (Q := fun e a' w' => e = .normal ∧ ∃ Bx, SBox W1 w' Bx (B1 ++ B2 ++ B3 ++ B4 ++ B5 ++ B6) ∧ a' = { tmps := #[.agg #[.int .i64 kk, .int .u16 mode, .int .u16 links, .int .u32 size, .int .u64 time, .int .i64 dd, .int .u32 m.a, .int .u32 m.b, .int .u32 m.c, .int .u32 m.d, .int .u32 m.e, .int .u32 m.f], .pointer (some ⟨w.heap.size, 0, none⟩), .string ⟨#[]⟩, .int .i64 0, .pointer (some ⟨Bx, 0, none⟩), undef, undef, .agg #[.int .i64 kk, .int .u16 mode, .int .u16 links, .int .u32 size, .int .u64 time, .int .i64 dd, .int .u32 m.a, .int .u32 m.b, .int .u32 m.c, .int .u32 m.d, .int .u32 m.e, .int .u32 m.f], .bool true, .bool false, .pointer (some ⟨w.heap.size, 0, none⟩), .int .i64 kk, .int .u64 kk, .string B1, .pointer (some ⟨w.heap.size, 1, none⟩), .int .u16 mode, .int .u64 mode, .string B2, .string (B1 ++ B2), .pointer (some ⟨w.heap.size, 2, none⟩), .int .u16 links, .int .u64 links, .string B3, .string (B1 ++ B2 ++ B3), .pointer (some ⟨w.heap.size, 3, none⟩), .int .u32 size, .int .u64 size, .string B4, .string (B1 ++ B2 ++ B3 ++ B4), .pointer (some ⟨w.heap.size, 4, none⟩), .int .u64 time, .string B5, .string (B1 ++ B2 ++ B3 ++ B4 ++ B5), .pointer (some ⟨w.heap.size, 5, none⟩), .int .i64 dd, .int .u64 dd, .string B6, .string (B1 ++ B2 ++ B3 ++ B4 ++ B5 ++ B6), undef, undef, undef, undef, undef, undef, undef, undef, undef, undef, undef, undef, undef, undef], defers := [] }) ?imp ?_
  case imp =>
    rintro e a' w1 ⟨rfl, Bx, hBX, rfl⟩
    obtain ⟨_, _, _, _, _, _, d6, d7, d8, d9, d10, d11⟩ := (HA1.out.th hBX.below).c
    dsimp only at d6 d7 d8 d9 d10 d11
    have hbx := hBX.at_
    have hble := hBX.le
    have hbw := hBX.below
    have hbl : Bx < w1.heap.size := (Array.getElem?_eq_some_iff.1 hbx).1
    rw [← hsaid] at hbx
    have HAA := Lib.hid (show w.heap.size < W1.heap.size from HA1.out.lt)
    have HSAID := Lib.hid hsaid
    clear hBX hself hself2 c0 c1 c2 c3 c4 c5 c6 c7 c8 c9 c10 c11 hsaid
    dsimp only
    gi_wp2_with (gi_at_call 78; refine (numbers_in _ m _).mono ?_; rintro e w' ⟨rfl, rfl⟩)
    unfold boxM
    obtain ⟨W0, hW0⟩ : ∃ W0, w1.alloc (.cells #[.int .u32 m.a, .int .u32 m.b, .int .u32 m.c, .int .u32 m.d, .int .u32 m.e, .int .u32 m.f] 39) = W0 := ⟨_, rfl⟩
    obtain ⟨s0, hs⟩ : ∃ s, w1.heap.size = s := ⟨_, rfl⟩
    have hs0 : W0.heap.size = s0 + 1 := by rw [← hW0, ← hs]; simp
    have hb4 : AtM W0 s0 m := by rw [← hW0, ← hs]; exact AtM.new w1 m
    have hbx0 : W0.heap[Bx]? = some (.cells #[.string (wk 0)] 9 (0, 0)) := by rw [← hW0]; exact (Below.heap_alloc _ _ _ hbl).trans hbx
    have hBW : Below w.heap.size w W0 := by rw [← hW0]; exact below_al (below_th HBw1.out hbw) _
    have hsq := numbers_steps _ m W0 hb4
    have hwB : w.heap.size ≤ Bx := by have := HAA.out; omega
    clear hb4 hbx hbw
    rw [hW0, hs]
    rw [hs] at hbl
    refine wpIn_rangeFunc_steps rfl (by decide) (gf := 83) (lb := #[.pointer (some ⟨s0, 0, none⟩)]) rfl trivial (enters_of Try.func83 (by kernel_rfl) rfl)
      hsq any_t any_b (Below.refl _ _) (fun k => rfl)
      (EncI W0 wk Bx) (fun c k W => False) encI_own (fun c k W W' row hI hg hr => hI) ⟨Only.refl _ _, hbx0⟩
      (ActA (fun k => [.agg #[.int .i64 kk, .int .u16 mode, .int .u16 links, .int .u32 size, .int .u64 time, .int .i64 dd, .int .u32 m.a, .int .u32 m.b, .int .u32 m.c, .int .u32 m.d, .int .u32 m.e, .int .u32 m.f], .pointer (some ⟨w.heap.size, 0, none⟩), .string ⟨#[]⟩, .int .i64 0, .pointer (some ⟨Bx, 0, none⟩), undef, .int .u32 (m.at' k), .agg #[.int .i64 kk, .int .u16 mode, .int .u16 links, .int .u32 size, .int .u64 time, .int .i64 dd, .int .u32 m.a, .int .u32 m.b, .int .u32 m.c, .int .u32 m.d, .int .u32 m.e, .int .u32 m.f], .bool true, .bool false, .pointer (some ⟨w.heap.size, 0, none⟩), .int .i64 kk, .int .u64 kk, .string B1, .pointer (some ⟨w.heap.size, 1, none⟩), .int .u16 mode, .int .u64 mode, .string B2, .string (B1 ++ B2), .pointer (some ⟨w.heap.size, 2, none⟩), .int .u16 links, .int .u64 links, .string B3, .string (B1 ++ B2 ++ B3), .pointer (some ⟨w.heap.size, 3, none⟩), .int .u32 size, .int .u64 size, .string B4, .string (B1 ++ B2 ++ B3 ++ B4), .pointer (some ⟨w.heap.size, 4, none⟩), .int .u64 time, .string B5, .string (B1 ++ B2 ++ B3 ++ B4 ++ B5), .pointer (some ⟨w.heap.size, 5, none⟩), .int .i64 dd, .int .u64 dd, .string B6, .string (B1 ++ B2 ++ B3 ++ B4 ++ B5 ++ B6), .pointer (some ⟨w.heap.size, 6, none⟩), .agg #[.int .u32 m.a, .int .u32 m.b, .int .u32 m.c, .int .u32 m.d, .int .u32 m.e, .int .u32 m.f], .func (.func 83) #[] #[.pointer (some ⟨s0, 0, none⟩)], .int .i64 k, .int .u32 (m.at' k), undef, undef, undef, undef, undef, undef, undef, undef, undef])) (fun k a' => actA_own k a') ?assign ?body ?done ?stop
    case assign =>
      intro l k W K hI hk hK
      have HK := Lib.hid (hK _ _ (KeepsFrom.refl _ _) trivial hI rfl)
      unfold encM
      clear hK hI hsq
      dsimp only at HK
      gi_wp2
      exact HK.out
    case body =>
      rintro l k a' W hl hrec ⟨hon, hc⟩ rfl hk
      have hsz := hon.size
      have hx4 := at_lt HMO.out k
      have hPk := fun W => iput_any (m.at' k) 4 W (by rw [show (256 : Nat) ^ 4 = 4294967296 by decide]; exact hx4) (by omega) (by omega)
      have hS := HWS.out k
      have hz := HWZ.out k
      obtain ⟨x, hx⟩ : ∃ x, m.at' k = x := ⟨_, rfl⟩
      obtain ⟨st, hst⟩ : ∃ st, wk k = st := ⟨_, rfl⟩
      obtain ⟨q, hq⟩ : ∃ q, wk (k + 1) = q := ⟨_, rfl⟩
      rw [hx] at hx4 hPk hS
      rw [hst] at hS hz hc
      rw [hq] at hS
      have hwx : IntKind.u64.wrap (x : Int) = x := by rw [IntKind.wrap_u64]; omega
      obtain ⟨Bk, hBk⟩ : ∃ Bk, numB x 4 = Bk := ⟨_, rfl⟩
      have hzk : Bk.size = 4 := by rw [← hBk, numB_size]
      rw [hBk] at hPk hS
      have hadd := fun W => run_string_add_sum (P := Try.prog) (w := W) st Bk (by omega)
      have HPk := Lib.hid hPk
      have hself : Below W.heap.size W W.drew := (Below.refl _ _).drew
      have HC : Hid (∀ W2, Below W.heap.size W W2 → W2.cell? ⟨Bx, 0, none⟩ = some (.string st) ∧ W2.frozen? ⟨Bx, 0, none⟩ = false ∧ KeepsFrom W0.heap.size W (W2.setCell ⟨Bx, 0, none⟩ (.string (st ++ Bk))) ∧ Any W (W2.setCell ⟨Bx, 0, none⟩ (.string (st ++ Bk))) ∧ EncI W0 wk Bx (k + 1) (W2.setCell ⟨Bx, 0, none⟩ (.string (st ++ Bk)))) := fun W2 h2 => by
        have hc2 : W2.heap[Bx]? = some (.cells #[.string st] 9 (0, 0)) := (h2.block Bx (Array.getElem?_eq_some_iff.1 hc).1).trans hc
        have ho : Only (fun i => i = Bx) W (W2.setCell ⟨Bx, 0, none⟩ (.string (st ++ Bk))) := (Only.of_below h2 : Only (fun i => i = Bx) W W2).setCell (p := ⟨Bx, 0, none⟩) (.inr (show Bx = Bx from rfl)) _
        refine ⟨by simp only [World.cell?, hc2]; rfl, by simp [World.frozen?, hc2], keeps_of_only _ ho (fun j hj => by cases hj; exact ⟨_, _, _, hc⟩), trivial, hon.step ho (fun i _ hi => hi), ?_⟩
        rw [hq, hS]
        exact heap_setCell_same W2 Bx 0 _ _ (.string (st ++ Bk)) hc2
      obtain ⟨d0, _⟩ := HC.out _ hself
      clear hon hc hsq hrec hS hq hBk hPk hbx0 hst
      dsimp only
      simp only [hx]
      clear hx
      gi_wp2
      refine wpIn_round_any (by kernel_rfl) (by kernel_rfl) (by rintro ⟨_, _, hh⟩; exact hh) ?_
      refine wpAny_take (i := 1) (v := .int .u32 (x : Int)) rfl (by kernel_rfl) (by kernel_rfl) (by kernel_rfl) (fun _ _ _ h => h) (Or.inl ⟨by rfl, by intro w; go_simp⟩) ?_
      refine wpAny_take (i := 2) (v := .int .u64 (x : Int)) rfl (by kernel_rfl) (by kernel_rfl) (by kernel_rfl) (fun _ _ _ h => h) (Or.inl ⟨by rfl, by intro w; go_simp⟩) ?_
      refine wpAny_ready (rs := [0, 3]) (by kernel_rfl) (by simp) ?_
      refine AllReady.cons rfl (fun K hK => ?_) (AllReady.cons rfl (fun K hK => ?_) AllReady.nil)
      · go_simp
        refine hK _ _ ?_
        clear hK K
        refine wpAny_ready (rs := [3]) (by kernel_rfl) (by simp) ?_
        refine AllReady.cons rfl (fun K hK => ?_) AllReady.nil
        go_simp
        go_at_call 79
        (with_reducible refine Calls.mono (HPk.out _) ?_)
        rintro e w2 ⟨rfl, hB2⟩
        obtain ⟨q1, q2, q3⟩ := HC.out _ (below_th hself hB2)
        have HQ3 := Lib.hid q3
        clear q3
        try go_simp
        refine hK _ _ ?_
        clear hK K
        refine wpAny_ready (rs := [4]) (by kernel_rfl) (by simp) ?_
        refine AllReady.cons rfl (fun K hK => ?_) AllReady.nil
        go_simp
        refine hK _ _ ?_
        clear hK K
        refine wpAny_ready (rs := [5]) (by kernel_rfl) (by simp) ?_
        refine AllReady.cons rfl (fun K hK => ?_) AllReady.nil
        go_simp
        refine hK _ _ ?_
        clear hK K
        refine wpAny_done (by kernel_rfl) ?_ _
        exact HQ3.out
      · go_simp
        go_at_call 79
        (with_reducible refine Calls.mono (HPk.out _) ?_)
        rintro e w2 ⟨rfl, hB2⟩
        obtain ⟨q1, q2, q3⟩ := HC.out _ (below_th hself hB2)
        have HQ3 := Lib.hid q3
        clear q3
        try go_simp
        refine hK _ _ ?_
        clear hK K
        refine wpAny_ready (rs := [0]) (by kernel_rfl) (by simp) ?_
        refine AllReady.cons rfl (fun K hK => ?_) AllReady.nil
        go_simp
        refine hK _ _ ?_
        clear hK K
        refine wpAny_ready (rs := [4]) (by kernel_rfl) (by simp) ?_
        refine AllReady.cons rfl (fun K hK => ?_) AllReady.nil
        go_simp
        refine hK _ _ ?_
        clear hK K
        refine wpAny_ready (rs := [5]) (by kernel_rfl) (by simp) ?_
        refine AllReady.cons rfl (fun K hK => ?_) AllReady.nil
        go_simp
        refine hK _ _ ?_
        clear hK K
        refine wpAny_done (by kernel_rfl) ?_ _
        exact HQ3.out
    case done =>
      rintro D W hD ⟨hon, hc⟩ hKD
      have hsz := hon.size
      have c4 : W.cell? ⟨Bx, 0, none⟩ = some (.string (wk 6)) := by simp only [World.cell?, hc]; rfl
      have hbw2 := hBW.trans (hon.below (by omega) (by rintro j rfl; exact hwB))
      have HE := Lib.hid (fun W' (h : Below W.heap.size W W') => And.intro ((h.block D (Array.getElem?_eq_some_iff.1 hKD).1).trans hKD) (below_putObj (below_th hbw2 h) D (by omega) (.deferred none)))
      clear hon hc hsq hKD hbx0 hbw2
      gi_wp2_with (gi_at_call 63; refine (callsIn_wide.2 (HFIT.out _)).mono ?_; rintro e w2 ⟨rfl, hB2⟩)
      obtain ⟨he1, he2⟩ := HE.out _ hB2
      refine ⟨by simp, .inl ⟨_, _, rfl, run_takeDeferred he1, ?_⟩⟩
      refine ⟨_, results_two rfl _ _, ?_⟩
      exact ⟨rfl, he2⟩
    case stop =>
      rintro D c k W hD hk hf
      exact hf.elim
  go_region_held3 (fun w' => w'.cell? ⟨w.heap.size, 0, none⟩ = some (.int .i64 (kk : Int)) ∧ w'.cell? ⟨w.heap.size, 1, none⟩ = some (.int .u16 (mode : Int)) ∧ w'.cell? ⟨w.heap.size, 2, none⟩ = some (.int .u16 (links : Int)) ∧ w'.cell? ⟨w.heap.size, 3, none⟩ = some (.int .u32 (size : Int)) ∧ w'.cell? ⟨w.heap.size, 4, none⟩ = some (.int .u64 (time : Int)) ∧ w'.cell? ⟨w.heap.size, 5, none⟩ = some (.int .i64 (dd : Int))) (first | exact HC.out _ (by assumption) | exact HC.out _ (below_al (by assumption : Below W1.heap.size W1 _) _) | exact HC.out _ (below_drew (below_al hself _)) | exact HC.out _ ((by assumption : SBox W1 _ _ ⟨#[]⟩).put (B1 ++ B2 ++ B3 ++ B4 ++ B5 ++ B6)).below) (first
    | (go_at_call 79; (with_reducible refine Calls.mono (P1.out _) ?_); rintro e w' ⟨rfl, hBn⟩; (first | (have hat := SBox.th (by assumption : SBox W1 _ _ ⟨#[]⟩) hBn; have hbb := hat.below; have q0 := hat.c; have f0 := hat.f 0) | (have hat := (SBox.new (by assumption : Below W1.heap.size W1 _) ⟨#[]⟩).th hBn; have hbb := hat.below; have q0 := hat.c; have f0 := hat.f 0) | (have hat := (SBox.new hself ⟨#[]⟩).drew.th hBn; have hbb := hat.below; have q0 := hat.c; have f0 := hat.f 0) | (have hbb := below_th (by assumption : Below W1.heap.size W1 _) hBn)))
    | (go_at_call 79; (with_reducible refine Calls.mono (P2.out _) ?_); rintro e w' ⟨rfl, hBn⟩; (first | (have hat := SBox.th (by assumption : SBox W1 _ _ ⟨#[]⟩) hBn; have hbb := hat.below; have q0 := hat.c; have f0 := hat.f 0) | (have hat := (SBox.new (by assumption : Below W1.heap.size W1 _) ⟨#[]⟩).th hBn; have hbb := hat.below; have q0 := hat.c; have f0 := hat.f 0) | (have hat := (SBox.new hself ⟨#[]⟩).drew.th hBn; have hbb := hat.below; have q0 := hat.c; have f0 := hat.f 0) | (have hbb := below_th (by assumption : Below W1.heap.size W1 _) hBn)))
    | (go_at_call 79; (with_reducible refine Calls.mono (P3.out _) ?_); rintro e w' ⟨rfl, hBn⟩; (first | (have hat := SBox.th (by assumption : SBox W1 _ _ ⟨#[]⟩) hBn; have hbb := hat.below; have q0 := hat.c; have f0 := hat.f 0) | (have hat := (SBox.new (by assumption : Below W1.heap.size W1 _) ⟨#[]⟩).th hBn; have hbb := hat.below; have q0 := hat.c; have f0 := hat.f 0) | (have hat := (SBox.new hself ⟨#[]⟩).drew.th hBn; have hbb := hat.below; have q0 := hat.c; have f0 := hat.f 0) | (have hbb := below_th (by assumption : Below W1.heap.size W1 _) hBn)))
    | (go_at_call 79; (with_reducible refine Calls.mono (P4.out _) ?_); rintro e w' ⟨rfl, hBn⟩; (first | (have hat := SBox.th (by assumption : SBox W1 _ _ ⟨#[]⟩) hBn; have hbb := hat.below; have q0 := hat.c; have f0 := hat.f 0) | (have hat := (SBox.new (by assumption : Below W1.heap.size W1 _) ⟨#[]⟩).th hBn; have hbb := hat.below; have q0 := hat.c; have f0 := hat.f 0) | (have hat := (SBox.new hself ⟨#[]⟩).drew.th hBn; have hbb := hat.below; have q0 := hat.c; have f0 := hat.f 0) | (have hbb := below_th (by assumption : Below W1.heap.size W1 _) hBn)))
    | (go_at_call 79; (with_reducible refine Calls.mono (P5.out _) ?_); rintro e w' ⟨rfl, hBn⟩; (first | (have hat := SBox.th (by assumption : SBox W1 _ _ ⟨#[]⟩) hBn; have hbb := hat.below; have q0 := hat.c; have f0 := hat.f 0) | (have hat := (SBox.new (by assumption : Below W1.heap.size W1 _) ⟨#[]⟩).th hBn; have hbb := hat.below; have q0 := hat.c; have f0 := hat.f 0) | (have hat := (SBox.new hself ⟨#[]⟩).drew.th hBn; have hbb := hat.below; have q0 := hat.c; have f0 := hat.f 0) | (have hbb := below_th (by assumption : Below W1.heap.size W1 _) hBn)))
    | (go_at_call 79; (with_reducible refine Calls.mono (P6.out _) ?_); rintro e w' ⟨rfl, hBn⟩; (first | (have hat := SBox.th (by assumption : SBox W1 _ _ ⟨#[]⟩) hBn; have hbb := hat.below; have q0 := hat.c; have f0 := hat.f 0) | (have hat := (SBox.new (by assumption : Below W1.heap.size W1 _) ⟨#[]⟩).th hBn; have hbb := hat.below; have q0 := hat.c; have f0 := hat.f 0) | (have hat := (SBox.new hself ⟨#[]⟩).drew.th hBn; have hbb := hat.below; have q0 := hat.c; have f0 := hat.f 0) | (have hbb := below_th (by assumption : Below W1.heap.size W1 _) hBn))))
  all_goals first
    | exact ⟨rfl, _, (by assumption : SBox W1 _ _ ⟨#[]⟩).put (B1 ++ B2 ++ B3 ++ B4 ++ B5 ++ B6), rfl⟩
    | exact ⟨rfl, _, SBox.new (by assumption : Below W1.heap.size W1 _) (B1 ++ B2 ++ B3 ++ B4 ++ B5 ++ B6), rfl⟩
theorem encode_any (n : I) (hn : IOk n) (w : World) : Calls Try.prog 74 #[n.val] w (Ans w (.tuple #[.string (encS n), .int .i64 (encE n)])) := by
  by_cases h : RightP n
  · have hF := Fits.of h hn
    have e : n = ⟨n.kind.toNat, n.mode, n.links, n.size, n.time, n.depth.toNat, n.m⟩ := by
      have h1 := hF.kind
      have h2 := hF.depth
      obtain ⟨a, b, c, d, e, f, g⟩ := n
      dsimp only at h1 h2 ⊢
      congr 1
      · omega
      · omega
    exact callsIn_wide.1 (encode_in _ _ _ _ _ _ _ n e hn h w)
  · exact encode_no n hn w h
end
end Go.Proofs.Yteopcjfakhmifaa.Ino
/- What the program reads out of bytes. -/
namespace Go.Proofs.Yteopcjfakhmifaa.Ino
open Go.RowKit Go.Shelf
attribute [local go_sem] Oper.semAt_some
set_option linter.unusedVariables false
set_option linter.unusedSimpArgs false
theorem takeV_tk (s : ByteArray) (a k : Nat) (h1 : 1 ≤ k) (h2 : k ≤ 8) : takeV s a k = ((tk s a k : Nat) : Int) := by
  by_cases h : a + k ≤ s.size
  · have hok : takeOk s a k := ⟨by omega, by omega, show (0 : Int) ≤ (a : Int) by omega, show (k : Int) ≤ (s.size : Int) - (a : Int) by omega⟩
    rw [takeV_yes hok, tk_yes h, Int.toNat_natCast, Int.toNat_natCast]
  · have hno : ¬ takeOk s a k := fun hh => by
      have : (k : Int) ≤ (s.size : Int) - (a : Int) := hh.2.2.2
      omega
    rw [takeV_no hno, tk_no h]
    rfl
section
set_option maxRecDepth 100000
set_option maxHeartbeats 4000000
theorem itake_any (s : ByteArray) (a k : Nat) (w : World) (hs : s.size ≤ 281474976710656) (ha : a ≤ 1000) (h1 : 1 ≤ k) (h2 : k ≤ 8) : Calls Try.prog 80 #[.string s, .int .i64 a, .int .i64 k] w fun e w' => e = .returned (.int .u64 (tk s a k)) ∧ Below w.heap.size w w' := by
  have hp := take_any s a k w hs (by omega)
  rw [takeV_tk s a k h1 h2] at hp
  generalize tk s a k = x at hp ⊢
  generalize takeE s (a : Int) (k : Int) = e0 at hp
  clear hs ha h1 h2
  go_enter Try.func80, Try.ntmps80
  go_wp2_with (go_at_call 85; refine hp.mono ?_; rintro e w' ⟨rfl, hB⟩)
  go_ret
  exact ⟨rfl, hB⟩
theorem takeMap_any (s : ByteArray) (w : World) (hs : s.size ≤ 281474976710656) : Calls Try.prog 81 #[.string s] w (Ans w (decM s).val) := by
  have hT := Lib.hid (fun k (hk : k < 6) W => itake_any s (16 + k * 4) 4 W hs (by omega) (by omega) (by omega))
  have hD := Lib.hid (fun i (h : i < 6) => decM_at s i h)
  have hL := Lib.hid (fun a => tk_lt s a 4)
  obtain ⟨D, hDe⟩ : ∃ D, decM s = D := ⟨_, rfl⟩
  rw [hDe] at hD ⊢
  have b0 := AtM.new w M.zero
  have b1 := AtM.new (w.alloc (boxM M.zero)) M.zero
  rw [World.size_alloc] at b1
  have hB := below_al (below_new w (boxM M.zero)) (boxM M.zero)
  replace b0 := b0.below (below_new (w.alloc (boxM M.zero)) (boxM M.zero)) (by simp)
  obtain ⟨W0, hW0⟩ : ∃ W0, (w.alloc (.cells #[.int .u32 0, .int .u32 0, .int .u32 0, .int .u32 0, .int .u32 0, .int .u32 0] 39)).alloc (.cells #[.int .u32 0, .int .u32 0, .int .u32 0, .int .u32 0, .int .u32 0, .int .u32 0] 39) = W0 := ⟨_, rfl⟩
  replace b0 : AtM W0 w.heap.size M.zero := by rw [← hW0]; exact b0
  replace b1 : AtM W0 (w.heap.size + 1) M.zero := by rw [← hW0]; exact b1
  replace hB : Below w.heap.size w W0 := by rw [← hW0]; exact hB
  have hc0 : cutM D 0 = M.zero := cutM_zero D
  rw [← hc0] at b1
  clear hDe hc0 hs
  go_enter Try.func81, Try.ntmps81
  go_wp2
  go_loopw [4, 5] (fun _ i wr => ∃ k : Nat, k ≤ 6 ∧ i = .int .i64 (k : Int) ∧ AtM wr (w.heap.size + 1) (cutM D k) ∧ AtM wr w.heap.size M.zero ∧ Hid (Below w.heap.size w wr)) (fun _ i _ => 6 - (intOf i).toNat)
  case atStart => exact ⟨0, by omega, rfl, b1, b0, hB⟩
  case round =>
    obtain ⟨k, hk, rfl, hA, hZ, HB⟩ := hrel
    by_cases hlt : k < 6
    · have hlt2 : (k : Int) < 6 := by omega
      have hTk := hT.out k hlt
      have hDk := hD.out k hlt
      have hLk := hL.out (16 + k * 4)
      rw [show (256 : Nat) ^ 4 = 4294967296 by decide] at hLk
      have hcut := cutM_succ D k hlt
      obtain ⟨x, hx⟩ : ∃ x, tk s (16 + k * 4) 4 = x := ⟨_, rfl⟩
      obtain ⟨p, hp⟩ : ∃ p, 16 + k * 4 = p := ⟨_, rfl⟩
      rw [hx] at hTk hDk hLk
      rw [hDk] at hcut
      rw [hp] at hTk
      have hpp : (16 : Int) + (k : Int) * 4 = (p : Int) := by omega
      have hw1 : IntKind.i64.wrap ((k : Int) * 4) = (k : Int) * 4 := by rw [IntKind.wrap_i64]; omega
      have hw2 : IntKind.i64.wrap (p : Int) = p := by rw [IntKind.wrap_i64]; omega
      have hw3 : IntKind.u32.wrap (x : Int) = x := by rw [IntKind.wrap_u32]; omega
      have HTk := Lib.hid hTk
      have HN : Hid (∀ W2, Below wr.heap.size wr W2 → W2.cell? ⟨w.heap.size + 1, k, none⟩ = some (.int .u32 ((cutM D k).at' k)) ∧ W2.frozen? ⟨w.heap.size + 1, k, none⟩ = false ∧ AtM (W2.setCell ⟨w.heap.size + 1, k, none⟩ (.int .u32 x)) (w.heap.size + 1) (cutM D (k + 1)) ∧ AtM (W2.setCell ⟨w.heap.size + 1, k, none⟩ (.int .u32 x)) w.heap.size M.zero ∧ Below w.heap.size w (W2.setCell ⟨w.heap.size + 1, k, none⟩ (.int .u32 x))) := fun W2 h2 => by
        have hA2 := hA.th h2
        obtain ⟨h3, h4⟩ := hA2.put hlt x
        rw [hcut] at h3
        exact ⟨hA2.cell hlt, hA2.f k, h3, (hZ.th h2).of_heap (Below.heap_setCell _ _ _ _ (by show w.heap.size ≠ w.heap.size + 1; omega)), (below_th HB.out h2).trans (h4.mono (by omega))⟩
      clear hTk hDk hcut hx hp hA hZ hB b0 b1
      go_wp2_with (go_at_call 80; (with_reducible refine Calls.mono (HTk.out _) ?_); rintro e w2 ⟨rfl, hB2⟩; obtain ⟨q1, q2, q3⟩ := HN.out _ hB2; have HQ := Lib.hid q3; clear q3)
      go_roundw
      case rel => exact ⟨k + 1, by omega, by go_num, HQ.out.1, HQ.out.2.1, HQ.out.2.2⟩
      case measure => simp [intOf]; omega
    · obtain rfl : k = 6 := by omega
      have hcD : cutM D 6 = D := by
        apply M.ext'
        intro i hi
        rw [cutM_at D 6 i hi, if_pos hi]
      rw [hcD] at hA
      have f0 := hZ.f 0
      have f1 := hZ.f 1
      have f2 := hZ.f 2
      have f3 := hZ.f 3
      have f4 := hZ.f 4
      have f5 := hZ.f 5
      obtain ⟨x0, x1, x2, x3, x4, x5⟩ := hZ.c
      obtain ⟨y0, y1, y2, y3, y4, y5⟩ := hA.c
      obtain ⟨hAp, hBp⟩ := hZ.put6 D
      have HAp := Lib.hid hAp
      have HBp := Lib.hid hBp
      clear hcD hA hZ hAp hBp hB b0 b1
      go_wp2
      refine bodyPost_ret (results_cellM rfl _ _ rfl HAp.out) rfl ?_
      exact ⟨rfl, HB.out.trans HBp.out⟩
end
end Go.Proofs.Yteopcjfakhmifaa.Ino
