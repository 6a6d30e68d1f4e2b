/- What is logged stays: what stands between two rounds. -/
import Derived.Maps.AppendAt
import Derived.Test.YtghonccffmmjhaaPk31
namespace Go.Proofs.Ytghonccffmmjhaa.Log
open Go.RowKit Go.Shelf
open Disk (D IsDisk crash)
open Record (E R Ents Ans encB wrapB wrapS wrapE unwS unwE unwOk below_al below_new)
attribute [local go_sem] Oper.semAt_some
set_option linter.unusedVariables false

/-- the places and contents that a Write has written -/
def newP (l : Lg) (L : List It) : List (Nat × ByteArray) := (List.range L.length).map fun i => (l.at_ + 1 + i, (itm L i).c)
def vi (x : Nat × ByteArray) : Value := .int .i64 (x.1 : Int)
def vs (x : Nat × ByteArray) : Value := .string x.2
theorem newP_length (l : Lg) (L : List It) : (newP l L).length = L.length := by simp [newP]
theorem newP_get {l : Lg} {L : List It} {j : Nat} (h : j < L.length) : (newP l L)[j]? = some (l.at_ + 1 + j, (itm L j).c) ∧ (places l L.length)[j]? = some (.int .i64 ((l.at_ + 1 + j : Nat) : Int)) := ⟨by simp [newP, h], by simp [places, h]⟩
theorem take_more {PC NP : List (Nat × ByteArray)} {j : Nat} {x : Nat × ByteArray} (h : NP[j]? = some x) (f : Nat × ByteArray → Value) : (PC ++ NP.take (j + 1)).map f = (PC ++ NP.take j).map f ++ [f x] := by
  rw [List.take_add_one, h]
  simp
theorem behind_gt {l : Lg} {k n : Nat} (hk : k ≤ 15 - l.at_ % 16) (hs : l.at_ / 16 < n) : l.at_ + k < (behind l k n).at_ := by
  by_cases hb : (l.at_ + 1 + k) / 16 = l.at_ / 16 ∧ (l.at_ + 1 + k) % 16 ≠ 15
  · rw [behind_same hb]; dsimp only; omega
  · rw [behind_next hb]; dsimp only; omega
def Kept (d : D) (l : Lg) (PC : List (Nat × ByteArray)) : Prop := ∀ x ∈ PC, blk d.B x.1 = wrapB x.2 ∧ x.1 < l.at_ ∧ x.2.size ≤ 508
theorem Kept.more {d d' : D} {l : Lg} {PC : List (Nat × ByteArray)} {cp : Nat} {L : List It} {en sy : Bool} (h : Kept d l PC) (hc : Came d.B d'.B l cp L en sy) (hk : okW l cp L en sy) (hs : l.at_ / 16 < l.next) : Kept d' (behind l L.length l.next) (PC ++ newP l L) := fun x hx => by
  have hg := behind_gt hk.1 hs
  rcases List.mem_append.1 hx with hx | hx
  · obtain ⟨h1, h2, h3⟩ := h x hx
    exact ⟨by rw [hc.low _ h2]; exact h1, by omega, h3⟩
  · unfold newP at hx
    obtain ⟨i, hi, rfl⟩ := List.mem_map.1 hx
    rw [List.mem_range] at hi
    exact ⟨hc.pay i hi, by show l.at_ + 1 + i < _; omega, hk.2.1 _ (itm_mem hi)⟩
/-- between two rounds -/
structure TpI (W0 : World) (p q : Nat) (G : Nat → Prop) (d : D) (l : Lg) (n k : Nat) (va vw : Value) (PC : List (Nat × ByteArray)) (W : World) : Prop where
  run : Run W W0.heap.size p q G d l n k 2
  a : W.ownsRow W0.heap.size 3 1 va PC.length (PC.map vi)
  s : W.ownsRow W0.heap.size 9 1 vw PC.length (PC.map vs)
  fa : ∀ g, va.ownBlock = some g → ¬ G g ∧ g ≠ q
  fs : ∀ g, vw.ownBlock = some g → ¬ G g ∧ g ≠ q
  kept : Kept d l PC
  len : PC.length ≤ k * 15
  cut : d.cut < 0
  bel : Below W0.heap.size W0 W
/-- while places and contents are kept -/
structure InI (W0 : World) (p q b : Nat) (G : Nat → Prop) (d : D) (l : Lg) (n k : Nat) (va vw : Value) (ma ms : Nat) (XA XS PL : List Value) (W : World) : Prop where
  run : Run W W0.heap.size p q G d l n k 2
  a : W.ownsRow W0.heap.size 3 1 va ma XA
  s : W.ownsRow W0.heap.size 9 1 vw ms XS
  fa : ∀ g, va.ownBlock = some g → ¬ G g ∧ g ≠ q ∧ g ≠ b
  fs : ∀ g, vw.ownBlock = some g → ¬ G g ∧ g ≠ q ∧ g ≠ b
  row : Row W b 3 PL
  bel : Below W0.heap.size W0 W
section
variable {W0 W W' : World} {p q b n k ma ms : Nat} {G : Nat → Prop} {d : D} {l : Lg} {va vw : Value} {XA XS PL : List Value} {PC : List (Nat × ByteArray)}
theorem kinds {W : World} {B : Nat} {v u : Value} {m1 m2 : Nat} {X Y : List Value} (h1 : W.ownsRow B 3 1 v m1 X) (h2 : W.ownsRow B 9 1 u m2 Y) (g : Nat) (e1 : v.ownBlock = some g) (e2 : u.ownBlock = some g) : False := by
  rcases h1.2 with ⟨rfl, _⟩ | ⟨g1, c1, x1, rfl, _, hg1, _⟩
  · cases e1
  · rcases h2.2 with ⟨rfl, _⟩ | ⟨g2, c2, x2, rfl, _, hg2, _⟩
    · cases e2
    · obtain rfl : g1 = g := by simpa [Value.ownBlock] using e1
      obtain rfl : g2 = g1 := by simpa [Value.ownBlock] using e2
      rw [hg1] at hg2
      injection hg2 with hg2
      injection hg2 with _ hg2 _
      exact absurd hg2 (by decide)
theorem InI.app_a {o : Obj} {v' x : Value} (h : InI W0 p q b G d l n k va vw ma ms XA XS PL W) (hown : W'.ownsRow W0.heap.size 3 1 v' (ma + 1) (XA ++ [x])) (hgrow : (W.alloc o).grownBy W' va.ownBlock) (hat : v'.ownBlock = va.ownBlock ∨ v'.ownBlock = some (W.alloc o).heap.size) :
    InI W0 p q b G d l n k v' vw (ma + 1) ms (XA ++ [x]) XS PL W' := by
  have hlt : ∀ g, va.ownBlock = some g → W0.heap.size ≤ g ∧ g < W.heap.size := fun g hg => h.a.lt g hg
  have hon : Only (fun i => va.ownBlock = some i) W W' := ((Only.refl _ W).alloc o).grown hgrow (fun r e => .inr e)
  refine ⟨h.run.only hon (fun i hi e => (h.fa i e).1 hi) (fun e => (h.fa q e).2.1 rfl), hown, own_only h.s hon (fun g hg e => kinds h.a h.s g e hg), fun g hg => ?_, h.fs, row_only h.row hon (fun e => (h.fa b e).2.2 rfl), h.bel.trans (hon.below h.bel.size (fun i hi => (hlt i hi).1))⟩
  rcases hat with h1 | h1
  · exact h.fa g (by rw [← h1]; exact hg)
  · rw [hg] at h1
    cases h1
    have h2 := World.size_alloc W o
    exact ⟨fun hh => by have := h.run.sys.hi _ hh; omega, fun e => by have := h.run.sys.log.lt; omega, fun e => by have := h.row.lt; omega⟩
theorem InI.app_s {o : Obj} {v' x : Value} (h : InI W0 p q b G d l n k va vw ma ms XA XS PL W) (hown : W'.ownsRow W0.heap.size 9 1 v' (ms + 1) (XS ++ [x])) (hgrow : (W.alloc o).grownBy W' vw.ownBlock) (hat : v'.ownBlock = vw.ownBlock ∨ v'.ownBlock = some (W.alloc o).heap.size) :
    InI W0 p q b G d l n k va v' ma (ms + 1) XA (XS ++ [x]) PL W' := by
  have hlt : ∀ g, vw.ownBlock = some g → W0.heap.size ≤ g ∧ g < W.heap.size := fun g hg => h.s.lt g hg
  have hon : Only (fun i => vw.ownBlock = some i) W W' := ((Only.refl _ W).alloc o).grown hgrow (fun r e => .inr e)
  refine ⟨h.run.only hon (fun i hi e => (h.fs i e).1 hi) (fun e => (h.fs q e).2.1 rfl), own_only h.a hon (fun g hg e => kinds h.a h.s g hg e), hown, h.fa, fun g hg => ?_, row_only h.row hon (fun e => (h.fs b e).2.2 rfl), h.bel.trans (hon.below h.bel.size (fun i hi => (hlt i hi).1))⟩
  rcases hat with h1 | h1
  · exact h.fs g (by rw [← h1]; exact hg)
  · rw [hg] at h1
    cases h1
    have h2 := World.size_alloc W o
    exact ⟨fun hh => by have := h.run.sys.hi _ hh; omega, fun e => by have := h.run.sys.log.lt; omega, fun e => by have := h.row.lt; omega⟩
theorem TpI.below (h : TpI W0 p q G d l n k va vw PC W) (hB : Below W.heap.size W W') : TpI W0 p q G d l n k va vw PC W' :=
  ⟨h.run.below hB, own_only h.a (Only.of_below hB (S := fun _ => False)) (fun g _ e => e), own_only h.s (Only.of_below hB (S := fun _ => False)) (fun g _ e => e), h.fa, h.fs, h.kept, h.len, h.cut, below_th h.bel hB⟩
theorem TpI.next {m : Nat} (h : TpI W0 p q G d l n k va vw PC W) (hR : Run W' W0.heap.size p q G d ⟨l.at_, l.seq, m⟩ n k 2) (hO : Only (fun i => i = q) W W') : TpI W0 p q G d ⟨l.at_, l.seq, m⟩ n k va vw PC W' :=
  ⟨hR, own_only h.a hO (fun g hg e => (h.fa g hg).2 e), own_only h.s hO (fun g hg e => (h.fs g hg).2 e), h.fa, h.fs, h.kept, h.len, h.cut, h.bel.trans (hO.below h.bel.size (fun i hi => by subst hi; exact h.run.sys.qlo))⟩
theorem TpI.up (h : TpI W0 p q G d l n k va vw PC W) (hR : Run W' W0.heap.size p q G d l n (k + 1) 2) (hB : Below W.heap.size W W') : TpI W0 p q G d l n (k + 1) va vw PC W' :=
  ⟨hR, own_only h.a (Only.of_below hB (S := fun _ => False)) (fun g _ e => e), own_only h.s (Only.of_below hB (S := fun _ => False)) (fun g _ e => e), h.fa, h.fs, h.kept, by have := h.len; omega, h.cut, below_th h.bel hB⟩
theorem TpI.wrote {G' : Nat → Prop} {d' : D} {l' : Lg} (h : TpI W0 p q G d l n k va vw PC W) (hR : Run W' W0.heap.size p q G' d' l' (n + 1) (k + 1) 2) (hG : ∀ i, G' i → G i ∨ W.heap.size ≤ i) (hO : Only (fun i => G i ∨ i = q) W W') (hb : Row W' b 3 PL) (hbn : W.heap.size ≤ b) :
    InI W0 p q b G' d' l' (n + 1) (k + 1) va vw PC.length PC.length (PC.map vi) (PC.map vs) PL W' := by
  have ha : ∀ g, va.ownBlock = some g → W0.heap.size ≤ g ∧ g < W.heap.size := fun g hg => h.a.lt g hg
  have hs : ∀ g, vw.ownBlock = some g → W0.heap.size ≤ g ∧ g < W.heap.size := fun g hg => h.s.lt g hg
  refine ⟨hR, own_only h.a hO (fun g hg e => e.elim (h.fa g hg).1 (h.fa g hg).2), own_only h.s hO (fun g hg e => e.elim (h.fs g hg).1 (h.fs g hg).2), fun g hg => ⟨fun e => ?_, (h.fa g hg).2, by have := ha g hg; omega⟩, fun g hg => ⟨fun e => ?_, (h.fs g hg).2, by have := hs g hg; omega⟩, hb, h.bel.trans (hO.below h.bel.size (fun i hi => hi.elim (h.run.sys.lo i) (fun e => by subst e; exact h.run.sys.qlo)))⟩
  · rcases hG g e with h1 | h1
    · exact (h.fa g hg).1 h1
    · have := ha g hg; omega
  · rcases hG g e with h1 | h1
    · exact (h.fs g hg).1 h1
    · have := hs g hg; omega
theorem InI.done {NP : List (Nat × ByteArray)} {N : Nat} (h : InI W0 p q b G d l n k va vw (PC.length + N) (PC.length + N) ((PC ++ NP.take N).map vi) ((PC ++ NP.take N).map vs) PL W) (hN : NP.length = N) (hk : Kept d l (PC ++ NP)) (hl : (PC ++ NP).length ≤ k * 15) (hc : d.cut < 0) : TpI W0 p q G d l n k va vw (PC ++ NP) W := by
  have ha := h.a
  have hs := h.s
  have e : NP.take N = NP := List.take_of_length_le (by omega)
  rw [e] at ha hs
  have e2 : PC.length + N = (PC ++ NP).length := by rw [List.length_append, hN]
  rw [e2] at ha hs
  exact ⟨h.run, ha, hs, fun g hg => ⟨(h.fa g hg).1, (h.fa g hg).2.1⟩, fun g hg => ⟨(h.fs g hg).1, (h.fs g hg).2.1⟩, hk, hl, hc, h.bel⟩
/-- the crash: nothing was loose -/
theorem TpI.crash (h : TpI W0 p q G d l n k va vw PC W) (hk : k ≤ 100) (kp : Nat) (t : Int) (hkp : kp < 18446744073709551616) :
    Calls Try.prog 20 #[.pointer (some ⟨p, 0, none⟩), .agg #[.int .u64 (kp : Int), .int .i64 t]] W fun e w' => ∃ r F, e = .returned (.pointer (some ⟨r, 0, none⟩)) ∧ IsDisk w' r F (d.crashed kp t) ∧ Below W.heap.size W w' := by
  have := h.run.ops
  exact (Disk.crash_d kp t hkp h.run.sys.disk (by omega)).mono fun e w' ⟨r, he, hd, _, hB⟩ => ⟨r, _, he, hd, hB⟩
/-- what is read there -/
theorem TpI.read {r kp : Nat} {t : Int} {F : Nat → Prop} {w1 : World} {a : Nat} {c : ByteArray} (h : TpI W0 p q G d l n k va vw PC W) (hd : IsDisk w1 r F (d.crashed kp t)) (hx : (a, c) ∈ PC) :
    Calls Try.prog 28 #[.pointer (some ⟨r, 0, none⟩), .int .i64 (a : Int)] w1 fun e w' => e = .returned (.tuple #[.string (wrapB c), .int .i64 0]) ∧ Below w1.heap.size w1 w' := by
  obtain ⟨h1, h2, h3⟩ := h.kept _ hx
  have hat : l.at_ < d.B.length := h.run.sys.good.ok.hi
  have e : (d.crashed kp t).B = d.B := by
    show Disk.crash d.B d.L kp t = d.B
    rw [h.run.sys.good.nol]; rfl
  have e2 : (d.crashed kp t).now = d.B := e
  have hlt : a < d.B.length := by have : a < l.at_ := h2; omega
  refine Disk.read_yes a _ hd (by rw [e]; exact hlt) ?_
  rw [e2]
  have h4 : blk d.B a = wrapB c := h1
  rw [← h4]
  unfold blk
  rw [List.getD_eq_getElem?_getD, List.getElem?_eq_getElem hlt]
  rfl
end
theorem unwrap_wrap (c : ByteArray) (hc : c.size ≤ 508) (w : World) : Calls Try.prog 29 #[.string (wrapB c)] w fun e w' => e = .returned (.tuple #[.string (c ++ zeros (508 - c.size)), .int .i64 0]) ∧ Below w.heap.size w w' := by
  have := Record.unwrap_any (wrapB c) w (by rw [Record.wrapB_size hc]; omega)
  rw [Record.unwS_wrap hc, Record.unwE_yes (Record.unw_wrap hc)] at this
  exact this
theorem pad_size {c : ByteArray} (hc : c.size ≤ 508) : (c ++ zeros (508 - c.size)).size = 508 := by rw [ByteArray.size_append, zeros_size]; omega
theorem pad_cut (c : ByteArray) (n : Nat) : (c ++ zeros n).extract 0 c.size = c := extract_left c (zeros n)
section
set_option maxRecDepth 100000
set_option maxHeartbeats 2000000
theorem tabs_any (w : World) : Calls Try.prog 27 #[] w fun e w' => e = .returned (.bool true) ∧ Below w.heap.size w w' := by
  obtain ⟨c, hc⟩ : ∃ c : ByteArray, (⟨#[97, 98]⟩ : ByteArray) = c := ⟨_, rfl⟩
  have hcs : c.size = 2 := by rw [← hc]; rfl
  have h1 : ∀ W, Calls Try.prog 55 #[.string ⟨#[97, 98]⟩] W fun e w' => e = .returned (.tuple #[.string (wrapB c), .int .i64 0]) ∧ Below W.heap.size W w' := fun W => by
    have := Record.wrap_any c W (by omega)
    rw [Record.wrapS_yes (by omega), Record.wrapE_yes (by omega)] at this
    rw [hc]
    exact this
  have h2 := fun W => unwrap_wrap c (by omega) W
  obtain ⟨b, hb⟩ : ∃ b, wrapB c = b := ⟨_, rfl⟩
  have hbs : b.size = 512 := by rw [← hb]; exact Record.wrapB_size (by omega)
  obtain ⟨s, hs⟩ : ∃ s, c ++ zeros (508 - c.size) = s := ⟨_, rfl⟩
  have z1 : s.size = 508 := by rw [← hs]; exact pad_size (by omega)
  have z2 : s.extract 0 2 = ⟨#[97, 98]⟩ := by rw [← hs, hc, ← hcs]; exact pad_cut c _
  have z3 : (2 : Int) ≤ (s.size : Int) := by omega
  have z4 : 2 ≤ s.size := by omega
  have hcl : (⟨#[97, 98]⟩ : ByteArray).toList = [97, 98] := by rw [Lib.toList_data]
  rw [hb] at h1 h2
  rw [hs] at h2
  have H1 := Lib.hid h1
  have H2 := Lib.hid h2
  clear h1 h2 hb hs hc hcs
  go_enter Try.func27, Try.ntmps27
  go_wp2_with (first
    | (go_at_call 55; (with_reducible refine Calls.mono (H1.out _) ?_); rintro e w1 ⟨rfl, hB1⟩)
    | (go_at_call 29; (with_reducible refine Calls.mono (H2.out _) ?_); rintro e w2 ⟨rfl, hB2⟩))
  go_ret
  exact ⟨rfl, below_th hB1 hB2⟩
end
end Go.Proofs.Ytghonccffmmjhaa.Log
