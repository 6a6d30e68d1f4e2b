/- Several texts in one, each under its own heading. -/
import Derived.Test.YtghonccffmmjhaaPk23
/- A log whose records stand on an otherwise empty disk: what a Write adds, and what a crash leaves. It speaks of no program. -/
namespace Go.Proofs.Ytghonccffmmjhaa.Log
open Disk (D crash torn)
open Record (E R RightP AllOk EOk encB wrapB unwOk unwS decOk decR)
set_option linter.unusedVariables false

/-- what a Write writes, as it is found -/
def fdW (l : Lg) (cp : Nat) (L : List It) (en sy : Bool) : Fd := ⟨l.at_, recW l cp L en sy, L.map fun x => x.c ++ zeros (508 - x.c.size)⟩
theorem blks_at (L : List It) (i : Nat) (h : i < L.length) : blk (blks L) i = wrapB (itm L i).c := by
  apply blk_of
  simp [blks, itm_get h]
theorem there_new {B : List ByteArray} {l : Lg} {cp : Nat} {L : List It} {en sy : Bool} (hok : LgOk B.length l) (hn : l.next ≠ 0) (hk : okW l cp L en sy) (ha : AllOk (ents L)) (hs : (blk B l.at_).size = 512) (hx : (blk B l.at_).extract 0 256 = (encB (recW l cp L en sy)).extract 0 256) (hp : ∀ i, i < L.length → blk B (l.at_ + 1 + i) = wrapB (itm L i).c) :
    thereP B l ∧ fdAt B l = fdW l cp L en sy ∧ stp B l = behind l L.length l.next := by
  obtain ⟨e1, e2⟩ := Record.dec_of hk.2.2 ha hs hx
  have eh : hd B l = recW l cp L en sy := e2
  have ec : cnt B l = L.length := by unfold cnt; rw [eh]; exact ents_length L
  have en' : (hd B l).next = (l.next : Int) := by rw [eh]; rfl
  have hf : ∀ i, i < L.length → (itm L i).c.size ≤ 508 := fun i hi => hk.2.1 _ (itm_mem hi)
  refine ⟨⟨⟨e1, by rw [eh]; rfl, by rw [ec]; exact hk.1, ?_, ?_⟩, fun i hi => ?_⟩, ?_, ?_⟩
  · rw [en']; omega
  · rw [en']
    have := hok.nx.resolve_left hn
    omega
  · rw [ec] at hi
    rw [hp i hi]
    exact Record.unw_wrap (hf i hi)
  · unfold fdAt fdW
    rw [eh, ec]
    congr 1
    apply List.ext_getElem?
    intro i
    rcases Nat.lt_or_ge i L.length with hi | hi
    · have h1 : (List.map (fun i => unwS (blk B (l.at_ + 1 + i))) (List.range L.length))[i]? = some (unwS (blk B (l.at_ + 1 + i))) := by simp [hi]
      rw [h1, hp i hi, Record.unwS_wrap (hf i hi), List.getElem?_map, itm_get hi]
      rfl
    · rw [List.getElem?_eq_none (by simpa using hi), List.getElem?_eq_none (by simpa using hi)]
  · unfold stp
    rw [ec, en']
    rfl
/-- a log that began at l0 has written n records, and there is nothing behind -/
structure Good (d : D) (l0 l : Lg) (n : Nat) : Prop where
  nol : d.L = []
  laid : ∃ m, (m = 0 ∨ m = l.next) ∧ Laid d.B l0 ⟨l.at_, l.seq, m⟩ n
  zero : ∀ j, l.at_ ≤ j → j < d.B.length → blk d.B j = zeros 512
  ok : LgOk d.B.length l
  m16 : d.B.length % 16 = 0
theorem Good.now {d : D} {l0 l : Lg} {n : Nat} (h : Good d l0 l n) : d.now = d.B := by unfold D.now; rw [h.nol]; rfl
theorem Good.scans {d : D} {l0 l : Lg} {n : Nat} (h : Good d l0 l n) : Scans d.now l0 n := by
  rw [h.now]
  obtain ⟨m, _, hl⟩ := h.laid
  exact hl.scans0 (h.zero _ (Nat.le_refl _) h.ok.hi)
/-- blocks where a record has come, with its contents -/
structure Came (B C : List ByteArray) (l : Lg) (cp : Nat) (L : List It) (en sy : Bool) : Prop where
  len : C.length = B.length
  size : (blk C l.at_).size = 512
  head : (blk C l.at_).extract 0 256 = (encB (recW l cp L en sy)).extract 0 256
  pay : ∀ i, i < L.length → blk C (l.at_ + 1 + i) = wrapB (itm L i).c
  low : ∀ j, j < l.at_ → blk C j = blk B j
  high : ∀ j, l.at_ + L.length < j → blk C j = blk B j
theorem came_laid {B C : List ByteArray} {l0 l : Lg} {n cp : Nat} {L : List It} {en sy : Bool} {m : Nat} (h : Laid B l0 ⟨l.at_, l.seq, m⟩ n) (hc : Came B C l cp L en sy) (hok : LgOk B.length l) (hk : okW l cp L en sy) (ha : AllOk (ents L)) (hsg : l.at_ / 16 < l.next) :
    Laid C l0 (behind l L.length l.next) (n + 1) ∧ fdsK C l0 (n + 1) = fdsK B l0 n ++ [fdW l cp L en sy] ∧ l.at_ + L.length < (behind l L.length l.next).at_ := by
  have hok' : LgOk C.length l := by rw [hc.len]; exact hok
  obtain ⟨t1, t2, t3⟩ := there_new hok' (by omega) hk ha hc.size hc.head hc.pay
  obtain ⟨c1, c2, c3⟩ := h.congr hc.len hc.low
  have hlt : l.at_ + L.length < (behind l L.length l.next).at_ := by
    have := hk.1
    by_cases hb : (l.at_ + 1 + L.length) / 16 = l.at_ / 16 ∧ (l.at_ + 1 + L.length) % 16 ≠ 15
    · rw [behind_same hb]; dsimp only; omega
    · rw [behind_next hb]; dsimp only; omega
  have ec : cnt C l = L.length := by
    have : (fdAt C l).r = recW l cp L en sy := by rw [t2]; rfl
    show (fdAt C l).r.l.length = _
    rw [this]; exact ents_length L
  refine ⟨?_, ?_, hlt⟩
  · have t1' : thereP C ⟨l.at_, l.seq, m⟩ := t1
    have t3' : stp C ⟨l.at_, l.seq, m⟩ = behind l L.length l.next := t3
    have ec' : cnt C ⟨l.at_, l.seq, m⟩ = L.length := ec
    rw [← t3']
    exact c2.more t1' (by rw [t3', ec']; exact hlt)
  · have t2' : fdAt C ⟨l.at_, l.seq, m⟩ = fdW l cp L en sy := t2
    rw [fdsK_succ, c3, c2.go, t2']
/-- a Write that was done -/
theorem came_done {d e : D} {l : Lg} {cp : Nat} {L : List It} {en sy : Bool} (hd : d.Ok) (hk : okW l cp L en sy) (hhi : l.at_ < d.B.length) (hm : d.B.length % 16 = 0) (h : AllDone d l.at_ (blks L) (encB (recW l cp L en sy)) e) : Came d.B e.B l cp L en sy := by
  obtain ⟨hB, _, _, _⟩ := h
  have hk1 := hk.1
  have hlen : (Disk.settle d.B (pay (l.at_ + 1) (blks L))).length = d.B.length := Disk.settle_length _ _
  have hroom : l.at_ + 1 + L.length ≤ d.B.length := by omega
  have hne : ∀ j, j ≠ l.at_ → blk e.B j = blk (Disk.settle d.B (pay (l.at_ + 1) (blks L))) j := fun j hj => by
    rw [hB]; exact blk_same (List.getElem?_set_ne (fun e => hj e.symm))
  have hat : blk e.B l.at_ = encB (recW l cp L en sy) := by rw [hB]; exact blk_of (List.getElem?_set_self (by rw [hlen]; exact hhi))
  refine ⟨by rw [hB, List.length_set, hlen], by rw [hat]; exact Record.encB_size hk.2.2, by rw [hat], fun i hi => ?_, fun j hj => ?_, fun j hj => ?_⟩
  · rw [hne _ (by omega), settle_pay _ _ _ _ (by rw [blks_length]; exact hi) (by rw [blks_length]; exact hroom), blks_at L i hi]
  · rw [hne _ (by omega), settle_off _ _ _ (fun x hx => by have := (pay_mem _ _ x hx).1; omega)]
  · rw [hne _ (by omega), settle_off _ _ _ (fun x hx => by have := (pay_mem _ _ x hx).2.1; rw [blks_length] at this; omega)]
theorem Good.step {d e : D} {l0 l : Lg} {n cp : Nat} {L : List It} {en sy : Bool} (h : Good d l0 l n) (hd : d.Ok) (hk : okW l cp L en sy) (ha : AllOk (ents L)) (hsg : l.at_ / 16 < l.next) (hdone : AllDone d l.at_ (blks L) (encB (recW l cp L en sy)) e) :
    Good e l0 (behind l L.length l.next) (n + 1) ∧ fdsK e.B l0 (n + 1) = fdsK d.B l0 n ++ [fdW l cp L en sy] ∧ Came d.B e.B l cp L en sy ∧ l.at_ + L.length < (behind l L.length l.next).at_ := by
  have hc := came_done hd hk h.ok.hi h.m16 hdone
  obtain ⟨m, hm, hl⟩ := h.laid
  obtain ⟨c1, c2, c3⟩ := came_laid hl hc h.ok hk ha hsg
  have hsq : l.seq < 281474976710656 := hk.2.2.1.2
  have hnx := h.ok.nx.resolve_left (by omega)
  refine ⟨⟨hdone.2.1, ⟨_, .inr rfl, c1⟩, fun j h1 h2 => ?_, ?_, by rw [hc.len]; exact h.m16⟩, c2, hc, c3⟩
  · rw [hc.high j (by omega)]
    exact h.zero j (by omega) (by rw [hc.len] at h2; exact h2)
  · rw [hc.len]
    exact h.ok.behind h.m16 hk.1 hnx.1 hnx.2 hsq
/-- what is found behind a crash, where a Write was under way: what was found ahead of it, or this record besides -/
theorem Good.under {d e : D} {l0 l : Lg} {n cp : Nat} {L : List It} {en sy : Bool} (h : Good d l0 l n) (hd : d.Ok) (hk : okW l cp L en sy) (ha : AllOk (ents L)) (hsg : l.at_ / 16 < l.next) (hu : Under d l.at_ (blks L) (encB (recW l cp L en sy)) e) (keep : Nat) (t : Int) :
    (Scans (crash e.B e.L keep t) l0 n ∧ fdsK (crash e.B e.L keep t) l0 n = fdsK d.B l0 n) ∨ (Scans (crash e.B e.L keep t) l0 (n + 1) ∧ fdsK (crash e.B e.L keep t) l0 (n + 1) = fdsK d.B l0 n ++ [fdW l cp L en sy]) := by
  have hk1 := hk.1
  have hm := h.m16
  have hhi := h.ok.hi
  obtain ⟨m0, hm0, hlaid⟩ := h.laid
  have hroom : l.at_ + 1 + L.length ≤ d.B.length := by omega
  -- where the record's block is as it was
  have old : ∀ C : List ByteArray, C.length = d.B.length → (∀ j, j ≤ l.at_ → blk C j = blk d.B j) → Scans C l0 n ∧ fdsK C l0 n = fdsK d.B l0 n := fun C h1 h2 => by
    obtain ⟨c1, c2, c3⟩ := hlaid.congr h1 (fun j hj => h2 j (Nat.le_of_lt hj))
    exact ⟨c2.scans0 (by rw [h2 _ (Nat.le_refl _)]; exact h.zero _ (Nat.le_refl _) hhi), c3⟩
  obtain ⟨_, _, hx⟩ := hu
  rcases hx with ⟨hB, k, hL⟩ | ⟨hB, hL⟩
  · refine .inl (old _ (by rw [crash_length, hB]) fun j hj => ?_)
    rw [crash_off _ _ _ _ _ (fun x hx => ?_), hB]
    rw [hL] at hx
    have := (pay_mem _ _ x hx).1
    omega
  · have hlen : e.B.length = d.B.length := by rw [hB]; exact Disk.settle_length _ _
    have hlow : ∀ j, j ≤ l.at_ → blk e.B j = blk d.B j := fun j hj => by
      rw [hB]; exact settle_off _ _ _ (fun x hx => by have := (pay_mem _ _ x hx).1; omega)
    have hpay : ∀ i, i < L.length → blk e.B (l.at_ + 1 + i) = wrapB (itm L i).c := fun i hi => by
      rw [hB, settle_pay _ _ _ _ (by rw [blks_length]; exact hi) (by rw [blks_length]; exact hroom), blks_at L i hi]
    have hhigh : ∀ j, l.at_ + L.length < j → blk e.B j = blk d.B j := fun j hj => by
      rw [hB]; exact settle_off _ _ _ (fun x hx => by have := (pay_mem _ _ x hx).2.1; rw [blks_length] at this; omega)
    rcases hL with hL | hL
    · rw [hL]
      exact .inl (old _ hlen hlow)
    · rw [hL]
      have hes := Record.encB_size hk.2.2
      have hoff : ∀ j, j ≠ l.at_ → blk (crash e.B [(l.at_, encB (recW l cp L en sy))] keep t) j = blk e.B j := fun j hj => crash_off _ _ _ _ _ (fun x hx => by simp at hx; rw [hx]; exact fun e => hj e.symm)
      have new : (blk (crash e.B [(l.at_, encB (recW l cp L en sy))] keep t) l.at_).size = 512 → (blk (crash e.B [(l.at_, encB (recW l cp L en sy))] keep t) l.at_).extract 0 256 = (encB (recW l cp L en sy)).extract 0 256 → _ := fun h1 h2 => by
        have hc : Came d.B (crash e.B [(l.at_, encB (recW l cp L en sy))] keep t) l cp L en sy := ⟨by rw [crash_length, hlen], h1, h2, fun i hi => by rw [hoff _ (by omega)]; exact hpay i hi, fun j hj => by rw [hoff _ (by omega)]; exact hlow j (by omega), fun j hj => by rw [hoff _ (by omega)]; exact hhigh j hj⟩
        obtain ⟨c1, c2, c3⟩ := came_laid hlaid hc h.ok hk ha hsg
        have hnx := h.ok.nx.resolve_left (by omega)
        have hb := h.ok.behind hm hk.1 hnx.1 hnx.2 hk.2.2.1.2
        have hz : blk (crash e.B [(l.at_, encB (recW l cp L en sy))] keep t) (behind l L.length l.next).at_ = zeros 512 := by
          rw [hc.high _ (by omega)]
          exact h.zero _ (by omega) hb.hi
        exact And.intro (c1.scans0 hz) c2
      rcases crash_one e.B l.at_ (encB (recW l cp L en sy)) keep t (by rw [hlen]; exact hhi) with h1 | h1 | h1
      · refine .inl (old _ (by rw [crash_length, hlen]) fun j hj => ?_)
        rcases Nat.lt_or_ge j l.at_ with h2 | h2
        · rw [hoff _ (by omega)]; exact hlow j hj
        · obtain rfl : j = l.at_ := by omega
          rw [h1]; exact hlow _ hj
      · exact .inr (new (by rw [h1]; exact hes) (by rw [h1]))
      · refine .inr (new ?_ ?_)
        · rw [h1]
          refine Disk.torn_size hes ?_
          rw [hlow _ (Nat.le_refl _)]
          exact hd.sizes _ (blk_mem hhi)
        · rw [h1]
          exact torn_head hes
/-- a disk of bytes 0 -/
theorem blk_zero (n i : Nat) (h : i < n) : blk (List.replicate n (zeros 512)) i = zeros 512 := blk_of (by simp [h])
theorem good_new (n : Nat) (l : Lg) (hm : n % 16 = 0) (hl : LgOk n l) : Good (D.of (List.replicate n (zeros 512))) l l 0 :=
  ⟨rfl, ⟨l.next, .inr rfl, Laid.nil _ _⟩, fun j _ hj => blk_zero n j (by simpa [D.of] using hj), by show LgOk (List.replicate n (zeros 512)).length l; rw [List.length_replicate]; exact hl, by show (List.replicate n (zeros 512)).length % 16 = 0; rw [List.length_replicate]; exact hm⟩
theorem Good.cut {d : D} {l0 l : Lg} {n : Nat} (h : Good d l0 l n) (c : Int) : Good (d.cutAt c) l0 l n := ⟨h.nol, h.laid, h.zero, h.ok, h.m16⟩
theorem Good.next {d : D} {l0 l : Lg} {n : Nat} (h : Good d l0 l n) (k : Nat) (h0 : l.next = 0) (h1 : 1 ≤ k) (h2 : k < d.B.length / 16) : Good d l0 ⟨l.at_, l.seq, k⟩ n := by
  obtain ⟨m, hm, hl⟩ := h.laid
  exact ⟨h.nol, ⟨m, .inl (by omega), hl⟩, h.zero, ⟨h.ok.lo, h.ok.hi, h.ok.room, .inr ⟨h1, h2⟩, h.ok.s1, h.ok.s2⟩, h.m16⟩
end Go.Proofs.Ytghonccffmmjhaa.Log
/- A log's Write, where the record is right: the blocks, and the record, are written as far as the power goes. -/
namespace Go.Proofs.Ytghonccffmmjhaa.Log
open Go.RowKit Go.Shelf
open Disk (D IsDisk)
open Record (E R RightP Ents AllOk EOk encB encS encE below_al below_new)
attribute [local go_sem] Oper.semAt_some
set_option linter.unusedVariables false

theorem letter {P Q : World → Prop} {W : World} (h : P W) (k : ∀ W, P W → Q W) : Q W := k W h
/-- what stands ready ahead of the calls -/
structure Ready (w0 : World) (y z b n : Nat) (cs : List ByteArray) (s : ByteArray) (W : World) : Prop where
  bel : Below w0.heap.size w0 W
  by_ : W.cell? ⟨y, 0, none⟩ = some (.slice (some ⟨b, 0, none⟩) n n)
  bz : W.cell? ⟨z, 0, none⟩ = some (.string s)
  bb : Row W b 9 (cs.map .string)
  gy : w0.heap.size ≤ y
  gz : w0.heap.size ≤ z
  gb : w0.heap.size ≤ b
theorem cell_new (W : World) (u : Value) (t : TypeId) : (W.alloc (.cells #[u] t)).cell? ⟨W.heap.size, 0, none⟩ = some u := by
  have h := World.alloc_heap_new W (.cells #[u] t)
  simp only [World.cell?, h]; rfl
theorem readyA {w0 w1 w3 : World} {b n : Nat} {cs : List ByteArray} {s : ByteArray} (hB1 : Below w0.heap.size w0 w1) (hR : Row w1 b 9 (cs.map .string)) (gb : w0.heap.size ≤ b)
    (hB3 : Below ((w1.alloc (.cells #[.slice (some ⟨b, 0, none⟩) n n] 50)).alloc (.cells #[.string ⟨#[]⟩] 9)).drew.heap.size ((w1.alloc (.cells #[.slice (some ⟨b, 0, none⟩) n n] 50)).alloc (.cells #[.string ⟨#[]⟩] 9)).drew w3) :
    Ready w0 w1.heap.size (w1.heap.size + 1) b n cs s (w3.setCell ⟨w1.heap.size + 1, 0, none⟩ (.string s)) := by
  have h0 := hB1.size
  have hs : ((w1.alloc (.cells #[.slice (some ⟨b, 0, none⟩) n n] 50)).alloc (.cells #[.string ⟨#[]⟩] 9)).drew.heap.size = w1.heap.size + 2 := by show (World.alloc _ _).heap.size = _; simp
  have hBa : Below w1.heap.size w1 w3 := (below_al (below_new w1 _) _).drew.trans (hB3.mono (by rw [hs]; omega))
  have hy : w3.cell? ⟨w1.heap.size, 0, none⟩ = some (.slice (some ⟨b, 0, none⟩) n n) := by
    have e : w3.heap[w1.heap.size]? = (w1.alloc (.cells #[.slice (some ⟨b, 0, none⟩) n n] 50)).heap[w1.heap.size]? := (hB3.block _ (by rw [hs]; omega)).trans (Below.heap_alloc _ _ _ (by simp))
    have h := cell_new w1 (.slice (some ⟨b, 0, none⟩) n n) 50
    unfold World.cell? at h ⊢
    dsimp only at h ⊢
    rw [e]; exact h
  have hz : (w3.setCell ⟨w1.heap.size + 1, 0, none⟩ (.string s)).cell? ⟨w1.heap.size + 1, 0, none⟩ = some (.string s) := by
    have hh : w3.heap[w1.heap.size + 1]? = some (.cells #[.string ⟨#[]⟩] 9 (0, 0)) := by
      have e := World.alloc_heap_new (w1.alloc (.cells #[.slice (some ⟨b, 0, none⟩) n n] 50)) (.cells #[.string ⟨#[]⟩] 9)
      rw [World.size_alloc] at e
      exact (hB3.block _ (by rw [hs]; omega)).trans e
    have := heap_setCell_same w3 (w1.heap.size + 1) 0 _ _ (.string s) hh
    simp only [World.cell?, this]; rfl
  refine ⟨(below_th hB1 hBa).setCell (p := ⟨w1.heap.size + 1, 0, none⟩) (by show w0.heap.size ≤ w1.heap.size + 1; omega) _, ?_, hz, ?_, h0, by omega, gb⟩
  · have e : (w3.setCell ⟨w1.heap.size + 1, 0, none⟩ (.string s)).heap[w1.heap.size]? = w3.heap[w1.heap.size]? := Below.heap_setCell _ _ _ _ (by simp)
    unfold World.cell? at hy ⊢
    dsimp only at hy ⊢
    rw [e]; exact hy
  · have hlt := hR.lt
    exact (hR.of_heap (hBa.block _ hlt)).of_heap (Below.heap_setCell _ _ _ _ (by simp; omega))
theorem readyB {w0 w1 w3 : World} {b n : Nat} {cs : List ByteArray} {s : ByteArray} (hB1 : Below w0.heap.size w0 w1) (hR : Row w1 b 9 (cs.map .string)) (gb : w0.heap.size ≤ b)
    (hB3 : Below (w1.alloc (.cells #[.slice (some ⟨b, 0, none⟩) n n] 50)).drew.heap.size (w1.alloc (.cells #[.slice (some ⟨b, 0, none⟩) n n] 50)).drew w3) :
    Ready w0 w1.heap.size w3.heap.size b n cs s (w3.alloc (.cells #[.string s] 9)) := by
  have h0 := hB1.size
  have hs : (w1.alloc (.cells #[.slice (some ⟨b, 0, none⟩) n n] 50)).drew.heap.size = w1.heap.size + 1 := by show (World.alloc _ _).heap.size = _; simp
  have h3 := hB3.size
  rw [hs] at h3
  have hBa : Below w1.heap.size w1 w3 := (below_new w1 _).drew.trans (hB3.mono (by rw [hs]; omega))
  have hy : w3.cell? ⟨w1.heap.size, 0, none⟩ = some (.slice (some ⟨b, 0, none⟩) n n) := by
    have e : w3.heap[w1.heap.size]? = (w1.alloc (.cells #[.slice (some ⟨b, 0, none⟩) n n] 50)).heap[w1.heap.size]? := hB3.block _ (by rw [hs]; omega)
    have h := cell_new w1 (.slice (some ⟨b, 0, none⟩) n n) 50
    unfold World.cell? at h ⊢
    dsimp only at h ⊢
    rw [e]; exact h
  refine ⟨below_al (below_th hB1 hBa) _, ?_, cell_new _ _ _, ?_, h0, by omega, gb⟩
  · have e : (w3.alloc (.cells #[.string s] 9)).heap[w1.heap.size]? = w3.heap[w1.heap.size]? := Below.heap_alloc _ _ _ (by omega)
    unfold World.cell? at hy ⊢
    dsimp only at hy ⊢
    rw [e]; exact hy
  · have hlt := hR.lt
    exact (hR.of_heap (hBa.block _ hlt)).of_heap (Below.heap_alloc _ _ _ (by omega))
/-- what the calls leave -/
structure Aft (p q : Nat) (F : Nat → Prop) (x : D) (w W w' : World) : Prop where
  only : Only F W w'
  disk : ∃ G, IsDisk w' p G x ∧ (∀ k, G k → F k ∨ w.heap.size ≤ k) ∧ (∀ k, G k → k < w'.heap.size) ∧ ¬ G q
section
variable {w : World} {q p : Nat} {l : Lg} {F : Nat → Prop} {d : D}
theorem aft_of {w0 W w' : World} {x : D} (hsz : w.heap.size ≤ W.heap.size) (hqF : ¬ F q) (hq : q < w.heap.size) (o : Obj) (h : Disk.Left p F x (W.alloc o).drew w') : Aft p q F x w W w' := by
  obtain ⟨F1, hD, hO, hF1⟩ := h
  obtain ⟨G, g1, g2, g3⟩ := tight hD
  have hs : (W.alloc o).drew.heap.size = W.heap.size + 1 := by show (W.alloc o).heap.size = _; simp
  refine ⟨(Only.of_below (below_new W o).drew).step hO fun i _ hi => hi, G, g1, fun k hk => ?_, g3, fun hh => ?_⟩
  · rcases hF1 k (g2 k hk) with h1 | h1
    · exact .inl h1
    · exact .inr (by rw [hs] at h1; omega)
  · rcases hF1 q (g2 q hh) with h1 | h1
    · exact hqF h1
    · rw [hs] at h1; omega
/-- the calls, where all stands ready -/
theorem run_ready {w0 : World} {y z b n : Nat} {cs : List ByteArray} {s : ByteArray} (hn : cs.length = n) (hB : Below w.heap.size w w0) (hbx : w0.cell? ⟨w.heap.size, 0, none⟩ = some (.pointer (some ⟨q, 0, none⟩))) (hl : LAt w q p l) (h : IsDisk w p F d) (hF : ∀ k, F k → k < w.heap.size) (hq : ¬ F q)
    (ha : l.at_ + 1 + cs.length ≤ d.B.length) (hz : ∀ c ∈ cs, c.size = 512) (hh : s.size = 512) (hops : d.ops + cs.length ≤ 1099511000000) (hn2 : cs.length ≤ 1000) (hw0 : w.heap.size < w0.heap.size) (W : World) (hR : Ready w0 y z b n cs s W) :
    Calls Try.prog 43 #[.slice (some ⟨W.heap.size, 0, none⟩) 4 4] (W.alloc (.cells (callsL p w.heap.size y z).toArray 88)).drew fun e w' => e = .returned (.int .i64 (offE (writeD d l.at_ cs s).2)) ∧ Aft p q F (writeD d l.at_ cs s).1 w W w' := by
  obtain ⟨r1, r2, r3, r4, r5, r6, r7⟩ := hR
  have hlt := h
  have hBW : Below w.heap.size w W := below_th hB r1
  have hBA : Below w.heap.size w (W.alloc (.cells (callsL p w.heap.size y z).toArray 88)).drew := (below_al hBW _).drew
  have hAB := (below_new W (.cells (callsL p w.heap.size y z).toArray 88)).drew
  have sz := hBW.size
  have nF : ∀ k, w.heap.size ≤ k → ¬ F k := fun k hk hf => by have := hF k hf; omega
  subst hn
  have hx1 : W.cell? ⟨w.heap.size, 0, none⟩ = some (.pointer (some ⟨q, 0, none⟩)) := (r1.cell (p := ⟨w.heap.size, 0, none⟩) hw0).trans hbx
  have := run_any (w := (W.alloc (.cells (callsL p w.heap.size y z).toArray 88)).drew) W.heap.size w.heap.size y z b cs s (World.alloc_heap_new W _)
    ((hAB.cell (p := ⟨w.heap.size, 0, none⟩) (cell_lt hx1)).trans hx1) ((hAB.cell (p := ⟨y, 0, none⟩) (cell_lt r2)).trans r2) ((hAB.cell (p := ⟨z, 0, none⟩) (cell_lt r3)).trans r3) (r4.of_heap (hAB.block _ r4.lt))
    (hl.th hBA) (h.below hBA) (nF _ sz) (nF _ (Nat.le_refl _)) (nF _ (by omega)) (nF _ (by omega)) (nF _ (by omega)) hq ha hz hh hops hn2
  refine this.mono ?_
  rintro e w' ⟨rfl, hL⟩
  exact ⟨rfl, aft_of (w0 := w0) sz hq hl.lt _ hL⟩
/-- places laid so far -/
structure PlI (l : Lg) (w5 : World) (n k : Nat) (wr : World) : Prop where
  row : ∃ cur, Row wr w5.heap.size 3 cur ∧ cur.length = n ∧ cur.take k = (places l n).take k
  bel : Below w5.heap.size w5 wr
theorem places_length (l : Lg) (n : Nat) : (places l n).length = n := by simp [places]
theorem PlI.step {l : Lg} {w5 wr : World} {n k : Nat} (h : PlI l w5 n k wr) (hk : k < n) : PlI l w5 n (k + 1) (wr.setCell ⟨w5.heap.size, k, none⟩ (.int .i64 ((l.at_ : Int) + 1 + (k : Int)))) := by
  obtain ⟨⟨cur, r, hl, ht⟩, hB⟩ := h
  refine ⟨⟨_, Disk.Row.setCell r _, by rw [List.length_set, hl], ?_⟩, hB.setCell (p := ⟨w5.heap.size, k, none⟩) (Nat.le_refl _) _⟩
  have hp : (places l n)[k]? = some (.int .i64 ((l.at_ : Int) + 1 + (k : Int))) := by simp [places, hk]
  rw [List.take_add_one, List.take_set_of_le (Nat.le_refl _), ht, List.take_add_one, hp]
  simp [hl, hk]
theorem infoI : (Try.prog.info? 3).map (fun i => (i.zero, i.size, i.bytes)) = some (some (.int .i64 0), 1, 8) := by kernel_rfl
end
end Go.Proofs.Ytghonccffmmjhaa.Log
