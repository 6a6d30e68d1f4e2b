/- The reference's Crash. -/
import Derived.Test.YtbidhiefgbddeaaDiskRefD
namespace Go.Proofs.Ytbidhiefgbddeaa.Disk.R
open Go.RowKit Go.Shelf
set_option linter.unusedVariables false

section
set_option maxRecDepth 100000
variable {q : Nat} {G : Nat → Prop} {d : D} {w : World}
def Fresh (d : D) (w : World) (e : Ending) (w' : World) : Prop := ∃ p, e = .returned (.pointer (some ⟨p, 0, none⟩)) ∧ IsRef w' p (fun k => w.heap.size ≤ k) d ∧ w.heap.size ≤ p ∧ Below w.heap.size w w'
theorem ret_ptr {p p' : Nat} (h : p = p') : Ending.returned (.pointer (some ⟨p, 0, none⟩)) = .returned (.pointer (some ⟨p', 0, none⟩)) := by rw [h]
/-- a disk of the reference's make: fresh -/
theorem fresh_ref {w w1 : World} {v : Value} {B : List ByteArray} {base : Nat} (hok : (D.of B).Ok) (hv : w1.ownsRow base 9 1 v B.length (strs B)) (hb : w.heap.size ≤ base) (hB : Below w.heap.size w w1) :
    IsRef (w1.alloc (topR v (.slice none 0 0) 0 (-1) false)) w1.heap.size (fun k => w.heap.size ≤ k) (D.of B) ∧ Below w.heap.size w (w1.alloc (topR v (.slice none 0 0) 0 (-1) false)) := by
  have hv2 := hv.alloc (topR v (.slice none 0 0) 0 (-1) false)
  refine ⟨⟨hok, v, .slice none 0 0, false, ⟨heap_alloc_new w1 _, ⟨hv2.1, hv2.2.imp id (fun ⟨g, cap, cur, e1, _, e2⟩ => ⟨g, cap, cur, e1, Nat.zero_le _, e2⟩)⟩, World.ownsRow_nil _ _ _ _⟩, (by simp), ?_⟩, hB.alloc hB.size _⟩
  rintro k (rfl | hk | hk)
  · exact hB.size
  · have := (hv.lt k hk).1
    show w.heap.size ≤ k
    omega
  · simp [Value.ownBlock] at hk

set_option maxHeartbeats 4000000 in
theorem crash_r (keep : Nat) (t : Int) (hkeep : keep < 18446744073709551616) (h : IsRef w q G d) (hops : d.ops ≤ 1099511627776) : Calls Try.prog 36 #[.pointer (some ⟨q, 0, none⟩), .agg #[.int .u64 keep, .int .i64 t]] w (Fresh (d.crashed keep t) w) := by
  obtain ⟨vb, vl, gone, hA, hg, hF⟩ := h.mem
  have hlo := h.ok.lo
  have hhi := h.ok.hi
  have hfew := h.ok.few
  have hok := h.ok.crashed keep t
  have hatall := h.ok.at_
  have hls5 := h.ok.lsizes
  have hsz := fun k => crashTo_sizes d.B d.L keep t k h.ok.sizes h.ok.lsizes h.ok.at_
  have hlen := fun k => crashTo_length d.B d.L keep t k
  obtain ⟨W0, hW0⟩ : ∃ W0, w.alloc (.cells #[.int .u64 keep, .int .i64 t] 35) = W0 := ⟨_, rfl⟩
  have hB0 : Below w.heap.size w W0 := by rw [← hW0]; exact (Below.refl _ w).alloc (Nat.le_refl _) _
  have hs0 : W0.heap.size = w.heap.size + 1 := by rw [← hW0]; simp
  have hf0 : W0.heap[w.heap.size]? = some (.cells #[.int .u64 keep, .int .i64 t] 35 (0, 0)) := by rw [← hW0]; exact heap_alloc_new w _
  have hA0 := hA.below hB0
  have c0 := hA0.c0
  have hs := settled_any d.B [] vb (.slice none 0 0) 0 0 W0 hA0.bs (World.ownsRow_nil _ _ _ _) hlo hhi (by simp) (by simp)
  have hs' : Calls Try.prog 40 #[vb, .slice none 0 0] W0 (Set d.B W0) := hs
  clear hs
  obtain ⟨xa, xc, rfl⟩ := hA.slb
  obtain ⟨ya, yc, rfl⟩ := hA.sll
  have hls := hA0.ls
  obtain ⟨B, hBd⟩ : ∃ B, d.B = B := ⟨_, rfl⟩
  obtain ⟨L, hLd⟩ : ∃ L, d.L = L := ⟨_, rfl⟩
  have hend : d.crashed keep t = D.of (crashTo B L keep t L.length) := by rw [← hBd, ← hLd]; rfl
  rw [hend] at hok ⊢
  rw [hBd, hLd] at hsz hlen
  rw [hBd] at hlo hhi hatall c0 hs'
  rw [hLd] at hfew hatall hls hls5
  have c1 := hA0.c1
  rw [hLd] at c1
  obtain ⟨n, hn⟩ : ∃ n, B.length = n := ⟨_, rfl⟩
  rw [hn] at hlo hhi hatall c0 hs' hlen
  have hq0 := (Array.getElem?_eq_some_iff.1 hA0.top).1
  have HN := Lib.hid hn
  have HS := Lib.hid hs'
  have HSZ := Lib.hid hsz
  have HLEN := Lib.hid hlen
  have HAT := Lib.hid hatall
  have HL5 := Lib.hid hls5
  have HEND := Lib.hid hend
  have HOK := Lib.hid hok
  have HW0 := Lib.hid hW0
  clear hsz hlen hatall hls5 hend hok hBd hLd hn hs' hg
  go_enter Try.func36, Try.ntmps36
  go_wp2_with (go_at_call 40; refine (HS.out).mono ?_; rintro e w1 ⟨v, rfl, hv, hB1⟩)
  obtain ⟨g1, cap1, rfl, hg1c, hg1c2, hg1, _⟩ := own_read hv (by rw [HN.out]; exact hlo)
  rw [HN.out] at hv hg1c ⊢
  have hgn : W0.heap.size ≤ g1 := (hv.lt g1 rfl).1
  have hst : w1.ownsRow W0.heap.size 9 1 (.slice (some ⟨g1, 0, none⟩) n cap1) n (strs (crashTo B L keep t 0)) := hv
  clear hW0 hv
  go_loopw [6, 7] (fun i _ wr => ∃ k : Nat, k ≤ L.length ∧ i = .int .i64 k ∧ wr.ownsRow W0.heap.size 9 1 (.slice (some ⟨g1, 0, none⟩) n cap1) n (strs (crashTo B L keep t k)) ∧ Below W0.heap.size W0 wr) (fun i _ _ => L.length - (intOf i).toNat)
  case atStart => exact ⟨0, Nat.zero_le _, rfl, hst, hB1⟩
  case round =>
    obtain ⟨k, hk, rfl, hown, hB⟩ := hrel
    have e1 := (hB.cell (p := ⟨q, 1, none⟩) hq0).trans c1
    have hcf : wr.heap[w.heap.size]? = some (.cells #[.int .u64 keep, .int .i64 t] 35 (0, 0)) := (hB.block w.heap.size (by omega)).trans hf0
    have g0 : wr.cell? ⟨w.heap.size, 0, none⟩ = some (.int .u64 keep) := by simp only [World.cell?, hcf]; rfl
    have g1' : wr.cell? ⟨w.heap.size, 1, none⟩ = some (.int .i64 t) := by simp only [World.cell?, hcf]; rfl
    have hwrs := hB.size
    have hwl : w.heap.size < wr.heap.size := by omega
    by_cases hlt : k < L.length
    · obtain ⟨x, hx⟩ : ∃ x, L[k]? = some x := ⟨_, List.getElem?_eq_getElem hlt⟩
      have hxn := HAT.out x (List.mem_of_getElem? hx)
      have hx512 := HL5.out x (List.mem_of_getElem? hx)
      have hc := cellsW_at L k x hx
      obtain ⟨gl, cl, hv, hcl, hcl2, hgll, hrdl⟩ := own_read hls (by omega)
      obtain ⟨rfl, rfl⟩ : ya = some ⟨gl, 0, none⟩ ∧ yc = cl := by simpa using hv
      have d0 := (hB.cell (p := ⟨gl, k * 2, none⟩) hgll).trans ((hrdl (k * 2) (by omega)).trans hc.1)
      have d1 := (hB.cell (p := ⟨gl, k * 2 + 1, none⟩) hgll).trans ((hrdl (k * 2 + 1) (by omega)).trans hc.2)
      obtain ⟨bs, hbs⟩ : ∃ bs, crashTo B L keep t k = bs := ⟨_, rfl⟩
      have hbl : bs.length = n := by rw [← hbs]; exact HLEN.out k
      obtain ⟨o, ho⟩ : ∃ o, bs[x.1]? = some o := ⟨_, List.getElem?_eq_getElem (by omega)⟩
      have hget : bs.getD x.1 ByteArray.empty = o := by rw [List.getD_eq_getElem?_getD, ho]; rfl
      have ho512 : o.size = 512 := HSZ.out k o (by rw [hbs]; exact List.mem_of_getElem? ho)
      have HT := Lib.hid (crashTo_torn B L keep t k x hx)
      have HK := Lib.hid (crashTo_kept B L keep t k x hx)
      have HLo := Lib.hid (crashTo_lost B L keep t k)
      rw [hbs] at hown HT HK HLo
      rw [hget] at HT
      have hg1l : g1 < wr.heap.size := (hown.lt g1 rfl).2
      have cu : wr.cell? ⟨g1, x.1, none⟩ = some (.string o) := by rw [hown.cellAt x.1 (by omega)]; exact strs_at _ _ _ ho
      have fu := hown.frozenAt x.1
      have hkl : k < L.length := hlt
      have HO := Lib.hid hown
      have hWa : Below W0.heap.size W0 (wr.alloc (.cells #[.int .i64 (x.1 : Int), .string x.2] 84)) := hB.alloc hB.size _
      by_cases htk : (k : Int) = t
      · have hq : ((k : Int) == t) = true := by simpa using htk
        have b1 : 256 ≤ x.2.size := by omega
        have b2 : 256 ≤ o.size := by omega
        have b3 : (256 : Int) ≤ (x.2.size : Int) := by omega
        have b4 : (256 : Int) ≤ (o.size : Int) := by omega
        have sA : (x.2.extract 0 256).size ≤ 512 := by simp; omega
        have sB : (o.extract 256 o.size).size ≤ 512 := by simp; omega
        have hnext := (HT.out htk)
        unfold torn at hnext
        obtain ⟨tA, eA⟩ : ∃ tA, x.2.extract 0 256 = tA := ⟨_, rfl⟩
        obtain ⟨tB, eB⟩ : ∃ tB, o.extract 256 o.size = tB := ⟨_, rfl⟩
        rw [eA, eB] at hnext
        rw [eA] at sA
        rw [eB] at sB
        have hadd := fun W => run_string_add_sum (P := Try.prog) (w := W) tA tB (by omega)
        have HNX := Lib.hid hnext
        obtain ⟨W1, hW1⟩ : ∃ W1, wr.alloc (.cells #[.int .i64 (x.1 : Int), .string x.2] 84) = W1 := ⟨_, rfl⟩
        have hblk : W1.heap[wr.heap.size]? = some (.cells #[.int .i64 (x.1 : Int), .string x.2] 84 (0, 0)) := by rw [← hW1]; exact heap_alloc_new wr _
        have x0 : W1.cell? ⟨wr.heap.size, 0, none⟩ = some (.int .i64 (x.1 : Int)) := by simp only [World.cell?, hblk]; rfl
        have x1 : W1.cell? ⟨wr.heap.size, 1, none⟩ = some (.string x.2) := by simp only [World.cell?, hblk]; rfl
        have HO1 : Hid (W1.ownsRow W0.heap.size 9 1 (.slice (some ⟨g1, 0, none⟩) n cap1) n (strs bs)) := by rw [← hW1]; exact HO.out.alloc _
        have cu1 : W1.cell? ⟨g1, x.1, none⟩ = some (.string o) := by rw [HO1.out.cellAt x.1 (by omega)]; exact strs_at _ _ _ ho
        have fu1 := HO1.out.frozenAt x.1
        have gg1 : W1.cell? ⟨w.heap.size, 1, none⟩ = some (.int .i64 t) := by rw [← hW1]; exact (((Below.refl wr.heap.size wr).alloc (Nat.le_refl _) _).cell (p := ⟨w.heap.size, 1, none⟩) hwl).trans g1'
        rw [hW1] at hWa
        clear hnext htk HT HK HLo hbs hbl ho hget ho512 hx512 hx hcf hc hv hrdl hown hblk cu fu
        go_wp2
        go_still_tail 14, (by kernel_rfl)
        go_wp2
        go_roundw
        case rel => exact ⟨k + 1, by omega, by go_num, by rw [HNX.out, strs_set]; exact (HO1.out.stored x.1 _).1, (hWa.setCell (p := ⟨g1, x.1, none⟩) hgn _).drew⟩
        case measure => simp [intOf]; omega
      · have hq : ((k : Int) == t) = false := by simpa using htk
        by_cases hsy : stays keep k
        · have hb : (bits BinOp.and IntKind.u64 ((keep : Int) / 2 ^ (k % 64)) 1 == 1) = true := by
            rw [bit_at keep k hkeep, beq_iff_eq]; exact_mod_cast hsy
          have HNX := Lib.hid (HK.out htk hsy)
          clear htk HT HK HLo hbs hbl ho hget ho512 hx512 hx hcf hc hv hrdl hown hsy
          go_wp2
          go_roundw
          case rel => exact ⟨k + 1, by omega, by go_num, by rw [HNX.out, strs_set]; exact (HO.out.stored x.1 _).1.alloc _, (hB.setCell (p := ⟨g1, x.1, none⟩) hgn _).alloc (by rw [World.size_setCell]; exact hB.size) _⟩
          case measure => simp [intOf]; omega
        · have hb : (bits BinOp.and IntKind.u64 ((keep : Int) / 2 ^ (k % 64)) 1 == 1) = false := by
            rw [bit_at keep k hkeep]
            apply Bool.eq_false_iff.2
            rw [ne_eq, beq_iff_eq]
            exact fun hh => hsy (by exact_mod_cast hh)
          have HNX := Lib.hid (HLo.out htk hsy)
          clear htk HT HK HLo hbs hbl ho hget ho512 hx512 hx hcf hc hv hrdl hown hsy
          go_wp2
          go_roundw
          case rel => exact ⟨k + 1, by omega, by go_num, by rw [HNX.out]; exact HO.out.alloc _, hWa⟩
          case measure => simp [intOf]; omega
    · obtain rfl : L.length = k := by omega
      have hBw : Below w.heap.size w wr := hB0.trans (hB.mono hB0.size)
      have hl2 := HLEN.out L.length
      have hfr := fresh_ref HOK.out (by rw [hl2]; exact hown) (by omega) hBw
      clear hl2 hown hcf
      go_wp2
      go_ret
      refine ⟨wr.heap.size, rfl, ?_, hBw.size, ?_⟩
      · exact hfr.1
      · exact hfr.2
end
end Go.Proofs.Ytbidhiefgbddeaa.Disk.R
