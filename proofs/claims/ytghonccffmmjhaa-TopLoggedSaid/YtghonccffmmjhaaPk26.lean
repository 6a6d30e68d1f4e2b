/- Several texts in one, each under its own heading. -/
import Derived.StillTailTactics
import Derived.Test.YtghonccffmmjhaaPk24
import Derived.Deep.QuietTactic
import Derived.BigQuiet
/- A record's contents, as a log reads them off its disk. -/
namespace Go.Proofs.Ytghonccffmmjhaa.Log
open Go.RowKit Go.Shelf
open Disk (D IsDisk)
open Record (E R RightP Ents AllOk EOk encB encS encE below_al below_new unwOk unwS unwE NewV)
attribute [local go_sem] Oper.semAt_some
set_option linter.unusedVariables false

/-- the contents of so many blocks behind a place -/
def cntsL (B : List ByteArray) (a n : Nat) : List ByteArray := (List.range n).map fun i => unwS (blk B (a + 1 + i))
theorem cntsL_length (B : List ByteArray) (a n : Nat) : (cntsL B a n).length = n := by simp [cntsL]
def allU (B : List ByteArray) (a n : Nat) : Prop := ∀ i, i < n → unwOk (blk B (a + 1 + i))
structure CntI (B : List ByteArray) (a n : Nat) (w : World) (k : Nat) (wr : World) : Prop where
  row : ∃ cur, Row wr w.heap.size 9 cur ∧ cur.length = n ∧ cur.take k = ((cntsL B a n).take k).map .string
  bel : Below w.heap.size w wr
  all : ∀ i, i < k → unwOk (blk B (a + 1 + i))
theorem CntI.step {B : List ByteArray} {a n k : Nat} {w wr W : World} (h : CntI B a n w k wr) (hk : k < n) (hB : Below wr.heap.size wr W) (hu : unwOk (blk B (a + 1 + k))) : CntI B a n w (k + 1) (W.setCell ⟨w.heap.size, k, none⟩ (.string (unwS (blk B (a + 1 + k))))) := by
  obtain ⟨⟨cur, r, rl, rt⟩, hb, ha⟩ := h
  refine ⟨⟨_, Disk.Row.setCell (r.of_heap (hB.block _ r.lt)) _, by rw [List.length_set, rl], ?_⟩, (hb.trans (hB.mono hb.size)).setCell (p := ⟨w.heap.size, k, none⟩) (Nat.le_refl _) _, fun i hi => ?_⟩
  · have hp : (cntsL B a n)[k]? = some (unwS (blk B (a + 1 + k))) := by simp [cntsL, hk]
    rw [List.take_add_one, List.take_set_of_le (Nat.le_refl _), rt, List.take_add_one, hp]
    simp [rl, hk]
  · rcases Nat.lt_or_ge i k with h1 | h1
    · exact ha i h1
    · obtain rfl : i = k := by omega
      exact hu
/-- what contents leaves -/
def CntPost (B : List ByteArray) (a n : Nat) (w : World) (e : Ending) (w' : World) : Prop := Below w.heap.size w w' ∧
  (allU B a n ∧ (∃ b, e = .returned (.tuple #[.slice (some ⟨b, 0, none⟩) n n, .bool true]) ∧ Row w' b 9 ((cntsL B a n).map .string) ∧ w.heap.size ≤ b) ∨ ¬ allU B a n ∧ e = .returned (.tuple #[.slice none 0 0, .bool false]))
theorem results_2 {fn : Func} {a b : Tmp} (h : fn.results = #[.tmp a, .tmp b]) (tmps : Array Value) (w : World) : (results fn tmps).run Try.prog w = .ok (.tuple #[tmps.getD a undef, tmps.getD b undef]) w := by
  simp [results, h, go_sem]
variable {w : World} {q p : Nat} {l : Lg} {F : Nat → Prop} {d : D}
section
set_option maxRecDepth 100000
set_option maxHeartbeats 2000000
theorem contents_any (n : Nat) (hl : LAt w q p l) (h : IsDisk w p F d) (hn : l.at_ + 1 + n ≤ d.B.length) (hn2 : n ≤ 1000) : Calls Try.prog 76 #[.pointer (some ⟨q, 0, none⟩), .int .i64 (n : Int)] w (CntPost d.now l.at_ n w) := by
  have hhi := h.ok.hi
  have hnl := d.now_length
  have hsz := h.ok.now_sizes
  obtain ⟨B, hB0⟩ : ∃ B, d.now = B := ⟨_, rfl⟩
  obtain ⟨N, hN⟩ : ∃ N, d.B.length = N := ⟨_, rfl⟩
  rw [hB0, hN] at hnl
  rw [hN] at hn hhi
  rw [hB0] at hsz ⊢
  have HRD : Hid (∀ W k, Below w.heap.size w W → k < N → Calls Try.prog 28 #[.pointer (some ⟨p, 0, none⟩), .int .i64 (k : Nat)] W fun e w' => e = .returned (.tuple #[.string (blk B k), .int .i64 0]) ∧ Below W.heap.size W w') := fun W k hW hk =>
    Disk.read_yes k (blk B k) (h.below hW) (by omega) (by rw [hB0]; exact blk_get (by omega))
  have HSZ : Hid (∀ k, k < N → (blk B k).size = 512) := fun k hk => hsz _ (blk_mem (by omega))
  have HL := Lib.hid hl
  obtain ⟨a, sq, nx⟩ := l
  dsimp only at hn ⊢
  obtain ⟨M, hM⟩ : ∃ M : List Value, M = (madeCells #[Value.string ByteArray.empty] n).toList := ⟨_, rfl⟩
  have hMl : M.length = n := by rw [hM, Array.length_toList, size_madeCells]
  have hmk : ∀ W : World, (Instr.makeSlice 50 (.int .i64 (n : Int)) (.int .i64 (n : Int))).run Try.prog W = .ok (.slice (some ⟨W.heap.size, 0, none⟩) n n) (W.alloc (.cells M.toArray 9)) := fun W => by
    rw [hM, Array.toArray_toList]
    exact run_make_row' (P := Try.prog) 50 9 (.string ByteArray.empty) 16 Try.underlying50 infoS rfl .i64 .i64 n (by omega) (by omega) W
  have HI0 : Hid (CntI B a n w 0 (w.alloc (.cells M.toArray 9))) := ⟨⟨M, heap_alloc_new w _, hMl, by simp⟩, below_new w _, fun i hi => by omega⟩
  clear hM hMl hl h hN hB0 hsz hnl
  go_enter Try.func76, Try.ntmps76
  go_wp2
  go_loopw [7, 8, 9, 14] (fun _ _ _ i wr => ∃ k : Nat, k ≤ n ∧ i = .int .i64 (k : Int) ∧ Hid (CntI B a n w k wr)) (fun _ _ _ i _ => n - (intOf i).toNat)
  case atStart => exact ⟨0, by omega, rfl, HI0.out⟩
  case round =>
    obtain ⟨k, hk, rfl, HI⟩ := hrel
    by_cases hlt : k < n
    · have hlw := HL.out.th HI.out.bel
      obtain ⟨c0, c1, c2, c3⟩ := hlw.c
      dsimp only at c1 c2 c3
      have hR := HRD.out wr.drew (a + 1 + k) HI.out.bel.drew (by omega)
      have e1 : ((a + 1 + k : Nat) : Int) = (a : Int) + 1 + (k : Int) := by omega
      rw [e1] at hR
      have h512 := HSZ.out (a + 1 + k) (by omega)
      have hST := fun W hB hu => HI.out.step hlt (W := W) hB hu
      have hNU : ¬ unwOk (blk B (a + 1 + k)) → ¬ allU B a n := fun h1 h2 => h1 (h2 k hlt)
      obtain ⟨cur, r, rl, rt⟩ := HI.out.row
      have hrc : ∀ W, Below wr.heap.size wr W → (∃ u, W.cell? ⟨w.heap.size, k, none⟩ = some u) ∧ W.frozen? ⟨w.heap.size, k, none⟩ = false := fun W hW => row_cell (r.of_heap (hW.block _ r.lt)) (by omega)
      obtain ⟨s, hs⟩ : ∃ s, blk B (a + 1 + k) = s := ⟨_, rfl⟩
      rw [hs] at hR h512 hNU
      simp only [hs] at hST
      have hun := fun W => Record.unwrap_any s W (by omega)
      have HRC := Lib.hid hrc
      have HKW : Hid (∀ W, Below wr.heap.size wr W → W.cell? ⟨q, 0, none⟩ = some (.pointer (some ⟨p, 0, none⟩)) ∧ W.cell? ⟨q, 1, none⟩ = some (.int .i64 (a : Int))) := fun W hW => ⟨(hlw.th hW).c.1, (hlw.th hW).c.2.1⟩
      have HST := Lib.hid hST
      have hat : a + 1 + k ≤ 4096 := by omega
      have v1 : IntKind.i64.wrap ((a : Int) + 1) = (a : Int) + 1 := by rw [IntKind.wrap_i64]; omega
      have v2 : IntKind.i64.wrap ((a : Int) + 1 + (k : Int)) = (a : Int) + 1 + (k : Int) := by rw [IntKind.wrap_i64]; omega
      clear e1 r rl rt hrc hs hST
      by_cases hu : unwOk s
      · simp only [Record.unwS_yes hu, Record.unwE_yes hu] at hun
        have HST2 := Lib.hid (fun W hB => HST.out W hB hu)
        rw [Record.unwS_yes hu] at HST2
        have HUN := Lib.hid hun
        clear hun hNU hu HST h512
        go_wp2
        go_region_held3 (fun W => W.cell? ⟨q, 0, none⟩ = some (.pointer (some ⟨p, 0, none⟩)) ∧ W.cell? ⟨q, 1, none⟩ = some (.int .i64 (a : Int))) (first | exact HKW.out _ hBa | exact HKW.out _ (Below.refl _ _).drew | exact HKW.out _ (Below.refl _ _)) (first
          | (go_at_call 28; ((with_reducible refine Calls.mono hR ?_); rintro e w1 ⟨rfl, hB1⟩; have hBa := below_th (Below.refl wr.heap.size wr).drew hB1)))
        go_wp2_with (first
          | (go_at_call 29; ((with_reducible refine Calls.mono (HUN.out _) ?_); rintro e w2 ⟨rfl, hB2⟩; have hBb := below_th hBa hB2; obtain ⟨⟨u, u1⟩, u2⟩ := HRC.out _ hBb; have HBb := Lib.hid hBb)))
        go_roundw
        case rel => exact ⟨k + 1, by omega, by go_num, HST2.out _ HBb.out⟩
        case measure => simp [intOf]; omega
      · simp only [Record.unwS_no hu, Record.unwE_no hu] at hun
        have HNU := Lib.hid (hNU hu)
        have HUN := Lib.hid hun
        clear hun hNU hu HST h512
        go_wp2
        go_region_held3 (fun W => W.cell? ⟨q, 0, none⟩ = some (.pointer (some ⟨p, 0, none⟩)) ∧ W.cell? ⟨q, 1, none⟩ = some (.int .i64 (a : Int))) (first | exact HKW.out _ hBa | exact HKW.out _ (Below.refl _ _).drew | exact HKW.out _ (Below.refl _ _)) (first
          | (go_at_call 28; ((with_reducible refine Calls.mono hR ?_); rintro e w1 ⟨rfl, hB1⟩; have hBa := below_th (Below.refl wr.heap.size wr).drew hB1)))
        go_wp2_with (first
          | (go_at_call 29; ((with_reducible refine Calls.mono (HUN.out _) ?_); rintro e w2 ⟨rfl, hB2⟩; have hBb := below_th hBa hB2; obtain ⟨⟨u, u1⟩, u2⟩ := HRC.out _ hBb; have HBb := Lib.hid hBb)))
        refine bodyPost_ret (results_2 rfl _ _) rfl ?_
        exact ⟨(below_th HI.out.bel HBb.out).setCell (p := ⟨w.heap.size, k, none⟩) (Nat.le_refl _) _, .inr ⟨HNU.out, rfl⟩⟩
    · obtain rfl : k = n := by omega
      go_wp2
      refine bodyPost_ret (results_2 rfl _ _) rfl ?_
      obtain ⟨⟨cur, r, rl, rt⟩, hb, ha⟩ := HI.out
      rw [List.take_of_length_le (by omega), List.take_of_length_le (by rw [cntsL_length]; omega)] at rt
      subst rt
      exact ⟨hb, .inl ⟨ha, _, rfl, r, Nat.le_refl _⟩⟩
end
end Go.Proofs.Ytghonccffmmjhaa.Log
/- The record where a log goes on, if one is there. -/
namespace Go.Proofs.Ytghonccffmmjhaa.Log
open Go.RowKit Go.Shelf
open Disk (D IsDisk)
open Record (E R RightP Ents AllOk EOk encB encS encE below_al below_new unwOk unwS unwE NewV decOk decR decV decE RAt boxR)
attribute [local go_sem] Oper.semAt_some
set_option linter.unusedVariables false

/-- a record that was found, in memory: v its entries, u its contents -/
def fdVal (a : Nat) (r : R) (v u : Value) : Value := .agg #[.int .i64 (a : Int), .int .u64 (r.seq : Int), .int .u64 (r.cp : Int), .bool r.ends, .bool r.sync, .int .i64 r.next, v, u]
def FAt (W : World) (b : Nat) (a : Nat) (r : R) (v u : Value) : Prop := W.heap[b]? = some (.cells #[.int .i64 (a : Int), .int .u64 (r.seq : Int), .int .u64 (r.cp : Int), .bool r.ends, .bool r.sync, .int .i64 r.next, v, u] 52 (0, 0))
def boxF (a : Nat) (r : R) (v u : Value) : Obj := .cells #[.int .i64 (a : Int), .int .u64 (r.seq : Int), .int .u64 (r.cp : Int), .bool r.ends, .bool r.sync, .int .i64 r.next, v, u] 52
namespace FAt
variable {W W' : World} {b a : Nat} {r : R} {v u : Value}
theorem c (h : FAt W b a r v u) : W.cell? ⟨b, 0, none⟩ = some (.int .i64 (a : Int)) ∧ W.cell? ⟨b, 1, none⟩ = some (.int .u64 (r.seq : Int)) ∧ W.cell? ⟨b, 2, none⟩ = some (.int .u64 (r.cp : Int)) ∧ W.cell? ⟨b, 3, none⟩ = some (.bool r.ends) ∧ W.cell? ⟨b, 4, none⟩ = some (.bool r.sync) ∧ W.cell? ⟨b, 5, none⟩ = some (.int .i64 r.next) ∧ W.cell? ⟨b, 6, none⟩ = some v ∧ W.cell? ⟨b, 7, none⟩ = some u := by
  unfold FAt at h
  simp only [World.cell?, h]
  exact ⟨rfl, rfl, rfl, rfl, rfl, rfl, rfl, rfl⟩
theorem f (h : FAt W b a r v u) (i : Nat) : W.frozen? ⟨b, i, none⟩ = false := by
  unfold FAt at h
  simp [World.frozen?, h]
theorem lt (h : FAt W b a r v u) : b < W.heap.size := (Array.getElem?_eq_some_iff.1 h).1
theorem th (h : FAt W b a r v u) (hB : Below W.heap.size W W') : FAt W' b a r v u := (hB.block b h.lt).trans h
theorem of_heap (h : FAt W b a r v u) (hb : W'.heap[b]? = W.heap[b]?) : FAt W' b a r v u := hb.trans h
theorem drew (h : FAt W b a r v u) : FAt W.drew b a r v u := h
theorem new (w : World) (a : Nat) (r : R) (v u : Value) : FAt (w.alloc (boxF a r v u)) w.heap.size a r v u := World.alloc_heap_new w _
end FAt
def set8 (W : World) (b : Nat) (u0 u1 u2 u3 u4 u5 u6 u7 : Value) : World := (((((((W.setCell ⟨b, 0, none⟩ u0).setCell ⟨b, 1, none⟩ u1).setCell ⟨b, 2, none⟩ u2).setCell ⟨b, 3, none⟩ u3).setCell ⟨b, 4, none⟩ u4).setCell ⟨b, 5, none⟩ u5).setCell ⟨b, 6, none⟩ u6).setCell ⟨b, 7, none⟩ u7
theorem set8_other {W : World} {b j : Nat} {u0 u1 u2 u3 u4 u5 u6 u7 : Value} (h : j ≠ b) : (set8 W b u0 u1 u2 u3 u4 u5 u6 u7).heap[j]? = W.heap[j]? :=
  (Below.heap_setCell _ _ _ _ h).trans ((Below.heap_setCell _ _ _ _ h).trans ((Below.heap_setCell _ _ _ _ h).trans ((Below.heap_setCell _ _ _ _ h).trans ((Below.heap_setCell _ _ _ _ h).trans ((Below.heap_setCell _ _ _ _ h).trans ((Below.heap_setCell _ _ _ _ h).trans (Below.heap_setCell _ _ _ _ h)))))))
theorem set8_below {W W0 : World} {n b : Nat} {u0 u1 u2 u3 u4 u5 u6 u7 : Value} (h : Below n W0 W) (hb : n ≤ b) : Below n W0 (set8 W b u0 u1 u2 u3 u4 u5 u6 u7) :=
  (((((((h.setCell (p := ⟨b, 0, none⟩) hb _).setCell (p := ⟨b, 1, none⟩) hb _).setCell (p := ⟨b, 2, none⟩) hb _).setCell (p := ⟨b, 3, none⟩) hb _).setCell (p := ⟨b, 4, none⟩) hb _).setCell (p := ⟨b, 5, none⟩) hb _).setCell (p := ⟨b, 6, none⟩) hb _).setCell (p := ⟨b, 7, none⟩) hb _
theorem FAt.put8 {W : World} {b a : Nat} {r : R} {v u : Value} (h : FAt W b a r v u) (a' : Nat) (r' : R) (v' u' : Value) :
    FAt (set8 W b (.int .i64 (a' : Int)) (.int .u64 (r'.seq : Int)) (.int .u64 (r'.cp : Int)) (.bool r'.ends) (.bool r'.sync) (.int .i64 r'.next) v' u') b a' r' v' u' := by
  unfold FAt at h ⊢
  have h0 : (W.setCell ⟨b, 0, none⟩ (.int .i64 (a' : Int))).heap[b]? = some (.cells #[.int .i64 (a' : Int), .int .u64 (r.seq : Int), .int .u64 (r.cp : Int), .bool r.ends, .bool r.sync, .int .i64 r.next, v, u] 52 (0, 0)) := heap_setCell_same _ b 0 _ _ (.int .i64 (a' : Int)) h
  have h1 : ((W.setCell ⟨b, 0, none⟩ (.int .i64 (a' : Int))).setCell ⟨b, 1, none⟩ (.int .u64 (r'.seq : Int))).heap[b]? = some (.cells #[.int .i64 (a' : Int), .int .u64 (r'.seq : Int), .int .u64 (r.cp : Int), .bool r.ends, .bool r.sync, .int .i64 r.next, v, u] 52 (0, 0)) := heap_setCell_same _ b 1 _ _ (.int .u64 (r'.seq : Int)) h0
  have h2 : (((W.setCell ⟨b, 0, none⟩ (.int .i64 (a' : Int))).setCell ⟨b, 1, none⟩ (.int .u64 (r'.seq : Int))).setCell ⟨b, 2, none⟩ (.int .u64 (r'.cp : Int))).heap[b]? = some (.cells #[.int .i64 (a' : Int), .int .u64 (r'.seq : Int), .int .u64 (r'.cp : Int), .bool r.ends, .bool r.sync, .int .i64 r.next, v, u] 52 (0, 0)) := heap_setCell_same _ b 2 _ _ (.int .u64 (r'.cp : Int)) h1
  have h3 : ((((W.setCell ⟨b, 0, none⟩ (.int .i64 (a' : Int))).setCell ⟨b, 1, none⟩ (.int .u64 (r'.seq : Int))).setCell ⟨b, 2, none⟩ (.int .u64 (r'.cp : Int))).setCell ⟨b, 3, none⟩ (.bool r'.ends)).heap[b]? = some (.cells #[.int .i64 (a' : Int), .int .u64 (r'.seq : Int), .int .u64 (r'.cp : Int), .bool r'.ends, .bool r.sync, .int .i64 r.next, v, u] 52 (0, 0)) := heap_setCell_same _ b 3 _ _ (.bool r'.ends) h2
  have h4 : (((((W.setCell ⟨b, 0, none⟩ (.int .i64 (a' : Int))).setCell ⟨b, 1, none⟩ (.int .u64 (r'.seq : Int))).setCell ⟨b, 2, none⟩ (.int .u64 (r'.cp : Int))).setCell ⟨b, 3, none⟩ (.bool r'.ends)).setCell ⟨b, 4, none⟩ (.bool r'.sync)).heap[b]? = some (.cells #[.int .i64 (a' : Int), .int .u64 (r'.seq : Int), .int .u64 (r'.cp : Int), .bool r'.ends, .bool r'.sync, .int .i64 r.next, v, u] 52 (0, 0)) := heap_setCell_same _ b 4 _ _ (.bool r'.sync) h3
  have h5 : ((((((W.setCell ⟨b, 0, none⟩ (.int .i64 (a' : Int))).setCell ⟨b, 1, none⟩ (.int .u64 (r'.seq : Int))).setCell ⟨b, 2, none⟩ (.int .u64 (r'.cp : Int))).setCell ⟨b, 3, none⟩ (.bool r'.ends)).setCell ⟨b, 4, none⟩ (.bool r'.sync)).setCell ⟨b, 5, none⟩ (.int .i64 r'.next)).heap[b]? = some (.cells #[.int .i64 (a' : Int), .int .u64 (r'.seq : Int), .int .u64 (r'.cp : Int), .bool r'.ends, .bool r'.sync, .int .i64 r'.next, v, u] 52 (0, 0)) := heap_setCell_same _ b 5 _ _ (.int .i64 r'.next) h4
  have h6 : (((((((W.setCell ⟨b, 0, none⟩ (.int .i64 (a' : Int))).setCell ⟨b, 1, none⟩ (.int .u64 (r'.seq : Int))).setCell ⟨b, 2, none⟩ (.int .u64 (r'.cp : Int))).setCell ⟨b, 3, none⟩ (.bool r'.ends)).setCell ⟨b, 4, none⟩ (.bool r'.sync)).setCell ⟨b, 5, none⟩ (.int .i64 r'.next)).setCell ⟨b, 6, none⟩ v').heap[b]? = some (.cells #[.int .i64 (a' : Int), .int .u64 (r'.seq : Int), .int .u64 (r'.cp : Int), .bool r'.ends, .bool r'.sync, .int .i64 r'.next, v', u] 52 (0, 0)) := heap_setCell_same _ b 6 _ _ v' h5
  have h7 : ((((((((W.setCell ⟨b, 0, none⟩ (.int .i64 (a' : Int))).setCell ⟨b, 1, none⟩ (.int .u64 (r'.seq : Int))).setCell ⟨b, 2, none⟩ (.int .u64 (r'.cp : Int))).setCell ⟨b, 3, none⟩ (.bool r'.ends)).setCell ⟨b, 4, none⟩ (.bool r'.sync)).setCell ⟨b, 5, none⟩ (.int .i64 r'.next)).setCell ⟨b, 6, none⟩ v').setCell ⟨b, 7, none⟩ u').heap[b]? = some (.cells #[.int .i64 (a' : Int), .int .u64 (r'.seq : Int), .int .u64 (r'.cp : Int), .bool r'.ends, .bool r'.sync, .int .i64 r'.next, v', u'] 52 (0, 0)) := heap_setCell_same _ b 7 _ _ u' h6
  exact h7
def zeroF : Value := .agg #[.int .i64 0, .int .u64 0, .int .u64 0, .bool false, .bool false, .int .i64 0, .slice none 0 0, .slice none 0 0]
theorem results_fnd {fn : Func} {r e : Tmp} (h : fn.results = #[.cell r 52, .tmp e]) (tmps : Array Value) (w : World) {b a : Nat} {s : R} {v u : Value} (hp : tmps.getD r undef = .pointer (some ⟨b, 0, none⟩)) (hA : FAt w b a s v u) :
    (results fn tmps).run Try.prog w = .ok (.tuple #[fdVal a s v u, tmps.getD e undef]) w := by
  obtain ⟨c0, c1, c2, c3, c4, c5, c6, c7⟩ := hA.c
  rw [Array.getD_eq_getD_getElem?] at hp
  simp [results, h, hp, go_sem, c0, c1, c2, c3, c4, c5, c6, c7]
  rfl
/-- what standing leaves -/
def StdPost (B : List ByteArray) (l : Lg) (w : World) (e : Ending) (w' : World) : Prop := Below w.heap.size w w' ∧
  (thereP B l ∧ (∃ v b, e = .returned (.tuple #[fdVal l.at_ (hd B l) v (.slice (some ⟨b, 0, none⟩) (cnt B l) (cnt B l)), .bool true]) ∧ Ents w' v (hd B l).l ∧ NewV w.heap.size v ∧ Row w' b 9 ((fdAt B l).c.map .string) ∧ w.heap.size ≤ b) ∨ ¬ thereP B l ∧ e = .returned (.tuple #[zeroF, .bool false]))
end Go.Proofs.Ytghonccffmmjhaa.Log
