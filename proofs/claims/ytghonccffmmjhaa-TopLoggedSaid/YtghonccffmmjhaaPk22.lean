/- Several texts in one, each under its own heading. -/
import Derived.Deep.RegionWith
import Derived.Deep.RegionHeld3
import Derived.Test.YtghonccffmmjhaaPk21
/- Calls made one behind the other, up to the first error. -/
namespace Go.Proofs.Ytghonccffmmjhaa.Log
open Go.RowKit Go.Shelf
open Disk (D IsDisk)
attribute [local go_sem] Oper.semAt_some
set_option linter.unusedVariables false

section
set_option maxRecDepth 100000
set_option maxHeartbeats 1000000
/-- what a call of a list may leave: no error, and the next may be made; or an error -/
def OnePost (S : World → Prop) (T : Int → World → Prop) (e : Ending) (w' : World) : Prop := ∃ c : Int, e = .returned (.int .i64 c) ∧ (c = 0 ∧ S w' ∨ c ≠ 0 ∧ T c w')
theorem inOrder_any (n : Nat) (v : Value) (fs : List Value) (hn : fs.length = n) (hm : n ≤ 100) (S : Nat → World → Prop) (T : Int → World → Prop) (w : World)
    (hV : ∀ k W, S k W → Lies W v n 1 fs)
    (hC : ∀ k W, S k W → k < n → ∃ K bs cs, fs[k]? = some (.func (.func K) bs cs) ∧ (∀ (xs : Array Value) (W : World), Sem.run Try.prog (callFunc K xs) W = .ok (.enter K xs) W) ∧ Calls Try.prog K (bs ++ cs) W (OnePost (S (k + 1)) T))
    (h0 : S 0 w) : Calls Try.prog 43 #[v] w (OnePost (S n) T) := by
  obtain ⟨va, cap, rfl, hcn, hcm⟩ : ∃ va cap, v = .slice va n cap ∧ n ≤ cap ∧ cap ≤ 9223372036854775807 := by
    obtain ⟨a1, c1, e1, _, h1, h2⟩ := (hV 0 w h0).parts
    exact ⟨a1, c1, e1, h1, h2⟩
  have HV := Lib.hid hV
  have HC := Lib.hid hC
  have HN := Lib.hid hn
  clear hV hC hn
  obtain ⟨W0, rfl⟩ : ∃ W0 : World, W0 = w := ⟨_, rfl⟩
  go_enter Try.func43, Try.ntmps43
  go_wp2
  go_loopw [4, 5, 8] (fun _ _ i wr => ∃ k : Nat, k ≤ n ∧ i = .int .i64 (k : Int) ∧ Hid (S k wr)) (fun _ _ i _ => n - (intOf i).toNat)
  case atStart => exact ⟨0, by omega, rfl, h0⟩
  case round =>
    obtain ⟨k, hk, rfl, HS⟩ := hrel
    by_cases hlt : k < n
    · obtain ⟨K, bs, cs, hf, hK, hc⟩ := HC.out k wr HS.out hlt
      obtain ⟨b, off, rfl, hcell⟩ := (HV.out k wr HS.out).read hf
      clear hf
      unfold OnePost at hc
      go_wp2_with ((with_reducible refine Calls.mono hc ?_); rintro e w1 ⟨c, rfl, hx⟩; have HX := Lib.hid hx; clear hx)
      · rename_i hne
        have hc0 : c ≠ 0 := by simpa using hne
        have HC0 := Lib.hid hc0
        clear hc0 hne
        go_ret
        refine ⟨c, rfl, .inr ⟨HC0.out, ?_⟩⟩
        rcases HX.out with ⟨h, _⟩ | ⟨_, h⟩
        · exact absurd h HC0.out
        · exact h
      · rename_i hne
        have hc0 : c = 0 := by simpa using hne
        have HC0 := Lib.hid hc0
        clear hc0 hne
        go_roundw
        case rel =>
          refine ⟨k + 1, by omega, by go_num, ?_⟩
          rcases HX.out with ⟨_, h⟩ | ⟨h, _⟩
          · exact h
          · exact absurd HC0.out h
        case measure => simp [intOf]; omega
    · obtain rfl : k = n := by omega
      go_wp2
      go_ret
      exact ⟨0, rfl, .inl ⟨rfl, HS.out⟩⟩
end

theorem enters_w1 : ∀ (xs : Array Value) (W : World), Sem.run Try.prog (callFunc 44 xs) W = .ok (.enter 44 xs) W := fun _ _ => by kernel_rfl
theorem enters_w2 : ∀ (xs : Array Value) (W : World), Sem.run Try.prog (callFunc 47 xs) W = .ok (.enter 47 xs) W := fun _ _ => by kernel_rfl
theorem enters_fl : ∀ (xs : Array Value) (W : World), Sem.run Try.prog (callFunc 46 xs) W = .ok (.enter 46 xs) W := fun _ _ => by kernel_rfl

section
variable {w : World} {q p : Nat} {l : Lg} {F : Nat → Prop} {d : D}
set_option maxRecDepth 100000
set_option maxHeartbeats 1000000
theorem done_th {p : Nat} {F : Nat → Prop} {x : D × Bool} {w w1 w' : World} {e : Ending} (hB : Below w.heap.size w w1) (h : DonePost p F x w1 e w') : DonePost p F x w e w' := ⟨h.1, left_th (Only.of_below hB) (fun k hk => .inl hk) h.2⟩
theorem flush_any (h : IsDisk w p F d) (hops : d.ops ≤ 1099511627776) : Calls Try.prog 46 #[.pointer (some ⟨p, 0, none⟩)] w (DonePost p F (flushD d) w) := by
  by_cases ho : d.off
  · rw [flushD_off ho]
    refine (Disk.flush_off h ho).mono ?_
    rintro e w' ⟨rfl, hB⟩
    exact ⟨rfl, left_refl h hB⟩
  · rw [flushD_on ho]
    refine (Disk.flush_ok h ho hops).mono ?_
    rintro e w' ⟨rfl, hL⟩
    exact ⟨rfl, hL⟩
theorem write1_any (bx by_ : Nat) (v : Value) (cs : List ByteArray) (hbx : w.cell? ⟨bx, 0, none⟩ = some (.pointer (some ⟨q, 0, none⟩))) (hby : w.cell? ⟨by_, 0, none⟩ = some v) (hFx : ¬ F bx) (hFy : ¬ F by_) (hl : LAt w q p l) (h : IsDisk w p F d) (hq : ¬ F q) (hT : Texts w F v cs) (ha : l.at_ + 1 + cs.length ≤ d.B.length) (hz : ∀ c ∈ cs, c.size = 512) (hops : d.ops + cs.length ≤ 1099511627776) :
    Calls Try.prog 44 #[.pointer (some ⟨bx, 0, none⟩), .pointer (some ⟨by_, 0, none⟩)] w (DonePost p F (layD d (l.at_ + 1) cs) w) := by
  have hhi := h.ok.hi
  obtain ⟨va, cap, rfl, hn, hm⟩ : ∃ va cap, v = .slice va cs.length cap ∧ cs.length ≤ cap ∧ cap ≤ 9223372036854775807 := by
    obtain ⟨a1, c1, e1, _, h1, h2⟩ := (hT w (Only.refl _ _)).parts
    exact ⟨a1, c1, e1, h1, h2⟩
  have e1 : ((l.at_ + 1 : Nat) : Int) = (l.at_ : Int) + 1 := by omega
  have HC : Hid (Calls Try.prog 45 #[.pointer (some ⟨q, 0, none⟩), .int .i64 ((l.at_ : Int) + 1), .slice va cs.length cap] w.drew (DonePost p F (layD d (l.at_ + 1) cs) w.drew)) := by
    have hW : Below w.heap.size w w.drew := (Below.refl _ _).drew
    have := lay_any (l.at_ + 1) (.slice va cs.length cap) cs (hl.th hW) (h.below hW) hq (fun W2 h2 => hT W2 ((Only.of_below hW).step h2 fun i _ hi => hi)) ha hz hops
    rw [e1] at this
    exact this
  have ha2 : l.at_ < 4096 := by omega
  have HK : Hid (∀ W, Only F w W → W.cell? ⟨bx, 0, none⟩ = some (.pointer (some ⟨q, 0, none⟩)) ∧ W.cell? ⟨by_, 0, none⟩ = some (.slice va cs.length cap) ∧ W.cell? ⟨q, 1, none⟩ = some (.int .i64 (l.at_ : Int))) := fun W hW => by
    have cell : ∀ b u, w.cell? ⟨b, 0, none⟩ = some u → ¬ F b → W.cell? ⟨b, 0, none⟩ = some u := fun b u hb hf => by
      obtain ⟨c, t, f, hh⟩ := cell_block hb
      have : W.heap[b]? = w.heap[b]? := hW.block b (Array.getElem?_eq_some_iff.1 hh).1 hf
      unfold World.cell? at hb ⊢
      dsimp only at hb ⊢
      rw [this]; exact hb
    exact ⟨cell _ _ hbx hFx, cell _ _ hby hFy, (hl.of_heap (hW.block q hl.lt hq)).c.2.1⟩
  have HK2 : Hid (∀ e W, DonePost p F (layD d (l.at_ + 1) cs) w.drew e W → Only F w W) := fun e W hP => by
    obtain ⟨_, F2, _, h2, _⟩ := hP
    exact (Only.of_below ((Below.refl _ _).drew)).step h2 fun i _ hi => hi
  have hO0 : Only F w w.drew := Only.of_below ((Below.refl _ _).drew)
  have hO1 : Only F w w := Only.refl _ _
  have v1 : IntKind.i64.wrap ((l.at_ : Int) + 1) = (l.at_ : Int) + 1 := by rw [IntKind.wrap_i64]; omega
  obtain ⟨a, s, n⟩ := l
  dsimp only at HK HK2 HC ha2 v1
  clear e1 hl h hq hT ha hz hops hbx hby hFx hFy
  go_enter Try.func44, Try.ntmps44
  go_wp2
  go_region_held3 (fun W => W.cell? ⟨bx, 0, none⟩ = some (.pointer (some ⟨q, 0, none⟩)) ∧ W.cell? ⟨by_, 0, none⟩ = some (.slice va cs.length cap) ∧ W.cell? ⟨q, 1, none⟩ = some (.int .i64 (a : Int))) (first | exact HK.out _ hO2 | exact HK.out _ hO0 | exact HK.out _ hO1) (first | (go_at_call 45; ((with_reducible refine Calls.mono HC.out ?_); rintro e w' hP; have hO2 := HK2.out _ _ hP; obtain ⟨rfl, hP⟩ := hP; have HP := Lib.hid hP; clear hP)))
  go_wp2
  go_ret
  exact done_th ((Below.refl _ _).drew) ⟨rfl, HP.out⟩
/-- a slice of one text, just made -/
theorem one_text (W0 : World) (s : ByteArray) (hf : ¬ F W0.heap.size) : Texts (W0.alloc (.cells #[.string s] 9)) F (.slice (some ⟨W0.heap.size, 0, none⟩) 1 1) [s] := fun W hW => by
  refine ⟨_, 1, rfl, Nat.le_refl _, ⟨by unfold maxLen; omega, fun e => by cases e⟩, rfl, fun _ => ⟨W0.heap.size, 0, rfl, fun j u hj => ?_⟩⟩
  have hb : W.heap[W0.heap.size]? = some (.cells #[.string s] 9 (0, 0)) := (hW.block _ (by simp) hf).trans (World.alloc_heap_new W0 _)
  simp only [World.cell?, hb, Nat.zero_add]
  simpa using hj
theorem write2_any (bx by_ : Nat) (s : ByteArray) (hbx : w.cell? ⟨bx, 0, none⟩ = some (.pointer (some ⟨q, 0, none⟩))) (hby : w.cell? ⟨by_, 0, none⟩ = some (.string s)) (hFx : ¬ F bx) (hFy : ¬ F by_) (hl : LAt w q p l) (h : IsDisk w p F d) (hq : ¬ F q) (hF : ¬ F w.heap.size) (ha : l.at_ + 1 ≤ d.B.length) (hz : s.size = 512) (hops : d.ops + 1 ≤ 1099511627776) :
    Calls Try.prog 47 #[.pointer (some ⟨bx, 0, none⟩), .pointer (some ⟨by_, 0, none⟩)] w (DonePost p F (layD d l.at_ [s]) w) := by
  have hhi := h.ok.hi
  have HCA : Hid (∀ W, Below w.heap.size w W → (∀ W2, Only F W W2 → Lies W2 (.slice (some ⟨w.heap.size, 0, none⟩) 1 1) 1 1 [.string s]) → Calls Try.prog 45 #[.pointer (some ⟨q, 0, none⟩), .int .i64 (l.at_ : Int), .slice (some ⟨w.heap.size, 0, none⟩) 1 1] W (DonePost p F (layD d l.at_ [s]) W)) := fun W hW hT =>
    lay_any l.at_ (.slice (some ⟨w.heap.size, 0, none⟩) 1 1) [s] (hl.th hW) (h.below hW) hq hT (by simp; omega) (fun c hc => by simp at hc; rw [hc]; exact hz) (by simpa using hops)
  have HC1 : Hid (Calls Try.prog 45 #[.pointer (some ⟨q, 0, none⟩), .int .i64 (l.at_ : Int), .slice (some ⟨w.heap.size, 0, none⟩) 1 1] (w.alloc (.cells #[.string s] 9)).drew (DonePost p F (layD d l.at_ [s]) (w.alloc (.cells #[.string s] 9)).drew)) :=
    HCA.out _ (Record.below_new w _).drew (fun W2 h2 => one_text w s hF W2 h2.ofDrew)
  have ha2 : l.at_ < 4096 := by omega
  have HK : Hid (∀ W, Only F w W → W.cell? ⟨bx, 0, none⟩ = some (.pointer (some ⟨q, 0, none⟩)) ∧ W.cell? ⟨by_, 0, none⟩ = some (.string s) ∧ W.cell? ⟨q, 1, none⟩ = some (.int .i64 (l.at_ : Int))) := fun W hW => by
    have cell : ∀ b u, w.cell? ⟨b, 0, none⟩ = some u → ¬ F b → W.cell? ⟨b, 0, none⟩ = some u := fun b u hb hf => by
      obtain ⟨c, t, f, hh⟩ := cell_block hb
      have : W.heap[b]? = w.heap[b]? := hW.block b (Array.getElem?_eq_some_iff.1 hh).1 hf
      unfold World.cell? at hb ⊢
      dsimp only at hb ⊢
      rw [this]; exact hb
    exact ⟨cell _ _ hbx hFx, cell _ _ hby hFy, (hl.of_heap (hW.block q hl.lt hq)).c.2.1⟩
  have hO1 : Only F w w := Only.refl _ _
  have hO0 : Only F w w.drew := Only.of_below ((Below.refl _ _).drew)
  have hO3 : Only F w (w.alloc (.cells #[.string s] 9)).drew := Only.of_below (Record.below_new w _).drew
  have HK2 : Hid (∀ e W, DonePost p F (layD d l.at_ [s]) (w.alloc (.cells #[.string s] 9)).drew e W → Only F w W) := fun e W hP => by
    obtain ⟨_, F2, _, h2, _⟩ := hP
    exact hO3.step h2 fun i _ hi => hi
  obtain ⟨a, sq, n⟩ := l
  dsimp only at HK HK2 HC1 HCA ha2
  clear hl h hq ha hz hops hbx hby hFx hFy HCA
  go_enter Try.func47, Try.ntmps47
  go_wp2
  go_region_held3 (fun W => W.cell? ⟨bx, 0, none⟩ = some (.pointer (some ⟨q, 0, none⟩)) ∧ W.cell? ⟨by_, 0, none⟩ = some (.string s) ∧ W.cell? ⟨q, 1, none⟩ = some (.int .i64 (a : Int))) (first | exact HK.out _ hO2 | exact HK.out _ hO3 | exact HK.out _ hO0 | exact HK.out _ hO1) (first | (go_at_call 45; ((with_reducible refine Calls.mono HC1.out ?_); rintro e w' hP; have hO2 := HK2.out _ _ hP; obtain ⟨rfl, hP⟩ := hP; have HP := Lib.hid hP; clear hP)))
  go_wp2
  go_ret
  exact done_th (Record.below_new w _).drew ⟨rfl, HP.out⟩
end
end Go.Proofs.Ytghonccffmmjhaa.Log
/- Items that came in, and laidOut: their blocks and their entries. -/
namespace Go.Proofs.Ytghonccffmmjhaa.Log
open Go.RowKit Go.Shelf
open Disk (D IsDisk)
open Record (E ent wrapB wrapS wrapE below_al below_new)
attribute [local go_sem] Oper.semAt_some
set_option linter.unusedVariables false

/-- an item -/
structure It where
  e : E
  c : ByteArray
def It.cells (x : It) : List Value := [.int .i64 x.e.kind, .int .u32 x.e.file, .int .u32 x.e.index, .int .u32 x.e.vbn, .string x.c]
def It.zero : It := ⟨E.zero, ByteArray.empty⟩
/-- the i-th item -/
def itm (L : List It) (i : Nat) : It := L.getD i It.zero
theorem itm_get {L : List It} {i : Nat} (h : i < L.length) : L[i]? = some (itm L i) := by
  unfold itm
  rw [List.getD_eq_getElem?_getD, List.getElem?_eq_getElem h]
  rfl
theorem itm_mem {L : List It} {i : Nat} (h : i < L.length) : itm L i ∈ L := List.mem_of_getElem? (itm_get h)
def Its (w : World) (v : Value) (L : List It) : Prop := Lies w v L.length 5 (L.flatMap It.cells)
theorem Its.parts {w : World} {v : Value} {L : List It} (h : Its w v L) : ∃ a cap, v = .slice a L.length cap ∧ L.length ≤ cap ∧ cap ≤ 9223372036854775807 := by
  obtain ⟨a, cap, e, _, h1, h2⟩ := Lies.parts h
  exact ⟨a, cap, e, h1, h2⟩
theorem Its.below {w w' : World} {v : Value} {L : List It} (h : Its w v L) (hB : Below w.heap.size w w') : Its w' v L := Lies.below h hB
theorem Its.get {w : World} {v : Value} {n : Nat} {L : List It} (hn : L.length = n) (h : Its w v L) {k : Nat} (hk : k < n) :
    ∃ b off cap, v = .slice (some ⟨b, off, none⟩) n cap ∧ w.cell? ⟨b, off + k * 5, none⟩ = some (.int .i64 (itm L k).e.kind) ∧ w.cell? ⟨b, off + k * 5 + 1, none⟩ = some (.int .u32 (itm L k).e.file) ∧ w.cell? ⟨b, off + k * 5 + 2, none⟩ = some (.int .u32 (itm L k).e.index) ∧ w.cell? ⟨b, off + k * 5 + 3, none⟩ = some (.int .u32 (itm L k).e.vbn) ∧ w.cell? ⟨b, off + k * 5 + 4, none⟩ = some (.string (itm L k).c) := by
  subst hn
  obtain ⟨a, cap, rfl, _, _, _, h5⟩ := h
  obtain ⟨b, off, rfl, hc⟩ := h5 (by omega)
  have hf := fun j (hj : j < 5) => flat_at It.cells 5 L (fun o _ => rfl) k j (itm L k) (itm_get hk) hj
  refine ⟨b, off, cap, rfl, ?_, ?_, ?_, ?_, ?_⟩
  · exact hc (k * 5) _ (hf 0 (by omega))
  · have := hc _ _ (hf 1 (by omega)); rwa [← Nat.add_assoc] at this
  · have := hc _ _ (hf 2 (by omega)); rwa [← Nat.add_assoc] at this
  · have := hc _ _ (hf 3 (by omega)); rwa [← Nat.add_assoc] at this
  · have := hc _ _ (hf 4 (by omega)); rwa [← Nat.add_assoc] at this
/-- contents that fit, as blocks; and the entries -/
def fitP (L : List It) : Prop := ∀ x ∈ L, x.c.size ≤ 508
def blks (L : List It) : List ByteArray := L.map fun x => wrapB x.c
def ents (L : List It) : List E := L.map It.e
theorem blks_length (L : List It) : (blks L).length = L.length := by simp [blks]
theorem ents_length (L : List It) : (ents L).length = L.length := by simp [ents]
theorem ents_cells_length (L : List E) : (L.flatMap E.cells).length = L.length * 4 := flat_length E.cells 4 L (fun _ _ => rfl)

/-- what the loop has laid: k of both -/
structure OutI (w : World) (b1 b2 n : Nat) (L : List It) (k : Nat) (wr : World) : Prop where
  r1 : ∃ cur, Row wr b1 9 cur ∧ cur.length = n ∧ cur.take k = ((blks L).take k).map .string
  r2 : ∃ cur, Row wr b2 64 cur ∧ cur.length = n * 4 ∧ cur.take (k * 4) = ((ents L).take k).flatMap E.cells
  bel : Below w.heap.size w wr
  fit : ∀ j, j < k → (itm L j).c.size ≤ 508
theorem OutI.drew {w wr : World} {b1 b2 n k : Nat} {L : List It} (h : OutI w b1 b2 n L k wr) : OutI w b1 b2 n L k wr.drew := ⟨h.r1, h.r2, h.bel.drew, h.fit⟩
def set4 (W : World) (b o : Nat) (e : E) : World := (((W.setCell ⟨b, o, none⟩ (.int .i64 e.kind)).setCell ⟨b, o + 1, none⟩ (.int .u32 e.file)).setCell ⟨b, o + 2, none⟩ (.int .u32 e.index)).setCell ⟨b, o + 3, none⟩ (.int .u32 e.vbn)
theorem set4_row {W : World} {b o : Nat} {cur : List Value} {t : TypeId} (e : E) (h : Row W b t cur) : Row (set4 W b o e) b t ((((cur.set o (.int .i64 e.kind)).set (o + 1) (.int .u32 e.file)).set (o + 2) (.int .u32 e.index)).set (o + 3) (.int .u32 e.vbn)) :=
  Disk.Row.setCell (Disk.Row.setCell (Disk.Row.setCell (Disk.Row.setCell h _) _) _) _
theorem set4_other {W : World} {b o j : Nat} (e : E) (h : j ≠ b) : (set4 W b o e).heap[j]? = W.heap[j]? :=
  (Below.heap_setCell _ _ _ _ h).trans ((Below.heap_setCell _ _ _ _ h).trans ((Below.heap_setCell _ _ _ _ h).trans (Below.heap_setCell _ _ _ _ h)))
theorem set4_below {W W0 : World} {n b o : Nat} (e : E) (h : Below n W0 W) (hb : n ≤ b) : Below n W0 (set4 W b o e) := (((h.setCell (p := ⟨b, o, none⟩) hb _).setCell (p := ⟨b, o + 1, none⟩) hb _).setCell (p := ⟨b, o + 2, none⟩) hb _).setCell (p := ⟨b, o + 3, none⟩) hb _
theorem take_set4 (cur : List Value) (k : Nat) (e : E) (h : k * 4 + 4 ≤ cur.length) : ((((cur.set (k * 4) (.int .i64 e.kind)).set (k * 4 + 1) (.int .u32 e.file)).set (k * 4 + 2) (.int .u32 e.index)).set (k * 4 + 3) (.int .u32 e.vbn)).take ((k + 1) * 4) = cur.take (k * 4) ++ e.cells := by
  apply List.ext_getElem?
  intro i
  rw [show (k + 1) * 4 = k * 4 + 4 by omega]
  have hl : (cur.take (k * 4)).length = k * 4 := by rw [List.length_take]; omega
  rcases Nat.lt_or_ge i (k * 4) with h1 | h1
  · rw [List.getElem?_append_left (by omega), List.getElem?_take, if_pos (by omega), List.getElem?_take, if_pos h1, List.getElem?_set_ne (by omega), List.getElem?_set_ne (by omega), List.getElem?_set_ne (by omega), List.getElem?_set_ne (by omega)]
  · rw [List.getElem?_append_right (by omega), hl, List.getElem?_take]
    by_cases h2 : i < k * 4 + 4
    · rw [if_pos h2]
      obtain ⟨j, rfl⟩ : ∃ j, i = k * 4 + j := ⟨i - k * 4, by omega⟩
      rw [show k * 4 + j - k * 4 = j by omega]
      have hj : j < 4 := by omega
      match j, hj with
      | 0, _ => rw [List.getElem?_set_ne (by omega), List.getElem?_set_ne (by omega), List.getElem?_set_ne (by omega), Nat.add_zero, List.getElem?_set_self (by omega)]; rfl
      | 1, _ => rw [List.getElem?_set_ne (by omega), List.getElem?_set_ne (by omega), List.getElem?_set_self (by simp; omega)]; rfl
      | 2, _ => rw [List.getElem?_set_ne (by omega), List.getElem?_set_self (by simp; omega)]; rfl
      | 3, _ => rw [List.getElem?_set_self (by simp; omega)]; rfl
    · rw [if_neg h2, List.getElem?_eq_none]
      show 4 ≤ _
      omega
theorem out_step {w wr W : World} {b1 b2 n : Nat} {L : List It} {k : Nat} (h : OutI w b1 b2 n L k wr) (hn : L.length = n) (hk : k < n) (hne : b1 ≠ b2) (h1 : w.heap.size ≤ b1) (h2 : w.heap.size ≤ b2) (hB : Below wr.heap.size wr W) (hf : (itm L k).c.size ≤ 508) :
    OutI w b1 b2 n L (k + 1) (set4 (W.setCell ⟨b1, k, none⟩ (.string (wrapB (itm L k).c))) b2 (k * 4) (itm L k).e) ∧ OutI w b1 b2 n L (k + 1) ((set4 W b2 (k * 4) (itm L k).e).setCell ⟨b1, k, none⟩ (.string (wrapB (itm L k).c))) := by
  obtain ⟨⟨c1, r1, l1, t1⟩, ⟨c2, r2, l2, t2⟩, hbel, hfit⟩ := h
  have R1 : Row W b1 9 c1 := r1.of_heap (hB.block _ r1.lt)
  have R2 : Row W b2 64 c2 := r2.of_heap (hB.block _ r2.lt)
  have hbl : (blks L)[k]? = some (wrapB (itm L k).c) := by simp [blks, itm_get (by omega : k < L.length)]
  have hel : (ents L)[k]? = some (itm L k).e := by simp [ents, itm_get (by omega : k < L.length)]
  have T1 : (c1.set k (.string (wrapB (itm L k).c))).take (k + 1) = ((blks L).take (k + 1)).map .string := by
    rw [List.take_add_one, List.take_set_of_le (Nat.le_refl _), t1, List.take_add_one, hbl]
    simp [l1, hk]
  have T2 := take_set4 c2 k (itm L k).e (by omega)
  rw [t2] at T2
  have T3 : ((ents L).take (k + 1)).flatMap E.cells = ((ents L).take k).flatMap E.cells ++ (itm L k).e.cells := by
    rw [List.take_add_one, hel]
    simp
  have hBW : Below w.heap.size w W := hbel.trans (hB.mono hbel.size)
  have F1 : ∀ j, j < k + 1 → (itm L j).c.size ≤ 508 := fun j hj => by
    rcases Nat.lt_or_ge j k with h3 | h3
    · exact hfit j h3
    · obtain rfl : j = k := by omega
      exact hf
  refine ⟨⟨⟨_, (Disk.Row.setCell R1 _).of_heap (set4_other _ hne), by rw [List.length_set, l1], T1⟩, ⟨_, set4_row _ (R2.of_heap (Below.heap_setCell _ _ _ _ hne.symm)), by simp [l2], by rw [T2, T3]⟩, set4_below _ (hBW.setCell (p := ⟨b1, k, none⟩) h1 _) h2, F1⟩,
    ⟨⟨_, Disk.Row.setCell (R1.of_heap (set4_other _ hne)) _, by rw [List.length_set, l1], T1⟩, ⟨_, (set4_row _ R2).of_heap (Below.heap_setCell _ _ _ _ hne.symm), by simp [l2], by rw [T2, T3]⟩, (set4_below _ hBW h2).setCell (p := ⟨b1, k, none⟩) h1 _, F1⟩⟩
/-- what laidOut leaves -/
def OutPost (L : List It) (room : Nat) (w : World) (e : Ending) (w' : World) : Prop := Below w.heap.size w w' ∧
  ((L.length ≤ room ∧ fitP L ∧ ∃ b1 b2, e = .returned (.tuple #[.slice (some ⟨b1, 0, none⟩) L.length L.length, .slice (some ⟨b2, 0, none⟩) L.length L.length, .bool true]) ∧ Row w' b1 9 ((blks L).map .string) ∧ Row w' b2 64 ((ents L).flatMap E.cells) ∧ w.heap.size ≤ b1 ∧ w.heap.size ≤ b2 ∧ b1 < w'.heap.size)
  ∨ ¬ (L.length ≤ room ∧ fitP L) ∧ e = .returned (.tuple #[.slice none 0 0, .slice none 0 0, .bool false]))
theorem infoS : (Try.prog.info? 9).map (fun i => (i.zero, i.size, i.bytes)) = some (some (.string ByteArray.empty), 1, 16) := by kernel_rfl
theorem infoE : (Try.prog.info? 64).map (fun i => (i.zero, i.size, i.bytes)) = some (some (.agg #[.int .i64 0, .int .u32 0, .int .u32 0, .int .u32 0]), 4, 24) := by kernel_rfl
theorem fit_all {L : List It} (h : ∀ j, j < L.length → (itm L j).c.size ≤ 508) : fitP L := fun x hx => by
  obtain ⟨i, hi⟩ := List.getElem?_of_mem hx
  have hl := (List.getElem?_eq_some_iff.1 hi).1
  have := h i hl
  rw [itm_get hl] at hi
  rwa [show x = itm L i by simpa using hi.symm]
/-- an item's box -/
def boxI (x : It) : Obj := .cells #[.int .i64 x.e.kind, .int .u32 x.e.file, .int .u32 x.e.index, .int .u32 x.e.vbn, .string x.c] 66
def IAt (W : World) (b : Nat) (x : It) : Prop := W.heap[b]? = some (.cells #[.int .i64 x.e.kind, .int .u32 x.e.file, .int .u32 x.e.index, .int .u32 x.e.vbn, .string x.c] 66 (0, 0))
theorem IAt.c {W : World} {b : Nat} {x : It} (h : IAt W b x) : W.cell? ⟨b, 0, none⟩ = some (.int .i64 x.e.kind) ∧ W.cell? ⟨b, 1, none⟩ = some (.int .u32 x.e.file) ∧ W.cell? ⟨b, 2, none⟩ = some (.int .u32 x.e.index) ∧ W.cell? ⟨b, 3, none⟩ = some (.int .u32 x.e.vbn) ∧ W.cell? ⟨b, 4, none⟩ = some (.string x.c) := by
  unfold IAt at h
  simp only [World.cell?, h]
  exact ⟨rfl, rfl, rfl, rfl, rfl⟩
theorem IAt.new (w : World) (x : It) : IAt (w.alloc (boxI x)) w.heap.size x := World.alloc_heap_new w _
theorem IAt.lt {W : World} {b : Nat} {x : It} (h : IAt W b x) : b < W.heap.size := (Array.getElem?_eq_some_iff.1 h).1
theorem IAt.th {W W' : World} {b : Nat} {x : It} (h : IAt W b x) (hB : Below W.heap.size W W') : IAt W' b x := (hB.block b h.lt).trans h
theorem IAt.of_heap {W W' : World} {b : Nat} {x : It} (h : IAt W b x) (hb : W'.heap[b]? = W.heap[b]?) : IAt W' b x := hb.trans h
theorem results_3 {fn : Func} {a b c : Tmp} (h : fn.results = #[.tmp a, .tmp b, .tmp c]) (tmps : Array Value) (w : World) : (results fn tmps).run Try.prog w = .ok (.tuple #[tmps.getD a undef, tmps.getD b undef, tmps.getD c undef]) w := by
  simp [results, h, go_sem]
theorem row_cell {W : World} {b i : Nat} {t : TypeId} {cur : List Value} (h : Row W b t cur) (hi : i < cur.length) : (∃ u, W.cell? ⟨b, i, none⟩ = some u) ∧ W.frozen? ⟨b, i, none⟩ = false := ⟨⟨_, by rw [h.at_]; exact List.getElem?_eq_getElem hi⟩, h.frozen i⟩
/-- what stands ready where an entry is stored, part by part -/
theorem set4_facts {W : World} {b o : Nat} {t : TypeId} {cur : List Value} (e : E) (h : Row W b t cur) (hi : o + 4 ≤ cur.length) :
    ((∃ u, W.cell? ⟨b, o, none⟩ = some u) ∧ W.frozen? ⟨b, o, none⟩ = false) ∧
    ((∃ u, (W.setCell ⟨b, o, none⟩ (.int .i64 e.kind)).cell? ⟨b, o + 1, none⟩ = some u) ∧ (W.setCell ⟨b, o, none⟩ (.int .i64 e.kind)).frozen? ⟨b, o + 1, none⟩ = false) ∧
    ((∃ u, ((W.setCell ⟨b, o, none⟩ (.int .i64 e.kind)).setCell ⟨b, o + 1, none⟩ (.int .u32 e.file)).cell? ⟨b, o + 2, none⟩ = some u) ∧ ((W.setCell ⟨b, o, none⟩ (.int .i64 e.kind)).setCell ⟨b, o + 1, none⟩ (.int .u32 e.file)).frozen? ⟨b, o + 2, none⟩ = false) ∧
    ((∃ u, (((W.setCell ⟨b, o, none⟩ (.int .i64 e.kind)).setCell ⟨b, o + 1, none⟩ (.int .u32 e.file)).setCell ⟨b, o + 2, none⟩ (.int .u32 e.index)).cell? ⟨b, o + 3, none⟩ = some u) ∧ (((W.setCell ⟨b, o, none⟩ (.int .i64 e.kind)).setCell ⟨b, o + 1, none⟩ (.int .u32 e.file)).setCell ⟨b, o + 2, none⟩ (.int .u32 e.index)).frozen? ⟨b, o + 3, none⟩ = false) :=
  ⟨row_cell h (by omega), row_cell (Disk.Row.setCell h _) (by simp; omega), row_cell (Disk.Row.setCell (Disk.Row.setCell h _) _) (by simp; omega), row_cell (Disk.Row.setCell (Disk.Row.setCell (Disk.Row.setCell h _) _) _) (by simp; omega)⟩
section
set_option maxRecDepth 100000
set_option maxHeartbeats 1000000
theorem laidOut_many (L : List It) (room : Nat) (v : Value) (w : World) (hL : Its w v L) (h : ¬ L.length ≤ room) : Calls Try.prog 41 #[v, .int .i64 (room : Int)] w (OutPost L room w) := by
  obtain ⟨a, cap, rfl, h1, h2⟩ := hL.parts
  have hg : (room : Int) < (L.length : Int) := by omega
  have HP : Hid (∀ W, Below w.heap.size w W → OutPost L room w (.returned (.tuple #[.slice none 0 0, .slice none 0 0, .bool false])) W) := fun W hW => ⟨hW, .inr ⟨fun hh => h hh.1, rfl⟩⟩
  clear h
  go_enter Try.func41, Try.ntmps41
  go_wp2
  refine bodyPost_ret (results_3 rfl _ _) rfl ?_
  exact HP.out _ (Below.refl _ _)
theorem laidOut_few (L : List It) (room : Nat) (v : Value) (w : World) (hL : Its w v L) (h : L.length ≤ room) (hr : room ≤ 1000) (hsz : ∀ x ∈ L, x.c.size ≤ 281474976710656) : Calls Try.prog 41 #[v, .int .i64 (room : Int)] w (OutPost L room w) := by
  obtain ⟨va, cap, rfl, h1, h2⟩ := hL.parts
  obtain ⟨n, hn⟩ : ∃ n, L.length = n := ⟨_, rfl⟩
  have HN := Lib.hid hn
  obtain ⟨M, hM⟩ : ∃ M : List Value, M = (madeCells #[Value.string ByteArray.empty] n).toList := ⟨_, rfl⟩
  have hMl : M.length = n := by rw [hM, Array.length_toList, size_madeCells]
  have hmk : ∀ W : World, (Instr.makeSlice 50 (.int .i64 (n : Int)) (.int .i64 (n : Int))).run Try.prog W = .ok (.slice (some ⟨W.heap.size, 0, none⟩) n n) (W.alloc (.cells M.toArray 9)) := fun W => by
    rw [hM, Array.toArray_toList]
    exact run_make_row' (P := Try.prog) 50 9 (.string ByteArray.empty) 16 Try.underlying50 infoS rfl .i64 .i64 n (by omega) (by omega) W
  obtain ⟨i0, hi, hz0, hz1, hz2⟩ := info_parts infoE
  obtain ⟨M2, hM2⟩ : ∃ M2 : List Value, M2 = (madeCells #[.int .i64 0, .int .u32 0, .int .u32 0, .int .u32 0] (n * 4)).toList := ⟨_, rfl⟩
  have hM2l : M2.length = n * 4 := by rw [hM2, Array.length_toList, size_madeCells]
  have hmk2 : ∀ W : World, (Instr.makeSlice 47 (.int .i64 (n : Int)) (.int .i64 (n : Int))).run Try.prog W = .ok (.slice (some ⟨W.heap.size, 0, none⟩) n n) (W.alloc (.cells M2.toArray 64)) := fun W => by
    rw [hM2, Array.toArray_toList]
    have := run_make (P := Try.prog) (w := W) 47 64 i0 (.agg #[.int .i64 0, .int .u32 0, .int .u32 0, .int .u32 0]) Try.underlying47 hi hz0 .i64 .i64 (n : Int) (n : Int) (by omega) (Int.le_refl _) (by rw [hz2]; omega) (by omega)
    simp only [Int.toNat_natCast, hz1] at this
    exact this
  have hg : ¬ (room : Int) < (L.length : Int) := by omega
  obtain ⟨W1, hW1⟩ : ∃ W1, (w.alloc (.cells M.toArray 9)).alloc (.cells M2.toArray 64) = W1 := ⟨_, rfl⟩
  have hI0 : OutI w w.heap.size (w.heap.size + 1) n L 0 W1 := by
    rw [← hW1]
    refine ⟨⟨M, (show Row _ _ _ _ from heap_alloc_new w _) |>.of_heap (Below.heap_alloc _ _ _ (by simp)), hMl, by simp⟩, ⟨M2, ?_, hM2l, by simp⟩, below_al (below_new _ _) _, fun j hj => by omega⟩
    have := heap_alloc_new (w.alloc (.cells M.toArray 9)) (.cells M2.toArray 64)
    rw [World.size_alloc] at this
    exact this
  have HI := Lib.hid hI0
  have HL := Lib.hid hL
  have HSZ := Lib.hid hsz
  have HR := Lib.hid h
  rw [hn] at hg h h1 ⊢
  clear hM hMl hM2 hM2l hI0 hL hsz hn hi hz0 hz1 hz2
  go_enter Try.func41, Try.ntmps41
  go_wp2
  go_loopw [9, 10, 11, 12, 25] (fun _ _ _ _ i wr => ∃ k : Nat, k ≤ n ∧ i = .int .i64 (k : Int) ∧ Hid (OutI w w.heap.size (w.heap.size + 1) n L k wr)) (fun _ _ _ _ i _ => n - (intOf i).toNat)
  case atStart => exact ⟨0, by omega, rfl, HI.out⟩
  case round =>
    obtain ⟨k, hk, rfl, HO⟩ := hrel
    by_cases hlt : k < n
    · obtain ⟨b, off, cap2, e2, c0, c1, c2, c3, c4⟩ := (HL.out.below (HO.out.bel)).get HN.out hlt
      cases e2
      have hx512 := HSZ.out _ (itm_mem (L := L) (by rw [HN.out]; exact hlt))
      have hnf : ¬ (itm L k).c.size ≤ 508 → ¬ (L.length ≤ room ∧ fitP L) := fun h1 h2 => h1 (h2.2 _ (itm_mem (L := L) (by rw [HN.out]; exact hlt)))
      have hst := fun W hW hf => out_step HO.out HN.out hlt (by omega) (Nat.le_refl _) (by omega) hW hf (W := W)
      obtain ⟨x, hx⟩ : ∃ x, itm L k = x := ⟨_, rfl⟩
      rw [hx] at c0 c1 c2 c3 c4 hx512 hnf
      simp only [hx] at hst
      clear hx
      have hwr := fun W => Record.wrap_any x.c W hx512
      have hbx := IAt.new wr x
      have hBb := below_new wr (boxI x)
      clear hx512
      obtain ⟨⟨kd, f, ix, vb⟩, c⟩ := x
      unfold boxI at hbx hBb
      dsimp only at c0 c1 c2 c3 c4 hwr hnf hst hbx hBb
      have HBX := Lib.hid hbx
      have HBB := Lib.hid hBb
      have HST := Lib.hid hst
      clear hbx hBb hst
      by_cases hfit : c.size ≤ 508
      · simp only [Record.wrapS_yes hfit, Record.wrapE_yes hfit] at hwr
        obtain ⟨s, hs⟩ : ∃ s, wrapB c = s := ⟨_, rfl⟩
        have HST2 := Lib.hid (fun W hW => HST.out W hW hfit)
        rw [hs] at HST2
        simp only [hs] at hwr
        have HWR := Lib.hid hwr
        clear hwr hnf hfit hs HST
        go_wp2_with (go_at_call 55; (with_reducible refine Calls.mono (HWR.out _) ?_); rintro e w2 ⟨rfl, hB2⟩; have hbx2 := HBX.out.th hB2; have hBw := below_th HBB.out hB2)
        obtain ⟨⟨x1, r1, l1, t1⟩, ⟨x2, r2, l2, t2⟩, hbel, hfi⟩ := HO.out
        have R1 := r1.of_heap (hBw.block _ r1.lt)
        have R2 := r2.of_heap (hBw.block _ r2.lt)
        have hb1 : w.heap.size ≠ wr.heap.size := by have := r2.lt; omega
        have hb2 : w.heap.size + 1 ≠ wr.heap.size := by have := r2.lt; omega
        have hbx3 := hbx2.of_heap (Below.heap_setCell w2 ⟨w.heap.size, k, none⟩ (.string s) _ hb1.symm)
        obtain ⟨b0, b1, b2, b3, b4⟩ := hbx2.c
        obtain ⟨d0, d1, d2, d3, d4⟩ := hbx3.c
        obtain ⟨⟨q0, q1⟩, q2⟩ := row_cell R1 (by omega : k < x1.length)
        obtain ⟨⟨⟨m0, m1⟩, m2⟩, ⟨⟨m3, m4⟩, m5⟩, ⟨⟨m6, m7⟩, m8⟩, ⟨⟨m9, m10⟩, m11⟩⟩ := set4_facts ⟨kd, f, ix, vb⟩ R2 (by omega : k * 4 + 4 ≤ x2.length)
        obtain ⟨⟨⟨p0, p1⟩, p2⟩, ⟨⟨p3, p4⟩, p5⟩, ⟨⟨p6, p7⟩, p8⟩, ⟨⟨p9, p10⟩, p11⟩⟩ := set4_facts ⟨kd, f, ix, vb⟩ (R2.of_heap (Below.heap_setCell w2 ⟨w.heap.size, k, none⟩ (.string s) (w.heap.size + 1) (by simp))) (by omega : k * 4 + 4 ≤ x2.length)
        obtain ⟨⟨o0, o1⟩, o2⟩ := row_cell (R1.of_heap (set4_other (W := w2) (b := w.heap.size + 1) (o := k * 4) ⟨kd, f, ix, vb⟩ (by simp))) (by omega : k < x1.length)
        unfold set4 at o1 o2
        dsimp only at m4 m5 m7 m8 m10 m11 p4 p5 p7 p8 p10 p11 o1 o2 b0 b1 b2 b3 b4 d0 d1 d2 d3 d4
        clear r1 r2 R1 R2 l1 l2 t1 t2 hbel hfi hbx2 hbx3
        have HF := HST2.out w2 hBw
        unfold set4 at HF
        dsimp only at HF
        obtain ⟨HF1, HF2⟩ := HF
        have HG1 := Lib.hid HF1
        have HG2 := Lib.hid HF2
        clear HF1 HF2
        go_wp2
        go_region
        all_goals
          go_wp2
          go_roundw
          case rel => exact ⟨k + 1, by omega, by go_num, by first | exact HG1.out.drew | exact HG2.out.drew⟩
          case measure => simp [intOf]; omega
      · have HNF := Lib.hid (hnf hfit)
        simp only [Record.wrapS_no hfit, Record.wrapE_no hfit] at hwr
        have HWR := Lib.hid hwr
        clear hwr hnf hfit
        go_wp2_with (go_at_call 55; (with_reducible refine Calls.mono (HWR.out _) ?_); rintro e w2 ⟨rfl, hB2⟩; have hBw := below_th HBB.out hB2)
        refine bodyPost_ret (results_3 rfl _ _) rfl ?_
        exact ⟨below_th HO.out.bel hBw, .inr ⟨HNF.out, rfl⟩⟩
    · obtain rfl : k = n := by omega
      go_wp2
      refine bodyPost_ret (results_3 rfl _ _) rfl ?_
      obtain ⟨⟨x1, r1, l1, t1⟩, ⟨x2, r2, l2, t2⟩, hbel, hfi⟩ := HO.out
      have hN := HN.out
      rw [List.take_of_length_le (by omega), List.take_of_length_le (by rw [blks_length]; omega)] at t1
      rw [List.take_of_length_le (by omega), List.take_of_length_le (by rw [ents_length]; omega)] at t2
      subst t1 t2
      exact ⟨hbel, .inl ⟨HR.out, fit_all (by rw [hN]; exact hfi), _, _, by rw [hN]; rfl, r1, r2, Nat.le_refl _, by omega, r1.lt⟩⟩
theorem laidOut_any (L : List It) (room : Nat) (v : Value) (w : World) (hL : Its w v L) (hr : room ≤ 1000) (hsz : ∀ x ∈ L, x.c.size ≤ 281474976710656) : Calls Try.prog 41 #[v, .int .i64 (room : Int)] w (OutPost L room w) := by
  by_cases h : L.length ≤ room
  · exact laidOut_few L room v w hL h hr hsz
  · exact laidOut_many L room v w hL h
end
end Go.Proofs.Ytghonccffmmjhaa.Log
