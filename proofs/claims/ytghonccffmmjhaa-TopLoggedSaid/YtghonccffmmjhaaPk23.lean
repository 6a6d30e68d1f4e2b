/- Several texts in one, each under its own heading. -/
import Derived.Test.YtghonccffmmjhaaPk22
/- A Write's four calls, one behind the other. -/
namespace Go.Proofs.Ytghonccffmmjhaa.Log
open Go.RowKit Go.Shelf
open Disk (D IsDisk)
attribute [local go_sem] Oper.semAt_some
set_option linter.unusedVariables false

theorem tight {w : World} {p : Nat} {F : Nat → Prop} {d : D} (h : IsDisk w p F d) : ∃ G, IsDisk w p G d ∧ (∀ k, G k → F k) ∧ ∀ k, G k → k < w.heap.size := by
  obtain ⟨hok, a, b, v, hA, hF⟩ := h
  exact ⟨Disk.Foot p a b v, ⟨hok, a, b, v, hA, fun k hk => hk⟩, hF, hA.lt⟩
theorem row_lies {W : World} {b n : Nat} {t : TypeId} {xs : List Value} (h : Row W b t xs) (hn : xs.length = n) (hm : n ≤ 1000000) : Lies W (.slice (some ⟨b, 0, none⟩) n n) n 1 xs :=
  ⟨_, n, rfl, Nat.le_refl _, ⟨by unfold maxLen; omega, fun e => by cases e⟩, by omega, fun _ => ⟨b, 0, rfl, fun j u hj => by rw [Nat.zero_add, h.at_]; exact hj⟩⟩
theorem row_only {W W' : World} {b : Nat} {t : TypeId} {xs : List Value} {F : Nat → Prop} (h : Row W b t xs) (hO : Only F W W') (hf : ¬ F b) : Row W' b t xs := h.of_heap (hO.block b h.lt hf)
theorem cell_only {W W' : World} {b i : Nat} {u : Value} {F : Nat → Prop} (h : W.cell? ⟨b, i, none⟩ = some u) (hO : Only F W W') (hf : ¬ F b) : W'.cell? ⟨b, i, none⟩ = some u := by
  obtain ⟨c, t, f, hh⟩ := cell_block h
  have e : W'.heap[b]? = W.heap[b]? := hO.block b (Array.getElem?_eq_some_iff.1 hh).1 hf
  unfold World.cell? at h ⊢
  dsimp only at h ⊢
  rw [e]; exact h
theorem cell_lt {W : World} {b i : Nat} {u : Value} (h : W.cell? ⟨b, i, none⟩ = some u) : b < W.heap.size := by
  obtain ⟨c, t, f, hh⟩ := cell_block h
  exact (Array.getElem?_eq_some_iff.1 hh).1

/-- the state ahead of the k-th call -/
def stX (d : D) (a : Nat) (cs : List ByteArray) (head : ByteArray) : Nat → D × Bool
  | 0 => (d, true)
  | 1 => layD d (a + 1) cs
  | 2 => then_ (layD d (a + 1) cs) flushD
  | 3 => then_ (then_ (layD d (a + 1) cs) flushD) fun x => layD x a [head]
  | _ => writeD d a cs head
theorem stX_false (d : D) (a : Nat) (cs : List ByteArray) (head : ByteArray) (k : Nat) (h : (stX d a cs head k).2 = false) : writeD d a cs head = stX d a cs head k := by
  match k, h with
  | 0, h => cases h
  | 1, h =>
    have h : (layD d (a + 1) cs).2 = false := h
    show writeD d a cs head = layD d (a + 1) cs
    unfold writeD
    rw [then_no h, then_no h, then_no h]
  | 2, h =>
    have h : (then_ (layD d (a + 1) cs) flushD).2 = false := h
    show writeD d a cs head = then_ (layD d (a + 1) cs) flushD
    unfold writeD
    rw [then_no h, then_no h]
  | 3, h =>
    have h : (then_ (then_ (layD d (a + 1) cs) flushD) fun x => layD x a [head]).2 = false := h
    show writeD d a cs head = then_ (then_ (layD d (a + 1) cs) flushD) fun x => layD x a [head]
    unfold writeD
    rw [then_no h]
  | k + 4, h => rfl
theorem stX_info (d : D) (a : Nat) (cs : List ByteArray) (head : ByteArray) (k : Nat) (hk : k ≤ 3) : (stX d a cs head k).1.B.length = d.B.length ∧ (stX d a cs head k).1.ops ≤ d.ops + cs.length + 3 := by
  have one : ∀ (x : D × Bool) (f : D → D × Bool) (m : Nat), x.1.B.length = d.B.length ∧ x.1.ops ≤ m → (∀ y : D, (f y).1.B.length = y.B.length ∧ (f y).1.ops ≤ y.ops + 1) → (then_ x f).1.B.length = d.B.length ∧ (then_ x f).1.ops ≤ m + 1 := fun x f m h1 h2 => by
    unfold then_; split
    · have := h2 x.1; omega
    · omega
  have fl : ∀ y : D, (flushD y).1.B.length = y.B.length ∧ (flushD y).1.ops ≤ y.ops + 1 := fun y => by
    refine ⟨(flushD_blocks y).1, ?_⟩
    unfold flushD; split
    · exact Nat.le_succ _
    · exact Nat.le_refl _
  have ly : ∀ y : D, (layD y a [head]).1.B.length = y.B.length ∧ (layD y a [head]).1.ops ≤ y.ops + 1 := fun y => by
    refine ⟨(layD_blocks _ _ _).1, ?_⟩
    obtain ⟨k, k1, k2, _⟩ := layD_spec [head] y a
    rw [k2]
    show y.ops + k ≤ _
    simp at k1
    omega
  have s1 : (layD d (a + 1) cs).1.B.length = d.B.length ∧ (layD d (a + 1) cs).1.ops ≤ d.ops + cs.length := by
    obtain ⟨k, k1, k2, _⟩ := layD_spec cs d (a + 1)
    rw [k2]
    exact ⟨rfl, by show d.ops + k ≤ _; omega⟩
  have s2 := one _ flushD _ s1 fl
  have s3 := one _ (fun x => layD x a [head]) _ s2 ly
  match k, hk with
  | 0, _ => exact ⟨rfl, by show d.ops ≤ _; omega⟩
  | 1, _ => exact ⟨s1.1, by show (layD d (a + 1) cs).1.ops ≤ _; omega⟩
  | 2, _ => exact ⟨s2.1, Nat.le_trans s2.2 (by omega)⟩
  | 3, _ => exact ⟨s3.1, Nat.le_trans s3.2 (by omega)⟩

/-- a call's answer as one of the list's -/
theorem one_of {p : Nat} {F F1 : Nat → Prop} {w w1 : World} {x y z : D × Bool} (hy : y.2 = true → z = y) (hyf : y.2 = false → x = y) (hO : Only F w w1) (hf : ∀ k, F1 k → F k ∨ w.heap.size ≤ k) {e : Ending} {w' : World} (h : DonePost p F1 y w1 e w') :
    OnePost (fun W => z.2 = true ∧ Disk.Left p F z.1 w W) (fun c W => c = 43 ∧ x.2 = false ∧ Disk.Left p F x.1 w W) e w' := by
  obtain ⟨rfl, hL⟩ := h
  have hL2 := left_th hO hf hL
  cases hb : y.2 with
  | true =>
    refine ⟨0, by simp [offE], .inl ⟨rfl, ?_, ?_⟩⟩
    · rw [hy hb]; exact hb
    · rw [hy hb]; exact hL2
  | false =>
    refine ⟨43, by simp [offE], .inr ⟨by decide, rfl, ?_, ?_⟩⟩
    · rw [hyf hb]; exact hb
    · rw [hyf hb]; exact hL2
def callsL (p bx by_ bz : Nat) : List Value := [.func (.func 44) #[] #[.pointer (some ⟨bx, 0, none⟩), .pointer (some ⟨by_, 0, none⟩)], .func (.func 46) #[.pointer (some ⟨p, 0, none⟩)] #[], .func (.func 47) #[] #[.pointer (some ⟨bx, 0, none⟩), .pointer (some ⟨bz, 0, none⟩)], .func (.func 46) #[.pointer (some ⟨p, 0, none⟩)] #[]]
section
variable {w : World} {q p : Nat} {l : Lg} {F : Nat → Prop} {d : D}
theorem run_any (g bx by_ bz bb : Nat) (cs : List ByteArray) (head : ByteArray) (hg : Row w g 88 (callsL p bx by_ bz))
    (hbx : w.cell? ⟨bx, 0, none⟩ = some (.pointer (some ⟨q, 0, none⟩))) (hby : w.cell? ⟨by_, 0, none⟩ = some (.slice (some ⟨bb, 0, none⟩) cs.length cs.length)) (hbz : w.cell? ⟨bz, 0, none⟩ = some (.string head)) (hbb : Row w bb 9 (cs.map .string))
    (hl : LAt w q p l) (h : IsDisk w p F d) (hFg : ¬ F g) (hFx : ¬ F bx) (hFy : ¬ F by_) (hFz : ¬ F bz) (hFb : ¬ F bb) (hq : ¬ F q) (ha : l.at_ + 1 + cs.length ≤ d.B.length) (hz : ∀ c ∈ cs, c.size = 512) (hh : head.size = 512) (hops : d.ops + cs.length ≤ 1099511000000) (hn : cs.length ≤ 1000) :
    Calls Try.prog 43 #[.slice (some ⟨g, 0, none⟩) 4 4] w (DonePost p F (writeD d l.at_ cs head) w) := by
  refine (inOrder_any 4 _ (callsL p bx by_ bz) rfl (by decide) (fun k W => (stX d l.at_ cs head k).2 = true ∧ Disk.Left p F (stX d l.at_ cs head k).1 w W) (fun c W => c = 43 ∧ (writeD d l.at_ cs head).2 = false ∧ Disk.Left p F (writeD d l.at_ cs head).1 w W) w ?_ ?_ ?_).mono ?_
  · intro k W hS
    obtain ⟨_, F1, _, hO, _⟩ := hS
    exact row_lies (row_only hg hO hFg) rfl (by decide)
  · intro k W hS hk
    obtain ⟨hy, F1, hD1, hO, hF1⟩ := hS
    obtain ⟨G, hG, hG1, hG2⟩ := tight hD1
    have hGF : ∀ j, G j → F j ∨ w.heap.size ≤ j := fun j hj => hF1 j (hG1 j hj)
    have nG : ∀ b, b < w.heap.size → ¬ F b → ¬ G b := fun b h1 h2 h3 => (hGF b h3).elim h2 (fun h4 => by omega)
    have i1 := stX_info d l.at_ cs head k (by omega)
    have X1 := cell_only hbx hO hFx
    have Y1 := cell_only hby hO hFy
    have Z1 := cell_only hbz hO hFz
    have B1 := row_only hbb hO hFb
    have hl1 := hl.of_heap (hO.block q hl.lt hq)
    have gx := nG bx (cell_lt hbx) hFx
    have gy := nG by_ (cell_lt hby) hFy
    have gz := nG bz (cell_lt hbz) hFz
    have gb := nG bb hbb.lt hFb
    have gq := nG q hl.lt hq
    have gn : ¬ G W.heap.size := fun hh => by have := hG2 _ hh; omega
    match k, hk with
    | 0, _ =>
      refine ⟨_, _, _, rfl, enters_w1, ?_⟩
      have := write1_any bx by_ _ cs X1 Y1 gx gy hl1 hG gq (fun W2 h2 => row_lies (row_only B1 h2 gb) (by simp) (by omega)) (by rw [i1.1]; omega) hz (by have := i1.2; omega)
      exact this.mono fun e w' hP => one_of (fun _ => rfl) (fun hb => stX_false d l.at_ cs head 1 hb) hO hGF hP
    | 1, _ =>
      refine ⟨_, _, _, rfl, enters_fl, ?_⟩
      have := flush_any hG (by have := i1.2; omega)
      have E : stX d l.at_ cs head 2 = flushD (stX d l.at_ cs head 1).1 := then_yes (a := stX d l.at_ cs head 1) (f := flushD) hy
      exact this.mono fun e w' hP => one_of (fun _ => E) (fun hb => (stX_false d l.at_ cs head 2 (by rw [E]; exact hb)).trans E) hO hGF hP
    | 2, _ =>
      refine ⟨_, _, _, rfl, enters_w2, ?_⟩
      have := write2_any bx bz head X1 Z1 gx gz hl1 hG gq gn (by rw [i1.1]; omega) hh (by have := i1.2; omega)
      have E : stX d l.at_ cs head 3 = layD (stX d l.at_ cs head 2).1 l.at_ [head] := then_yes (a := stX d l.at_ cs head 2) (f := fun x => layD x l.at_ [head]) hy
      exact this.mono fun e w' hP => one_of (fun _ => E) (fun hb => (stX_false d l.at_ cs head 3 (by rw [E]; exact hb)).trans E) hO hGF hP
    | 3, _ =>
      refine ⟨_, _, _, rfl, enters_fl, ?_⟩
      have := flush_any hG (by have := i1.2; omega)
      have E : stX d l.at_ cs head 4 = flushD (stX d l.at_ cs head 3).1 := then_yes (a := stX d l.at_ cs head 3) (f := flushD) hy
      exact this.mono fun e w' hP => one_of (fun _ => E) (fun hb => E) hO hGF hP
  · exact ⟨rfl, left_refl h (Below.refl _ _)⟩
  · rintro e w' ⟨c, rfl, hx⟩
    rcases hx with ⟨rfl, h1, h2⟩ | ⟨_, rfl, h1, h2⟩
    · have h1' : (writeD d l.at_ cs head).2 = true := h1
      exact ⟨by rw [h1']; rfl, h2⟩
    · exact ⟨by rw [h1]; rfl, h2⟩
end
end Go.Proofs.Ytghonccffmmjhaa.Log
/- A log's Write: what it answers, and what it leaves. -/
namespace Go.Proofs.Ytghonccffmmjhaa.Log
open Go.RowKit Go.Shelf
open Disk (D IsDisk)
open Record (E R RightP Ents AllOk EOk encB encS encE below_al below_new)
attribute [local go_sem] Oper.semAt_some
set_option linter.unusedVariables false

/-- the record of a Write -/
def recW (l : Lg) (cp : Nat) (L : List It) (en sy : Bool) : R := ⟨l.seq, cp, en, sy, (l.next : Int), ents L⟩
/-- may it be written? -/
def okW (l : Lg) (cp : Nat) (L : List It) (en sy : Bool) : Prop := L.length ≤ 15 - l.at_ % 16 ∧ fitP L ∧ RightP (recW l cp L en sy)
/-- where its blocks stand -/
def places (l : Lg) (n : Nat) : List Value := (List.range n).map fun i => .int .i64 ((l.at_ + 1 + i : Nat) : Int)
/-- what a Write leaves of the disk and the log -/
def Moved (p q : Nat) (F : Nat → Prop) (d : D) (l : Lg) (w w' : World) : Prop := ∃ G, IsDisk w' p G d ∧ LAt w' q p l ∧ Only (fun i => F i ∨ i = q) w w' ∧ (∀ k, G k → F k ∨ w.heap.size ≤ k) ∧ (∀ k, G k → k < w'.heap.size) ∧ ¬ G q
inductive WritePost (p q : Nat) (F : Nat → Prop) (d : D) (l : Lg) (cp : Nat) (L : List It) (en sy : Bool) (w : World) (e : Ending) (w' : World) : Prop
  | next (h : l.next = 0) (he : e = .returned (.tuple #[.slice none 0 0, .int .i64 152])) (hB : Below w.heap.size w w')
  | arg (h : l.next ≠ 0) (hn : ¬ okW l cp L en sy) (he : e = .returned (.tuple #[.slice none 0 0, .int .i64 2])) (hB : Below w.heap.size w w')
  | off (h : l.next ≠ 0) (hk : okW l cp L en sy) (hx : (writeD d l.at_ (blks L) (encB (recW l cp L en sy))).2 = false) (he : e = .returned (.tuple #[.slice none 0 0, .int .i64 43])) (hM : Moved p q F (writeD d l.at_ (blks L) (encB (recW l cp L en sy))).1 l w w')
  | done (h : l.next ≠ 0) (hk : okW l cp L en sy) (hx : (writeD d l.at_ (blks L) (encB (recW l cp L en sy))).2 = true) (b : Nat) (he : e = .returned (.tuple #[.slice (some ⟨b, 0, none⟩) L.length L.length, .int .i64 0])) (hb : Row w' b 3 (places l L.length)) (hbn : w.heap.size ≤ b) (hM : Moved p q F (writeD d l.at_ (blks L) (encB (recW l cp L en sy))).1 (behind l L.length l.next) w w')
/-- a box of one value, just made, behind a call -/
theorem box_kept {W W' : World} {u : Value} {t : TypeId} (hB : Below (W.alloc (.cells #[u] t)).drew.heap.size (W.alloc (.cells #[u] t)).drew W') : W'.cell? ⟨W.heap.size, 0, none⟩ = some u ∧ W'.frozen? ⟨W.heap.size, 0, none⟩ = false := by
  have h : W'.heap[W.heap.size]? = some (.cells #[u] t (0, 0)) := (hB.block _ (by show W.heap.size < (W.alloc _).heap.size; simp)).trans (World.alloc_heap_new W _)
  refine ⟨?_, ?_⟩
  · simp only [World.cell?, h]; rfl
  · simp [World.frozen?, h]
theorem okW_len {l : Lg} {cp : Nat} {L : List It} {en sy : Bool} (h : okW l cp L en sy) : 1 ≤ L.length ∧ L.length ≤ 15 := by
  have := h.2.2.len
  have e : (recW l cp L en sy).l.length = L.length := ents_length L
  rw [e] at this
  exact this
theorem all_ok {L : List It} (h : ∀ x ∈ L, EOk x.e) : AllOk (ents L) := fun e he => by
  obtain ⟨x, hx, rfl⟩ := List.mem_map.1 he
  exact h x hx
theorem blks_size {L : List It} (h : fitP L) : ∀ c ∈ blks L, c.size = 512 := fun c hc => by
  obtain ⟨x, hx, rfl⟩ := List.mem_map.1 hc
  exact Record.wrapB_size (h x hx)
/-- the entries, where laidOut laid them -/
theorem ents_row {W : World} {b n : Nat} {L : List E} (h : Row W b 64 (L.flatMap E.cells)) (hn : L.length = n) (hm : n ≤ 1000) : Ents W (.slice (some ⟨b, 0, none⟩) n n) L := by
  subst hn
  exact ⟨_, _, rfl, Nat.le_refl _, ⟨by unfold maxLen; omega, fun e => by cases e⟩, ents_cells_length L, fun _ => ⟨b, 0, rfl, fun j u hj => by rw [Nat.zero_add, h.at_]; exact hj⟩⟩
section
variable {w : World} {q p : Nat} {l : Lg} {F : Nat → Prop} {d : D}
set_option maxRecDepth 100000
set_option maxHeartbeats 2000000
theorem write_next (cp : Nat) (v : Value) (L : List It) (en sy : Bool) (hl : LAt w q p l) (hn : l.next = 0) : Calls Try.prog 18 #[.pointer (some ⟨q, 0, none⟩), .int .u64 (cp : Int), v, .bool en, .bool sy] w (WritePost p q F d l cp L en sy w) := by
  have hB := below_new w (.cells #[.pointer (some ⟨q, 0, none⟩)] 31)
  have hl1 := hl.th hB
  have hc := isNone_not hl1
  obtain ⟨c0, c1, c2, c3⟩ := hl1.c
  rw [hn] at c3
  go_enter Try.func18, Try.ntmps18
  go_wp2_with (go_at_call 39; refine hc.mono ?_; rintro e w' ⟨rfl, rfl⟩)
  go_ret2
  exact .next hn rfl hB
theorem write_unfit (cp : Nat) (v : Value) (L : List It) (en sy : Bool) (hl : LAt w q p l) (h : IsDisk w p F d) (ho : LgOk d.B.length l) (hnx : l.next ≠ 0) (hL : Its w v L) (hsz : ∀ x ∈ L, x.c.size ≤ 281474976710656) (hu : ¬ (L.length ≤ 15 - l.at_ % 16 ∧ fitP L)) : Calls Try.prog 18 #[.pointer (some ⟨q, 0, none⟩), .int .u64 (cp : Int), v, .bool en, .bool sy] w (WritePost p q F d l cp L en sy w) := by
  have hB := below_new w (.cells #[.pointer (some ⟨q, 0, none⟩)] 31)
  obtain ⟨w0, hw0⟩ : ∃ w0, w.alloc (.cells #[.pointer (some ⟨q, 0, none⟩)] 31) = w0 := ⟨_, rfl⟩
  have hbx : w0.cell? ⟨w.heap.size, 0, none⟩ = some (.pointer (some ⟨q, 0, none⟩)) := by
    have := World.alloc_heap_new w (.cells #[.pointer (some ⟨q, 0, none⟩)] 31)
    rw [hw0] at this
    simp only [World.cell?, this]; rfl
  have hbl : w.heap.size < w0.heap.size := by rw [← hw0]; simp
  rw [hw0] at hB
  have hl1 := hl.th hB
  have hc := isNone_not hl1
  have hrm := room_l hl1 (by have := ho.hi; have := h.ok.hi; omega)
  have HLO : Hid (Calls Try.prog 41 #[v, .int .i64 ((15 - l.at_ % 16 : Nat) : Int)] w0 fun e w' => e = .returned (.tuple #[.slice none 0 0, .slice none 0 0, .bool false]) ∧ Below w0.heap.size w0 w') := (laidOut_any L (15 - l.at_ % 16) v w0 (hL.below hB) (by omega) hsz).mono fun e w' ⟨h1, h2⟩ => ⟨(h2.resolve_left fun hh => hu ⟨hh.1, hh.2.1⟩).2, h1⟩
  have HEN : Hid (∀ W, Calls Try.prog 42 #[.agg #[.int .u64 (l.seq : Int), .int .u64 (cp : Int), .bool en, .bool sy, .int .i64 (l.next : Int), .slice none 0 0]] W fun e w' => e = .returned (.tuple #[.string ⟨#[]⟩, .int .i64 70]) ∧ Below W.heap.size W w') := fun W => by
    have hno : ¬ RightP (⟨l.seq, cp, en, sy, (l.next : Int), []⟩ : R) := fun hh => by have := hh.len.1; simp at this
    have := Record.encode_any (⟨l.seq, cp, en, sy, (l.next : Int), []⟩ : R) (.slice none 0 0) W (Ents.nil W) (fun e he => by simp at he)
    unfold Record.Ans at this
    rw [Record.encS_no hno, Record.encE_no hno] at this
    exact this
  have HNO : Hid (¬ okW l cp L en sy) := fun hh => hu ⟨hh.1, hh.2.1⟩
  have HK : Hid (∀ W, Below w0.heap.size w0 W → W.cell? ⟨w.heap.size, 0, none⟩ = some (.pointer (some ⟨q, 0, none⟩)) ∧ W.cell? ⟨q, 2, none⟩ = some (.int .u64 (l.seq : Int)) ∧ W.cell? ⟨q, 3, none⟩ = some (.int .i64 (l.next : Int))) := fun W hW => ⟨(hW.cell (p := ⟨w.heap.size, 0, none⟩) hbl).trans hbx, (hl1.th hW).c.2.2.1, (hl1.th hW).c.2.2.2⟩
  obtain ⟨c0, c1, c2, c3⟩ := hl1.c
  have hz : ((l.next : Int) == 0) = false := by simp; omega
  have HNX := Lib.hid hnx
  have HB := Lib.hid hB
  obtain ⟨a, sq, nx⟩ := l
  dsimp only at c1 c2 c3 hz HK hrm
  dsimp only at HLO HEN
  have hO0 : Below w0.heap.size w0 w0 := Below.refl _ _
  clear hl1 hl h ho hnx hL hsz hu hB
  go_enter Try.func18, Try.ntmps18
  go_wp2_with (first
    | (go_at_call 39; refine hc.mono ?_; rintro e w' ⟨rfl, rfl⟩)
    | (go_at_call 16; refine hrm.mono ?_; rintro e w' ⟨rfl, rfl⟩)
    | (go_at_call 41; (with_reducible refine Calls.mono HLO.out ?_); rintro e w1 ⟨rfl, hB1⟩; have hO1 : Below w0.heap.size w0 (w1.alloc (.cells #[.slice none 0 0] 50)) := below_al hB1 _; have hO2 : Below w0.heap.size w0 ((w1.alloc (.cells #[.slice none 0 0] 50)).alloc (.cells #[.string ⟨#[]⟩] 9)).drew := (below_al hO1 _).drew))
  go_region_held3 (fun W => W.cell? ⟨w.heap.size, 0, none⟩ = some (.pointer (some ⟨q, 0, none⟩)) ∧ W.cell? ⟨q, 2, none⟩ = some (.int .u64 (sq : Int)) ∧ W.cell? ⟨q, 3, none⟩ = some (.int .i64 (nx : Int))) (first | exact HK.out _ hO4 | exact HK.out _ hO3 | exact HK.out _ (below_al hO3 _) | exact HK.out _ hO2 | exact HK.out _ hO1 | exact HK.out _ hO1.drew) (first
    | (go_at_call 42; ((with_reducible refine Calls.mono (HEN.out ((w1.alloc _).alloc _).drew) ?_); rintro e w3 ⟨rfl, hB3⟩; have hO3 := below_th hO2 hB3; obtain ⟨z1, z2⟩ := box_kept hB3; rw [World.size_alloc] at z1 z2; have hO4 : Below w0.heap.size w0 (w3.setCell ⟨w1.heap.size + 1, 0, none⟩ (.string ⟨#[]⟩)) := hO3.setCell (p := ⟨w1.heap.size + 1, 0, none⟩) (by have := hB1.size; show w0.heap.size ≤ w1.heap.size + 1; omega) _))
    | (go_at_call 42; ((with_reducible refine Calls.mono (HEN.out (w1.alloc _).drew) ?_); rintro e w3 ⟨rfl, hB3⟩; have hO3 := below_th hO1.drew hB3; have hO4 : Below w0.heap.size w0 (w3.alloc (.cells #[.string ⟨#[]⟩] 9)) := below_al hO3 _)))
  all_goals
    go_wp2
    go_ret2
    exact .arg HNX.out HNO.out rfl (below_th HB.out hO4)
theorem write_wrong (cp : Nat) (v : Value) (L : List It) (en sy : Bool) (hl : LAt w q p l) (h : IsDisk w p F d) (ho : LgOk d.B.length l) (hnx : l.next ≠ 0) (hL : Its w v L) (hsz : ∀ x ∈ L, x.c.size ≤ 281474976710656) (hE : ∀ x ∈ L, EOk x.e) (hu : L.length ≤ 15 - l.at_ % 16 ∧ fitP L) (hw : ¬ RightP (recW l cp L en sy)) : Calls Try.prog 18 #[.pointer (some ⟨q, 0, none⟩), .int .u64 (cp : Int), v, .bool en, .bool sy] w (WritePost p q F d l cp L en sy w) := by
  have hB := below_new w (.cells #[.pointer (some ⟨q, 0, none⟩)] 31)
  obtain ⟨w0, hw0⟩ : ∃ w0, w.alloc (.cells #[.pointer (some ⟨q, 0, none⟩)] 31) = w0 := ⟨_, rfl⟩
  have hbx : w0.cell? ⟨w.heap.size, 0, none⟩ = some (.pointer (some ⟨q, 0, none⟩)) := by
    have := World.alloc_heap_new w (.cells #[.pointer (some ⟨q, 0, none⟩)] 31)
    rw [hw0] at this
    simp only [World.cell?, this]; rfl
  have hbl : w.heap.size < w0.heap.size := by rw [← hw0]; simp
  rw [hw0] at hB
  have hl1 := hl.th hB
  have hc := isNone_not hl1
  have hrm := room_l hl1 (by have := ho.hi; have := h.ok.hi; omega)
  obtain ⟨n, hn⟩ : ∃ n, L.length = n := ⟨_, rfl⟩
  have hn15 : n ≤ 15 := by omega
  have HLO : Hid (Calls Try.prog 41 #[v, .int .i64 ((15 - l.at_ % 16 : Nat) : Int)] w0 fun e w' => ∃ b1 b2, e = .returned (.tuple #[.slice (some ⟨b1, 0, none⟩) n n, .slice (some ⟨b2, 0, none⟩) n n, .bool true]) ∧ Below w0.heap.size w0 w' ∧ Row w' b1 9 ((blks L).map .string) ∧ Ents w' (.slice (some ⟨b2, 0, none⟩) n n) (ents L) ∧ w0.heap.size ≤ b1 ∧ b1 < w'.heap.size) := (laidOut_any L (15 - l.at_ % 16) v w0 (hL.below hB) (by omega) hsz).mono fun e w' ⟨h1, h2⟩ => by
    rcases h2 with ⟨_, _, b1, b2, he, r1, r2, g1, g2, g3⟩ | ⟨hh, _⟩
    · rw [hn] at he
      exact ⟨b1, b2, he, h1, r1, ents_row r2 (by rw [ents_length]; exact hn) (by omega), g1, g3⟩
    · exact absurd hu hh
  have HEN : Hid (∀ W u, Ents W u (ents L) → Calls Try.prog 42 #[.agg #[.int .u64 (l.seq : Int), .int .u64 (cp : Int), .bool en, .bool sy, .int .i64 (l.next : Int), u]] W fun e w' => e = .returned (.tuple #[.string ⟨#[]⟩, .int .i64 70]) ∧ Below W.heap.size W w') := fun W u hW => by
    have := Record.encode_any (recW l cp L en sy) u W hW (all_ok hE)
    unfold Record.Ans at this
    rw [Record.encS_no hw, Record.encE_no hw] at this
    exact this
  have HN := Lib.hid hn
  have HNO : Hid (¬ okW l cp L en sy) := fun hh => hw hh.2.2
  have HK : Hid (∀ W, Below w0.heap.size w0 W → W.cell? ⟨w.heap.size, 0, none⟩ = some (.pointer (some ⟨q, 0, none⟩)) ∧ W.cell? ⟨q, 2, none⟩ = some (.int .u64 (l.seq : Int)) ∧ W.cell? ⟨q, 3, none⟩ = some (.int .i64 (l.next : Int))) := fun W hW => ⟨(hW.cell (p := ⟨w.heap.size, 0, none⟩) hbl).trans hbx, (hl1.th hW).c.2.2.1, (hl1.th hW).c.2.2.2⟩
  obtain ⟨c0, c1, c2, c3⟩ := hl1.c
  have hz : ((l.next : Int) == 0) = false := by simp; omega
  have HNX := Lib.hid hnx
  have HB := Lib.hid hB
  obtain ⟨a, sq, nx⟩ := l
  dsimp only at c1 c2 c3 hz HK hrm
  dsimp only at HLO HEN
  have hO0 : Below w0.heap.size w0 w0 := Below.refl _ _
  clear hl1 hl h ho hnx hL hsz hu hB hE hw hn
  go_enter Try.func18, Try.ntmps18
  go_wp2_with (first
    | (go_at_call 39; refine hc.mono ?_; rintro e w' ⟨rfl, rfl⟩)
    | (go_at_call 16; refine hrm.mono ?_; rintro e w' ⟨rfl, rfl⟩)
    | (go_at_call 41; (with_reducible refine Calls.mono HLO.out ?_); rintro e w1 ⟨b1, b2, rfl, hB1, hR1, hE1, g1, g3⟩; have hO1 : Below w0.heap.size w0 (w1.alloc (.cells #[.slice (some ⟨b1, 0, none⟩) n n] 50)) := below_al hB1 _; have hEa : Ents (w1.alloc (.cells #[.slice (some ⟨b1, 0, none⟩) n n] 50)).drew (.slice (some ⟨b2, 0, none⟩) n n) (ents L) := hE1.below (below_new w1 _).drew; have hEb : Ents ((w1.alloc (.cells #[.slice (some ⟨b1, 0, none⟩) n n] 50)).alloc (.cells #[.string ⟨#[]⟩] 9)).drew (.slice (some ⟨b2, 0, none⟩) n n) (ents L) := (hE1.below (below_new w1 _)).below (below_new _ _).drew; have hO2 : Below w0.heap.size w0 ((w1.alloc (.cells #[.slice (some ⟨b1, 0, none⟩) n n] 50)).alloc (.cells #[.string ⟨#[]⟩] 9)).drew := (below_al hO1 _).drew))
  go_region_held3 (fun W => W.cell? ⟨w.heap.size, 0, none⟩ = some (.pointer (some ⟨q, 0, none⟩)) ∧ W.cell? ⟨q, 2, none⟩ = some (.int .u64 (sq : Int)) ∧ W.cell? ⟨q, 3, none⟩ = some (.int .i64 (nx : Int))) (first | exact HK.out _ hO4 | exact HK.out _ hO3 | exact HK.out _ (below_al hO3 _) | exact HK.out _ hO2 | exact HK.out _ hO1 | exact HK.out _ hO1.drew) (first
    | (go_at_call 42; ((with_reducible refine Calls.mono (HEN.out ((w1.alloc _).alloc _).drew _ hEb) ?_); rintro e w3 ⟨rfl, hB3⟩; have hO3 := below_th hO2 hB3; obtain ⟨z1, z2⟩ := box_kept hB3; rw [World.size_alloc] at z1 z2; have hO4 : Below w0.heap.size w0 (w3.setCell ⟨w1.heap.size + 1, 0, none⟩ (.string ⟨#[]⟩)) := hO3.setCell (p := ⟨w1.heap.size + 1, 0, none⟩) (by have := hB1.size; show w0.heap.size ≤ w1.heap.size + 1; omega) _))
    | (go_at_call 42; ((with_reducible refine Calls.mono (HEN.out (w1.alloc _).drew _ hEa) ?_); rintro e w3 ⟨rfl, hB3⟩; have hO3 := below_th hO1.drew hB3; have hO4 : Below w0.heap.size w0 (w3.alloc (.cells #[.string ⟨#[]⟩] 9)) := below_al hO3 _)))
  all_goals
    go_wp2
    go_ret2
    exact .arg HNX.out HNO.out rfl (below_th HB.out hO4)
end
end Go.Proofs.Ytghonccffmmjhaa.Log
