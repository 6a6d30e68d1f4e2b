/- The program's Of: a disk of texts that came in. -/
import Derived.Test.YtbidhiefgbddeaaDiskImage
namespace Go.Proofs.Ytbidhiefgbddeaa.Disk
open Go.RowKit Go.Shelf
set_option linter.unusedVariables false

section
set_option maxRecDepth 100000
set_option maxHeartbeats 1000000
theorem isLong_yes (s : ByteArray) (w : World) (h : 512 < s.size) (hm : s.size ≤ 281474976710656) : Calls Try.prog 42 #[.string s] w fun e w' => e = .returned (.bool true) ∧ w = w' := by
  have h1 : (512 : Int) < (s.size : Int) := by omega
  go_enter Try.func42, Try.ntmps42
  go_wp2
  go_ret
  exact ⟨rfl, rfl⟩
theorem isLong_no (s : ByteArray) (w : World) (h : s.size ≤ 512) : Calls Try.prog 42 #[.string s] w fun e w' => e = .returned (.bool false) ∧ w = w' := by
  have h1 : ¬ (512 : Int) < (s.size : Int) := by omega
  have h2 : decide ((512 : Int) < (s.size : Int)) = false := by simpa using h1
  go_enter Try.func42, Try.ntmps42
  go_wp2
  go_ret
  exact ⟨rfl, rfl⟩
def IndexPost (l : List ByteArray) (w : World) (e : Ending) (w' : World) : Prop :=
  ((∀ s ∈ l, s.size ≤ 512) → e = .returned (.int .i64 (-1))) ∧ ((¬ ∀ s ∈ l, s.size ≤ 512) → ∃ k : Nat, k ≤ l.length ∧ e = .returned (.int .i64 (k : Int))) ∧ w = w'
theorem indexFunc_any (l : List ByteArray) (v : Value) (w : World) (hl : Lies w v l.length 1 (strs l)) (hsz : ∀ s ∈ l, s.size ≤ 281474976710656) :
    Calls Try.prog 52 #[v, .func (.func 42) #[] #[]] w (IndexPost l w) := by
  obtain ⟨a, c, rfl, HA, h1, h2⟩ := hl.parts
  have HSZ := Lib.hid hsz
  clear hl hsz
  go_enter Try.func52, Try.ntmps52
  go_wp2
  go_loop [8] (fun i => ∃ k : Nat, k ≤ l.length ∧ i = .int .i64 k ∧ Hid (∀ j s, j < k → l[j]? = some s → s.size ≤ 512)) (fun i => l.length - (intOf i).toNat)
  case atStart => exact ⟨0, Nat.zero_le _, rfl, fun j s hj => by omega⟩
  case round =>
    obtain ⟨k, hk, rfl, HP⟩ := hrel
    by_cases hlt : k < l.length
    · obtain ⟨s, hs⟩ : ∃ s, l[k]? = some s := ⟨_, List.getElem?_eq_getElem hlt⟩
      obtain ⟨b, off, rfl, cs⟩ := HA.out.read (j := k) (u := .string s) (strs_at _ _ _ hs)
      have hsm := HSZ.out s (List.mem_of_getElem? hs)
      have HS := Lib.hid hs
      clear hs
      by_cases hbig : s.size ≤ 512
      · have hc := fun W => isLong_no s W hbig
        have HC := Lib.hid hc
        have HP2 : Hid (∀ j s, j < k + 1 → l[j]? = some s → s.size ≤ 512) := fun j s' hj hs' => by
          rcases Nat.lt_or_ge j k with h | h
          · exact HP.out j s' h hs'
          · obtain rfl : j = k := by omega
            rw [HS.out] at hs'
            cases hs'
            exact hbig
        clear hc
        go_wp2_with (go_at_call 42; refine (HC.out _).mono ?_; rintro e w' ⟨rfl, rfl⟩)
        go_round
        case rel => exact ⟨k + 1, by omega, by go_num, HP2⟩
        case measure => simp [intOf]; omega
      · have hc := fun W => isLong_yes s W (by omega) hsm
        have HC := Lib.hid hc
        have hno : ¬ ∀ s ∈ l, s.size ≤ 512 := fun hh => hbig (hh s (List.mem_of_getElem? HS.out))
        have HNo := Lib.hid hno
        clear hc hno
        go_wp2_with (go_at_call 42; refine (HC.out _).mono ?_; rintro e w' ⟨rfl, rfl⟩)
        go_ret
        exact ⟨fun hh => absurd hh HNo.out, fun _ => ⟨k, hk, rfl⟩, rfl⟩
    · obtain rfl : l.length = k := by omega
      have hall : ∀ s ∈ l, s.size ≤ 512 := fun s hs => by
        obtain ⟨j, hj⟩ := List.getElem?_of_mem hs
        exact HP.out j s (List.getElem?_eq_some_iff.1 hj).1 hj
      have HALL := Lib.hid hall
      clear hall
      go_wp2
      go_ret
      exact ⟨fun _ => rfl, fun hh => absurd HALL.out hh, rfl⟩
theorem contains_no (l : List ByteArray) (v : Value) (w : World) (hl : Lies w v l.length 1 (strs l)) (hsz : ∀ s ∈ l, s.size ≤ 512) :
    Calls Try.prog 41 #[v, .func (.func 42) #[] #[]] w fun e w' => e = .returned (.bool false) ∧ w = w' := by
  have hc := indexFunc_any l v w hl (fun s hs => by have := hsz s hs; omega)
  obtain ⟨a, c, rfl, HA, h1, h2⟩ := hl.parts
  have HS := Lib.hid hsz
  clear hl hsz
  go_enter Try.func41, Try.ntmps41
  go_wp2_with (go_at_call 52; refine hc.mono ?_; rintro e w' ⟨hy, _, rfl⟩; obtain rfl := hy HS.out; clear hy)
  go_ret
  exact ⟨rfl, rfl⟩
theorem contains_yes (l : List ByteArray) (v : Value) (w : World) (hl : Lies w v l.length 1 (strs l)) (hm : ∀ s ∈ l, s.size ≤ 281474976710656) (hsz : ¬ ∀ s ∈ l, s.size ≤ 512) :
    Calls Try.prog 41 #[v, .func (.func 42) #[] #[]] w fun e w' => e = .returned (.bool true) ∧ w = w' := by
  have hc := indexFunc_any l v w hl hm
  obtain ⟨a, c, rfl, HA, h1, h2⟩ := hl.parts
  have HS := Lib.hid hsz
  clear hl hsz hm
  go_enter Try.func41, Try.ntmps41
  go_wp2_with (go_at_call 52; refine hc.mono ?_; rintro e w' ⟨_, hy, rfl⟩; obtain ⟨k, hk, rfl⟩ := hy HS.out; clear hy)
  go_ret
  exact ⟨rfl, rfl⟩

theorem of_not (l : List ByteArray) (v : Value) (w : World) (hl : Lies w v l.length 1 (strs l)) (hm : ∀ s ∈ l, s.size ≤ 281474976710656) (h : ¬ (sizeOk l.length ∧ ∀ s ∈ l, s.size ≤ 512)) :
    Calls Try.prog 19 #[v] w fun e w' => e = .returned (.tuple #[.pointer none, .int .i64 40]) ∧ w = w' := by
  by_cases hs : sizeOk l.length
  · have hc := isSize_yes l.length w hs
    have hx := contains_yes l v w hl hm (fun hh => h ⟨hs, hh⟩)
    obtain ⟨a, c, rfl, HA, h1, h2⟩ := hl.parts
    clear hl hm h hs
    go_enter Try.func19, Try.ntmps19
    go_wp2_with (first
      | (go_at_call 28; refine hc.mono ?_; rintro e w' ⟨rfl, rfl⟩)
      | (go_at_call 41; refine hx.mono ?_; rintro e w' ⟨rfl, rfl⟩))
    go_ret2
    exact ⟨rfl, rfl⟩
  · have hc := isSize_no (l.length : Int) w hs
    obtain ⟨a, c, rfl, HA, h1, h2⟩ := hl.parts
    clear hl hm h hs
    go_enter Try.func19, Try.ntmps19
    go_wp2_with (go_at_call 28; refine hc.mono ?_; rintro e w' ⟨rfl, rfl⟩)
    go_ret2
    exact ⟨rfl, rfl⟩
def OfPost (l : List ByteArray) (w : World) (e : Ending) (w' : World) : Prop := ∃ p, e = .returned (.tuple #[.pointer (some ⟨p, 0, none⟩), .int .i64 0]) ∧ IsDisk w' p (fun k => w.heap.size ≤ k) (D.of (l.map fit)) ∧ w.heap.size ≤ p ∧ Below w.heap.size w w'
def FitI (w : World) (l : List ByteArray) (k : Nat) (wr : World) : Prop := ∃ cur, Row wr w.heap.size 9 cur ∧ cur.length = l.length ∧ cur.take k = strs ((l.take k).map fit) ∧ Below w.heap.size w wr
theorem fit_step {w wr w2 : World} {l : List ByteArray} {k : Nat} {s : ByteArray} (h : FitI w l k wr) (hk : l[k]? = some s) (hB : Below wr.heap.size wr w2) : FitI w l (k + 1) (w2.setCell ⟨w.heap.size, k, none⟩ (.string (fit s))) := by
  obtain ⟨cur, hr, hl, ht, hb⟩ := h
  have hkl := (List.getElem?_eq_some_iff.1 hk).1
  refine ⟨cur.set k (.string (fit s)), Row.setCell (hr.of_heap (hB.block _ hr.lt)) _, by rw [List.length_set, hl], ?_, (hb.trans (hB.mono hb.size)).setCell (p := ⟨w.heap.size, k, none⟩) (Nat.le_refl _) _⟩
  rw [List.take_add_one, List.take_set_of_le (Nat.le_refl _), ht, List.take_add_one, hk]
  simp [strs, hl, hkl]
theorem of_yes (l : List ByteArray) (v : Value) (w : World) (hl : Lies w v l.length 1 (strs l)) (h : sizeOk l.length) (hsz : ∀ s ∈ l, s.size ≤ 512) :
    Calls Try.prog 19 #[v] w (OfPost l w) := by
  have hc := isSize_yes l.length w h
  have hx := contains_no l v w hl hsz
  obtain ⟨a, c, rfl, HA, h1, h2⟩ := hl.parts
  have hlo : 128 ≤ l.length := by have := h.1; omega
  have hhi : l.length ≤ 4096 := by have := h.2.1; omega
  obtain ⟨M, hM⟩ : ∃ M : List Value, M = (madeCells #[Value.string ByteArray.empty] l.length).toList := ⟨_, rfl⟩
  have hMl : M.length = l.length := by rw [hM, Array.length_toList, size_madeCells]
  have hmk : ∀ W : World, (Instr.makeSlice 39 (.int .i64 (l.length : Int)) (.int .i64 (l.length : Int))).run Try.prog W = .ok (.slice (some ⟨W.heap.size, 0, none⟩) l.length l.length) (W.alloc (.cells M.toArray 9)) := fun W => by
    rw [hM, Array.toArray_toList]
    exact run_make_row' (P := Try.prog) 39 9 (.string ByteArray.empty) 16 Try.underlying39 infoS rfl .i64 .i64 l.length (by omega) (by omega) W
  have h0 : FitI w l 0 (w.alloc (.cells M.toArray 9)) := ⟨M, heap_alloc_new w _, hMl, by simp [strs], (Below.refl _ w).alloc (Nat.le_refl _) _⟩
  have hof := fun W hr => of_any w.heap.size l.length (l.map fit) W hr (by simp) (by omega) hhi (fun s hs => by
    obtain ⟨s', hs', rfl⟩ := List.mem_map.1 hs
    exact fit_size s' (hsz s' hs'))
  have H0 := Lib.hid h0
  have HSZ := Lib.hid hsz
  have HOF := Lib.hid hof
  clear hl hsz h h0 hM hMl hof
  go_enter Try.func19, Try.ntmps19
  go_wp2_with (first
    | (go_at_call 28; refine hc.mono ?_; rintro e w' ⟨rfl, rfl⟩)
    | (go_at_call 41; refine hx.mono ?_; rintro e w' ⟨rfl, rfl⟩))
  go_loopw [20] (fun i wr => ∃ k : Nat, k ≤ l.length ∧ i = .int .i64 k ∧ FitI w l k wr) (fun i _ => l.length - (intOf i).toNat)
  case atStart => exact ⟨0, Nat.zero_le _, rfl, H0.out⟩
  case round =>
    obtain ⟨k, hk, rfl, hI⟩ := hrel
    have hIl := hI
    obtain ⟨cur, hcr, hcl, hct, hB⟩ := hIl
    by_cases hlt : k < l.length
    · obtain ⟨s, hs⟩ : ∃ s, l[k]? = some s := ⟨_, List.getElem?_eq_getElem hlt⟩
      obtain ⟨b, off, rfl, cs⟩ := (HA.out.below hB).read (j := k) (u := .string s) (strs_at _ _ _ hs)
      have hf := fitted_any s wr (HSZ.out s (List.mem_of_getElem? hs))
      have hst := fun w2 (hB2 : Below wr.heap.size wr w2) => fit_step hI hs hB2
      have hst2 : ∀ w2, Below wr.heap.size wr w2 → (∃ u, w2.cell? ⟨w.heap.size, k, none⟩ = some u) ∧ w2.frozen? ⟨w.heap.size, k, none⟩ = false := fun w2 hB2 => by
        have := hcr.of_heap (hB2.block _ hcr.lt)
        exact ⟨⟨_, by rw [this.at_]; exact List.getElem?_eq_getElem (by rw [hcl]; exact hlt)⟩, this.frozen k⟩
      have HST := Lib.hid hst
      have HST2 := Lib.hid hst2
      clear hst hst2 hI hcr hcl hct hs
      go_wp2_with (go_at_call 31; refine hf.mono ?_; rintro e w2 ⟨rfl, hB2⟩; obtain ⟨⟨u, cu⟩, fu⟩ := HST2.out _ hB2)
      go_roundw
      case rel => exact ⟨k + 1, by omega, by go_num, HST.out _ hB2⟩
      case measure => simp [intOf]; omega
    · obtain rfl : l.length = k := by omega
      rw [List.take_of_length_le (by omega), List.take_length] at hct
      rw [hct] at hcr
      have hql := hcr.lt
      clear hI hcl hct
      go_wp2_with (go_at_call 29; refine (HOF.out _ hcr).mono ?_; rintro e w3 ⟨p, rfl, hp, hpl, hB3⟩)
      go_ret2
      obtain ⟨a', b', v', hA', hF'⟩ := hp.mem
      have hs1 := hB.size
      exact ⟨p, rfl, ⟨hp.ok, a', b', v', hA', fun k hk => (hF' k hk).elim (fun e => by omega) (fun e => by omega)⟩, by omega, hB.trans (hB3.mono hs1)⟩
end
end Go.Proofs.Ytbidhiefgbddeaa.Disk
