/- A queue as it lies in memory, and what New, Put, Take, Len, Size do with it, each as a call of its own. -/
import Derived.Conc.LoneCalls
import Derived.Conc.LoneSelect
import Derived.Conc.LoneSelectN
import Derived.KernelRfl
import Derived.Laws.Rows
import Derived.WalkSpells
import Derived.WalkLawsBesides
import Derived.Outline
import Derived.Test.YtkpkpofeffegfaaRows
namespace Go.Proofs.Ytkpkpofeffegfaa.I
open Go.Conc Go.RowKit
set_option linter.unusedVariables false
set_option linter.unusedSimpArgs false

/-- one value that was put, in a block of its own -/
def boxO (x : Int) : Obj := .cells #[.int .i64 x] 2 (0, 0)
def at_ (b : Nat) : Value := .pointer (some ⟨b, 0, none⟩)
def queueO (c : Nat) : Obj := .cells #[.chan (some c)] 48 (0, 0)

set_option maxRecDepth 100000 in
theorem put_room (q c size s r : Nat) (ps : Array Value) (x : Int) (w : World) (hq : w.heap[q]? = some (queueO c)) (hc : w.heap[c]? = some (.chan size ps false s r false)) (h : ps.size < size) :
    Calls Try.prog 18 #[at_ q, .int .i64 x] w fun e w' => e = .returned (.bool true) ∧ w' = (w.alloc (boxO x)).setChan c size (ps.push (at_ w.heap.size)) false (s + 1) r false := by
  refine calls_of_loneTo fun cs => ?_
  unfold at_
  have e : Frame.enter Try.prog 18 #[.pointer (some ⟨q, 0, none⟩), .int .i64 x] .normal = (base 18).at ⟨#[.pointer (some ⟨q, 0, none⟩), .int .i64 x, undef, undef, undef, undef, undef, undef, undef, undef, undef, undef, undef, undef], []⟩ [.code (Try.f18.body.getD .skip)] := by
    simp [Frame.enter, Frame.at, Try.func18, base, Try.f18]
  rw [e]
  have hql := (Array.getElem?_eq_some_iff.1 hq).1
  have hcl := (Array.getElem?_eq_some_iff.1 hc).1
  have hq1 : (w.alloc (boxO x)).heap[q]? = some (queueO c) := (Below.heap_alloc _ _ _ hql).trans hq
  have hc1 : (w.alloc (boxO x)).heap[c]? = some (.chan size ps false s r false) := (Below.heap_alloc _ _ _ hcl).trans hc
  unfold queueO at hq hq1
  have q0 : w.cell? ⟨q, 0, none⟩ = some (.chan (some c)) := by simp [World.cell?, hq]
  unfold boxO at hq1 hc1 ⊢
  refine LoneTo.goes (n := 60) ?_
  simp only [Try.f18, Option.getD_some]
  s_c stepG_seq
  s_reg
  s_op
  s_op
  s_c stepG_region_end
  s_c stepG_seq
  s_c stepG_seq
  s_reg
  s_op
  s_op
  s_c stepG_region_end
  s_cond false
  s_c stepG_skip
  s_c stepG_seq
  s_reg
  s_op
  s_op
  s_op
  s_op
  s_c stepG_region_end
  s_c stepG_seq
  s_reg
  s_stop
  refine LoneTo.step (step_lone_select_send_room (c := c) (cap := size) (buf := ps) (s := s) (r := r) (tm := false)
    (stepG_comm (cases := #[scase c (.pointer (some ⟨w.heap.size, 0, none⟩)) (.pointer none)]) (blocking := false) (shape := .select) (w' := w.alloc (.cells #[.int .i64 x] 2 (0, 0))) rfl rfl (by decide) (by simp [go_sem, execOp, scase, Act.eval])) hc1 h) ?_
  rw [Frame.finish_at]
  walk_nrm
  refine LoneTo.goes (n := 60) ?_
  s_op
  s_op
  s_c stepG_region_end
  s_c stepG_block
  s_cond true
  s_c stepG_seq
  s_reg
  s_op
  s_c stepG_region_end
  s_c stepG_ret'
  s_stop
  exact LoneTo.done ⟨.returned (.bool true), _, rfl, ⟨rfl, rfl⟩, rfl, rfl, rfl, rfl, _, Try.func18, by simp [results, Try.f18, Frame.at]⟩

set_option maxRecDepth 100000 in
theorem put_full (q c size s r : Nat) (ps : Array Value) (x : Int) (w : World) (hq : w.heap[q]? = some (queueO c)) (hc : w.heap[c]? = some (.chan size ps false s r false)) (h : size ≤ ps.size) :
    Calls Try.prog 18 #[at_ q, .int .i64 x] w fun e w' => e = .returned (.bool false) ∧ w' = w.alloc (boxO x) := by
  refine calls_of_loneTo fun cs => ?_
  unfold at_
  have e : Frame.enter Try.prog 18 #[.pointer (some ⟨q, 0, none⟩), .int .i64 x] .normal = (base 18).at ⟨#[.pointer (some ⟨q, 0, none⟩), .int .i64 x, undef, undef, undef, undef, undef, undef, undef, undef, undef, undef, undef, undef], []⟩ [.code (Try.f18.body.getD .skip)] := by
    simp [Frame.enter, Frame.at, Try.func18, base, Try.f18]
  rw [e]
  have hql := (Array.getElem?_eq_some_iff.1 hq).1
  have hcl := (Array.getElem?_eq_some_iff.1 hc).1
  have hq1 : (w.alloc (boxO x)).heap[q]? = some (queueO c) := (Below.heap_alloc _ _ _ hql).trans hq
  have hc1 : (w.alloc (boxO x)).heap[c]? = some (.chan size ps false s r false) := (Below.heap_alloc _ _ _ hcl).trans hc
  unfold queueO at hq hq1
  have q0 : w.cell? ⟨q, 0, none⟩ = some (.chan (some c)) := by simp [World.cell?, hq]
  unfold boxO at hq1 hc1 ⊢
  refine LoneTo.goes (n := 60) ?_
  simp only [Try.f18, Option.getD_some]
  s_c stepG_seq
  s_reg
  s_op
  s_op
  s_c stepG_region_end
  s_c stepG_seq
  s_c stepG_seq
  s_reg
  s_op
  s_op
  s_c stepG_region_end
  s_cond false
  s_c stepG_skip
  s_c stepG_seq
  s_reg
  s_op
  s_op
  s_op
  s_op
  s_c stepG_region_end
  s_c stepG_seq
  s_reg
  s_stop
  refine LoneTo.step (step_lone_select_send_full (c := c) (cap := size) (buf := ps) (s := s) (r := r) (tm := false)
    (stepG_comm (cases := #[scase c (.pointer (some ⟨w.heap.size, 0, none⟩)) (.pointer none)]) (blocking := false) (shape := .select) (w' := w.alloc (.cells #[.int .i64 x] 2 (0, 0))) rfl rfl (by decide) (by simp [go_sem, execOp, scase, Act.eval])) hc1 h) ?_
  rw [Frame.finish_at]
  walk_nrm
  refine LoneTo.goes (n := 60) ?_
  s_op
  s_op
  s_c stepG_region_end
  s_c stepG_block
  s_cond false
  s_c stepG_seq
  s_reg
  s_op
  s_c stepG_region_end
  s_c stepG_ret'
  s_stop
  exact LoneTo.done ⟨.returned (.bool false), _, rfl, ⟨rfl, rfl⟩, rfl, rfl, rfl, rfl, _, Try.func18, by simp [results, Try.f18, Frame.at]⟩

set_option maxRecDepth 100000 in
theorem put_nil (x : Int) (w : World) : Calls Try.prog 18 #[.pointer none, .int .i64 x] w fun e w' => e = .returned (.bool false) ∧ w' = w.alloc (boxO x) := by
  refine calls_of_loneTo fun cs => ?_
  have e : Frame.enter Try.prog 18 #[.pointer none, .int .i64 x] .normal = (base 18).at ⟨#[.pointer none, .int .i64 x, undef, undef, undef, undef, undef, undef, undef, undef, undef, undef, undef, undef], []⟩ [.code (Try.f18.body.getD .skip)] := by
    simp [Frame.enter, Frame.at, Try.func18, base, Try.f18]
  rw [e]
  unfold boxO
  refine LoneTo.goes (n := 60) ?_
  simp only [Try.f18, Option.getD_some]
  s_c stepG_seq
  s_reg
  s_op
  s_op
  s_c stepG_region_end
  s_c stepG_seq
  s_c stepG_seq
  s_reg
  s_op
  s_op
  s_c stepG_region_end
  s_cond true
  s_c stepG_seq
  s_reg
  s_op
  s_c stepG_region_end
  s_c stepG_ret'
  s_stop
  exact LoneTo.done ⟨.returned (.bool false), _, rfl, ⟨rfl, rfl⟩, rfl, rfl, rfl, rfl, _, Try.func18, by simp [results, Try.f18, Frame.at]⟩

set_option maxRecDepth 100000 in
theorem take_some (q c size s r b : Nat) (ps : Array Value) (x : Int) (w : World) (hq : w.heap[q]? = some (queueO c)) (hc : w.heap[c]? = some (.chan size ps false s r false)) (h : 0 < ps.size) (hb : ps.getD 0 undef = at_ b) (hx : w.heap[b]? = some (boxO x)) (hbc : b ≠ c) :
    Calls Try.prog 17 #[at_ q] w fun e w' => e = .returned (.tuple #[.int .i64 x, .bool true]) ∧ w' = w.setChan c size (ps.extract 1 ps.size) false s (r + 1) false := by
  refine calls_of_loneTo fun cs => ?_
  unfold at_
  have e : Frame.enter Try.prog 17 #[.pointer (some ⟨q, 0, none⟩)] .normal = (base 17).at ⟨#[.pointer (some ⟨q, 0, none⟩), undef, undef, undef, undef, undef, undef, undef, undef, undef, undef, undef, undef, undef, undef, undef, undef, undef, undef, undef, undef], []⟩ [.code (Try.f17.body.getD .skip)] := by
    simp [Frame.enter, Frame.at, Try.func17, base, Try.f17]
  rw [e]
  unfold queueO at hq
  have q0 : w.cell? ⟨q, 0, none⟩ = some (.chan (some c)) := by simp [World.cell?, hq]
  unfold at_ at hb
  unfold boxO at hx
  have x0 : (w.setChan c size (ps.extract 1 ps.size) false s (r + 1) false).cell? ⟨b, 0, none⟩ = some (.int .i64 x) := by simp [World.cell?, World.setChan, Array.getElem?_setIfInBounds_ne (Ne.symm hbc), hx]
  refine LoneTo.goes (n := 60) ?_
  simp only [Try.f17, Option.getD_some]
  s_c stepG_seq
  s_reg
  s_op
  s_op
  s_c stepG_region_end
  s_c stepG_seq
  s_reg
  s_op
  s_c stepG_region_end
  s_c stepG_seq
  s_c stepG_seq
  s_reg
  s_op
  s_op
  s_c stepG_region_end
  s_cond false
  s_c stepG_skip
  s_c stepG_seq
  s_reg
  s_op
  s_op
  s_op
  s_op
  s_c stepG_region_end
  s_c stepG_seq
  s_reg
  s_stop
  refine LoneTo.step (step_lone_select_recv_buf (c := c) (cap := size) (buf := ps) (s := s) (r := r) (tm := false)
    (stepG_comm (cases := #[rcase c (.pointer none)]) (blocking := false) (shape := .select) (w' := w) rfl rfl (by decide) (by simp [go_sem, execOp, rcase, Act.eval])) hc h) ?_
  rw [Frame.finish_at, hb]
  walk_nrm
  refine LoneTo.goes (n := 60) ?_
  s_op
  s_op
  s_c stepG_region_end
  s_c stepG_block
  s_cond true
  s_c stepG_seq
  s_reg
  s_op
  s_op
  s_c stepG_region_end
  s_c stepG_seq
  s_reg
  s_op
  s_op
  s_op
  s_op
  s_op
  s_c stepG_region_end
  s_c stepG_ret'
  s_stop
  exact LoneTo.done ⟨.returned (.tuple #[.int .i64 x, .bool true]), _, rfl, ⟨rfl, rfl⟩, rfl, rfl, rfl, rfl, _, Try.func17, by simp [results, Try.f17, Frame.at]⟩

set_option maxRecDepth 100000 in
theorem take_none (q c size s r : Nat) (w : World) (hq : w.heap[q]? = some (queueO c)) (hc : w.heap[c]? = some (.chan size #[] false s r false)) :
    Calls Try.prog 17 #[at_ q] w fun e w' => e = .returned (.tuple #[.int .i64 0, .bool false]) ∧ w = w' := by
  refine calls_of_loneTo fun cs => ?_
  unfold at_
  have e : Frame.enter Try.prog 17 #[.pointer (some ⟨q, 0, none⟩)] .normal = (base 17).at ⟨#[.pointer (some ⟨q, 0, none⟩), undef, undef, undef, undef, undef, undef, undef, undef, undef, undef, undef, undef, undef, undef, undef, undef, undef, undef, undef, undef], []⟩ [.code (Try.f17.body.getD .skip)] := by
    simp [Frame.enter, Frame.at, Try.func17, base, Try.f17]
  rw [e]
  unfold queueO at hq
  have q0 : w.cell? ⟨q, 0, none⟩ = some (.chan (some c)) := by simp [World.cell?, hq]
  refine LoneTo.goes (n := 60) ?_
  simp only [Try.f17, Option.getD_some]
  s_c stepG_seq
  s_reg
  s_op
  s_op
  s_c stepG_region_end
  s_c stepG_seq
  s_reg
  s_op
  s_c stepG_region_end
  s_c stepG_seq
  s_c stepG_seq
  s_reg
  s_op
  s_op
  s_c stepG_region_end
  s_cond false
  s_c stepG_skip
  s_c stepG_seq
  s_reg
  s_op
  s_op
  s_op
  s_op
  s_c stepG_region_end
  s_c stepG_seq
  s_reg
  s_stop
  refine LoneTo.step (step_lone_select_default (c := c) (cap := size) (s := s) (r := r) (tm := false)
    (stepG_comm (cases := #[rcase c (.pointer none)]) (blocking := false) (shape := .select) (w' := w) rfl rfl (by decide) (by simp [go_sem, execOp, rcase, Act.eval])) hc) ?_
  rw [Frame.finish_at]
  walk_nrm
  refine LoneTo.goes (n := 60) ?_
  s_op
  s_op
  s_c stepG_region_end
  s_c stepG_block
  s_cond false
  s_c stepG_seq
  s_reg
  s_op
  s_op
  s_op
  s_c stepG_region_end
  s_c stepG_ret'
  s_stop
  exact LoneTo.done ⟨.returned (.tuple #[.int .i64 0, .bool false]), _, rfl, ⟨rfl, rfl⟩, rfl, rfl, rfl, rfl, _, Try.func17, by simp [results, Try.f17, Frame.at]⟩

set_option maxRecDepth 100000 in
theorem take_nil (w : World) :
    Calls Try.prog 17 #[.pointer none] w fun e w' => e = .returned (.tuple #[.int .i64 0, .bool false]) ∧ w = w' := by
  refine calls_of_loneTo fun cs => ?_
  have e : Frame.enter Try.prog 17 #[.pointer none] .normal = (base 17).at ⟨#[.pointer none, undef, undef, undef, undef, undef, undef, undef, undef, undef, undef, undef, undef, undef, undef, undef, undef, undef, undef, undef, undef], []⟩ [.code (Try.f17.body.getD .skip)] := by
    simp [Frame.enter, Frame.at, Try.func17, base, Try.f17]
  rw [e]
  refine LoneTo.goes (n := 60) ?_
  simp only [Try.f17, Option.getD_some]
  s_c stepG_seq
  s_reg
  s_op
  s_op
  s_c stepG_region_end
  s_c stepG_seq
  s_reg
  s_op
  s_c stepG_region_end
  s_c stepG_seq
  s_c stepG_seq
  s_reg
  s_op
  s_op
  s_c stepG_region_end
  s_cond true
  s_c stepG_seq
  s_reg
  s_op
  s_op
  s_op
  s_c stepG_region_end
  s_c stepG_ret'
  s_stop
  exact LoneTo.done ⟨.returned (.tuple #[.int .i64 0, .bool false]), _, rfl, ⟨rfl, rfl⟩, rfl, rfl, rfl, rfl, _, Try.func17, by simp [results, Try.f17, Frame.at]⟩

set_option maxRecDepth 100000 in
theorem len_at (q c size s r : Nat) (ps : Array Value) (w : World) (hq : w.heap[q]? = some (queueO c)) (hc : w.heap[c]? = some (.chan size ps false s r false)) :
    Calls Try.prog 11 #[at_ q] w fun e w' => e = .returned (.int .i64 (ps.size : Nat)) ∧ w = w' := by
  unfold at_
  unfold queueO at hq
  have q0 : w.cell? ⟨q, 0, none⟩ = some (.chan (some c)) := by simp [World.cell?, hq]
  have hlen := fun ty => run_len_chan (P := Try.prog) 46 ty Try.underlying46 hc
  go_enter Try.func11, Try.ntmps11
  go_wp2_with (done)
  go_ret
  exact ⟨rfl, rfl⟩

set_option maxRecDepth 100000 in
theorem len_nil (w : World) :
    Calls Try.prog 11 #[.pointer none] w fun e w' => e = .returned (.int .i64 0) ∧ w = w' := by
  go_enter Try.func11, Try.ntmps11
  go_wp2_with (done)
  go_ret
  exact ⟨rfl, rfl⟩

set_option maxRecDepth 100000 in
theorem size_at (q c size s r : Nat) (ps : Array Value) (w : World) (hq : w.heap[q]? = some (queueO c)) (hc : w.heap[c]? = some (.chan size ps false s r false)) :
    Calls Try.prog 12 #[at_ q] w fun e w' => e = .returned (.int .i64 (size : Nat)) ∧ w = w' := by
  unfold at_
  unfold queueO at hq
  have q0 : w.cell? ⟨q, 0, none⟩ = some (.chan (some c)) := by simp [World.cell?, hq]
  have hlen := fun ty => run_cap_chan (P := Try.prog) 46 ty Try.underlying46 hc
  go_enter Try.func12, Try.ntmps12
  go_wp2_with (done)
  go_ret
  exact ⟨rfl, rfl⟩

set_option maxRecDepth 100000 in
theorem size_nil (w : World) :
    Calls Try.prog 12 #[.pointer none] w fun e w' => e = .returned (.int .i64 0) ∧ w = w' := by
  go_enter Try.func12, Try.ntmps12
  go_wp2_with (done)
  go_ret
  exact ⟨rfl, rfl⟩

theorem elem_bytes : ∃ i, Try.prog.info? 59 = some i ∧ i.bytes = 8 := by
  have h : (Try.prog.info? 59).map (·.bytes) = some 8 := by kernel_rfl
  obtain ⟨i, hi, hb⟩ := Option.map_eq_some_iff.1 h
  exact ⟨i, hi, hb⟩
set_option maxRecDepth 100000 in
theorem new_at (n : Nat) (w : World) (h1 : 1 ≤ n) (h2 : n ≤ 1024) :
    Calls Try.prog 9 #[.int .i64 n] w fun e w' => e = .returned (at_ (w.heap.size + 1)) ∧ w' = (w.alloc (.chan n #[] false 0 0 false)).alloc (queueO w.heap.size) := by
  have hmk : ∀ w : World, (Instr.makeChan 46 (.int .i64 n)).run Try.prog w = .ok (.chan (some w.heap.size)) (w.alloc (.chan n #[] false 0 0 false)) := fun w => by
    obtain ⟨i, hi, hb⟩ := elem_bytes
    exact run_makeChan (P := Try.prog) (w := w) Try.underlying46 hi .i64 n (by omega) (by rw [hb]; omega)
  have d1 : decide ((n : Int) < 1) = false := decide_eq_false (by omega)
  have d2 : decide ((1024 : Int) < (n : Int)) = false := decide_eq_false (by omega)
  unfold at_ queueO
  go_enter Try.func9, Try.ntmps9
  go_wp2_with (done)
  go_ret
  exact ⟨rfl, rfl⟩

set_option maxRecDepth 100000 in
theorem new_not (n : Int) (w : World) (h : n < 1 ∨ 1024 < n) :
    Calls Try.prog 9 #[.int .i64 n] w fun e w' => e = .returned (.pointer none) ∧ w = w' := by
  obtain ⟨b1, hb1⟩ : ∃ b, decide (n < 1) = b := ⟨_, rfl⟩
  obtain ⟨b2, hb2⟩ : ∃ b, decide (1024 < n) = b := ⟨_, rfl⟩
  cases b1
  · cases b2
    · have := of_decide_eq_false hb1
      have := of_decide_eq_false hb2
      omega
    · go_enter Try.func9, Try.ntmps9
      go_wp2_with (done)
      go_ret
      exact ⟨rfl, rfl⟩
  · go_enter Try.func9, Try.ntmps9
    go_wp2_with (done)
    go_ret
    exact ⟨rfl, rfl⟩

end Go.Proofs.Ytkpkpofeffegfaa.I
