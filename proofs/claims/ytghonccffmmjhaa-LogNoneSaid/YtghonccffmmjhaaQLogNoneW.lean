/- Of a nil log, and of no disk, there is nothing: the walk. -/
import Derived.Test.YtghonccffmmjhaaPk29
import Derived.Test.YtghonccffmmjhaaPk30
import Derived.Test.YtghonccffmmjhaaPk31
namespace Go.Proofs.Ytghonccffmmjhaa.Log
open Go.RowKit Go.Shelf
open Record (below_al below_new)
attribute [local go_sem] Oper.semAt_some
set_option linter.unusedVariables false
section
set_option maxRecDepth 100000
set_option maxHeartbeats 4000000
theorem LogNone_walk (a0 : Int) (v : Value) (L : List It) (w : World) (w0 : (Lit.int .i64 a0).wf = true) (hL : Its w v L) (wL : ∀ o ∈ L, ItOk o) : Calls Try.prog 4 #[.int .i64 a0, v] w fun e w' => e = .returned (.bool true) ∧ Below w.heap.size w w' := by
  obtain ⟨va, cap, rfl, _, _⟩ := hL.parts
  obtain ⟨n, hn⟩ : ∃ n, L.length = n := ⟨_, rfl⟩
  rw [hn]
  have HS := Lib.hid (shown_any w)
  have HW := Lib.hid (fun W => write_nil 1 (.slice va n cap) false false W)
  have HB := Lib.hid (fun W => begin_nil a0 1 1 W)
  have HC := Lib.hid (fun W => scan_err (.pointer none) a0 1 1 1 (by decide) (begin_nil a0 1 1 W))
  have HAt := Lib.hid at_nil
  have HSq := Lib.hid seq_nil
  have HNx := Lib.hid next_nil
  have HRm := Lib.hid room_nil
  have HSn := Lib.hid (setNext_nil 1)
  clear hL hn
  go_enter Try.func4, Try.ntmps4
  go_wp2_with (first
    | (go_at_call 8; (with_reducible refine Calls.mono HS.out ?_); rintro e w1 ⟨rfl, hB1⟩)
    | (go_at_call 18; (with_reducible refine Calls.mono (HW.out _) ?_); rintro e w2 ⟨rfl, hB2⟩; have hA2 := below_th hB1 hB2)
    | (go_at_call 10; (with_reducible refine Calls.mono (HB.out _) ?_); rintro e w3 ⟨rfl, rfl⟩)
    | (go_at_call 19; (with_reducible refine Calls.mono (HC.out _) ?_); rintro e w4 ⟨rfl, hB4⟩; have hA4 := below_th hA2 hB4)
    | (go_at_call 17; (with_reducible refine Calls.mono (HAt.out _) ?_); rintro e w5 ⟨rfl, rfl⟩)
    | (go_at_call 21; (with_reducible refine Calls.mono (HSq.out _) ?_); rintro e w5 ⟨rfl, rfl⟩)
    | (go_at_call 13; (with_reducible refine Calls.mono (HNx.out _) ?_); rintro e w5 ⟨rfl, rfl⟩)
    | (go_at_call 16; (with_reducible refine Calls.mono (HRm.out _) ?_); rintro e w5 ⟨rfl, rfl⟩)
    | (go_at_call 14; (with_reducible refine Calls.mono (HSn.out _) ?_); rintro e w5 ⟨rfl, rfl⟩))
  go_ret
  exact ⟨rfl, hA4⟩
end
end Go.Proofs.Ytghonccffmmjhaa.Log
