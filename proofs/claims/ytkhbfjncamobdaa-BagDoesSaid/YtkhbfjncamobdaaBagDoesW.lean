/- The walk of BagDoes, whole. -/
import Derived.Test.YtkhbfjncamobdaaBagArgs
import Derived.Test.YtkhbfjncamobdaaBagAskA
namespace Go.Proofs.Ytkhbfjncamobdaa.S
open Go.RowKit Go.Shelf
set_option linter.unusedVariables false

theorem BagDoes_walk (v : Value) (L : List Op) (w : World) (hL : Lies w v L.length 4 (L.flatMap opCells)) (wL : ∀ o ∈ L, OpOk o) :
    Calls Try.prog 3 #[v] w fun e w' => e = .returned (.bool true) ∧ Below w.heap.size w w' := BagDoes_go asks_any v L w hL wL
end Go.Proofs.Ytkhbfjncamobdaa.S
