/-
  No cell of these rows narrows 'for every input' (looked for: loops, veiled, ifaces, maps, wideKeys, modest, calm, conditions, laid).
  DERIVED. THE GIVEN ROWS OF THIS SEAT. 8 by the template 'for every input the law returns true; each argument reads behind the call as it read before'; 0 by the template 'total and deterministic' (their statements: YtkipkcmcolomcaaGreatTotals.lean).
  GIVEN WITH THE SEED: the statements are not yours to turn. If you find one false, say at which input.
  Laid BY PROGRAM, IN A SANDBOX (cutbox-rows.mjs): the forced cells as the released guide's own fill.sh prints them over the translation be50c613df73c0d8… (all of the seat's roots in one cut). By AI agents, Wed Nov 11 2026. No macro, syntax, notation, axiom, sorry.
-/
import Derived.Test.YtkipkcmcolomcaaGreatChecked
import GoSem.Claim
import GoSem.ClaimJoined
import GoSem.ClaimMapViews
import Derived.JoinedTies
import Derived.KernelRfl
namespace Go.Proofs.YtkipkcmcolomcaaGreat
/- THE CELL 'sum', in the pinned program and in every row, IS THE sha256 OF THE DUMP (.gsa) THAT YtkipkcmcolomcaaGreatProg.lean LOADS. Nothing in Lean hashes anything: it is a label: what it is worth is what the hold of that sum in a sandbox is worth. -/
noncomputable def Tryz.pinned : Pinned := { name := "ytkipkcmcolomcaagreat", sum := "be50c613df73c0d8c38329afdd45b88e0109ae7c7fff90196d2d9eff789d6809", checked := Tryz.checked }
namespace Rows
def none {H : Type} : Left H := { results := [], args := [] }

/-- 'nautiluslaw14.PlainScripts': WHATEVER THE INPUT: true; the input reads as it did. -/
def plainScriptsSpec : ChangeSpec := { name := "plainScripts", fn := fun _ => fun
  | [d1, d2] => { results := [.lit (.bool true)], args := [d1, d2] }
  | _ => none }
def plainScriptsRow : OpenClaim := { program := "ytkipkcmcolomcaagreat", sum := "be50c613df73c0d8c38329afdd45b88e0109ae7c7fff90196d2d9eff789d6809", func := "nautilus/nautiluslaw14.PlainScripts", spec := "plainScripts", inPlace := ["internal/bytealg.IndexByteString", "internal/bytealg.IndexString", "internal/bytealg.abigen_runtime_cmpstring", "internal/abi.NoEscape", "internal/bytealg.MakeNoZero"], unfollowed := true, recurses := true, named := ["internal/bytealg.MaxLen"], apart := false }
def PlainScriptsSaid : Prop := plainScriptsRow.holds Tryz.pinned (OpenSpec.ofChange plainScriptsSpec)

/-- ITS FALSE NEIGHBOUR: 'it returns false'. Refute it at one input. -/
def plainScriptsWrong : ChangeSpec := { name := "plainScripts", fn := fun _ => fun
  | [d1, d2] => { results := [.lit (.bool false)], args := [d1, d2] }
  | _ => none }
def PlainScriptsWrongFalsely : Prop := plainScriptsRow.holds Tryz.pinned (OpenSpec.ofChange plainScriptsWrong)

/-- 'nautiluslaw14.PlainStays': WHATEVER THE INPUT: true; the input reads as it did. -/
def plainStaysSpec : ChangeSpec := { name := "plainStays", fn := fun _ => fun
  | [d1, d2] => { results := [.lit (.bool true)], args := [d1, d2] }
  | _ => none }
def plainStaysRow : OpenClaim := { program := "ytkipkcmcolomcaagreat", sum := "be50c613df73c0d8c38329afdd45b88e0109ae7c7fff90196d2d9eff789d6809", func := "nautilus/nautiluslaw14.PlainStays", spec := "plainStays", inPlace := ["internal/bytealg.IndexByteString", "internal/bytealg.IndexString", "internal/bytealg.abigen_runtime_cmpstring", "internal/abi.NoEscape", "internal/bytealg.MakeNoZero"], unfollowed := true, recurses := true, named := ["internal/bytealg.MaxLen"], apart := false }
def PlainStaysSaid : Prop := plainStaysRow.holds Tryz.pinned (OpenSpec.ofChange plainStaysSpec)

/-- ITS FALSE NEIGHBOUR: 'it returns false'. Refute it at one input. -/
def plainStaysWrong : ChangeSpec := { name := "plainStays", fn := fun _ => fun
  | [d1, d2] => { results := [.lit (.bool false)], args := [d1, d2] }
  | _ => none }
def PlainStaysWrongFalsely : Prop := plainStaysRow.holds Tryz.pinned (OpenSpec.ofChange plainStaysWrong)

/-- 'nautiluslaw14.PlainReads': WHATEVER THE INPUT: true; the input reads as it did. -/
def plainReadsSpec : ChangeSpec := { name := "plainReads", fn := fun _ => fun
  | [d1, d2, d3, d4, d5] => { results := [.lit (.bool true)], args := [d1, d2, d3, d4, d5] }
  | _ => none }
def plainReadsRow : OpenClaim := { program := "ytkipkcmcolomcaagreat", sum := "be50c613df73c0d8c38329afdd45b88e0109ae7c7fff90196d2d9eff789d6809", func := "nautilus/nautiluslaw14.PlainReads", spec := "plainReads", inPlace := ["internal/bytealg.IndexByteString", "internal/bytealg.IndexString", "internal/bytealg.abigen_runtime_cmpstring", "internal/abi.NoEscape", "internal/bytealg.MakeNoZero"], unfollowed := true, recurses := true, named := ["internal/bytealg.MaxLen"], apart := false }
def PlainReadsSaid : Prop := plainReadsRow.holds Tryz.pinned (OpenSpec.ofChange plainReadsSpec)

/-- ITS FALSE NEIGHBOUR: 'it returns false'. Refute it at one input. -/
def plainReadsWrong : ChangeSpec := { name := "plainReads", fn := fun _ => fun
  | [d1, d2, d3, d4, d5] => { results := [.lit (.bool false)], args := [d1, d2, d3, d4, d5] }
  | _ => none }
def PlainReadsWrongFalsely : Prop := plainReadsRow.holds Tryz.pinned (OpenSpec.ofChange plainReadsWrong)

/-- 'nautiluslaw14.PlainTurns': WHATEVER THE INPUT: true; the input reads as it did. -/
def plainTurnsSpec : ChangeSpec := { name := "plainTurns", fn := fun _ => fun
  | [d1, d2, d3, d4] => { results := [.lit (.bool true)], args := [d1, d2, d3, d4] }
  | _ => none }
def plainTurnsRow : OpenClaim := { program := "ytkipkcmcolomcaagreat", sum := "be50c613df73c0d8c38329afdd45b88e0109ae7c7fff90196d2d9eff789d6809", func := "nautilus/nautiluslaw14.PlainTurns", spec := "plainTurns", inPlace := ["internal/bytealg.IndexByteString", "internal/bytealg.IndexString", "internal/bytealg.abigen_runtime_cmpstring", "internal/abi.NoEscape", "internal/bytealg.MakeNoZero"], unfollowed := true, recurses := true, named := ["internal/bytealg.MaxLen"], apart := false }
def PlainTurnsSaid : Prop := plainTurnsRow.holds Tryz.pinned (OpenSpec.ofChange plainTurnsSpec)

/-- ITS FALSE NEIGHBOUR: 'it returns false'. Refute it at one input. -/
def plainTurnsWrong : ChangeSpec := { name := "plainTurns", fn := fun _ => fun
  | [d1, d2, d3, d4] => { results := [.lit (.bool false)], args := [d1, d2, d3, d4] }
  | _ => none }
def PlainTurnsWrongFalsely : Prop := plainTurnsRow.holds Tryz.pinned (OpenSpec.ofChange plainTurnsWrong)

/-- 'nautiluslaw14.PlainNames': WHATEVER THE INPUT: true; the input reads as it did. -/
def plainNamesSpec : ChangeSpec := { name := "plainNames", fn := fun _ => fun
  | [d1, d2, d3, d4] => { results := [.lit (.bool true)], args := [d1, d2, d3, d4] }
  | _ => none }
def plainNamesRow : OpenClaim := { program := "ytkipkcmcolomcaagreat", sum := "be50c613df73c0d8c38329afdd45b88e0109ae7c7fff90196d2d9eff789d6809", func := "nautilus/nautiluslaw14.PlainNames", spec := "plainNames", inPlace := ["internal/bytealg.IndexByteString", "internal/bytealg.IndexString", "internal/bytealg.abigen_runtime_cmpstring", "internal/abi.NoEscape", "internal/bytealg.MakeNoZero"], unfollowed := true, recurses := true, named := ["internal/bytealg.MaxLen"], apart := false }
def PlainNamesSaid : Prop := plainNamesRow.holds Tryz.pinned (OpenSpec.ofChange plainNamesSpec)

/-- ITS FALSE NEIGHBOUR: 'it returns false'. Refute it at one input. -/
def plainNamesWrong : ChangeSpec := { name := "plainNames", fn := fun _ => fun
  | [d1, d2, d3, d4] => { results := [.lit (.bool false)], args := [d1, d2, d3, d4] }
  | _ => none }
def PlainNamesWrongFalsely : Prop := plainNamesRow.holds Tryz.pinned (OpenSpec.ofChange plainNamesWrong)

/-- 'nautiluslaw14.PlainLists': WHATEVER THE INPUT: true; the input reads as it did. -/
def plainListsSpec : ChangeSpec := { name := "plainLists", fn := fun _ => fun
  | [d] => { results := [.lit (.bool true)], args := [d] }
  | _ => none }
def plainListsRow : OpenClaim := { program := "ytkipkcmcolomcaagreat", sum := "be50c613df73c0d8c38329afdd45b88e0109ae7c7fff90196d2d9eff789d6809", func := "nautilus/nautiluslaw14.PlainLists", spec := "plainLists", inPlace := ["internal/bytealg.IndexByteString", "internal/bytealg.IndexString", "internal/bytealg.abigen_runtime_cmpstring", "internal/abi.NoEscape", "internal/bytealg.MakeNoZero"], unfollowed := true, recurses := true, named := ["internal/bytealg.MaxLen"], apart := false }
def PlainListsSaid : Prop := plainListsRow.holds Tryz.pinned (OpenSpec.ofChange plainListsSpec)

/-- ITS FALSE NEIGHBOUR: 'it returns false'. Refute it at one input. -/
def plainListsWrong : ChangeSpec := { name := "plainLists", fn := fun _ => fun
  | [d] => { results := [.lit (.bool false)], args := [d] }
  | _ => none }
def PlainListsWrongFalsely : Prop := plainListsRow.holds Tryz.pinned (OpenSpec.ofChange plainListsWrong)

/-- 'nautiluslaw14.PlainSizes': WHATEVER THE INPUT: true; the input reads as it did. -/
def plainSizesSpec : ChangeSpec := { name := "plainSizes", fn := fun _ => fun
  | [d1, d2, d3, d4] => { results := [.lit (.bool true)], args := [d1, d2, d3, d4] }
  | _ => none }
def plainSizesRow : OpenClaim := { program := "ytkipkcmcolomcaagreat", sum := "be50c613df73c0d8c38329afdd45b88e0109ae7c7fff90196d2d9eff789d6809", func := "nautilus/nautiluslaw14.PlainSizes", spec := "plainSizes", inPlace := ["internal/bytealg.IndexByteString", "internal/bytealg.IndexString", "internal/bytealg.abigen_runtime_cmpstring", "internal/abi.NoEscape", "internal/bytealg.MakeNoZero"], unfollowed := true, recurses := true, named := ["internal/bytealg.MaxLen"], apart := false }
def PlainSizesSaid : Prop := plainSizesRow.holds Tryz.pinned (OpenSpec.ofChange plainSizesSpec)

/-- ITS FALSE NEIGHBOUR: 'it returns false'. Refute it at one input. -/
def plainSizesWrong : ChangeSpec := { name := "plainSizes", fn := fun _ => fun
  | [d1, d2, d3, d4] => { results := [.lit (.bool false)], args := [d1, d2, d3, d4] }
  | _ => none }
def PlainSizesWrongFalsely : Prop := plainSizesRow.holds Tryz.pinned (OpenSpec.ofChange plainSizesWrong)

/-- 'nautiluslaw14.PlainDeep': WHATEVER THE INPUT: true; the input reads as it did. -/
def plainDeepSpec : ChangeSpec := { name := "plainDeep", fn := fun _ => fun
  | [d1, d2] => { results := [.lit (.bool true)], args := [d1, d2] }
  | _ => none }
def plainDeepRow : OpenClaim := { program := "ytkipkcmcolomcaagreat", sum := "be50c613df73c0d8c38329afdd45b88e0109ae7c7fff90196d2d9eff789d6809", func := "nautilus/nautiluslaw14.PlainDeep", spec := "plainDeep", inPlace := ["internal/bytealg.IndexByteString", "internal/bytealg.IndexString", "internal/bytealg.abigen_runtime_cmpstring", "internal/abi.NoEscape", "internal/bytealg.MakeNoZero"], unfollowed := true, recurses := true, named := ["internal/bytealg.MaxLen"], apart := false }
def PlainDeepSaid : Prop := plainDeepRow.holds Tryz.pinned (OpenSpec.ofChange plainDeepSpec)

/-- ITS FALSE NEIGHBOUR: 'it returns false'. Refute it at one input. -/
def plainDeepWrong : ChangeSpec := { name := "plainDeep", fn := fun _ => fun
  | [d1, d2] => { results := [.lit (.bool false)], args := [d1, d2] }
  | _ => none }
def PlainDeepWrongFalsely : Prop := plainDeepRow.holds Tryz.pinned (OpenSpec.ofChange plainDeepWrong)

/- THE SECOND FORM. 'bulk': how many values and letters a reading holds, each counted each time it is reached (what is shared counts as often as it is met; a slice's spare places count too). A statement '..UptoSaid' is the law's where the arguments, and the package variables that the reading takes, are together of bulk at most 1048576: NARROWER than '..Said'. Prove '..Said' where nothing that the law and all that it calls make is longer than what came in: it says more and counts as full. Else prove '..UptoSaid'. A law counts once. -/
mutual
def uptoBulk {H : Type} : DataW H → Nat
  | .lit (.string bytes) => bytes.length + 1
  | .lit _ => 1
  | .nil => 1
  | .ptr d => uptoBulk d + 1
  | .slice elems spare => uptoBulkAll elems + uptoBulkAll spare + 1
  | .agg parts => uptoBulkAll parts + 1
  | .iface _ d => uptoBulk d + 1
  | .map entries => uptoBulkEntries entries + 1
  | .held _ => 1
def uptoBulkAll {H : Type} : List (DataW H) → Nat
  | [] => 0
  | d :: r => uptoBulk d + uptoBulkAll r
def uptoBulkEntries {H : Type} : List (Lit × DataW H) → Nat
  | [] => 0
  | x :: r => uptoBulkEntry x + uptoBulkEntries r
def uptoBulkEntry {H : Type} : Lit × DataW H → Nat
  | (.string bytes, d) => bytes.length + uptoBulk d + 1
  | (_, d) => uptoBulk d + 1
 end
def uptoSmall : (H : Type) → List (DataW H) → Bool := fun _ ds => decide (uptoBulkAll ds ≤ 1048576)
def OpenSpec.upto (s : _root_.Go.ChangeSpec) : _root_.Go.OpenSpec := { _root_.Go.OpenSpec.ofChange s with cond := some uptoSmall }

/-- 'nautiluslaw14.PlainScripts', WHERE WHAT IT READS IS OF BULK AT MOST 1048576: true; the input reads as it did. -/
def plainScriptsUptoRow : OpenClaim := { program := "ytkipkcmcolomcaagreat", sum := "be50c613df73c0d8c38329afdd45b88e0109ae7c7fff90196d2d9eff789d6809", func := "nautilus/nautiluslaw14.PlainScripts", spec := "plainScripts", inPlace := ["internal/bytealg.IndexByteString", "internal/bytealg.IndexString", "internal/bytealg.abigen_runtime_cmpstring", "internal/abi.NoEscape", "internal/bytealg.MakeNoZero"], unfollowed := true, recurses := true, named := ["internal/bytealg.MaxLen"], apart := false, narrowed := true }
def PlainScriptsUptoSaid : Prop := plainScriptsUptoRow.holds Tryz.pinned (OpenSpec.upto plainScriptsSpec)

/-- 'nautiluslaw14.PlainStays', WHERE WHAT IT READS IS OF BULK AT MOST 1048576: true; the input reads as it did. -/
def plainStaysUptoRow : OpenClaim := { program := "ytkipkcmcolomcaagreat", sum := "be50c613df73c0d8c38329afdd45b88e0109ae7c7fff90196d2d9eff789d6809", func := "nautilus/nautiluslaw14.PlainStays", spec := "plainStays", inPlace := ["internal/bytealg.IndexByteString", "internal/bytealg.IndexString", "internal/bytealg.abigen_runtime_cmpstring", "internal/abi.NoEscape", "internal/bytealg.MakeNoZero"], unfollowed := true, recurses := true, named := ["internal/bytealg.MaxLen"], apart := false, narrowed := true }
def PlainStaysUptoSaid : Prop := plainStaysUptoRow.holds Tryz.pinned (OpenSpec.upto plainStaysSpec)

/-- 'nautiluslaw14.PlainReads', WHERE WHAT IT READS IS OF BULK AT MOST 1048576: true; the input reads as it did. -/
def plainReadsUptoRow : OpenClaim := { program := "ytkipkcmcolomcaagreat", sum := "be50c613df73c0d8c38329afdd45b88e0109ae7c7fff90196d2d9eff789d6809", func := "nautilus/nautiluslaw14.PlainReads", spec := "plainReads", inPlace := ["internal/bytealg.IndexByteString", "internal/bytealg.IndexString", "internal/bytealg.abigen_runtime_cmpstring", "internal/abi.NoEscape", "internal/bytealg.MakeNoZero"], unfollowed := true, recurses := true, named := ["internal/bytealg.MaxLen"], apart := false, narrowed := true }
def PlainReadsUptoSaid : Prop := plainReadsUptoRow.holds Tryz.pinned (OpenSpec.upto plainReadsSpec)

/-- 'nautiluslaw14.PlainTurns', WHERE WHAT IT READS IS OF BULK AT MOST 1048576: true; the input reads as it did. -/
def plainTurnsUptoRow : OpenClaim := { program := "ytkipkcmcolomcaagreat", sum := "be50c613df73c0d8c38329afdd45b88e0109ae7c7fff90196d2d9eff789d6809", func := "nautilus/nautiluslaw14.PlainTurns", spec := "plainTurns", inPlace := ["internal/bytealg.IndexByteString", "internal/bytealg.IndexString", "internal/bytealg.abigen_runtime_cmpstring", "internal/abi.NoEscape", "internal/bytealg.MakeNoZero"], unfollowed := true, recurses := true, named := ["internal/bytealg.MaxLen"], apart := false, narrowed := true }
def PlainTurnsUptoSaid : Prop := plainTurnsUptoRow.holds Tryz.pinned (OpenSpec.upto plainTurnsSpec)

/-- 'nautiluslaw14.PlainNames', WHERE WHAT IT READS IS OF BULK AT MOST 1048576: true; the input reads as it did. -/
def plainNamesUptoRow : OpenClaim := { program := "ytkipkcmcolomcaagreat", sum := "be50c613df73c0d8c38329afdd45b88e0109ae7c7fff90196d2d9eff789d6809", func := "nautilus/nautiluslaw14.PlainNames", spec := "plainNames", inPlace := ["internal/bytealg.IndexByteString", "internal/bytealg.IndexString", "internal/bytealg.abigen_runtime_cmpstring", "internal/abi.NoEscape", "internal/bytealg.MakeNoZero"], unfollowed := true, recurses := true, named := ["internal/bytealg.MaxLen"], apart := false, narrowed := true }
def PlainNamesUptoSaid : Prop := plainNamesUptoRow.holds Tryz.pinned (OpenSpec.upto plainNamesSpec)

/-- 'nautiluslaw14.PlainLists', WHERE WHAT IT READS IS OF BULK AT MOST 1048576: true; the input reads as it did. -/
def plainListsUptoRow : OpenClaim := { program := "ytkipkcmcolomcaagreat", sum := "be50c613df73c0d8c38329afdd45b88e0109ae7c7fff90196d2d9eff789d6809", func := "nautilus/nautiluslaw14.PlainLists", spec := "plainLists", inPlace := ["internal/bytealg.IndexByteString", "internal/bytealg.IndexString", "internal/bytealg.abigen_runtime_cmpstring", "internal/abi.NoEscape", "internal/bytealg.MakeNoZero"], unfollowed := true, recurses := true, named := ["internal/bytealg.MaxLen"], apart := false, narrowed := true }
def PlainListsUptoSaid : Prop := plainListsUptoRow.holds Tryz.pinned (OpenSpec.upto plainListsSpec)

/-- 'nautiluslaw14.PlainSizes', WHERE WHAT IT READS IS OF BULK AT MOST 1048576: true; the input reads as it did. -/
def plainSizesUptoRow : OpenClaim := { program := "ytkipkcmcolomcaagreat", sum := "be50c613df73c0d8c38329afdd45b88e0109ae7c7fff90196d2d9eff789d6809", func := "nautilus/nautiluslaw14.PlainSizes", spec := "plainSizes", inPlace := ["internal/bytealg.IndexByteString", "internal/bytealg.IndexString", "internal/bytealg.abigen_runtime_cmpstring", "internal/abi.NoEscape", "internal/bytealg.MakeNoZero"], unfollowed := true, recurses := true, named := ["internal/bytealg.MaxLen"], apart := false, narrowed := true }
def PlainSizesUptoSaid : Prop := plainSizesUptoRow.holds Tryz.pinned (OpenSpec.upto plainSizesSpec)

/-- 'nautiluslaw14.PlainDeep', WHERE WHAT IT READS IS OF BULK AT MOST 1048576: true; the input reads as it did. -/
def plainDeepUptoRow : OpenClaim := { program := "ytkipkcmcolomcaagreat", sum := "be50c613df73c0d8c38329afdd45b88e0109ae7c7fff90196d2d9eff789d6809", func := "nautilus/nautiluslaw14.PlainDeep", spec := "plainDeep", inPlace := ["internal/bytealg.IndexByteString", "internal/bytealg.IndexString", "internal/bytealg.abigen_runtime_cmpstring", "internal/abi.NoEscape", "internal/bytealg.MakeNoZero"], unfollowed := true, recurses := true, named := ["internal/bytealg.MaxLen"], apart := false, narrowed := true }
def PlainDeepUptoSaid : Prop := plainDeepUptoRow.holds Tryz.pinned (OpenSpec.upto plainDeepSpec)

end Rows
end Go.Proofs.YtkipkcmcolomcaaGreat
