/-
  No cell of these rows narrows 'for every input' (looked for: loops, veiled, ifaces, maps, wideKeys, modest, calm, conditions, laid).
  DERIVED. THE GIVEN ROWS OF THIS SEAT. 5 by the template 'for every input the law returns true; each argument reads behind the call as it read before'; 0 by the template 'total and deterministic' (their statements: YtedoggejbhbebaaTotals.lean).
  GIVEN WITH THE SEED: the statements are not yours to turn. If you find one false, say at which input.
  Laid BY PROGRAM, IN A SANDBOX (cutbox-rows.mjs): the forced cells as the released guide's own fill.sh prints them over the translation 17242fb041dd27a8… (all of the seat's roots in one cut). By AI agents, Wed Nov 11 2026. No macro, syntax, notation, axiom, sorry.
-/
import Derived.Test.YtedoggejbhbebaaChecked
import GoSem.Claim
import GoSem.ClaimJoined
import GoSem.ClaimMapViews
import Derived.JoinedTies
import Derived.KernelRfl
namespace Go.Proofs.Ytedoggejbhbebaa
/- THE CELL 'sum', in the pinned program and in every row, IS THE sha256 OF THE DUMP (.gsa) THAT YtedoggejbhbebaaProg.lean LOADS. Nothing in Lean hashes anything: it is a label: what it is worth is what the hold of that sum in a sandbox is worth. -/
noncomputable def Try.pinned : Pinned := { name := "ytedoggejbhbebaa", sum := "17242fb041dd27a8c90b1436ddb1a9362689585659ed6a5c9bd40fd0377fe040", checked := Try.checked }
namespace Rows
def none {H : Type} : Left H := { results := [], args := [] }

/-- 'dromondlaw09.EngineSizes': WHATEVER THE INPUT: true; the input reads as it did. -/
def engineSizesSpec : ChangeSpec := { name := "engineSizes", fn := fun _ => fun
  | [d] => { results := [.lit (.bool true)], args := [d] }
  | _ => none }
def engineSizesRow : OpenClaim := { program := "ytedoggejbhbebaa", sum := "17242fb041dd27a8c90b1436ddb1a9362689585659ed6a5c9bd40fd0377fe040", func := "dromond/dromondlaw09.EngineSizes", spec := "engineSizes", unfollowed := true, recurses := true, apart := false }
def EngineSizesSaid : Prop := engineSizesRow.holds Try.pinned (OpenSpec.ofChange engineSizesSpec)

/-- ITS FALSE NEIGHBOUR: 'it returns false'. Refute it at one input. -/
def engineSizesWrong : ChangeSpec := { name := "engineSizes", fn := fun _ => fun
  | [d] => { results := [.lit (.bool false)], args := [d] }
  | _ => none }
def EngineSizesWrongFalsely : Prop := engineSizesRow.holds Try.pinned (OpenSpec.ofChange engineSizesWrong)

/-- 'dromondlaw09.EngineBack': WHATEVER THE INPUT: true; the input reads as it did. -/
def engineBackSpec : ChangeSpec := { name := "engineBack", fn := fun _ => fun
  | [d1, d2, d3] => { results := [.lit (.bool true)], args := [d1, d2, d3] }
  | _ => none }
def engineBackRow : OpenClaim := { program := "ytedoggejbhbebaa", sum := "17242fb041dd27a8c90b1436ddb1a9362689585659ed6a5c9bd40fd0377fe040", func := "dromond/dromondlaw09.EngineBack", spec := "engineBack", unfollowed := true, recurses := true, apart := false }
def EngineBackSaid : Prop := engineBackRow.holds Try.pinned (OpenSpec.ofChange engineBackSpec)

/-- ITS FALSE NEIGHBOUR: 'it returns false'. Refute it at one input. -/
def engineBackWrong : ChangeSpec := { name := "engineBack", fn := fun _ => fun
  | [d1, d2, d3] => { results := [.lit (.bool false)], args := [d1, d2, d3] }
  | _ => none }
def EngineBackWrongFalsely : Prop := engineBackRow.holds Try.pinned (OpenSpec.ofChange engineBackWrong)

/-- 'dromondlaw09.EngineOnly': WHATEVER THE INPUT: true; the input reads as it did. -/
def engineOnlySpec : ChangeSpec := { name := "engineOnly", fn := fun _ => fun
  | [d1, d2] => { results := [.lit (.bool true)], args := [d1, d2] }
  | _ => none }
def engineOnlyRow : OpenClaim := { program := "ytedoggejbhbebaa", sum := "17242fb041dd27a8c90b1436ddb1a9362689585659ed6a5c9bd40fd0377fe040", func := "dromond/dromondlaw09.EngineOnly", spec := "engineOnly", unfollowed := true, recurses := true, apart := false }
def EngineOnlySaid : Prop := engineOnlyRow.holds Try.pinned (OpenSpec.ofChange engineOnlySpec)

/-- ITS FALSE NEIGHBOUR: 'it returns false'. Refute it at one input. -/
def engineOnlyWrong : ChangeSpec := { name := "engineOnly", fn := fun _ => fun
  | [d1, d2] => { results := [.lit (.bool false)], args := [d1, d2] }
  | _ => none }
def EngineOnlyWrongFalsely : Prop := engineOnlyRow.holds Try.pinned (OpenSpec.ofChange engineOnlyWrong)

/-- 'dromondlaw09.EngineBlind': WHATEVER THE INPUT: true; the input reads as it did. -/
def engineBlindSpec : ChangeSpec := { name := "engineBlind", fn := fun _ => fun
  | [d1, d2] => { results := [.lit (.bool true)], args := [d1, d2] }
  | _ => none }
def engineBlindRow : OpenClaim := { program := "ytedoggejbhbebaa", sum := "17242fb041dd27a8c90b1436ddb1a9362689585659ed6a5c9bd40fd0377fe040", func := "dromond/dromondlaw09.EngineBlind", spec := "engineBlind", unfollowed := true, recurses := true, apart := false }
def EngineBlindSaid : Prop := engineBlindRow.holds Try.pinned (OpenSpec.ofChange engineBlindSpec)

/-- ITS FALSE NEIGHBOUR: 'it returns false'. Refute it at one input. -/
def engineBlindWrong : ChangeSpec := { name := "engineBlind", fn := fun _ => fun
  | [d1, d2] => { results := [.lit (.bool false)], args := [d1, d2] }
  | _ => none }
def EngineBlindWrongFalsely : Prop := engineBlindRow.holds Try.pinned (OpenSpec.ofChange engineBlindWrong)

/-- 'dromondlaw09.EngineFresh': WHATEVER THE INPUT: true; the input reads as it did. -/
def engineFreshSpec : ChangeSpec := { name := "engineFresh", fn := fun _ => fun
  | [d1, d2] => { results := [.lit (.bool true)], args := [d1, d2] }
  | _ => none }
def engineFreshRow : OpenClaim := { program := "ytedoggejbhbebaa", sum := "17242fb041dd27a8c90b1436ddb1a9362689585659ed6a5c9bd40fd0377fe040", func := "dromond/dromondlaw09.EngineFresh", spec := "engineFresh", unfollowed := true, recurses := true, apart := false }
def EngineFreshSaid : Prop := engineFreshRow.holds Try.pinned (OpenSpec.ofChange engineFreshSpec)

/-- ITS FALSE NEIGHBOUR: 'it returns false'. Refute it at one input. -/
def engineFreshWrong : ChangeSpec := { name := "engineFresh", fn := fun _ => fun
  | [d1, d2] => { results := [.lit (.bool false)], args := [d1, d2] }
  | _ => none }
def EngineFreshWrongFalsely : Prop := engineFreshRow.holds Try.pinned (OpenSpec.ofChange engineFreshWrong)

/- THE SECOND FORM. 'bulk': how many values and letters a reading holds, each counted each time it is reached (what is shared counts as often as it is met; a slice's spare places count too). A statement '..UptoSaid' is the law's where the arguments, and the package variables that the reading takes, are together of bulk at most 1048576: NARROWER than '..Said'. Prove '..Said' where nothing that the law and all that it calls make is longer than what came in: it says more and counts as full. Else prove '..UptoSaid'. A law counts once. -/
mutual
def uptoBulk {H : Type} : DataW H → Nat
  | .lit (.string bytes) => bytes.length + 1
  | .lit _ => 1
  | .nil => 1
  | .ptr d => uptoBulk d + 1
  | .slice elems spare => uptoBulkAll elems + uptoBulkAll spare + 1
  | .agg parts => uptoBulkAll parts + 1
  | .iface _ d => uptoBulk d + 1
  | .map entries => uptoBulkEntries entries + 1
  | .held _ => 1
def uptoBulkAll {H : Type} : List (DataW H) → Nat
  | [] => 0
  | d :: r => uptoBulk d + uptoBulkAll r
def uptoBulkEntries {H : Type} : List (Lit × DataW H) → Nat
  | [] => 0
  | x :: r => uptoBulkEntry x + uptoBulkEntries r
def uptoBulkEntry {H : Type} : Lit × DataW H → Nat
  | (.string bytes, d) => bytes.length + uptoBulk d + 1
  | (_, d) => uptoBulk d + 1
 end
def uptoSmall : (H : Type) → List (DataW H) → Bool := fun _ ds => decide (uptoBulkAll ds ≤ 1048576)
def OpenSpec.upto (s : _root_.Go.ChangeSpec) : _root_.Go.OpenSpec := { _root_.Go.OpenSpec.ofChange s with cond := some uptoSmall }

/-- 'dromondlaw09.EngineSizes', WHERE WHAT IT READS IS OF BULK AT MOST 1048576: true; the input reads as it did. -/
def engineSizesUptoRow : OpenClaim := { program := "ytedoggejbhbebaa", sum := "17242fb041dd27a8c90b1436ddb1a9362689585659ed6a5c9bd40fd0377fe040", func := "dromond/dromondlaw09.EngineSizes", spec := "engineSizes", unfollowed := true, recurses := true, apart := false, narrowed := true }
def EngineSizesUptoSaid : Prop := engineSizesUptoRow.holds Try.pinned (OpenSpec.upto engineSizesSpec)

/-- 'dromondlaw09.EngineBack', WHERE WHAT IT READS IS OF BULK AT MOST 1048576: true; the input reads as it did. -/
def engineBackUptoRow : OpenClaim := { program := "ytedoggejbhbebaa", sum := "17242fb041dd27a8c90b1436ddb1a9362689585659ed6a5c9bd40fd0377fe040", func := "dromond/dromondlaw09.EngineBack", spec := "engineBack", unfollowed := true, recurses := true, apart := false, narrowed := true }
def EngineBackUptoSaid : Prop := engineBackUptoRow.holds Try.pinned (OpenSpec.upto engineBackSpec)

/-- 'dromondlaw09.EngineOnly', WHERE WHAT IT READS IS OF BULK AT MOST 1048576: true; the input reads as it did. -/
def engineOnlyUptoRow : OpenClaim := { program := "ytedoggejbhbebaa", sum := "17242fb041dd27a8c90b1436ddb1a9362689585659ed6a5c9bd40fd0377fe040", func := "dromond/dromondlaw09.EngineOnly", spec := "engineOnly", unfollowed := true, recurses := true, apart := false, narrowed := true }
def EngineOnlyUptoSaid : Prop := engineOnlyUptoRow.holds Try.pinned (OpenSpec.upto engineOnlySpec)

/-- 'dromondlaw09.EngineBlind', WHERE WHAT IT READS IS OF BULK AT MOST 1048576: true; the input reads as it did. -/
def engineBlindUptoRow : OpenClaim := { program := "ytedoggejbhbebaa", sum := "17242fb041dd27a8c90b1436ddb1a9362689585659ed6a5c9bd40fd0377fe040", func := "dromond/dromondlaw09.EngineBlind", spec := "engineBlind", unfollowed := true, recurses := true, apart := false, narrowed := true }
def EngineBlindUptoSaid : Prop := engineBlindUptoRow.holds Try.pinned (OpenSpec.upto engineBlindSpec)

/-- 'dromondlaw09.EngineFresh', WHERE WHAT IT READS IS OF BULK AT MOST 1048576: true; the input reads as it did. -/
def engineFreshUptoRow : OpenClaim := { program := "ytedoggejbhbebaa", sum := "17242fb041dd27a8c90b1436ddb1a9362689585659ed6a5c9bd40fd0377fe040", func := "dromond/dromondlaw09.EngineFresh", spec := "engineFresh", unfollowed := true, recurses := true, apart := false, narrowed := true }
def EngineFreshUptoSaid : Prop := engineFreshUptoRow.holds Try.pinned (OpenSpec.upto engineFreshSpec)

end Rows
end Go.Proofs.Ytedoggejbhbebaa
