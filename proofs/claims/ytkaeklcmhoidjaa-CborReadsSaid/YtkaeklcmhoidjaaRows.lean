/-
  No cell of these rows narrows 'for every input' (looked for: loops, veiled, ifaces, maps, wideKeys, modest, calm, conditions, laid).
  DERIVED. THE GIVEN ROWS OF THIS SEAT. 4 by the template 'for every input the law returns true; each argument reads behind the call as it read before'; 0 by the template 'total and deterministic' (their statements: YtkaeklcmhoidjaaTotals.lean).
  GIVEN WITH THE SEED: the statements are not yours to turn. If you find one false, say at which input.
  Laid BY PROGRAM, IN A SANDBOX (cutbox-rows.mjs): the forced cells as the released guide's own fill.sh prints them over the translation ab6f0373bb951d2d… (all of the seat's roots in one cut). By AI agents, Wed Nov 11 2026. No macro, syntax, notation, axiom, sorry.
-/
import Derived.Test.YtkaeklcmhoidjaaChecked
import GoSem.Claim
import GoSem.ClaimJoined
import GoSem.ClaimMapViews
import Derived.JoinedTies
import Derived.KernelRfl
namespace Go.Proofs.Ytkaeklcmhoidjaa
/- THE CELL 'sum', in the pinned program and in every row, IS THE sha256 OF THE DUMP (.gsa) THAT YtkaeklcmhoidjaaProg.lean LOADS. Nothing in Lean hashes anything: it is a label: what it is worth is what the hold of that sum in a sandbox is worth. -/
noncomputable def Try.pinned : Pinned := { name := "ytkaeklcmhoidjaa", sum := "ab6f0373bb951d2de5f2c7b4594c677db85c8b9e33e0f16e52b626f69c019a31", checked := Try.checked }
namespace Rows
def none {H : Type} : Left H := { results := [], args := [] }

/-- 'dromondlaw01.CborHeads': WHATEVER THE INPUT: true; the input reads as it did. -/
def cborHeadsSpec : ChangeSpec := { name := "cborHeads", fn := fun _ => fun
  | [d1, d2] => { results := [.lit (.bool true)], args := [d1, d2] }
  | _ => none }
def cborHeadsRow : OpenClaim := { program := "ytkaeklcmhoidjaa", sum := "ab6f0373bb951d2de5f2c7b4594c677db85c8b9e33e0f16e52b626f69c019a31", func := "dromond/dromondlaw01.CborHeads", spec := "cborHeads", apart := false }
def CborHeadsSaid : Prop := cborHeadsRow.holds Try.pinned (OpenSpec.ofChange cborHeadsSpec)

/-- ITS FALSE NEIGHBOUR: 'it returns false'. Refute it at one input. -/
def cborHeadsWrong : ChangeSpec := { name := "cborHeads", fn := fun _ => fun
  | [d1, d2] => { results := [.lit (.bool false)], args := [d1, d2] }
  | _ => none }
def CborHeadsWrongFalsely : Prop := cborHeadsRow.holds Try.pinned (OpenSpec.ofChange cborHeadsWrong)

/-- 'dromondlaw01.CborStrings': WHATEVER THE INPUT: true; the input reads as it did. -/
def cborStringsSpec : ChangeSpec := { name := "cborStrings", fn := fun _ => fun
  | [d1, d2] => { results := [.lit (.bool true)], args := [d1, d2] }
  | _ => none }
def cborStringsRow : OpenClaim := { program := "ytkaeklcmhoidjaa", sum := "ab6f0373bb951d2de5f2c7b4594c677db85c8b9e33e0f16e52b626f69c019a31", func := "dromond/dromondlaw01.CborStrings", spec := "cborStrings", apart := false }
def CborStringsSaid : Prop := cborStringsRow.holds Try.pinned (OpenSpec.ofChange cborStringsSpec)

/-- ITS FALSE NEIGHBOUR: 'it returns false'. Refute it at one input. -/
def cborStringsWrong : ChangeSpec := { name := "cborStrings", fn := fun _ => fun
  | [d1, d2] => { results := [.lit (.bool false)], args := [d1, d2] }
  | _ => none }
def CborStringsWrongFalsely : Prop := cborStringsRow.holds Try.pinned (OpenSpec.ofChange cborStringsWrong)

/-- 'dromondlaw01.CborReads': WHATEVER THE INPUT: true; the input reads as it did. -/
def cborReadsSpec : ChangeSpec := { name := "cborReads", fn := fun _ => fun
  | [d1, d2] => { results := [.lit (.bool true)], args := [d1, d2] }
  | _ => none }
def cborReadsRow : OpenClaim := { program := "ytkaeklcmhoidjaa", sum := "ab6f0373bb951d2de5f2c7b4594c677db85c8b9e33e0f16e52b626f69c019a31", func := "dromond/dromondlaw01.CborReads", spec := "cborReads", apart := false }
def CborReadsSaid : Prop := cborReadsRow.holds Try.pinned (OpenSpec.ofChange cborReadsSpec)

/-- ITS FALSE NEIGHBOUR: 'it returns false'. Refute it at one input. -/
def cborReadsWrong : ChangeSpec := { name := "cborReads", fn := fun _ => fun
  | [d1, d2] => { results := [.lit (.bool false)], args := [d1, d2] }
  | _ => none }
def CborReadsWrongFalsely : Prop := cborReadsRow.holds Try.pinned (OpenSpec.ofChange cborReadsWrong)

/-- 'dromondlaw01.CborOne': WHATEVER THE INPUT: true; the input reads as it did. -/
def cborOneSpec : ChangeSpec := { name := "cborOne", fn := fun _ => fun
  | [d1, d2] => { results := [.lit (.bool true)], args := [d1, d2] }
  | _ => none }
def cborOneRow : OpenClaim := { program := "ytkaeklcmhoidjaa", sum := "ab6f0373bb951d2de5f2c7b4594c677db85c8b9e33e0f16e52b626f69c019a31", func := "dromond/dromondlaw01.CborOne", spec := "cborOne", apart := false }
def CborOneSaid : Prop := cborOneRow.holds Try.pinned (OpenSpec.ofChange cborOneSpec)

/-- ITS FALSE NEIGHBOUR: 'it returns false'. Refute it at one input. -/
def cborOneWrong : ChangeSpec := { name := "cborOne", fn := fun _ => fun
  | [d1, d2] => { results := [.lit (.bool false)], args := [d1, d2] }
  | _ => none }
def CborOneWrongFalsely : Prop := cborOneRow.holds Try.pinned (OpenSpec.ofChange cborOneWrong)

/- THE SECOND FORM. 'bulk': how many values and letters a reading holds, each counted each time it is reached (what is shared counts as often as it is met; a slice's spare places count too). A statement '..UptoSaid' is the law's where the arguments, and the package variables that the reading takes, are together of bulk at most 1048576: NARROWER than '..Said'. Prove '..Said' where nothing that the law and all that it calls make is longer than what came in: it says more and counts as full. Else prove '..UptoSaid'. A law counts once. -/
mutual
def uptoBulk {H : Type} : DataW H → Nat
  | .lit (.string bytes) => bytes.length + 1
  | .lit _ => 1
  | .nil => 1
  | .ptr d => uptoBulk d + 1
  | .slice elems spare => uptoBulkAll elems + uptoBulkAll spare + 1
  | .agg parts => uptoBulkAll parts + 1
  | .iface _ d => uptoBulk d + 1
  | .map entries => uptoBulkEntries entries + 1
  | .held _ => 1
def uptoBulkAll {H : Type} : List (DataW H) → Nat
  | [] => 0
  | d :: r => uptoBulk d + uptoBulkAll r
def uptoBulkEntries {H : Type} : List (Lit × DataW H) → Nat
  | [] => 0
  | x :: r => uptoBulkEntry x + uptoBulkEntries r
def uptoBulkEntry {H : Type} : Lit × DataW H → Nat
  | (.string bytes, d) => bytes.length + uptoBulk d + 1
  | (_, d) => uptoBulk d + 1
 end
def uptoSmall : (H : Type) → List (DataW H) → Bool := fun _ ds => decide (uptoBulkAll ds ≤ 1048576)
def OpenSpec.upto (s : _root_.Go.ChangeSpec) : _root_.Go.OpenSpec := { _root_.Go.OpenSpec.ofChange s with cond := some uptoSmall }

/-- 'dromondlaw01.CborHeads', WHERE WHAT IT READS IS OF BULK AT MOST 1048576: true; the input reads as it did. -/
def cborHeadsUptoRow : OpenClaim := { program := "ytkaeklcmhoidjaa", sum := "ab6f0373bb951d2de5f2c7b4594c677db85c8b9e33e0f16e52b626f69c019a31", func := "dromond/dromondlaw01.CborHeads", spec := "cborHeads", apart := false, narrowed := true }
def CborHeadsUptoSaid : Prop := cborHeadsUptoRow.holds Try.pinned (OpenSpec.upto cborHeadsSpec)

/-- 'dromondlaw01.CborStrings', WHERE WHAT IT READS IS OF BULK AT MOST 1048576: true; the input reads as it did. -/
def cborStringsUptoRow : OpenClaim := { program := "ytkaeklcmhoidjaa", sum := "ab6f0373bb951d2de5f2c7b4594c677db85c8b9e33e0f16e52b626f69c019a31", func := "dromond/dromondlaw01.CborStrings", spec := "cborStrings", apart := false, narrowed := true }
def CborStringsUptoSaid : Prop := cborStringsUptoRow.holds Try.pinned (OpenSpec.upto cborStringsSpec)

/-- 'dromondlaw01.CborReads', WHERE WHAT IT READS IS OF BULK AT MOST 1048576: true; the input reads as it did. -/
def cborReadsUptoRow : OpenClaim := { program := "ytkaeklcmhoidjaa", sum := "ab6f0373bb951d2de5f2c7b4594c677db85c8b9e33e0f16e52b626f69c019a31", func := "dromond/dromondlaw01.CborReads", spec := "cborReads", apart := false, narrowed := true }
def CborReadsUptoSaid : Prop := cborReadsUptoRow.holds Try.pinned (OpenSpec.upto cborReadsSpec)

/-- 'dromondlaw01.CborOne', WHERE WHAT IT READS IS OF BULK AT MOST 1048576: true; the input reads as it did. -/
def cborOneUptoRow : OpenClaim := { program := "ytkaeklcmhoidjaa", sum := "ab6f0373bb951d2de5f2c7b4594c677db85c8b9e33e0f16e52b626f69c019a31", func := "dromond/dromondlaw01.CborOne", spec := "cborOne", apart := false, narrowed := true }
def CborOneUptoSaid : Prop := cborOneUptoRow.holds Try.pinned (OpenSpec.upto cborOneSpec)

end Rows
end Go.Proofs.Ytkaeklcmhoidjaa
