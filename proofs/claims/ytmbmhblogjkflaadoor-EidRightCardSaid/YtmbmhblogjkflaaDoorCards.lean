/-
  DERIVED. GIVEN WITH THE SEED: THE CARDS: each row of YtmbmhblogjkflaaDoorRows.lean that lists a variable, with what it lists TIED to the program's text (the seventh form; the later family's looks); each row that meets fmt, with fmt's text TOLD by the authors' own Lean function (tested against real Go, not proved from fmt's source: count such statements apart). THE CARD IS WHAT COUNTS. Prove the row's statement (the work); the ties are given (YtmbmhblogjkflaaDoorTie.lean); close each card by the builder's one call (the guide's Derived/Test/ToyasCard.lean, 'card_holds'). Laid BY PROGRAM, IN A SANDBOX (cutbox-door.mjs). By AI agents, Wed Nov 11 2026. No macro, syntax, notation, axiom, sorry.
-/
import Derived.Test.YtmbmhblogjkflaaDoorRows
import GoSem.ClaimSeven
namespace Go.Proofs.YtmbmhblogjkflaaDoor
namespace Rows

/-- THE TIED CARD OF 'dromondlaw10.EidRight'. -/
def eidRightCard : Claim7 := { stood := { row := eidRightRow, standIns := [], harness := (true, "c1d07956e10a204da9ba9b49f483f0bdc7717d7fd8de0ef17043af2877e5389d"), looks := true }, kinds := [], alts := [], laidByText := true, laidKinds := [.data, .data, .data], laidTests := true, laidLooks := .later }
def EidRightCardSaid : Prop := Claim7.holds Tryd.pinned (.plain (OpenSpec.ofChange eidRightSpec)) eidRightCard

/-- THE TIED CARD OF 'dromondlaw10.EidBack'. -/
def eidBackCard : Claim7 := { stood := { row := eidBackRow, standIns := [], harness := (true, "c1d07956e10a204da9ba9b49f483f0bdc7717d7fd8de0ef17043af2877e5389d"), looks := true }, kinds := [], alts := [], laidByText := true, laidKinds := [.data, .data, .data, .sentinel, .sentinel], laidTests := true, laidLooks := .later }
def EidBackCardSaid : Prop := Claim7.holds Tryd.pinned (.plain (OpenSpec.ofChange eidBackSpec)) eidBackCard

/-- THE TIED CARD OF 'dromondlaw10.EidParses'. -/
def eidParsesCard : Claim7 := { stood := { row := eidParsesRow, standIns := [], harness := (true, "c1d07956e10a204da9ba9b49f483f0bdc7717d7fd8de0ef17043af2877e5389d"), looks := true }, kinds := [], alts := [], laidByText := true, laidKinds := [.data, .data, .data, .sentinel, .sentinel], laidTests := true, laidLooks := .later }
def EidParsesCardSaid : Prop := Claim7.holds Tryd.pinned (.plain (OpenSpec.ofChange eidParsesSpec)) eidParsesCard

/-- THE SECOND FORM's CARD OF 'dromondlaw10.EidRight'. -/
def eidRightUptoCard : Claim7 := { stood := { row := eidRightUptoRow, standIns := [], harness := (true, "c1d07956e10a204da9ba9b49f483f0bdc7717d7fd8de0ef17043af2877e5389d"), looks := true }, kinds := [], alts := [], laidByText := true, laidKinds := [.data, .data, .data], laidTests := true, laidLooks := .later }
def EidRightUptoCardSaid : Prop := Claim7.holds Tryd.pinned (.plain (OpenSpec.upto eidRightSpec)) eidRightUptoCard

/-- THE SECOND FORM's CARD OF 'dromondlaw10.EidBack'. -/
def eidBackUptoCard : Claim7 := { stood := { row := eidBackUptoRow, standIns := [], harness := (true, "c1d07956e10a204da9ba9b49f483f0bdc7717d7fd8de0ef17043af2877e5389d"), looks := true }, kinds := [], alts := [], laidByText := true, laidKinds := [.data, .data, .data, .sentinel, .sentinel], laidTests := true, laidLooks := .later }
def EidBackUptoCardSaid : Prop := Claim7.holds Tryd.pinned (.plain (OpenSpec.upto eidBackSpec)) eidBackUptoCard

/-- THE SECOND FORM's CARD OF 'dromondlaw10.EidParses'. -/
def eidParsesUptoCard : Claim7 := { stood := { row := eidParsesUptoRow, standIns := [], harness := (true, "c1d07956e10a204da9ba9b49f483f0bdc7717d7fd8de0ef17043af2877e5389d"), looks := true }, kinds := [], alts := [], laidByText := true, laidKinds := [.data, .data, .data, .sentinel, .sentinel], laidTests := true, laidLooks := .later }
def EidParsesUptoCardSaid : Prop := Claim7.holds Tryd.pinned (.plain (OpenSpec.upto eidParsesSpec)) eidParsesUptoCard
end Rows
end Go.Proofs.YtmbmhblogjkflaaDoor
