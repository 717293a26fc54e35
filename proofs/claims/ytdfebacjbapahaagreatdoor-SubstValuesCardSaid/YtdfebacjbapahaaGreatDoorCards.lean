/-
  DERIVED. GIVEN WITH THE SEED: THE CARDS: each row of YtdfebacjbapahaaGreatDoorRows.lean that lists a variable, with what it lists TIED to the program's text (the seventh form; the later family's looks); each row that meets fmt, with fmt's text TOLD by the authors' own Lean function (tested against real Go, not proved from fmt's source: count such statements apart). THE CARD IS WHAT COUNTS. Prove the row's statement (the work); the ties are given (YtdfebacjbapahaaGreatDoorTie.lean); close each card by the builder's one call (the guide's Derived/Test/ToyasCard.lean, 'card_holds'). Laid BY PROGRAM, IN A SANDBOX (cutbox-door.mjs). By AI agents, Wed Nov 11 2026. No macro, syntax, notation, axiom, sorry.
-/
import Derived.Test.YtdfebacjbapahaaGreatDoorRows
import GoSem.ClaimSeven
namespace Go.Proofs.YtdfebacjbapahaaGreatDoor
namespace Rows

/-- THE TIED CARD OF 'ashlarlaw05.SubstValues'. -/
def substValuesCard : Claim7 := { stood := { row := substValuesRow, standIns := [], harness := (true, "3f057b335c2682c326b501ec14dd2e87bb8f9fe1c11b5215e8c7fe534951ee0a"), looks := true }, kinds := [], alts := [], laidByText := true, laidKinds := [.data, .data, .data, .data], laidTests := true, laidLooks := .later }
def SubstValuesCardSaid : Prop := Claim7.holds Tryz.pinned (.plain (OpenSpec.ofChange substValuesSpec)) substValuesCard

/-- THE SECOND FORM's CARD OF 'ashlarlaw05.SubstValues'. -/
def substValuesUptoCard : Claim7 := { stood := { row := substValuesUptoRow, standIns := [], harness := (true, "3f057b335c2682c326b501ec14dd2e87bb8f9fe1c11b5215e8c7fe534951ee0a"), looks := true }, kinds := [], alts := [], laidByText := true, laidKinds := [.data, .data, .data, .data], laidTests := true, laidLooks := .later }
def SubstValuesUptoCardSaid : Prop := Claim7.holds Tryz.pinned (.plain (OpenSpec.upto substValuesSpec)) substValuesUptoCard
end Rows
end Go.Proofs.YtdfebacjbapahaaGreatDoor
