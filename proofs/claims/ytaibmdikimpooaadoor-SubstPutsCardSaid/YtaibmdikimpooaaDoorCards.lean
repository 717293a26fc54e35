/-
  DERIVED. GIVEN WITH THE SEED: THE CARDS: each row of YtaibmdikimpooaaDoorRows.lean that lists a variable, with what it lists TIED to the program's text (the seventh form; the later family's looks); each row that meets fmt, with fmt's text TOLD by the authors' own Lean function (tested against real Go, not proved from fmt's source: count such statements apart). THE CARD IS WHAT COUNTS. Prove the row's statement (the work); the ties are given (YtaibmdikimpooaaDoorTie.lean); close each card by the builder's one call (the guide's Derived/Test/ToyasCard.lean, 'card_holds'). Laid BY PROGRAM, IN A SANDBOX (cutbox-door.mjs). By AI agents, Wed Nov 11 2026. No macro, syntax, notation, axiom, sorry.
-/
import Derived.Test.YtaibmdikimpooaaDoorRows
import GoSem.ClaimSeven
namespace Go.Proofs.YtaibmdikimpooaaDoor
namespace Rows

/-- THE TIED CARD OF 'ashlarlaw03.TermTells'. -/
def termTellsCard : Claim7 := { stood := { row := termTellsRow, standIns := [], harness := (true, "93e0d0c1bab93ac51ce70bf0bfe8907abdbcc355c2fc701498893737ca5cfeb6"), looks := false }, kinds := [], alts := [], laidByText := true, laidKinds := [.data], laidTests := true, laidLooks := .later }
def TermTellsCardSaid : Prop := Claim7.holds Tryd.pinned (.plain (OpenSpec.ofChange termTellsSpec)) termTellsCard

/-- THE TIED CARD OF 'ashlarlaw05.SubstPuts'. -/
def substPutsCard : Claim7 := { stood := { row := substPutsRow, standIns := [], harness := (true, "93e0d0c1bab93ac51ce70bf0bfe8907abdbcc355c2fc701498893737ca5cfeb6"), looks := false }, kinds := [], alts := [], laidByText := true, laidKinds := [.data, .data, .data, .data], laidTests := true, laidLooks := .later }
def SubstPutsCardSaid : Prop := Claim7.holds Tryd.pinned (.plain (OpenSpec.ofChange substPutsSpec)) substPutsCard

/-- THE TIED CARD OF 'ashlarlaw05.SubstFresh'. -/
def substFreshCard : Claim7 := { stood := { row := substFreshRow, standIns := [], harness := (true, "93e0d0c1bab93ac51ce70bf0bfe8907abdbcc355c2fc701498893737ca5cfeb6"), looks := false }, kinds := [], alts := [], laidByText := true, laidKinds := [.data, .data, .data, .data], laidTests := true, laidLooks := .later }
def SubstFreshCardSaid : Prop := Claim7.holds Tryd.pinned (.plain (OpenSpec.ofChange substFreshSpec)) substFreshCard

/-- THE SECOND FORM's CARD OF 'ashlarlaw03.TermTells'. -/
def termTellsUptoCard : Claim7 := { stood := { row := termTellsUptoRow, standIns := [], harness := (true, "93e0d0c1bab93ac51ce70bf0bfe8907abdbcc355c2fc701498893737ca5cfeb6"), looks := false }, kinds := [], alts := [], laidByText := true, laidKinds := [.data], laidTests := true, laidLooks := .later }
def TermTellsUptoCardSaid : Prop := Claim7.holds Tryd.pinned (.plain (OpenSpec.upto termTellsSpec)) termTellsUptoCard

/-- THE SECOND FORM's CARD OF 'ashlarlaw05.SubstPuts'. -/
def substPutsUptoCard : Claim7 := { stood := { row := substPutsUptoRow, standIns := [], harness := (true, "93e0d0c1bab93ac51ce70bf0bfe8907abdbcc355c2fc701498893737ca5cfeb6"), looks := false }, kinds := [], alts := [], laidByText := true, laidKinds := [.data, .data, .data, .data], laidTests := true, laidLooks := .later }
def SubstPutsUptoCardSaid : Prop := Claim7.holds Tryd.pinned (.plain (OpenSpec.upto substPutsSpec)) substPutsUptoCard

/-- THE SECOND FORM's CARD OF 'ashlarlaw05.SubstFresh'. -/
def substFreshUptoCard : Claim7 := { stood := { row := substFreshUptoRow, standIns := [], harness := (true, "93e0d0c1bab93ac51ce70bf0bfe8907abdbcc355c2fc701498893737ca5cfeb6"), looks := false }, kinds := [], alts := [], laidByText := true, laidKinds := [.data, .data, .data, .data], laidTests := true, laidLooks := .later }
def SubstFreshUptoCardSaid : Prop := Claim7.holds Tryd.pinned (.plain (OpenSpec.upto substFreshSpec)) substFreshUptoCard
end Rows
end Go.Proofs.YtaibmdikimpooaaDoor
