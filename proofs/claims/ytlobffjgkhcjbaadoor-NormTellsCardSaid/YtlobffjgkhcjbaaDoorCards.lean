/-
  DERIVED. GIVEN WITH THE SEED: THE CARDS: each row of YtlobffjgkhcjbaaDoorRows.lean that lists a variable, with what it lists TIED to the program's text (the seventh form; the later family's looks); each row that meets fmt, with fmt's text TOLD by the authors' own Lean function (tested against real Go, not proved from fmt's source: count such statements apart). THE CARD IS WHAT COUNTS. Prove the row's statement (the work); the ties are given (YtlobffjgkhcjbaaDoorTie.lean); close each card by the builder's one call (the guide's Derived/Test/ToyasCard.lean, 'card_holds'). Laid BY PROGRAM, IN A SANDBOX (cutbox-door.mjs). By AI agents, Wed Nov 11 2026. No macro, syntax, notation, axiom, sorry.
-/
import Derived.Test.YtlobffjgkhcjbaaDoorRows
import GoSem.ClaimSeven
namespace Go.Proofs.YtlobffjgkhcjbaaDoor
namespace Rows

/-- THE TIED CARD OF 'ashlarlaw03.TermTells'. -/
def termTellsCard : Claim7 := { stood := { row := termTellsRow, standIns := [], harness := (true, "3bbadf315049915b1f90eda7b18ce317f791ec369648ac1edf8fa0f4c843d76b"), looks := true }, kinds := [], alts := [], laidByText := true, laidKinds := [.data], laidTests := true, laidLooks := .later }
def TermTellsCardSaid : Prop := Claim7.holds Tryd.pinned (.plain (OpenSpec.ofChange termTellsSpec)) termTellsCard

/-- THE TIED CARD OF 'ashlarlaw05.SubstPuts'. -/
def substPutsCard : Claim7 := { stood := { row := substPutsRow, standIns := [], harness := (true, "3bbadf315049915b1f90eda7b18ce317f791ec369648ac1edf8fa0f4c843d76b"), looks := true }, kinds := [], alts := [], laidByText := true, laidKinds := [.data, .data, .data, .data], laidTests := true, laidLooks := .later }
def SubstPutsCardSaid : Prop := Claim7.holds Tryd.pinned (.plain (OpenSpec.ofChange substPutsSpec)) substPutsCard

/-- THE TIED CARD OF 'ashlarlaw05.SubstNone'. -/
def substNoneCard : Claim7 := { stood := { row := substNoneRow, standIns := [], harness := (true, "3bbadf315049915b1f90eda7b18ce317f791ec369648ac1edf8fa0f4c843d76b"), looks := true }, kinds := [], alts := [], laidByText := true, laidKinds := [.data, .data, .data, .data], laidTests := true, laidLooks := .later }
def SubstNoneCardSaid : Prop := Claim7.holds Tryd.pinned (.plain (OpenSpec.ofChange substNoneSpec)) substNoneCard

/-- THE TIED CARD OF 'ashlarlaw05.SubstTwice'. -/
def substTwiceCard : Claim7 := { stood := { row := substTwiceRow, standIns := [], harness := (true, "3bbadf315049915b1f90eda7b18ce317f791ec369648ac1edf8fa0f4c843d76b"), looks := true }, kinds := [], alts := [], laidByText := true, laidKinds := [.data, .data, .data, .data], laidTests := true, laidLooks := .later }
def SubstTwiceCardSaid : Prop := Claim7.holds Tryd.pinned (.plain (OpenSpec.ofChange substTwiceSpec)) substTwiceCard

/-- THE TIED CARD OF 'ashlarlaw05.SubstFresh'. -/
def substFreshCard : Claim7 := { stood := { row := substFreshRow, standIns := [], harness := (true, "3bbadf315049915b1f90eda7b18ce317f791ec369648ac1edf8fa0f4c843d76b"), looks := true }, kinds := [], alts := [], laidByText := true, laidKinds := [.data, .data, .data, .data], laidTests := true, laidLooks := .later }
def SubstFreshCardSaid : Prop := Claim7.holds Tryd.pinned (.plain (OpenSpec.ofChange substFreshSpec)) substFreshCard

/-- THE TIED CARD OF 'ashlarlaw06.NormTells'. -/
def normTellsCard : Claim7 := { stood := { row := normTellsRow, standIns := [], harness := (true, "3bbadf315049915b1f90eda7b18ce317f791ec369648ac1edf8fa0f4c843d76b"), looks := true }, kinds := [], alts := [], laidByText := true, laidKinds := [.data], laidTests := true, laidLooks := .later }
def NormTellsCardSaid : Prop := Claim7.holds Tryd.pinned (.plain (OpenSpec.ofChange normTellsSpec)) normTellsCard

/-- THE TIED CARD OF 'ashlarlaw06.NormValues'. -/
def normValuesCard : Claim7 := { stood := { row := normValuesRow, standIns := [], harness := (true, "3bbadf315049915b1f90eda7b18ce317f791ec369648ac1edf8fa0f4c843d76b"), looks := true }, kinds := [], alts := [], laidByText := true, laidKinds := [.data], laidTests := true, laidLooks := .later }
def NormValuesCardSaid : Prop := Claim7.holds Tryd.pinned (.plain (OpenSpec.ofChange normValuesSpec)) normValuesCard

/-- THE TIED CARD OF 'ashlarlaw06.NormAgain'. -/
def normAgainCard : Claim7 := { stood := { row := normAgainRow, standIns := [], harness := (true, "3bbadf315049915b1f90eda7b18ce317f791ec369648ac1edf8fa0f4c843d76b"), looks := true }, kinds := [], alts := [], laidByText := true, laidKinds := [.data], laidTests := true, laidLooks := .later }
def NormAgainCardSaid : Prop := Claim7.holds Tryd.pinned (.plain (OpenSpec.ofChange normAgainSpec)) normAgainCard

/-- THE TIED CARD OF 'ashlarlaw06.NormTurned'. -/
def normTurnedCard : Claim7 := { stood := { row := normTurnedRow, standIns := [], harness := (true, "3bbadf315049915b1f90eda7b18ce317f791ec369648ac1edf8fa0f4c843d76b"), looks := true }, kinds := [], alts := [], laidByText := true, laidKinds := [.data], laidTests := true, laidLooks := .later }
def NormTurnedCardSaid : Prop := Claim7.holds Tryd.pinned (.plain (OpenSpec.ofChange normTurnedSpec)) normTurnedCard

/-- THE TIED CARD OF 'ashlarlaw06.NormNames'. -/
def normNamesCard : Claim7 := { stood := { row := normNamesRow, standIns := [], harness := (true, "3bbadf315049915b1f90eda7b18ce317f791ec369648ac1edf8fa0f4c843d76b"), looks := true }, kinds := [], alts := [], laidByText := true, laidKinds := [.data], laidTests := true, laidLooks := .later }
def NormNamesCardSaid : Prop := Claim7.holds Tryd.pinned (.plain (OpenSpec.ofChange normNamesSpec)) normNamesCard

/-- THE SECOND FORM's CARD OF 'ashlarlaw03.TermTells'. -/
def termTellsUptoCard : Claim7 := { stood := { row := termTellsUptoRow, standIns := [], harness := (true, "3bbadf315049915b1f90eda7b18ce317f791ec369648ac1edf8fa0f4c843d76b"), looks := true }, kinds := [], alts := [], laidByText := true, laidKinds := [.data], laidTests := true, laidLooks := .later }
def TermTellsUptoCardSaid : Prop := Claim7.holds Tryd.pinned (.plain (OpenSpec.upto termTellsSpec)) termTellsUptoCard

/-- THE SECOND FORM's CARD OF 'ashlarlaw05.SubstPuts'. -/
def substPutsUptoCard : Claim7 := { stood := { row := substPutsUptoRow, standIns := [], harness := (true, "3bbadf315049915b1f90eda7b18ce317f791ec369648ac1edf8fa0f4c843d76b"), looks := true }, kinds := [], alts := [], laidByText := true, laidKinds := [.data, .data, .data, .data], laidTests := true, laidLooks := .later }
def SubstPutsUptoCardSaid : Prop := Claim7.holds Tryd.pinned (.plain (OpenSpec.upto substPutsSpec)) substPutsUptoCard

/-- THE SECOND FORM's CARD OF 'ashlarlaw05.SubstNone'. -/
def substNoneUptoCard : Claim7 := { stood := { row := substNoneUptoRow, standIns := [], harness := (true, "3bbadf315049915b1f90eda7b18ce317f791ec369648ac1edf8fa0f4c843d76b"), looks := true }, kinds := [], alts := [], laidByText := true, laidKinds := [.data, .data, .data, .data], laidTests := true, laidLooks := .later }
def SubstNoneUptoCardSaid : Prop := Claim7.holds Tryd.pinned (.plain (OpenSpec.upto substNoneSpec)) substNoneUptoCard

/-- THE SECOND FORM's CARD OF 'ashlarlaw05.SubstTwice'. -/
def substTwiceUptoCard : Claim7 := { stood := { row := substTwiceUptoRow, standIns := [], harness := (true, "3bbadf315049915b1f90eda7b18ce317f791ec369648ac1edf8fa0f4c843d76b"), looks := true }, kinds := [], alts := [], laidByText := true, laidKinds := [.data, .data, .data, .data], laidTests := true, laidLooks := .later }
def SubstTwiceUptoCardSaid : Prop := Claim7.holds Tryd.pinned (.plain (OpenSpec.upto substTwiceSpec)) substTwiceUptoCard

/-- THE SECOND FORM's CARD OF 'ashlarlaw05.SubstFresh'. -/
def substFreshUptoCard : Claim7 := { stood := { row := substFreshUptoRow, standIns := [], harness := (true, "3bbadf315049915b1f90eda7b18ce317f791ec369648ac1edf8fa0f4c843d76b"), looks := true }, kinds := [], alts := [], laidByText := true, laidKinds := [.data, .data, .data, .data], laidTests := true, laidLooks := .later }
def SubstFreshUptoCardSaid : Prop := Claim7.holds Tryd.pinned (.plain (OpenSpec.upto substFreshSpec)) substFreshUptoCard

/-- THE SECOND FORM's CARD OF 'ashlarlaw06.NormTells'. -/
def normTellsUptoCard : Claim7 := { stood := { row := normTellsUptoRow, standIns := [], harness := (true, "3bbadf315049915b1f90eda7b18ce317f791ec369648ac1edf8fa0f4c843d76b"), looks := true }, kinds := [], alts := [], laidByText := true, laidKinds := [.data], laidTests := true, laidLooks := .later }
def NormTellsUptoCardSaid : Prop := Claim7.holds Tryd.pinned (.plain (OpenSpec.upto normTellsSpec)) normTellsUptoCard

/-- THE SECOND FORM's CARD OF 'ashlarlaw06.NormValues'. -/
def normValuesUptoCard : Claim7 := { stood := { row := normValuesUptoRow, standIns := [], harness := (true, "3bbadf315049915b1f90eda7b18ce317f791ec369648ac1edf8fa0f4c843d76b"), looks := true }, kinds := [], alts := [], laidByText := true, laidKinds := [.data], laidTests := true, laidLooks := .later }
def NormValuesUptoCardSaid : Prop := Claim7.holds Tryd.pinned (.plain (OpenSpec.upto normValuesSpec)) normValuesUptoCard

/-- THE SECOND FORM's CARD OF 'ashlarlaw06.NormAgain'. -/
def normAgainUptoCard : Claim7 := { stood := { row := normAgainUptoRow, standIns := [], harness := (true, "3bbadf315049915b1f90eda7b18ce317f791ec369648ac1edf8fa0f4c843d76b"), looks := true }, kinds := [], alts := [], laidByText := true, laidKinds := [.data], laidTests := true, laidLooks := .later }
def NormAgainUptoCardSaid : Prop := Claim7.holds Tryd.pinned (.plain (OpenSpec.upto normAgainSpec)) normAgainUptoCard

/-- THE SECOND FORM's CARD OF 'ashlarlaw06.NormTurned'. -/
def normTurnedUptoCard : Claim7 := { stood := { row := normTurnedUptoRow, standIns := [], harness := (true, "3bbadf315049915b1f90eda7b18ce317f791ec369648ac1edf8fa0f4c843d76b"), looks := true }, kinds := [], alts := [], laidByText := true, laidKinds := [.data], laidTests := true, laidLooks := .later }
def NormTurnedUptoCardSaid : Prop := Claim7.holds Tryd.pinned (.plain (OpenSpec.upto normTurnedSpec)) normTurnedUptoCard

/-- THE SECOND FORM's CARD OF 'ashlarlaw06.NormNames'. -/
def normNamesUptoCard : Claim7 := { stood := { row := normNamesUptoRow, standIns := [], harness := (true, "3bbadf315049915b1f90eda7b18ce317f791ec369648ac1edf8fa0f4c843d76b"), looks := true }, kinds := [], alts := [], laidByText := true, laidKinds := [.data], laidTests := true, laidLooks := .later }
def NormNamesUptoCardSaid : Prop := Claim7.holds Tryd.pinned (.plain (OpenSpec.upto normNamesSpec)) normNamesUptoCard
end Rows
end Go.Proofs.YtlobffjgkhcjbaaDoor
