/-
  DERIVED. GIVEN WITH THE SEED: THE CARDS: each row of YtaiachmolkjedaaDoorRows.lean that lists a variable, with what it lists TIED to the program's text (the seventh form; the later family's looks); each row that meets fmt, with fmt's text TOLD by the authors' own Lean function (tested against real Go, not proved from fmt's source: count such statements apart). THE CARD IS WHAT COUNTS. Prove the row's statement (the work); the ties are given (YtaiachmolkjedaaDoorTie.lean); close each card by the builder's one call (the guide's Derived/Test/ToyasCard.lean, 'card_holds'). Laid BY PROGRAM, IN A SANDBOX (cutbox-door.mjs). By AI agents, Wed Nov 11 2026. No macro, syntax, notation, axiom, sorry.
-/
import Derived.Test.YtaiachmolkjedaaDoorRows
import GoSem.ClaimSeven
namespace Go.Proofs.YtaiachmolkjedaaDoor
namespace Rows

/-- THE TIED CARD OF 'ashlarlaw03.TermTells'. -/
def termTellsCard : Claim7 := { stood := { row := termTellsRow, standIns := [], harness := (true, "b34c8930118bd64d850c0fc735e268ae7c27599b59004c79986929476037f1e1"), looks := false }, kinds := [], alts := [], laidByText := true, laidKinds := [.data], laidTests := true, laidLooks := .later }
def TermTellsCardSaid : Prop := Claim7.holds Tryd.pinned (.plain (OpenSpec.ofChange termTellsSpec)) termTellsCard

/-- THE TIED CARD OF 'ashlarlaw05.SubstFresh'. -/
def substFreshCard : Claim7 := { stood := { row := substFreshRow, standIns := [], harness := (true, "b34c8930118bd64d850c0fc735e268ae7c27599b59004c79986929476037f1e1"), looks := false }, kinds := [], alts := [], laidByText := true, laidKinds := [.data, .data, .data, .data], laidTests := true, laidLooks := .later }
def SubstFreshCardSaid : Prop := Claim7.holds Tryd.pinned (.plain (OpenSpec.ofChange substFreshSpec)) substFreshCard

/-- THE TIED CARD OF 'ashlarlaw05.SubstNone'. -/
def substNoneCard : Claim7 := { stood := { row := substNoneRow, standIns := [], harness := (true, "b34c8930118bd64d850c0fc735e268ae7c27599b59004c79986929476037f1e1"), looks := false }, kinds := [], alts := [], laidByText := true, laidKinds := [.data, .data, .data, .data], laidTests := true, laidLooks := .later }
def SubstNoneCardSaid : Prop := Claim7.holds Tryd.pinned (.plain (OpenSpec.ofChange substNoneSpec)) substNoneCard

/-- THE TIED CARD OF 'ashlarlaw05.SubstPuts'. -/
def substPutsCard : Claim7 := { stood := { row := substPutsRow, standIns := [], harness := (true, "b34c8930118bd64d850c0fc735e268ae7c27599b59004c79986929476037f1e1"), looks := false }, kinds := [], alts := [], laidByText := true, laidKinds := [.data, .data, .data, .data], laidTests := true, laidLooks := .later }
def SubstPutsCardSaid : Prop := Claim7.holds Tryd.pinned (.plain (OpenSpec.ofChange substPutsSpec)) substPutsCard

/-- THE TIED CARD OF 'ashlarlaw05.SubstTwice'. -/
def substTwiceCard : Claim7 := { stood := { row := substTwiceRow, standIns := [], harness := (true, "b34c8930118bd64d850c0fc735e268ae7c27599b59004c79986929476037f1e1"), looks := false }, kinds := [], alts := [], laidByText := true, laidKinds := [.data, .data, .data, .data], laidTests := true, laidLooks := .later }
def SubstTwiceCardSaid : Prop := Claim7.holds Tryd.pinned (.plain (OpenSpec.ofChange substTwiceSpec)) substTwiceCard

/-- THE TIED CARD OF 'ashlarlaw07.CnfMeans'. -/
def cnfMeansCard : Claim7 := { stood := { row := cnfMeansRow, standIns := [], harness := (true, "b34c8930118bd64d850c0fc735e268ae7c27599b59004c79986929476037f1e1"), looks := false }, kinds := [], alts := [], laidByText := true, laidKinds := [.data], laidTests := true, laidLooks := .later }
def CnfMeansCardSaid : Prop := Claim7.holds Tryd.pinned (.plain (OpenSpec.ofChange cnfMeansSpec)) cnfMeansCard

/-- THE TIED CARD OF 'ashlarlaw07.CnfTells'. -/
def cnfTellsCard : Claim7 := { stood := { row := cnfTellsRow, standIns := [], harness := (true, "b34c8930118bd64d850c0fc735e268ae7c27599b59004c79986929476037f1e1"), looks := false }, kinds := [], alts := [], laidByText := true, laidKinds := [.data], laidTests := true, laidLooks := .later }
def CnfTellsCardSaid : Prop := Claim7.holds Tryd.pinned (.plain (OpenSpec.ofChange cnfTellsSpec)) cnfTellsCard

/-- THE SECOND FORM's CARD OF 'ashlarlaw03.TermTells'. -/
def termTellsUptoCard : Claim7 := { stood := { row := termTellsUptoRow, standIns := [], harness := (true, "b34c8930118bd64d850c0fc735e268ae7c27599b59004c79986929476037f1e1"), looks := false }, kinds := [], alts := [], laidByText := true, laidKinds := [.data], laidTests := true, laidLooks := .later }
def TermTellsUptoCardSaid : Prop := Claim7.holds Tryd.pinned (.plain (OpenSpec.upto termTellsSpec)) termTellsUptoCard

/-- THE SECOND FORM's CARD OF 'ashlarlaw05.SubstFresh'. -/
def substFreshUptoCard : Claim7 := { stood := { row := substFreshUptoRow, standIns := [], harness := (true, "b34c8930118bd64d850c0fc735e268ae7c27599b59004c79986929476037f1e1"), looks := false }, kinds := [], alts := [], laidByText := true, laidKinds := [.data, .data, .data, .data], laidTests := true, laidLooks := .later }
def SubstFreshUptoCardSaid : Prop := Claim7.holds Tryd.pinned (.plain (OpenSpec.upto substFreshSpec)) substFreshUptoCard

/-- THE SECOND FORM's CARD OF 'ashlarlaw05.SubstNone'. -/
def substNoneUptoCard : Claim7 := { stood := { row := substNoneUptoRow, standIns := [], harness := (true, "b34c8930118bd64d850c0fc735e268ae7c27599b59004c79986929476037f1e1"), looks := false }, kinds := [], alts := [], laidByText := true, laidKinds := [.data, .data, .data, .data], laidTests := true, laidLooks := .later }
def SubstNoneUptoCardSaid : Prop := Claim7.holds Tryd.pinned (.plain (OpenSpec.upto substNoneSpec)) substNoneUptoCard

/-- THE SECOND FORM's CARD OF 'ashlarlaw05.SubstPuts'. -/
def substPutsUptoCard : Claim7 := { stood := { row := substPutsUptoRow, standIns := [], harness := (true, "b34c8930118bd64d850c0fc735e268ae7c27599b59004c79986929476037f1e1"), looks := false }, kinds := [], alts := [], laidByText := true, laidKinds := [.data, .data, .data, .data], laidTests := true, laidLooks := .later }
def SubstPutsUptoCardSaid : Prop := Claim7.holds Tryd.pinned (.plain (OpenSpec.upto substPutsSpec)) substPutsUptoCard

/-- THE SECOND FORM's CARD OF 'ashlarlaw05.SubstTwice'. -/
def substTwiceUptoCard : Claim7 := { stood := { row := substTwiceUptoRow, standIns := [], harness := (true, "b34c8930118bd64d850c0fc735e268ae7c27599b59004c79986929476037f1e1"), looks := false }, kinds := [], alts := [], laidByText := true, laidKinds := [.data, .data, .data, .data], laidTests := true, laidLooks := .later }
def SubstTwiceUptoCardSaid : Prop := Claim7.holds Tryd.pinned (.plain (OpenSpec.upto substTwiceSpec)) substTwiceUptoCard

/-- THE SECOND FORM's CARD OF 'ashlarlaw07.CnfMeans'. -/
def cnfMeansUptoCard : Claim7 := { stood := { row := cnfMeansUptoRow, standIns := [], harness := (true, "b34c8930118bd64d850c0fc735e268ae7c27599b59004c79986929476037f1e1"), looks := false }, kinds := [], alts := [], laidByText := true, laidKinds := [.data], laidTests := true, laidLooks := .later }
def CnfMeansUptoCardSaid : Prop := Claim7.holds Tryd.pinned (.plain (OpenSpec.upto cnfMeansSpec)) cnfMeansUptoCard

/-- THE SECOND FORM's CARD OF 'ashlarlaw07.CnfTells'. -/
def cnfTellsUptoCard : Claim7 := { stood := { row := cnfTellsUptoRow, standIns := [], harness := (true, "b34c8930118bd64d850c0fc735e268ae7c27599b59004c79986929476037f1e1"), looks := false }, kinds := [], alts := [], laidByText := true, laidKinds := [.data], laidTests := true, laidLooks := .later }
def CnfTellsUptoCardSaid : Prop := Claim7.holds Tryd.pinned (.plain (OpenSpec.upto cnfTellsSpec)) cnfTellsUptoCard
end Rows
end Go.Proofs.YtaiachmolkjedaaDoor
