/-
  NARROWER THAN 'FOR EVERY INPUT', by the rows' own cells (each row's printed sentence says how): TermTells: loops, laid · TermParts: loops, laid · TermJoins: loops, laid · TermNames: loops, laid · TermWraps: loops, laid.
  DERIVED. THE GIVEN ROWS OF THIS SEAT. 5 by the template 'for every input the law returns true; each argument reads behind the call as it read before'; 0 by the template 'total and deterministic' (their statements: YtheegiaehlfdmaaDoorTotals.lean).
  GIVEN WITH THE SEED: the statements are not yours to turn. If you find one false, say at which input.
  Laid BY PROGRAM, IN A SANDBOX (cutbox-rows.mjs): the forced cells as the released guide's own fill.sh prints them over the translation 4de60f4b889eff3f… (all of the seat's roots in one cut). By AI agents, Wed Nov 11 2026. No macro, syntax, notation, axiom, sorry.
-/
import Derived.Test.YtheegiaehlfdmaaDoorChecked
import GoSem.Claim
import GoSem.ClaimJoined
import GoSem.ClaimMapViews
import Derived.JoinedTies
import Derived.KernelRfl
namespace Go.Proofs.YtheegiaehlfdmaaDoor
/- THE CELL 'sum', in the pinned program and in every row, IS THE sha256 OF THE DUMP (.gsa) THAT YtheegiaehlfdmaaDoorProg.lean LOADS. Nothing in Lean hashes anything: it is a label: what it is worth is what the hold of that sum in a sandbox is worth. -/
noncomputable def Tryd.pinned : Pinned := { name := "ytheegiaehlfdmaadoor", sum := "4de60f4b889eff3fb279d1a50920425f9976a07ee6a3aea6384fea2738555dd3", checked := Tryd.checked }
namespace Rows
def none {H : Type} : Left H := { results := [], args := [] }

/- WHAT THE LISTED PACKAGE-LEVEL VARIABLES READ AS WHEN THE CALL BEGINS. Each datum BY PROGRAM (the guide's laid-datum.mjs) off the statement by which the dump's own 'gosem.cut.vars' lays the variable. In a bare row this is a premise. The card (YtheegiaehlfdmaaDoorCards.lean) ties it to the program's text. -/
def laid_ashlar_term_shapes {H : Type} : DataW H := .agg [.agg [.lit (.int .i64 0), .lit (.bool false), .lit (.bool false), .lit (.bool false), .lit (.int .i64 0), .agg [.lit (.int .i64 0), .lit (.int .i64 0)]], .agg [.lit (.int .i64 1), .lit (.bool false), .lit (.bool true), .lit (.bool false), .lit (.int .i64 0), .agg [.lit (.int .i64 0), .lit (.int .i64 0)]], .agg [.lit (.int .i64 1), .lit (.bool true), .lit (.bool false), .lit (.bool false), .lit (.int .i64 0), .agg [.lit (.int .i64 0), .lit (.int .i64 0)]], .agg [.lit (.int .i64 1), .lit (.bool false), .lit (.bool false), .lit (.bool false), .lit (.int .i64 1), .agg [.lit (.int .i64 2), .lit (.int .i64 0)]], .agg [.lit (.int .i64 1), .lit (.bool false), .lit (.bool false), .lit (.bool false), .lit (.int .i64 2), .agg [.lit (.int .i64 1), .lit (.int .i64 1)]], .agg [.lit (.int .i64 1), .lit (.bool false), .lit (.bool false), .lit (.bool false), .lit (.int .i64 2), .agg [.lit (.int .i64 1), .lit (.int .i64 1)]], .agg [.lit (.int .i64 1), .lit (.bool false), .lit (.bool true), .lit (.bool false), .lit (.int .i64 1), .agg [.lit (.int .i64 1), .lit (.int .i64 0)]], .agg [.lit (.int .i64 2), .lit (.bool true), .lit (.bool false), .lit (.bool false), .lit (.int .i64 0), .agg [.lit (.int .i64 0), .lit (.int .i64 0)]], .agg [.lit (.int .i64 2), .lit (.bool false), .lit (.bool false), .lit (.bool false), .lit (.int .i64 0), .agg [.lit (.int .i64 0), .lit (.int .i64 0)]], .agg [.lit (.int .i64 2), .lit (.bool false), .lit (.bool false), .lit (.bool false), .lit (.int .i64 0), .agg [.lit (.int .i64 0), .lit (.int .i64 0)]], .agg [.lit (.int .i64 2), .lit (.bool false), .lit (.bool false), .lit (.bool false), .lit (.int .i64 1), .agg [.lit (.int .i64 3), .lit (.int .i64 0)]], .agg [.lit (.int .i64 2), .lit (.bool false), .lit (.bool false), .lit (.bool false), .lit (.int .i64 2), .agg [.lit (.int .i64 2), .lit (.int .i64 2)]], .agg [.lit (.int .i64 2), .lit (.bool false), .lit (.bool false), .lit (.bool false), .lit (.int .i64 2), .agg [.lit (.int .i64 2), .lit (.int .i64 2)]], .agg [.lit (.int .i64 2), .lit (.bool false), .lit (.bool false), .lit (.bool false), .lit (.int .i64 2), .agg [.lit (.int .i64 2), .lit (.int .i64 2)]], .agg [.lit (.int .i64 3), .lit (.bool true), .lit (.bool false), .lit (.bool false), .lit (.int .i64 0), .agg [.lit (.int .i64 0), .lit (.int .i64 0)]], .agg [.lit (.int .i64 4), .lit (.bool true), .lit (.bool false), .lit (.bool false), .lit (.int .i64 0), .agg [.lit (.int .i64 0), .lit (.int .i64 0)]], .agg [.lit (.int .i64 4), .lit (.bool false), .lit (.bool false), .lit (.bool false), .lit (.int .i64 0), .agg [.lit (.int .i64 0), .lit (.int .i64 0)]], .agg [.lit (.int .i64 4), .lit (.bool false), .lit (.bool false), .lit (.bool false), .lit (.int .i64 0), .agg [.lit (.int .i64 0), .lit (.int .i64 0)]], .agg [.lit (.int .i64 4), .lit (.bool false), .lit (.bool false), .lit (.bool false), .lit (.int .i64 1), .agg [.lit (.int .i64 4), .lit (.int .i64 0)]], .agg [.lit (.int .i64 4), .lit (.bool false), .lit (.bool false), .lit (.bool true), .lit (.int .i64 0), .agg [.lit (.int .i64 4), .lit (.int .i64 0)]], .agg [.lit (.int .i64 4), .lit (.bool false), .lit (.bool false), .lit (.bool true), .lit (.int .i64 0), .agg [.lit (.int .i64 4), .lit (.int .i64 0)]], .agg [.lit (.int .i64 4), .lit (.bool false), .lit (.bool false), .lit (.bool false), .lit (.int .i64 2), .agg [.lit (.int .i64 4), .lit (.int .i64 4)]], .agg [.lit (.int .i64 4), .lit (.bool false), .lit (.bool false), .lit (.bool false), .lit (.int .i64 2), .agg [.lit (.int .i64 1), .lit (.int .i64 1)]], .agg [.lit (.int .i64 4), .lit (.bool false), .lit (.bool false), .lit (.bool false), .lit (.int .i64 2), .agg [.lit (.int .i64 1), .lit (.int .i64 1)]], .agg [.lit (.int .i64 4), .lit (.bool false), .lit (.bool false), .lit (.bool false), .lit (.int .i64 2), .agg [.lit (.int .i64 1), .lit (.int .i64 1)]], .agg [.lit (.int .i64 4), .lit (.bool false), .lit (.bool false), .lit (.bool false), .lit (.int .i64 2), .agg [.lit (.int .i64 3), .lit (.int .i64 2)]], .agg [.lit (.int .i64 4), .lit (.bool false), .lit (.bool false), .lit (.bool false), .lit (.int .i64 2), .agg [.lit (.int .i64 2), .lit (.int .i64 2)]], .agg [.lit (.int .i64 4), .lit (.bool false), .lit (.bool false), .lit (.bool false), .lit (.int .i64 2), .agg [.lit (.int .i64 2), .lit (.int .i64 2)]], .agg [.lit (.int .i64 4), .lit (.bool false), .lit (.bool false), .lit (.bool false), .lit (.int .i64 2), .agg [.lit (.int .i64 3), .lit (.int .i64 3)]]]

/-- 'ashlarlaw03.TermTells': WHATEVER THE INPUT: true; the input reads as it did. -/
def termTellsSpec : ChangeSpec := { name := "termTells", fn := fun _ => fun
  | [d1, d2, d3] => { results := [.lit (.bool true)], args := [d1, d2, d3] }
  | _ => none }
def termTellsRow : OpenClaim := { program := "ytheegiaehlfdmaadoor", sum := "4de60f4b889eff3fb279d1a50920425f9976a07ee6a3aea6384fea2738555dd3", func := "ashlar/ashlarlaw03.TermTells", spec := "termTells", unfollowed := true, recurses := true, named := ["ashlar/term.shapes"], loops := true, plainKeys := false, apart := false, laid := [("ashlar/term.shapes", laid_ashlar_term_shapes)] }
def TermTellsSaid : Prop := termTellsRow.holds Tryd.pinned (OpenSpec.ofChange termTellsSpec)

/-- ITS FALSE NEIGHBOUR: 'it returns false'. Refute it at one input. -/
def termTellsWrong : ChangeSpec := { name := "termTells", fn := fun _ => fun
  | [d1, d2, d3] => { results := [.lit (.bool false)], args := [d1, d2, d3] }
  | _ => none }
def TermTellsWrongFalsely : Prop := termTellsRow.holds Tryd.pinned (OpenSpec.ofChange termTellsWrong)

/-- 'ashlarlaw03.TermParts': WHATEVER THE INPUT: true; the input reads as it did. -/
def termPartsSpec : ChangeSpec := { name := "termParts", fn := fun _ => fun
  | [d] => { results := [.lit (.bool true)], args := [d] }
  | _ => none }
def termPartsRow : OpenClaim := { program := "ytheegiaehlfdmaadoor", sum := "4de60f4b889eff3fb279d1a50920425f9976a07ee6a3aea6384fea2738555dd3", func := "ashlar/ashlarlaw03.TermParts", spec := "termParts", unfollowed := true, recurses := true, named := ["ashlar/term.shapes"], loops := true, plainKeys := false, apart := false, laid := [("ashlar/term.shapes", laid_ashlar_term_shapes)] }
def TermPartsSaid : Prop := termPartsRow.holds Tryd.pinned (OpenSpec.ofChange termPartsSpec)

/-- ITS FALSE NEIGHBOUR: 'it returns false'. Refute it at one input. -/
def termPartsWrong : ChangeSpec := { name := "termParts", fn := fun _ => fun
  | [d] => { results := [.lit (.bool false)], args := [d] }
  | _ => none }
def TermPartsWrongFalsely : Prop := termPartsRow.holds Tryd.pinned (OpenSpec.ofChange termPartsWrong)

/-- 'ashlarlaw03.TermJoins': WHATEVER THE INPUT: true; the input reads as it did. -/
def termJoinsSpec : ChangeSpec := { name := "termJoins", fn := fun _ => fun
  | [d1, d2] => { results := [.lit (.bool true)], args := [d1, d2] }
  | _ => none }
def termJoinsRow : OpenClaim := { program := "ytheegiaehlfdmaadoor", sum := "4de60f4b889eff3fb279d1a50920425f9976a07ee6a3aea6384fea2738555dd3", func := "ashlar/ashlarlaw03.TermJoins", spec := "termJoins", unfollowed := true, recurses := true, named := ["ashlar/term.shapes"], loops := true, plainKeys := false, apart := false, laid := [("ashlar/term.shapes", laid_ashlar_term_shapes)] }
def TermJoinsSaid : Prop := termJoinsRow.holds Tryd.pinned (OpenSpec.ofChange termJoinsSpec)

/-- ITS FALSE NEIGHBOUR: 'it returns false'. Refute it at one input. -/
def termJoinsWrong : ChangeSpec := { name := "termJoins", fn := fun _ => fun
  | [d1, d2] => { results := [.lit (.bool false)], args := [d1, d2] }
  | _ => none }
def TermJoinsWrongFalsely : Prop := termJoinsRow.holds Tryd.pinned (OpenSpec.ofChange termJoinsWrong)

/-- 'ashlarlaw03.TermNames': WHATEVER THE INPUT: true; the input reads as it did. -/
def termNamesSpec : ChangeSpec := { name := "termNames", fn := fun _ => fun
  | [d] => { results := [.lit (.bool true)], args := [d] }
  | _ => none }
def termNamesRow : OpenClaim := { program := "ytheegiaehlfdmaadoor", sum := "4de60f4b889eff3fb279d1a50920425f9976a07ee6a3aea6384fea2738555dd3", func := "ashlar/ashlarlaw03.TermNames", spec := "termNames", unfollowed := true, recurses := true, named := ["ashlar/term.shapes"], loops := true, plainKeys := false, apart := false, laid := [("ashlar/term.shapes", laid_ashlar_term_shapes)] }
def TermNamesSaid : Prop := termNamesRow.holds Tryd.pinned (OpenSpec.ofChange termNamesSpec)

/-- ITS FALSE NEIGHBOUR: 'it returns false'. Refute it at one input. -/
def termNamesWrong : ChangeSpec := { name := "termNames", fn := fun _ => fun
  | [d] => { results := [.lit (.bool false)], args := [d] }
  | _ => none }
def TermNamesWrongFalsely : Prop := termNamesRow.holds Tryd.pinned (OpenSpec.ofChange termNamesWrong)

/-- 'ashlarlaw03.TermWraps': WHATEVER THE INPUT: true; the input reads as it did. -/
def termWrapsSpec : ChangeSpec := { name := "termWraps", fn := fun _ => fun
  | [d1, d2] => { results := [.lit (.bool true)], args := [d1, d2] }
  | _ => none }
def termWrapsRow : OpenClaim := { program := "ytheegiaehlfdmaadoor", sum := "4de60f4b889eff3fb279d1a50920425f9976a07ee6a3aea6384fea2738555dd3", func := "ashlar/ashlarlaw03.TermWraps", spec := "termWraps", unfollowed := true, recurses := true, named := ["ashlar/term.shapes"], loops := true, plainKeys := false, apart := false, laid := [("ashlar/term.shapes", laid_ashlar_term_shapes)] }
def TermWrapsSaid : Prop := termWrapsRow.holds Tryd.pinned (OpenSpec.ofChange termWrapsSpec)

/-- ITS FALSE NEIGHBOUR: 'it returns false'. Refute it at one input. -/
def termWrapsWrong : ChangeSpec := { name := "termWraps", fn := fun _ => fun
  | [d1, d2] => { results := [.lit (.bool false)], args := [d1, d2] }
  | _ => none }
def TermWrapsWrongFalsely : Prop := termWrapsRow.holds Tryd.pinned (OpenSpec.ofChange termWrapsWrong)

/- THE SECOND FORM. 'bulk': how many values and letters a reading holds, each counted each time it is reached (what is shared counts as often as it is met; a slice's spare places count too). A statement '..UptoSaid' is the law's where the arguments, and the package variables that the reading takes, are together of bulk at most 1048576: NARROWER than '..Said'. Prove '..Said' where nothing that the law and all that it calls make is longer than what came in: it says more and counts as full. Else prove '..UptoSaid'. A law counts once. -/
mutual
def uptoBulk {H : Type} : DataW H → Nat
  | .lit (.string bytes) => bytes.length + 1
  | .lit _ => 1
  | .nil => 1
  | .ptr d => uptoBulk d + 1
  | .slice elems spare => uptoBulkAll elems + uptoBulkAll spare + 1
  | .agg parts => uptoBulkAll parts + 1
  | .iface _ d => uptoBulk d + 1
  | .map entries => uptoBulkEntries entries + 1
  | .held _ => 1
def uptoBulkAll {H : Type} : List (DataW H) → Nat
  | [] => 0
  | d :: r => uptoBulk d + uptoBulkAll r
def uptoBulkEntries {H : Type} : List (Lit × DataW H) → Nat
  | [] => 0
  | x :: r => uptoBulkEntry x + uptoBulkEntries r
def uptoBulkEntry {H : Type} : Lit × DataW H → Nat
  | (.string bytes, d) => bytes.length + uptoBulk d + 1
  | (_, d) => uptoBulk d + 1
 end
def uptoSmall : (H : Type) → List (DataW H) → Bool := fun _ ds => decide (uptoBulkAll ds ≤ 1048576)
def OpenSpec.upto (s : _root_.Go.ChangeSpec) : _root_.Go.OpenSpec := { _root_.Go.OpenSpec.ofChange s with cond := some uptoSmall }

/-- 'ashlarlaw03.TermTells', WHERE WHAT IT READS IS OF BULK AT MOST 1048576: true; the input reads as it did. -/
def termTellsUptoRow : OpenClaim := { program := "ytheegiaehlfdmaadoor", sum := "4de60f4b889eff3fb279d1a50920425f9976a07ee6a3aea6384fea2738555dd3", func := "ashlar/ashlarlaw03.TermTells", spec := "termTells", unfollowed := true, recurses := true, named := ["ashlar/term.shapes"], loops := true, plainKeys := false, apart := false, laid := [("ashlar/term.shapes", laid_ashlar_term_shapes)], narrowed := true }
def TermTellsUptoSaid : Prop := termTellsUptoRow.holds Tryd.pinned (OpenSpec.upto termTellsSpec)

/-- 'ashlarlaw03.TermParts', WHERE WHAT IT READS IS OF BULK AT MOST 1048576: true; the input reads as it did. -/
def termPartsUptoRow : OpenClaim := { program := "ytheegiaehlfdmaadoor", sum := "4de60f4b889eff3fb279d1a50920425f9976a07ee6a3aea6384fea2738555dd3", func := "ashlar/ashlarlaw03.TermParts", spec := "termParts", unfollowed := true, recurses := true, named := ["ashlar/term.shapes"], loops := true, plainKeys := false, apart := false, laid := [("ashlar/term.shapes", laid_ashlar_term_shapes)], narrowed := true }
def TermPartsUptoSaid : Prop := termPartsUptoRow.holds Tryd.pinned (OpenSpec.upto termPartsSpec)

/-- 'ashlarlaw03.TermJoins', WHERE WHAT IT READS IS OF BULK AT MOST 1048576: true; the input reads as it did. -/
def termJoinsUptoRow : OpenClaim := { program := "ytheegiaehlfdmaadoor", sum := "4de60f4b889eff3fb279d1a50920425f9976a07ee6a3aea6384fea2738555dd3", func := "ashlar/ashlarlaw03.TermJoins", spec := "termJoins", unfollowed := true, recurses := true, named := ["ashlar/term.shapes"], loops := true, plainKeys := false, apart := false, laid := [("ashlar/term.shapes", laid_ashlar_term_shapes)], narrowed := true }
def TermJoinsUptoSaid : Prop := termJoinsUptoRow.holds Tryd.pinned (OpenSpec.upto termJoinsSpec)

/-- 'ashlarlaw03.TermNames', WHERE WHAT IT READS IS OF BULK AT MOST 1048576: true; the input reads as it did. -/
def termNamesUptoRow : OpenClaim := { program := "ytheegiaehlfdmaadoor", sum := "4de60f4b889eff3fb279d1a50920425f9976a07ee6a3aea6384fea2738555dd3", func := "ashlar/ashlarlaw03.TermNames", spec := "termNames", unfollowed := true, recurses := true, named := ["ashlar/term.shapes"], loops := true, plainKeys := false, apart := false, laid := [("ashlar/term.shapes", laid_ashlar_term_shapes)], narrowed := true }
def TermNamesUptoSaid : Prop := termNamesUptoRow.holds Tryd.pinned (OpenSpec.upto termNamesSpec)

/-- 'ashlarlaw03.TermWraps', WHERE WHAT IT READS IS OF BULK AT MOST 1048576: true; the input reads as it did. -/
def termWrapsUptoRow : OpenClaim := { program := "ytheegiaehlfdmaadoor", sum := "4de60f4b889eff3fb279d1a50920425f9976a07ee6a3aea6384fea2738555dd3", func := "ashlar/ashlarlaw03.TermWraps", spec := "termWraps", unfollowed := true, recurses := true, named := ["ashlar/term.shapes"], loops := true, plainKeys := false, apart := false, laid := [("ashlar/term.shapes", laid_ashlar_term_shapes)], narrowed := true }
def TermWrapsUptoSaid : Prop := termWrapsUptoRow.holds Tryd.pinned (OpenSpec.upto termWrapsSpec)

end Rows
end Go.Proofs.YtheegiaehlfdmaaDoor
