/-
  NARROWER THAN 'FOR EVERY INPUT', by the rows' own cells (each row's printed sentence says how): TermTells: loops, laid · TermParts: loops, laid · TermJoins: loops, laid · TermNames: loops, laid · TermWraps: loops, laid · EvalWith: laid · EvalSorts: loops, laid · EvalApart: loops, laid · EvalLaws: loops, laid · EvalBig: laid · EvalTurned: loops, laid.
  DERIVED. THE GIVEN ROWS OF THIS SEAT. 11 by the template 'for every input the law returns true; each argument reads behind the call as it read before'; 0 by the template 'total and deterministic' (their statements: YtimnfkdokjdplaaDoorTotals.lean).
  GIVEN WITH THE SEED: the statements are not yours to turn. If you find one false, say at which input.
  Laid BY PROGRAM, IN A SANDBOX (cutbox-rows.mjs): the forced cells as the released guide's own fill.sh prints them over the translation 8e9fa365c336c488… (all of the seat's roots in one cut). By AI agents, Wed Nov 11 2026. No macro, syntax, notation, axiom, sorry.
-/
import Derived.Test.YtimnfkdokjdplaaDoorChecked
import GoSem.Claim
import GoSem.ClaimJoined
import GoSem.ClaimMapViews
import Derived.JoinedTies
import Derived.KernelRfl
namespace Go.Proofs.YtimnfkdokjdplaaDoor
/- THE CELL 'sum', in the pinned program and in every row, IS THE sha256 OF THE DUMP (.gsa) THAT YtimnfkdokjdplaaDoorProg.lean LOADS. Nothing in Lean hashes anything: it is a label: what it is worth is what the hold of that sum in a sandbox is worth. -/
noncomputable def Tryd.pinned : Pinned := { name := "ytimnfkdokjdplaadoor", sum := "8e9fa365c336c488f7236ee7d64e2c8fff057d6356f5c9f8100e79b64b5b6bff", checked := Tryd.checked }
namespace Rows
def none {H : Type} : Left H := { results := [], args := [] }

/- WHAT THE LISTED PACKAGE-LEVEL VARIABLES READ AS WHEN THE CALL BEGINS. Each datum BY PROGRAM (the guide's laid-datum.mjs) off the statement by which the dump's own 'gosem.cut.vars' lays the variable. In a bare row this is a premise. The card (YtimnfkdokjdplaaDoorCards.lean) ties it to the program's text. -/
def laid_ashlar_term_shapes {H : Type} : DataW H := .agg [.agg [.lit (.int .i64 0), .lit (.bool false), .lit (.bool false), .lit (.bool false), .lit (.int .i64 0), .agg [.lit (.int .i64 0), .lit (.int .i64 0)]], .agg [.lit (.int .i64 1), .lit (.bool false), .lit (.bool true), .lit (.bool false), .lit (.int .i64 0), .agg [.lit (.int .i64 0), .lit (.int .i64 0)]], .agg [.lit (.int .i64 1), .lit (.bool true), .lit (.bool false), .lit (.bool false), .lit (.int .i64 0), .agg [.lit (.int .i64 0), .lit (.int .i64 0)]], .agg [.lit (.int .i64 1), .lit (.bool false), .lit (.bool false), .lit (.bool false), .lit (.int .i64 1), .agg [.lit (.int .i64 2), .lit (.int .i64 0)]], .agg [.lit (.int .i64 1), .lit (.bool false), .lit (.bool false), .lit (.bool false), .lit (.int .i64 2), .agg [.lit (.int .i64 1), .lit (.int .i64 1)]], .agg [.lit (.int .i64 1), .lit (.bool false), .lit (.bool false), .lit (.bool false), .lit (.int .i64 2), .agg [.lit (.int .i64 1), .lit (.int .i64 1)]], .agg [.lit (.int .i64 1), .lit (.bool false), .lit (.bool true), .lit (.bool false), .lit (.int .i64 1), .agg [.lit (.int .i64 1), .lit (.int .i64 0)]], .agg [.lit (.int .i64 2), .lit (.bool true), .lit (.bool false), .lit (.bool false), .lit (.int .i64 0), .agg [.lit (.int .i64 0), .lit (.int .i64 0)]], .agg [.lit (.int .i64 2), .lit (.bool false), .lit (.bool false), .lit (.bool false), .lit (.int .i64 0), .agg [.lit (.int .i64 0), .lit (.int .i64 0)]], .agg [.lit (.int .i64 2), .lit (.bool false), .lit (.bool false), .lit (.bool false), .lit (.int .i64 0), .agg [.lit (.int .i64 0), .lit (.int .i64 0)]], .agg [.lit (.int .i64 2), .lit (.bool false), .lit (.bool false), .lit (.bool false), .lit (.int .i64 1), .agg [.lit (.int .i64 3), .lit (.int .i64 0)]], .agg [.lit (.int .i64 2), .lit (.bool false), .lit (.bool false), .lit (.bool false), .lit (.int .i64 2), .agg [.lit (.int .i64 2), .lit (.int .i64 2)]], .agg [.lit (.int .i64 2), .lit (.bool false), .lit (.bool false), .lit (.bool false), .lit (.int .i64 2), .agg [.lit (.int .i64 2), .lit (.int .i64 2)]], .agg [.lit (.int .i64 2), .lit (.bool false), .lit (.bool false), .lit (.bool false), .lit (.int .i64 2), .agg [.lit (.int .i64 2), .lit (.int .i64 2)]], .agg [.lit (.int .i64 3), .lit (.bool true), .lit (.bool false), .lit (.bool false), .lit (.int .i64 0), .agg [.lit (.int .i64 0), .lit (.int .i64 0)]], .agg [.lit (.int .i64 4), .lit (.bool true), .lit (.bool false), .lit (.bool false), .lit (.int .i64 0), .agg [.lit (.int .i64 0), .lit (.int .i64 0)]], .agg [.lit (.int .i64 4), .lit (.bool false), .lit (.bool false), .lit (.bool false), .lit (.int .i64 0), .agg [.lit (.int .i64 0), .lit (.int .i64 0)]], .agg [.lit (.int .i64 4), .lit (.bool false), .lit (.bool false), .lit (.bool false), .lit (.int .i64 0), .agg [.lit (.int .i64 0), .lit (.int .i64 0)]], .agg [.lit (.int .i64 4), .lit (.bool false), .lit (.bool false), .lit (.bool false), .lit (.int .i64 1), .agg [.lit (.int .i64 4), .lit (.int .i64 0)]], .agg [.lit (.int .i64 4), .lit (.bool false), .lit (.bool false), .lit (.bool true), .lit (.int .i64 0), .agg [.lit (.int .i64 4), .lit (.int .i64 0)]], .agg [.lit (.int .i64 4), .lit (.bool false), .lit (.bool false), .lit (.bool true), .lit (.int .i64 0), .agg [.lit (.int .i64 4), .lit (.int .i64 0)]], .agg [.lit (.int .i64 4), .lit (.bool false), .lit (.bool false), .lit (.bool false), .lit (.int .i64 2), .agg [.lit (.int .i64 4), .lit (.int .i64 4)]], .agg [.lit (.int .i64 4), .lit (.bool false), .lit (.bool false), .lit (.bool false), .lit (.int .i64 2), .agg [.lit (.int .i64 1), .lit (.int .i64 1)]], .agg [.lit (.int .i64 4), .lit (.bool false), .lit (.bool false), .lit (.bool false), .lit (.int .i64 2), .agg [.lit (.int .i64 1), .lit (.int .i64 1)]], .agg [.lit (.int .i64 4), .lit (.bool false), .lit (.bool false), .lit (.bool false), .lit (.int .i64 2), .agg [.lit (.int .i64 1), .lit (.int .i64 1)]], .agg [.lit (.int .i64 4), .lit (.bool false), .lit (.bool false), .lit (.bool false), .lit (.int .i64 2), .agg [.lit (.int .i64 3), .lit (.int .i64 2)]], .agg [.lit (.int .i64 4), .lit (.bool false), .lit (.bool false), .lit (.bool false), .lit (.int .i64 2), .agg [.lit (.int .i64 2), .lit (.int .i64 2)]], .agg [.lit (.int .i64 4), .lit (.bool false), .lit (.bool false), .lit (.bool false), .lit (.int .i64 2), .agg [.lit (.int .i64 2), .lit (.int .i64 2)]], .agg [.lit (.int .i64 4), .lit (.bool false), .lit (.bool false), .lit (.bool false), .lit (.int .i64 2), .agg [.lit (.int .i64 3), .lit (.int .i64 3)]]]

/-- 'ashlarlaw03.TermTells': WHATEVER THE INPUT: true; the input reads as it did. -/
def termTellsSpec : ChangeSpec := { name := "termTells", fn := fun _ => fun
  | [d1, d2, d3] => { results := [.lit (.bool true)], args := [d1, d2, d3] }
  | _ => none }
def termTellsRow : OpenClaim := { program := "ytimnfkdokjdplaadoor", sum := "8e9fa365c336c488f7236ee7d64e2c8fff057d6356f5c9f8100e79b64b5b6bff", func := "ashlar/ashlarlaw03.TermTells", spec := "termTells", unfollowed := true, recurses := true, named := ["ashlar/term.shapes"], loops := true, plainKeys := false, apart := false, laid := [("ashlar/term.shapes", laid_ashlar_term_shapes)] }
def TermTellsSaid : Prop := termTellsRow.holds Tryd.pinned (OpenSpec.ofChange termTellsSpec)

/-- ITS FALSE NEIGHBOUR: 'it returns false'. Refute it at one input. -/
def termTellsWrong : ChangeSpec := { name := "termTells", fn := fun _ => fun
  | [d1, d2, d3] => { results := [.lit (.bool false)], args := [d1, d2, d3] }
  | _ => none }
def TermTellsWrongFalsely : Prop := termTellsRow.holds Tryd.pinned (OpenSpec.ofChange termTellsWrong)

/-- 'ashlarlaw03.TermParts': WHATEVER THE INPUT: true; the input reads as it did. -/
def termPartsSpec : ChangeSpec := { name := "termParts", fn := fun _ => fun
  | [d] => { results := [.lit (.bool true)], args := [d] }
  | _ => none }
def termPartsRow : OpenClaim := { program := "ytimnfkdokjdplaadoor", sum := "8e9fa365c336c488f7236ee7d64e2c8fff057d6356f5c9f8100e79b64b5b6bff", func := "ashlar/ashlarlaw03.TermParts", spec := "termParts", unfollowed := true, recurses := true, named := ["ashlar/term.shapes"], loops := true, plainKeys := false, apart := false, laid := [("ashlar/term.shapes", laid_ashlar_term_shapes)] }
def TermPartsSaid : Prop := termPartsRow.holds Tryd.pinned (OpenSpec.ofChange termPartsSpec)

/-- ITS FALSE NEIGHBOUR: 'it returns false'. Refute it at one input. -/
def termPartsWrong : ChangeSpec := { name := "termParts", fn := fun _ => fun
  | [d] => { results := [.lit (.bool false)], args := [d] }
  | _ => none }
def TermPartsWrongFalsely : Prop := termPartsRow.holds Tryd.pinned (OpenSpec.ofChange termPartsWrong)

/-- 'ashlarlaw03.TermJoins': WHATEVER THE INPUT: true; the input reads as it did. -/
def termJoinsSpec : ChangeSpec := { name := "termJoins", fn := fun _ => fun
  | [d1, d2] => { results := [.lit (.bool true)], args := [d1, d2] }
  | _ => none }
def termJoinsRow : OpenClaim := { program := "ytimnfkdokjdplaadoor", sum := "8e9fa365c336c488f7236ee7d64e2c8fff057d6356f5c9f8100e79b64b5b6bff", func := "ashlar/ashlarlaw03.TermJoins", spec := "termJoins", unfollowed := true, recurses := true, named := ["ashlar/term.shapes"], loops := true, plainKeys := false, apart := false, laid := [("ashlar/term.shapes", laid_ashlar_term_shapes)] }
def TermJoinsSaid : Prop := termJoinsRow.holds Tryd.pinned (OpenSpec.ofChange termJoinsSpec)

/-- ITS FALSE NEIGHBOUR: 'it returns false'. Refute it at one input. -/
def termJoinsWrong : ChangeSpec := { name := "termJoins", fn := fun _ => fun
  | [d1, d2] => { results := [.lit (.bool false)], args := [d1, d2] }
  | _ => none }
def TermJoinsWrongFalsely : Prop := termJoinsRow.holds Tryd.pinned (OpenSpec.ofChange termJoinsWrong)

/-- 'ashlarlaw03.TermNames': WHATEVER THE INPUT: true; the input reads as it did. -/
def termNamesSpec : ChangeSpec := { name := "termNames", fn := fun _ => fun
  | [d] => { results := [.lit (.bool true)], args := [d] }
  | _ => none }
def termNamesRow : OpenClaim := { program := "ytimnfkdokjdplaadoor", sum := "8e9fa365c336c488f7236ee7d64e2c8fff057d6356f5c9f8100e79b64b5b6bff", func := "ashlar/ashlarlaw03.TermNames", spec := "termNames", unfollowed := true, recurses := true, named := ["ashlar/term.shapes"], loops := true, plainKeys := false, apart := false, laid := [("ashlar/term.shapes", laid_ashlar_term_shapes)] }
def TermNamesSaid : Prop := termNamesRow.holds Tryd.pinned (OpenSpec.ofChange termNamesSpec)

/-- ITS FALSE NEIGHBOUR: 'it returns false'. Refute it at one input. -/
def termNamesWrong : ChangeSpec := { name := "termNames", fn := fun _ => fun
  | [d] => { results := [.lit (.bool false)], args := [d] }
  | _ => none }
def TermNamesWrongFalsely : Prop := termNamesRow.holds Tryd.pinned (OpenSpec.ofChange termNamesWrong)

/-- 'ashlarlaw03.TermWraps': WHATEVER THE INPUT: true; the input reads as it did. -/
def termWrapsSpec : ChangeSpec := { name := "termWraps", fn := fun _ => fun
  | [d1, d2] => { results := [.lit (.bool true)], args := [d1, d2] }
  | _ => none }
def termWrapsRow : OpenClaim := { program := "ytimnfkdokjdplaadoor", sum := "8e9fa365c336c488f7236ee7d64e2c8fff057d6356f5c9f8100e79b64b5b6bff", func := "ashlar/ashlarlaw03.TermWraps", spec := "termWraps", unfollowed := true, recurses := true, named := ["ashlar/term.shapes"], loops := true, plainKeys := false, apart := false, laid := [("ashlar/term.shapes", laid_ashlar_term_shapes)] }
def TermWrapsSaid : Prop := termWrapsRow.holds Tryd.pinned (OpenSpec.ofChange termWrapsSpec)

/-- ITS FALSE NEIGHBOUR: 'it returns false'. Refute it at one input. -/
def termWrapsWrong : ChangeSpec := { name := "termWraps", fn := fun _ => fun
  | [d1, d2] => { results := [.lit (.bool false)], args := [d1, d2] }
  | _ => none }
def TermWrapsWrongFalsely : Prop := termWrapsRow.holds Tryd.pinned (OpenSpec.ofChange termWrapsWrong)

/-- 'ashlarlaw04.EvalWith': WHATEVER THE INPUT: true; the input reads as it did. -/
def evalWithSpec : ChangeSpec := { name := "evalWith", fn := fun _ => fun
  | [d1, d2, d3, d4, d5] => { results := [.lit (.bool true)], args := [d1, d2, d3, d4, d5] }
  | _ => none }
def evalWithRow : OpenClaim := { program := "ytimnfkdokjdplaadoor", sum := "8e9fa365c336c488f7236ee7d64e2c8fff057d6356f5c9f8100e79b64b5b6bff", func := "ashlar/ashlarlaw04.EvalWith", spec := "evalWith", inPlace := ["math/bits.Sub64", "math/bits.Add64"], unfollowed := true, recurses := true, named := ["ashlar/term.shapes", "math/bits.divideError", "math/bits.overflowError"], plainKeys := false, apart := false, laid := [("ashlar/term.shapes", laid_ashlar_term_shapes)] }
def EvalWithSaid : Prop := evalWithRow.holds Tryd.pinned (OpenSpec.ofChange evalWithSpec)

/-- ITS FALSE NEIGHBOUR: 'it returns false'. Refute it at one input. -/
def evalWithWrong : ChangeSpec := { name := "evalWith", fn := fun _ => fun
  | [d1, d2, d3, d4, d5] => { results := [.lit (.bool false)], args := [d1, d2, d3, d4, d5] }
  | _ => none }
def EvalWithWrongFalsely : Prop := evalWithRow.holds Tryd.pinned (OpenSpec.ofChange evalWithWrong)

/-- 'ashlarlaw04.EvalSorts': WHATEVER THE INPUT: true; the input reads as it did. -/
def evalSortsSpec : ChangeSpec := { name := "evalSorts", fn := fun _ => fun
  | [d1, d2] => { results := [.lit (.bool true)], args := [d1, d2] }
  | _ => none }
def evalSortsRow : OpenClaim := { program := "ytimnfkdokjdplaadoor", sum := "8e9fa365c336c488f7236ee7d64e2c8fff057d6356f5c9f8100e79b64b5b6bff", func := "ashlar/ashlarlaw04.EvalSorts", spec := "evalSorts", inPlace := ["math/bits.Sub64", "math/bits.Add64"], unfollowed := true, recurses := true, named := ["ashlar/term.shapes", "math/bits.divideError", "math/bits.overflowError"], loops := true, plainKeys := false, apart := false, laid := [("ashlar/term.shapes", laid_ashlar_term_shapes)] }
def EvalSortsSaid : Prop := evalSortsRow.holds Tryd.pinned (OpenSpec.ofChange evalSortsSpec)

/-- ITS FALSE NEIGHBOUR: 'it returns false'. Refute it at one input. -/
def evalSortsWrong : ChangeSpec := { name := "evalSorts", fn := fun _ => fun
  | [d1, d2] => { results := [.lit (.bool false)], args := [d1, d2] }
  | _ => none }
def EvalSortsWrongFalsely : Prop := evalSortsRow.holds Tryd.pinned (OpenSpec.ofChange evalSortsWrong)

/-- 'ashlarlaw04.EvalApart': WHATEVER THE INPUT: true; the input reads as it did. -/
def evalApartSpec : ChangeSpec := { name := "evalApart", fn := fun _ => fun
  | [d1, d2, d3, d4] => { results := [.lit (.bool true)], args := [d1, d2, d3, d4] }
  | _ => none }
def evalApartRow : OpenClaim := { program := "ytimnfkdokjdplaadoor", sum := "8e9fa365c336c488f7236ee7d64e2c8fff057d6356f5c9f8100e79b64b5b6bff", func := "ashlar/ashlarlaw04.EvalApart", spec := "evalApart", inPlace := ["math/bits.Sub64", "math/bits.Add64"], unfollowed := true, recurses := true, named := ["ashlar/term.shapes", "math/bits.divideError", "math/bits.overflowError"], loops := true, plainKeys := false, apart := false, laid := [("ashlar/term.shapes", laid_ashlar_term_shapes)] }
def EvalApartSaid : Prop := evalApartRow.holds Tryd.pinned (OpenSpec.ofChange evalApartSpec)

/-- ITS FALSE NEIGHBOUR: 'it returns false'. Refute it at one input. -/
def evalApartWrong : ChangeSpec := { name := "evalApart", fn := fun _ => fun
  | [d1, d2, d3, d4] => { results := [.lit (.bool false)], args := [d1, d2, d3, d4] }
  | _ => none }
def EvalApartWrongFalsely : Prop := evalApartRow.holds Tryd.pinned (OpenSpec.ofChange evalApartWrong)

/-- 'ashlarlaw04.EvalLaws': WHATEVER THE INPUT: true; the input reads as it did. -/
def evalLawsSpec : ChangeSpec := { name := "evalLaws", fn := fun _ => fun
  | [d1, d2, d3] => { results := [.lit (.bool true)], args := [d1, d2, d3] }
  | _ => none }
def evalLawsRow : OpenClaim := { program := "ytimnfkdokjdplaadoor", sum := "8e9fa365c336c488f7236ee7d64e2c8fff057d6356f5c9f8100e79b64b5b6bff", func := "ashlar/ashlarlaw04.EvalLaws", spec := "evalLaws", inPlace := ["math/bits.Sub64", "math/bits.Add64"], unfollowed := true, recurses := true, named := ["ashlar/term.shapes", "math/bits.divideError", "math/bits.overflowError"], loops := true, plainKeys := false, apart := false, laid := [("ashlar/term.shapes", laid_ashlar_term_shapes)] }
def EvalLawsSaid : Prop := evalLawsRow.holds Tryd.pinned (OpenSpec.ofChange evalLawsSpec)

/-- ITS FALSE NEIGHBOUR: 'it returns false'. Refute it at one input. -/
def evalLawsWrong : ChangeSpec := { name := "evalLaws", fn := fun _ => fun
  | [d1, d2, d3] => { results := [.lit (.bool false)], args := [d1, d2, d3] }
  | _ => none }
def EvalLawsWrongFalsely : Prop := evalLawsRow.holds Tryd.pinned (OpenSpec.ofChange evalLawsWrong)

/-- 'ashlarlaw04.EvalBig': WHATEVER THE INPUT: true; the input reads as it did. -/
def evalBigSpec : ChangeSpec := { name := "evalBig", fn := fun _ => fun
  | [d1, d2] => { results := [.lit (.bool true)], args := [d1, d2] }
  | _ => none }
def evalBigRow : OpenClaim := { program := "ytimnfkdokjdplaadoor", sum := "8e9fa365c336c488f7236ee7d64e2c8fff057d6356f5c9f8100e79b64b5b6bff", func := "ashlar/ashlarlaw04.EvalBig", spec := "evalBig", inPlace := ["math/bits.Sub64", "math/bits.Add64"], unfollowed := true, recurses := true, named := ["ashlar/term.shapes", "math/bits.divideError", "math/bits.overflowError"], plainKeys := false, apart := false, laid := [("ashlar/term.shapes", laid_ashlar_term_shapes)] }
def EvalBigSaid : Prop := evalBigRow.holds Tryd.pinned (OpenSpec.ofChange evalBigSpec)

/-- ITS FALSE NEIGHBOUR: 'it returns false'. Refute it at one input. -/
def evalBigWrong : ChangeSpec := { name := "evalBig", fn := fun _ => fun
  | [d1, d2] => { results := [.lit (.bool false)], args := [d1, d2] }
  | _ => none }
def EvalBigWrongFalsely : Prop := evalBigRow.holds Tryd.pinned (OpenSpec.ofChange evalBigWrong)

/-- 'ashlarlaw04.EvalTurned': WHATEVER THE INPUT: true; the input reads as it did. -/
def evalTurnedSpec : ChangeSpec := { name := "evalTurned", fn := fun _ => fun
  | [d1, d2, d3, d4] => { results := [.lit (.bool true)], args := [d1, d2, d3, d4] }
  | _ => none }
def evalTurnedRow : OpenClaim := { program := "ytimnfkdokjdplaadoor", sum := "8e9fa365c336c488f7236ee7d64e2c8fff057d6356f5c9f8100e79b64b5b6bff", func := "ashlar/ashlarlaw04.EvalTurned", spec := "evalTurned", inPlace := ["math/bits.Sub64", "math/bits.Add64"], unfollowed := true, recurses := true, named := ["ashlar/term.shapes", "math/bits.divideError", "math/bits.overflowError"], loops := true, plainKeys := false, apart := false, laid := [("ashlar/term.shapes", laid_ashlar_term_shapes)] }
def EvalTurnedSaid : Prop := evalTurnedRow.holds Tryd.pinned (OpenSpec.ofChange evalTurnedSpec)

/-- ITS FALSE NEIGHBOUR: 'it returns false'. Refute it at one input. -/
def evalTurnedWrong : ChangeSpec := { name := "evalTurned", fn := fun _ => fun
  | [d1, d2, d3, d4] => { results := [.lit (.bool false)], args := [d1, d2, d3, d4] }
  | _ => none }
def EvalTurnedWrongFalsely : Prop := evalTurnedRow.holds Tryd.pinned (OpenSpec.ofChange evalTurnedWrong)

/- THE SECOND FORM. 'bulk': how many values and letters a reading holds, each counted each time it is reached (what is shared counts as often as it is met; a slice's spare places count too). A statement '..UptoSaid' is the law's where the arguments, and the package variables that the reading takes, are together of bulk at most 1048576: NARROWER than '..Said'. Prove '..Said' where nothing that the law and all that it calls make is longer than what came in: it says more and counts as full. Else prove '..UptoSaid'. A law counts once. -/
mutual
def uptoBulk {H : Type} : DataW H → Nat
  | .lit (.string bytes) => bytes.length + 1
  | .lit _ => 1
  | .nil => 1
  | .ptr d => uptoBulk d + 1
  | .slice elems spare => uptoBulkAll elems + uptoBulkAll spare + 1
  | .agg parts => uptoBulkAll parts + 1
  | .iface _ d => uptoBulk d + 1
  | .map entries => uptoBulkEntries entries + 1
  | .held _ => 1
def uptoBulkAll {H : Type} : List (DataW H) → Nat
  | [] => 0
  | d :: r => uptoBulk d + uptoBulkAll r
def uptoBulkEntries {H : Type} : List (Lit × DataW H) → Nat
  | [] => 0
  | x :: r => uptoBulkEntry x + uptoBulkEntries r
def uptoBulkEntry {H : Type} : Lit × DataW H → Nat
  | (.string bytes, d) => bytes.length + uptoBulk d + 1
  | (_, d) => uptoBulk d + 1
 end
def uptoSmall : (H : Type) → List (DataW H) → Bool := fun _ ds => decide (uptoBulkAll ds ≤ 1048576)
def OpenSpec.upto (s : _root_.Go.ChangeSpec) : _root_.Go.OpenSpec := { _root_.Go.OpenSpec.ofChange s with cond := some uptoSmall }

/-- 'ashlarlaw03.TermTells', WHERE WHAT IT READS IS OF BULK AT MOST 1048576: true; the input reads as it did. -/
def termTellsUptoRow : OpenClaim := { program := "ytimnfkdokjdplaadoor", sum := "8e9fa365c336c488f7236ee7d64e2c8fff057d6356f5c9f8100e79b64b5b6bff", func := "ashlar/ashlarlaw03.TermTells", spec := "termTells", unfollowed := true, recurses := true, named := ["ashlar/term.shapes"], loops := true, plainKeys := false, apart := false, laid := [("ashlar/term.shapes", laid_ashlar_term_shapes)], narrowed := true }
def TermTellsUptoSaid : Prop := termTellsUptoRow.holds Tryd.pinned (OpenSpec.upto termTellsSpec)

/-- 'ashlarlaw03.TermParts', WHERE WHAT IT READS IS OF BULK AT MOST 1048576: true; the input reads as it did. -/
def termPartsUptoRow : OpenClaim := { program := "ytimnfkdokjdplaadoor", sum := "8e9fa365c336c488f7236ee7d64e2c8fff057d6356f5c9f8100e79b64b5b6bff", func := "ashlar/ashlarlaw03.TermParts", spec := "termParts", unfollowed := true, recurses := true, named := ["ashlar/term.shapes"], loops := true, plainKeys := false, apart := false, laid := [("ashlar/term.shapes", laid_ashlar_term_shapes)], narrowed := true }
def TermPartsUptoSaid : Prop := termPartsUptoRow.holds Tryd.pinned (OpenSpec.upto termPartsSpec)

/-- 'ashlarlaw03.TermJoins', WHERE WHAT IT READS IS OF BULK AT MOST 1048576: true; the input reads as it did. -/
def termJoinsUptoRow : OpenClaim := { program := "ytimnfkdokjdplaadoor", sum := "8e9fa365c336c488f7236ee7d64e2c8fff057d6356f5c9f8100e79b64b5b6bff", func := "ashlar/ashlarlaw03.TermJoins", spec := "termJoins", unfollowed := true, recurses := true, named := ["ashlar/term.shapes"], loops := true, plainKeys := false, apart := false, laid := [("ashlar/term.shapes", laid_ashlar_term_shapes)], narrowed := true }
def TermJoinsUptoSaid : Prop := termJoinsUptoRow.holds Tryd.pinned (OpenSpec.upto termJoinsSpec)

/-- 'ashlarlaw03.TermNames', WHERE WHAT IT READS IS OF BULK AT MOST 1048576: true; the input reads as it did. -/
def termNamesUptoRow : OpenClaim := { program := "ytimnfkdokjdplaadoor", sum := "8e9fa365c336c488f7236ee7d64e2c8fff057d6356f5c9f8100e79b64b5b6bff", func := "ashlar/ashlarlaw03.TermNames", spec := "termNames", unfollowed := true, recurses := true, named := ["ashlar/term.shapes"], loops := true, plainKeys := false, apart := false, laid := [("ashlar/term.shapes", laid_ashlar_term_shapes)], narrowed := true }
def TermNamesUptoSaid : Prop := termNamesUptoRow.holds Tryd.pinned (OpenSpec.upto termNamesSpec)

/-- 'ashlarlaw03.TermWraps', WHERE WHAT IT READS IS OF BULK AT MOST 1048576: true; the input reads as it did. -/
def termWrapsUptoRow : OpenClaim := { program := "ytimnfkdokjdplaadoor", sum := "8e9fa365c336c488f7236ee7d64e2c8fff057d6356f5c9f8100e79b64b5b6bff", func := "ashlar/ashlarlaw03.TermWraps", spec := "termWraps", unfollowed := true, recurses := true, named := ["ashlar/term.shapes"], loops := true, plainKeys := false, apart := false, laid := [("ashlar/term.shapes", laid_ashlar_term_shapes)], narrowed := true }
def TermWrapsUptoSaid : Prop := termWrapsUptoRow.holds Tryd.pinned (OpenSpec.upto termWrapsSpec)

/-- 'ashlarlaw04.EvalWith', WHERE WHAT IT READS IS OF BULK AT MOST 1048576: true; the input reads as it did. -/
def evalWithUptoRow : OpenClaim := { program := "ytimnfkdokjdplaadoor", sum := "8e9fa365c336c488f7236ee7d64e2c8fff057d6356f5c9f8100e79b64b5b6bff", func := "ashlar/ashlarlaw04.EvalWith", spec := "evalWith", inPlace := ["math/bits.Sub64", "math/bits.Add64"], unfollowed := true, recurses := true, named := ["ashlar/term.shapes", "math/bits.divideError", "math/bits.overflowError"], plainKeys := false, apart := false, laid := [("ashlar/term.shapes", laid_ashlar_term_shapes)], narrowed := true }
def EvalWithUptoSaid : Prop := evalWithUptoRow.holds Tryd.pinned (OpenSpec.upto evalWithSpec)

/-- 'ashlarlaw04.EvalSorts', WHERE WHAT IT READS IS OF BULK AT MOST 1048576: true; the input reads as it did. -/
def evalSortsUptoRow : OpenClaim := { program := "ytimnfkdokjdplaadoor", sum := "8e9fa365c336c488f7236ee7d64e2c8fff057d6356f5c9f8100e79b64b5b6bff", func := "ashlar/ashlarlaw04.EvalSorts", spec := "evalSorts", inPlace := ["math/bits.Sub64", "math/bits.Add64"], unfollowed := true, recurses := true, named := ["ashlar/term.shapes", "math/bits.divideError", "math/bits.overflowError"], loops := true, plainKeys := false, apart := false, laid := [("ashlar/term.shapes", laid_ashlar_term_shapes)], narrowed := true }
def EvalSortsUptoSaid : Prop := evalSortsUptoRow.holds Tryd.pinned (OpenSpec.upto evalSortsSpec)

/-- 'ashlarlaw04.EvalApart', WHERE WHAT IT READS IS OF BULK AT MOST 1048576: true; the input reads as it did. -/
def evalApartUptoRow : OpenClaim := { program := "ytimnfkdokjdplaadoor", sum := "8e9fa365c336c488f7236ee7d64e2c8fff057d6356f5c9f8100e79b64b5b6bff", func := "ashlar/ashlarlaw04.EvalApart", spec := "evalApart", inPlace := ["math/bits.Sub64", "math/bits.Add64"], unfollowed := true, recurses := true, named := ["ashlar/term.shapes", "math/bits.divideError", "math/bits.overflowError"], loops := true, plainKeys := false, apart := false, laid := [("ashlar/term.shapes", laid_ashlar_term_shapes)], narrowed := true }
def EvalApartUptoSaid : Prop := evalApartUptoRow.holds Tryd.pinned (OpenSpec.upto evalApartSpec)

/-- 'ashlarlaw04.EvalLaws', WHERE WHAT IT READS IS OF BULK AT MOST 1048576: true; the input reads as it did. -/
def evalLawsUptoRow : OpenClaim := { program := "ytimnfkdokjdplaadoor", sum := "8e9fa365c336c488f7236ee7d64e2c8fff057d6356f5c9f8100e79b64b5b6bff", func := "ashlar/ashlarlaw04.EvalLaws", spec := "evalLaws", inPlace := ["math/bits.Sub64", "math/bits.Add64"], unfollowed := true, recurses := true, named := ["ashlar/term.shapes", "math/bits.divideError", "math/bits.overflowError"], loops := true, plainKeys := false, apart := false, laid := [("ashlar/term.shapes", laid_ashlar_term_shapes)], narrowed := true }
def EvalLawsUptoSaid : Prop := evalLawsUptoRow.holds Tryd.pinned (OpenSpec.upto evalLawsSpec)

/-- 'ashlarlaw04.EvalBig', WHERE WHAT IT READS IS OF BULK AT MOST 1048576: true; the input reads as it did. -/
def evalBigUptoRow : OpenClaim := { program := "ytimnfkdokjdplaadoor", sum := "8e9fa365c336c488f7236ee7d64e2c8fff057d6356f5c9f8100e79b64b5b6bff", func := "ashlar/ashlarlaw04.EvalBig", spec := "evalBig", inPlace := ["math/bits.Sub64", "math/bits.Add64"], unfollowed := true, recurses := true, named := ["ashlar/term.shapes", "math/bits.divideError", "math/bits.overflowError"], plainKeys := false, apart := false, laid := [("ashlar/term.shapes", laid_ashlar_term_shapes)], narrowed := true }
def EvalBigUptoSaid : Prop := evalBigUptoRow.holds Tryd.pinned (OpenSpec.upto evalBigSpec)

/-- 'ashlarlaw04.EvalTurned', WHERE WHAT IT READS IS OF BULK AT MOST 1048576: true; the input reads as it did. -/
def evalTurnedUptoRow : OpenClaim := { program := "ytimnfkdokjdplaadoor", sum := "8e9fa365c336c488f7236ee7d64e2c8fff057d6356f5c9f8100e79b64b5b6bff", func := "ashlar/ashlarlaw04.EvalTurned", spec := "evalTurned", inPlace := ["math/bits.Sub64", "math/bits.Add64"], unfollowed := true, recurses := true, named := ["ashlar/term.shapes", "math/bits.divideError", "math/bits.overflowError"], loops := true, plainKeys := false, apart := false, laid := [("ashlar/term.shapes", laid_ashlar_term_shapes)], narrowed := true }
def EvalTurnedUptoSaid : Prop := evalTurnedUptoRow.holds Tryd.pinned (OpenSpec.upto evalTurnedSpec)

end Rows
end Go.Proofs.YtimnfkdokjdplaaDoor
