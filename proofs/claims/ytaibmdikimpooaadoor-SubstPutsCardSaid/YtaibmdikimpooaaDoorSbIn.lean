/-
  SbIn: the four tables that the cards of the substitutions lay (numbers' tables first, the shapes last): what is used of them, and that the door has them.
-/
import Derived.Test.YtaibmdikimpooaaDoorTmIn
import Derived.LaidSub
namespace Go.Proofs.YtaibmdikimpooaaDoor
def laidS : List (String × DataW Unit) := [("math/bits.deBruijn32tab", Rows.laid_math_bits_deBruijn32tab), ("math/bits.deBruijn64tab", Rows.laid_math_bits_deBruijn64tab), ("internal/strconv.uint64pow10", Rows.laid_internal_strconv_uint64pow10), ("ashlar/term.shapes", Rows.laid_ashlar_term_shapes)]
theorem laidS_shapes : laidS.filter (fun x => x.1 == "ashlar/term.shapes") = laidT := by
  simp only [laidS, laidT, List.filter_cons, List.filter_nil, show (("math/bits.deBruijn32tab" : String) == "ashlar/term.shapes") = false from by decide, show (("math/bits.deBruijn64tab" : String) == "ashlar/term.shapes") = false from by decide, show (("internal/strconv.uint64pow10" : String) == "ashlar/term.shapes") = false from by decide, beq_self_eq_true, if_true, Bool.false_eq_true, if_false]
theorem of_laidS {W : World} (h : laidMetH Tryd.prog laidS W) : Shps W :=
  of_laid (laidS_shapes ▸ h.filter (fun x => x.1 == "ashlar/term.shapes"))
set_option maxRecDepth 100000 in
theorem door_metS (os : Os) (args : Array Value) : laidMetH Tryd.prog laidS ((World.doorLaid Tryd.prog 400 os).forCall (fun _ _ => 0) ⟨#[], args, []⟩).memory :=
  laidMetH_of_parts3 (fuel := 8) (laidMet_of_run' 8 (by kernel_rfl) (by kernel_rfl)) (by kernel_rfl) (by kernel_rfl)
end Go.Proofs.YtaibmdikimpooaaDoor
