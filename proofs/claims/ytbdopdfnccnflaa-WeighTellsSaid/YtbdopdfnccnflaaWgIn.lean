/-
  A slice of uint64s that came in, as a row of words.
-/
import Derived.Test.YtbdopdfnccnflaaWgB
import Derived.ProofKit
import Derived.OpenShut
import Derived.ShutString
import Derived.ChangeOld
import Derived.Carry
namespace Go.Proofs.Ytbdopdfnccnflaa
open Go.ChangeShapes Go.WideShapes Go.ChangeAt Go.RowKit

theorem laidOutW : laidOutB Try.prog = true := by kernel_rfl
theorem word_of {a : Int} (h : (Lit.int .u64 a).wf = true) : ∃ x : Nat, a = x ∧ x < 18446744073709551616 := by
  have := bounds_u64 h
  exact ⟨a.toNat, by omega, by omega⟩
end Go.Proofs.Ytbdopdfnccnflaa
