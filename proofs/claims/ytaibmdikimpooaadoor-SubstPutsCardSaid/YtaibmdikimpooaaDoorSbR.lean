/-
  A number or a bool answered, and nothing that was there has turned.
-/
import Derived.Test.YtaibmdikimpooaaDoorTmH
namespace Go.Proofs.YtaibmdikimpooaaDoor
open Go.RowKit

def RetI (n : Int) (w : World) (e : Ending) (w' : World) : Prop := e = .returned (.int .i64 n) ∧ Below w.heap.size w w'
def RetB (b : Bool) (w : World) (e : Ending) (w' : World) : Prop := e = .returned (.bool b) ∧ Below w.heap.size w w'
end Go.Proofs.YtaibmdikimpooaaDoor
