/-
  Eight cells that stay; atoms that are the same but for their places.
-/
import Derived.Test.YtaiachmolkjedaaDoorCnL
import Derived.Test.YtaiachmolkjedaaDoorTmT
import Derived.Test.YtaiachmolkjedaaDoorTmU
import Derived.Deep.RegionHeld2
namespace Go.Proofs.YtaiachmolkjedaaDoor
open Go.RowKit

theorem keep8 {w w' : World} {p0 p1 p2 p3 p4 p5 p6 p7 : Addr} {v0 v1 v2 v3 v4 v5 v6 v7 : Value} (h : w.cell? p0 = some v0 ∧ w.cell? p1 = some v1 ∧ w.cell? p2 = some v2 ∧ w.cell? p3 = some v3 ∧ w.cell? p4 = some v4 ∧ w.cell? p5 = some v5 ∧ w.cell? p6 = some v6 ∧ w.cell? p7 = some v7) (hb : Below w.heap.size w w') :
    w'.cell? p0 = some v0 ∧ w'.cell? p1 = some v1 ∧ w'.cell? p2 = some v2 ∧ w'.cell? p3 = some v3 ∧ w'.cell? p4 = some v4 ∧ w'.cell? p5 = some v5 ∧ w'.cell? p6 = some v6 ∧ w'.cell? p7 = some v7 := by
  obtain ⟨x0, x1, x2, x3, x4, x5, x6, x7⟩ := h
  exact ⟨cell_later hb x0, cell_later hb x1, cell_later hb x2, cell_later hb x3, cell_later hb x4, cell_later hb x5, cell_later hb x6, cell_later hb x7⟩
theorem er_at {A B : List Tm} (h : A.map Tm.er = B.map Tm.er) (k : Nat) (h1 : k < A.length) (h2 : k < B.length) : A[k].er = B[k].er := by
  have := congrArg (fun l => l[k]?) h
  simpa [h1, h2] using this
end Go.Proofs.YtaiachmolkjedaaDoor
