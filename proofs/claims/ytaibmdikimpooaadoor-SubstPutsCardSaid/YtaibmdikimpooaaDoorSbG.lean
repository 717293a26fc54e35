/-
  Names of right terms.
-/
import Derived.Test.YtaibmdikimpooaaDoorSbD
import Derived.Test.YtaibmdikimpooaaDoorNmE
import Derived.Test.YtaibmdikimpooaaDoorNmM
namespace Go.Proofs.YtaibmdikimpooaaDoor
open Go.RowKit

theorem nsN_row : ∀ j : Nat, j < 29 → 1 ≤ j → nsN (j : Int) = (if (shRow j).name then (shRow j).sort else 0) := by decide
theorem name_none {t : Tm} (h : t.srt ≠ 0) (hs : nsN t.op ≠ 0) : t.ks = [] ∧ (t.op = 2 ∨ t.op = 7 ∨ t.op = 14 ∨ t.op = 15) := by
  have ho : t.op = 2 ∨ t.op = 7 ∨ t.op = 14 ∨ t.op = 15 := by
    unfold nsN at hs
    by_cases e1 : t.op = 2
    · exact .inl e1
    · by_cases e2 : t.op = 7
      · exact .inr (.inl e2)
      · by_cases e3 : t.op = 14
        · exact .inr (.inr (.inl e3))
        · by_cases e4 : t.op = 15
          · exact .inr (.inr (.inr e4))
          · rw [if_neg e1, if_neg e2, if_neg e3, if_neg e4] at hs; exact absurd rfl hs
  refine ⟨?_, ho⟩
  rcases ho with e | e | e | e
  · exact (nform0 2 h e rfl rfl).1
  · exact (nform0 7 h e rfl rfl).1
  · exact (nform0 14 h e rfl rfl).1
  · exact (nform0 15 h e rfl rfl).1
end Go.Proofs.YtaibmdikimpooaaDoor
