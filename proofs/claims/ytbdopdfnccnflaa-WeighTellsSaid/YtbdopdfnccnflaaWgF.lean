/-
  What the document's 'Heavy' tells; when two rows are the same.
-/
import Derived.Test.YtbdopdfnccnflaaWgE
import Derived.Deep.RegionHeld2
namespace Go.Proofs.Ytbdopdfnccnflaa
open Go.RowKit

theorem quietW {P : Program} {f : FuncId} {args : Array Value} {w : World} {n : Nat} {v : Value}
    (h : Calls P f args (w.drewN n) fun e w' => e = .returned v ∧ w.drewN n = w') : Calls P f args (w.drewN n) fun e w'' => e = .returned v ∧ ∃ m, w'' = w.drewN m :=
  h.mono fun _ _ ⟨he, hm⟩ => ⟨he, n, hm.symm⟩
theorem below_drew {w a : World} (h : Below w.heap.size w a) (n : Nat) : Below w.heap.size w (a.drewN n) := below_drewN h n

/-- is the i-th at least as heavy as the first k? -/
def mostB (f : Nat → Nat) (i k : Nat) : Bool := decide (∀ j, j < k → plc (f j) ≤ plc (f i))
theorem mostB_succ (f : Nat → Nat) (i k : Nat) : mostB f i (k + 1) = (mostB f i k && decide (plc (f k) ≤ plc (f i))) := by
  unfold mostB
  rw [Bool.eq_iff_iff]
  simp only [decide_eq_true_eq, Bool.and_eq_true]
  constructor
  · intro h; exact ⟨fun j hj => h j (by omega), h k (by omega)⟩
  · rintro ⟨h1, h2⟩ j hj
    by_cases e : j = k
    · subst e; exact h2
    · exact h1 j (by omega)


end Go.Proofs.Ytbdopdfnccnflaa
