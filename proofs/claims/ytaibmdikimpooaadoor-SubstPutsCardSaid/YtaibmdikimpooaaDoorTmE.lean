/-
  What 'Deep' answers of a term of few parts.
-/
import Derived.Test.YtaibmdikimpooaaDoorTmD
namespace Go.Proofs.YtaibmdikimpooaaDoor
open Go.RowKit

def deepW (t : Tm) (w : World) : World :=
  ((((w.alloc (boxT t)).alloc (.cells #[.int .i64 0] 3)).alloc (.cells #[.int .i64 0, .map none] 49)).alloc (.cells #[.nilFunc] 50)).setCell ⟨w.heap.size + 1 + 1 + 1, 0, none⟩ (folF (w.heap.size + 1) (w.heap.size + 1 + 1) (w.heap.size + 1 + 1 + 1))
theorem deepW_facts (t : Tm) (w : World) : Below w.heap.size w (deepW t w) ∧ Single (deepW t w) (w.heap.size + 1) (.int .i64 0) ∧ Two (deepW t w) (w.heap.size + 1 + 1) (.int .i64 0) (.map none) ∧ (deepW t w).cell? ⟨w.heap.size + 1 + 1 + 1, 0, none⟩ = some (folF (w.heap.size + 1) (w.heap.size + 1 + 1) (w.heap.size + 1 + 1 + 1)) ∧ Four (deepW t w) w.heap.size 0 t := by
  refine ⟨?_, ?_, ?_, ?_, ?_⟩
  · exact bset (bal (bal (bal (bal (Below.refl _ _) _) _) _) _) (by simp; omega) _
  · simp [deepW, Single, go_sem]
  · simp [deepW, Two, go_sem]
  · simp [deepW, go_sem]
  · simp [deepW, Four, boxT, go_sem]

set_option maxRecDepth 100000 in
set_option maxHeartbeats 2000000 in
theorem deep_small (t : Tm) (w : World) (h : TIn w w.heap.size t) (hz : t.size ≤ 2000) :
    Calls Tryd.prog 11 #[t.val] w fun e w' => e = .returned (.int .i64 (min 101 t.deep : Nat)) ∧ Below w.heap.size w w' := by
  have hmf : ∀ (fn : Fn) (first cap : Array Value) (w : World), (Instr.makeFunc fn first cap).run Tryd.prog w = .ok (.func fn first cap) w := fun _ _ _ _ => rfl
  obtain ⟨hb, h1, h2, h3, h4⟩ := deepW_facts t w
  have CN := mkHid (follow_any t w.heap.size (w.heap.size + 1) (w.heap.size + 1 + 1) (w.heap.size + 1 + 1 + 1) 0 1 0 (deepW t w) (h.keep hb) (by omega) (by omega) (by omega) (by omega) (by omega) (by omega) h1 h2 h3 (by omega) (by omega) (by omega) (by omega))
  rw [show min 101 (max 0 (1 - 1 + t.deep)) = min 101 t.deep by omega, show ((1 : Nat) : Int) = 1 by rfl] at CN
  generalize hm : min 101 t.deep = m at *
  have hW : ((((w.alloc (.cells #[.int .i64 t.op, .string t.nm, .int .i64 t.n, .slice t.a t.ks.length t.c] 24)).alloc (.cells #[.int .i64 0] 3)).alloc (.cells #[.int .i64 0, .map none] 49)).alloc (.cells #[.nilFunc] 50)).setCell ⟨w.heap.size + 1 + 1 + 1, 0, none⟩ (.func (.func 32) #[] #[.pointer (some ⟨w.heap.size + 1, 0, none⟩), .pointer (some ⟨w.heap.size + 1 + 1, 0, none⟩), .pointer (some ⟨w.heap.size + 1 + 1 + 1, 0, none⟩)]) = deepW t w := rfl
  unfold folF at h3
  obtain ⟨f0, f1, f2, f3⟩ := h4
  simp only [Nat.zero_add] at f1 f2 f3
  generalize deepW t w = W at *
  clear hm h h1 h2 hz
  unfold Tm.val at *
  go_enter Tryd.func11, Tryd.ntmps11
  go_wp2_with fail
  clear f0 f1 f2 f3 h3 hW hmf
  ((with_reducible refine CN.out.mono ?_)); rintro e w1 ⟨rfl, hb1, ⟨s0, s1⟩, -⟩
  have hB := hb.trans (hb1.below (B := w.heap.size) (by omega) (by omega) hb.size)
  clear CN hb hb1 s1
  go_wp2
  go_ret
  exact ⟨rfl, hB⟩
end Go.Proofs.YtaibmdikimpooaaDoor
