/-
  What 'Size' answers.
-/
import Derived.Test.YtaibmdikimpooaaDoorTmB
import Derived.Laws.EntriesVeiled
namespace Go.Proofs.YtaibmdikimpooaaDoor
open Go.RowKit

theorem TIn.later {w w' : World} {t : Tm} (h : TIn w w.heap.size t) (hb : Below w.heap.size w w') : TIn w' w'.heap.size t := (h.keep hb).mono hb.size

theorem bel_alloc (w : World) (o : Obj) : Below w.heap.size w (w.alloc o) := bal (Below.refl _ _) o

/-- the world in which the closure of Size is called first -/
def sizeW (t : Tm) (w : World) : World :=
  (((w.alloc (boxT t)).alloc (.cells #[.int .i64 0] 3)).alloc (.cells #[.nilFunc] 45)).setCell ⟨w.heap.size + 1 + 1, 0, none⟩ (cntF (w.heap.size + 1) (w.heap.size + 1 + 1))
theorem sizeW_facts (t : Tm) (w : World) : Below w.heap.size w (sizeW t w) ∧ Single (sizeW t w) (w.heap.size + 1) (.int .i64 0) ∧ (sizeW t w).cell? ⟨w.heap.size + 1 + 1, 0, none⟩ = some (cntF (w.heap.size + 1) (w.heap.size + 1 + 1)) ∧ Four (sizeW t w) w.heap.size 0 t := by
  refine ⟨?_, ?_, ?_, ?_⟩
  · exact bset (bal (bal (bal (Below.refl _ _) _) _) _) (by simp; omega) _
  · simp [sizeW, Single, go_sem]
  · simp [sizeW, go_sem]
  · simp [sizeW, Four, boxT, go_sem]

set_option maxRecDepth 100000 in
set_option maxHeartbeats 2000000 in
theorem size_any (t : Tm) (w : World) (h : TIn w w.heap.size t) :
    Calls Tryd.prog 9 #[t.val] w fun e w' => e = .returned (.int .i64 (min 2001 t.size : Nat)) ∧ Below w.heap.size w w' := by
  have hmf : ∀ (fn : Fn) (first cap : Array Value) (w : World), (Instr.makeFunc fn first cap).run Tryd.prog w = .ok (.func fn first cap) w := fun _ _ _ _ => rfl
  obtain ⟨hb, h1, h2, h3⟩ := sizeW_facts t w
  have CN := mkHid (count_any t w.heap.size (w.heap.size + 1) (w.heap.size + 1 + 1) 0 (sizeW t w) (h.keep hb) (by omega) (by omega) (by omega) h1 h2 (by omega))
  rw [Nat.zero_add] at CN
  generalize hm : min 2001 t.size = m at *
  have hW : (((w.alloc (.cells #[.int .i64 t.op, .string t.nm, .int .i64 t.n, .slice t.a t.ks.length t.c] 24)).alloc (.cells #[.int .i64 0] 3)).alloc (.cells #[.nilFunc] 45)).setCell ⟨w.heap.size + 1 + 1, 0, none⟩ (.func (.func 30) #[] #[.pointer (some ⟨w.heap.size + 1, 0, none⟩), .pointer (some ⟨w.heap.size + 1 + 1, 0, none⟩)]) = sizeW t w := rfl
  unfold cntF at h2
  obtain ⟨f0, f1, f2, f3⟩ := h3
  simp only [Nat.zero_add] at f1 f2 f3
  generalize sizeW t w = W at *
  clear hm h h1
  unfold Tm.val at *
  go_enter Tryd.func9, Tryd.ntmps9
  go_wp2_with fail
  clear f0 f1 f2 f3 h2 hW hmf
  ((with_reducible refine CN.out.mono ?_)); rintro e w1 ⟨rfl, hb1, s0, s1⟩
  have hB := hb.trans (hb1.below (B := w.heap.size) (by omega) hb.size)
  clear CN hb hb1 s1
  go_wp2
  go_ret
  exact ⟨rfl, hB⟩
end Go.Proofs.YtaibmdikimpooaaDoor
