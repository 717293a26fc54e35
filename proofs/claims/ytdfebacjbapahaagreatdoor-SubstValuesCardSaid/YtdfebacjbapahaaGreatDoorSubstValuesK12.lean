/-
  What SubstValues's proof stands on, part 12: EvE2.
-/
import Derived.Test.YtdfebacjbapahaaGreatDoorSubstValuesK11
import Derived.BigRegion
import Derived.Deep.RegionHeld2
namespace Go.Proofs.YtdfebacjbapahaaGreatDoor
section
open Go.RowKit

set_option maxRecDepth 100000 in
set_option maxHeartbeats 4000000 in
theorem num1 (W : Wd) (t : Tm) (hop : t.op = 1) (hks : t.ks = [])  : CallsN W t (RetI t.n) := by
  intro w hW ht
  obtain ⟨op, nm, n, a, c, ks⟩ := t
  simp only [Tm.op, Tm.ks] at hop hks
  subst hop hks
  have htn := ht.nums
  simp only [Tm.op, Tm.nm, Tm.n, Tm.ks, Tm.c] at htn
  have hb2 : Below w.heap.size w ((w.alloc (boxP W)).alloc (.cells #[.int .i64 1, .string nm, .int .i64 n, .slice a 0 c] 24)) := bal (bal (Below.refl _ _) _) _
  have TP : TwoW ((w.alloc (boxP W)).alloc (.cells #[.int .i64 1, .string nm, .int .i64 n, .slice a 0 c] 24)) w.heap.size W := (boxP_two w W).later (bel_alloc _ _)
  have TT : ((w.alloc (boxP W)).alloc (.cells #[.int .i64 1, .string nm, .int .i64 n, .slice a 0 c] 24)).cell? ⟨w.heap.size + 1, 0, none⟩ = some (.int .i64 1) ∧ ((w.alloc (boxP W)).alloc (.cells #[.int .i64 1, .string nm, .int .i64 n, .slice a 0 c] 24)).cell? ⟨w.heap.size + 1, 1, none⟩ = some (.string nm) ∧ ((w.alloc (boxP W)).alloc (.cells #[.int .i64 1, .string nm, .int .i64 n, .slice a 0 c] 24)).cell? ⟨w.heap.size + 1, 2, none⟩ = some (.int .i64 n) ∧ ((w.alloc (boxP W)).alloc (.cells #[.int .i64 1, .string nm, .int .i64 n, .slice a 0 c] 24)).cell? ⟨w.heap.size + 1, 3, none⟩ = some (.slice a 0 c) := by simp [go_sem]
  have hW2 : (w.alloc (.cells #[.int .i64 W.nodes, .slice W.a W.l.length W.c] 55)).alloc (.cells #[.int .i64 1, .string nm, .int .i64 n, .slice a 0 c] 24) = (w.alloc (boxP W)).alloc (.cells #[.int .i64 1, .string nm, .int .i64 n, .slice a 0 c] 24) := rfl
  have hX2 : w.heap.size + 1 < ((w.alloc (boxP W)).alloc (.cells #[.int .i64 1, .string nm, .int .i64 n, .slice a 0 c] 24)).heap.size := by simp
  generalize (w.alloc (boxP W)).alloc (.cells #[.int .i64 1, .string nm, .int .i64 n, .slice a 0 c] 24) = W2 at *
  unfold Wd.val Tm.val
  simp only [Tm.op, Tm.nm, Tm.n, Tm.a, Tm.ks, Tm.c, List.length_nil]
  obtain ⟨t0, t1⟩ := TP
  obtain ⟨u0, u1, u2, u3⟩ := TT
  go_enter Tryz.func40, Tryz.ntmps40
  go_wp2
  go_ret
  exact ⟨rfl, hb2⟩

set_option maxRecDepth 100000 in
set_option maxHeartbeats 4000000 in
theorem num2_e (W : Wd) (t : Tm) (hop : t.op = 2) (hks : t.ks = []) (hl : look W t.nm 1 = none) : CallsN W t (PanK 4) := by
  intro w hW ht
  obtain ⟨op, nm, n, a, c, ks⟩ := t
  simp only [Tm.op, Tm.ks] at hop hks
  subst hop hks
  have htn := ht.nums
  simp only [Tm.op, Tm.nm, Tm.n, Tm.ks, Tm.c] at htn
  have hb2 : Below w.heap.size w ((w.alloc (boxP W)).alloc (.cells #[.int .i64 2, .string nm, .int .i64 n, .slice a 0 c] 24)) := bal (bal (Below.refl _ _) _) _
  have TP : TwoW ((w.alloc (boxP W)).alloc (.cells #[.int .i64 2, .string nm, .int .i64 n, .slice a 0 c] 24)) w.heap.size W := (boxP_two w W).later (bel_alloc _ _)
  have TT : ((w.alloc (boxP W)).alloc (.cells #[.int .i64 2, .string nm, .int .i64 n, .slice a 0 c] 24)).cell? ⟨w.heap.size + 1, 0, none⟩ = some (.int .i64 2) ∧ ((w.alloc (boxP W)).alloc (.cells #[.int .i64 2, .string nm, .int .i64 n, .slice a 0 c] 24)).cell? ⟨w.heap.size + 1, 1, none⟩ = some (.string nm) ∧ ((w.alloc (boxP W)).alloc (.cells #[.int .i64 2, .string nm, .int .i64 n, .slice a 0 c] 24)).cell? ⟨w.heap.size + 1, 2, none⟩ = some (.int .i64 n) ∧ ((w.alloc (boxP W)).alloc (.cells #[.int .i64 2, .string nm, .int .i64 n, .slice a 0 c] 24)).cell? ⟨w.heap.size + 1, 3, none⟩ = some (.slice a 0 c) := by simp [go_sem]
  have hW2 : (w.alloc (.cells #[.int .i64 W.nodes, .slice W.a W.l.length W.c] 55)).alloc (.cells #[.int .i64 2, .string nm, .int .i64 n, .slice a 0 c] 24) = (w.alloc (boxP W)).alloc (.cells #[.int .i64 2, .string nm, .int .i64 n, .slice a 0 c] 24) := rfl
  have hX2 : w.heap.size + 1 < ((w.alloc (boxP W)).alloc (.cells #[.int .i64 2, .string nm, .int .i64 n, .slice a 0 c] 24)).heap.size := by simp
  generalize (w.alloc (boxP W)).alloc (.cells #[.int .i64 2, .string nm, .int .i64 n, .slice a 0 c] 24) = W2 at *
  unfold Wd.val Tm.val
  simp only [Tm.op, Tm.nm, Tm.n, Tm.a, Tm.ks, Tm.c, List.length_nil]
  obtain ⟨t0, t1⟩ := TP
  obtain ⟨u0, u1, u2, u3⟩ := TT
  have NE := mkHid (named_err W nm 1 _ (hW.later hb2) hl)
  unfold Wd.val at NE
  go_enter Tryz.func40, Tryz.ntmps40
  go_wp2_with fail
  ((with_reducible refine NE.out.mono ?_)); rintro e w1 ⟨rfl, hb1⟩
  exact ⟨rfl, rfl, bon hb2 hb1⟩

set_option maxRecDepth 100000 in
set_option maxHeartbeats 4000000 in
theorem num2_ok (W : Wd) (t : Tm) (hop : t.op = 2) (hks : t.ks = []) {v : Vl} (hl : look W t.nm 1 = some v) (hz : v.s.length ≤ 64) : CallsN W t (RetI v.n) := by
  intro w hW ht
  obtain ⟨op, nm, n, a, c, ks⟩ := t
  simp only [Tm.op, Tm.ks] at hop hks
  subst hop hks
  have htn := ht.nums
  simp only [Tm.op, Tm.nm, Tm.n, Tm.ks, Tm.c] at htn
  have hb2 : Below w.heap.size w ((w.alloc (boxP W)).alloc (.cells #[.int .i64 2, .string nm, .int .i64 n, .slice a 0 c] 24)) := bal (bal (Below.refl _ _) _) _
  have TP : TwoW ((w.alloc (boxP W)).alloc (.cells #[.int .i64 2, .string nm, .int .i64 n, .slice a 0 c] 24)) w.heap.size W := (boxP_two w W).later (bel_alloc _ _)
  have TT : ((w.alloc (boxP W)).alloc (.cells #[.int .i64 2, .string nm, .int .i64 n, .slice a 0 c] 24)).cell? ⟨w.heap.size + 1, 0, none⟩ = some (.int .i64 2) ∧ ((w.alloc (boxP W)).alloc (.cells #[.int .i64 2, .string nm, .int .i64 n, .slice a 0 c] 24)).cell? ⟨w.heap.size + 1, 1, none⟩ = some (.string nm) ∧ ((w.alloc (boxP W)).alloc (.cells #[.int .i64 2, .string nm, .int .i64 n, .slice a 0 c] 24)).cell? ⟨w.heap.size + 1, 2, none⟩ = some (.int .i64 n) ∧ ((w.alloc (boxP W)).alloc (.cells #[.int .i64 2, .string nm, .int .i64 n, .slice a 0 c] 24)).cell? ⟨w.heap.size + 1, 3, none⟩ = some (.slice a 0 c) := by simp [go_sem]
  have hW2 : (w.alloc (.cells #[.int .i64 W.nodes, .slice W.a W.l.length W.c] 55)).alloc (.cells #[.int .i64 2, .string nm, .int .i64 n, .slice a 0 c] 24) = (w.alloc (boxP W)).alloc (.cells #[.int .i64 2, .string nm, .int .i64 n, .slice a 0 c] 24) := rfl
  have hX2 : w.heap.size + 1 < ((w.alloc (boxP W)).alloc (.cells #[.int .i64 2, .string nm, .int .i64 n, .slice a 0 c] 24)).heap.size := by simp
  generalize (w.alloc (boxP W)).alloc (.cells #[.int .i64 2, .string nm, .int .i64 n, .slice a 0 c] 24) = W2 at *
  unfold Wd.val Tm.val
  simp only [Tm.op, Tm.nm, Tm.n, Tm.a, Tm.ks, Tm.c, List.length_nil]
  obtain ⟨t0, t1⟩ := TP
  obtain ⟨u0, u1, u2, u3⟩ := TT
  have NE := mkHid (named_ok W nm 1 v _ (hW.later hb2) hl (by omega))
  unfold Wd.val at NE
  have hfd : ∀ (x0 x1 x2 x3 : Value) (w : World), (Instr.field 36 (.agg #[x0, x1, x2, x3]) 1).run Tryz.prog w = .ok x1 w := fun _ _ _ _ _ => by kernel_rfl
  go_enter Tryz.func40, Tryz.ntmps40
  go_wp2_with fail
  ((with_reducible refine NE.out.mono ?_)); rintro e w1 ⟨a1, c1, rfl, ho, hb1⟩
  go_wp2
  go_ret
  exact ⟨rfl, bon hb2 hb1⟩

set_option maxRecDepth 100000 in
set_option maxHeartbeats 4000000 in
theorem nod_e (W : Wd) (t : Tm) (hop : t.op = 14) (hks : t.ks = []) (hl : look W t.nm 3 = none) : CallsD W t (PanK 4) := by
  intro w hW ht
  obtain ⟨op, nm, n, a, c, ks⟩ := t
  simp only [Tm.op, Tm.ks] at hop hks
  subst hop hks
  have htn := ht.nums
  simp only [Tm.op, Tm.nm, Tm.n, Tm.ks, Tm.c] at htn
  have hb2 : Below w.heap.size w ((w.alloc (boxP W)).alloc (.cells #[.int .i64 14, .string nm, .int .i64 n, .slice a 0 c] 24)) := bal (bal (Below.refl _ _) _) _
  have TP : TwoW ((w.alloc (boxP W)).alloc (.cells #[.int .i64 14, .string nm, .int .i64 n, .slice a 0 c] 24)) w.heap.size W := (boxP_two w W).later (bel_alloc _ _)
  have TT : ((w.alloc (boxP W)).alloc (.cells #[.int .i64 14, .string nm, .int .i64 n, .slice a 0 c] 24)).cell? ⟨w.heap.size + 1, 0, none⟩ = some (.int .i64 14) ∧ ((w.alloc (boxP W)).alloc (.cells #[.int .i64 14, .string nm, .int .i64 n, .slice a 0 c] 24)).cell? ⟨w.heap.size + 1, 1, none⟩ = some (.string nm) ∧ ((w.alloc (boxP W)).alloc (.cells #[.int .i64 14, .string nm, .int .i64 n, .slice a 0 c] 24)).cell? ⟨w.heap.size + 1, 2, none⟩ = some (.int .i64 n) ∧ ((w.alloc (boxP W)).alloc (.cells #[.int .i64 14, .string nm, .int .i64 n, .slice a 0 c] 24)).cell? ⟨w.heap.size + 1, 3, none⟩ = some (.slice a 0 c) := by simp [go_sem]
  have hW2 : (w.alloc (.cells #[.int .i64 W.nodes, .slice W.a W.l.length W.c] 55)).alloc (.cells #[.int .i64 14, .string nm, .int .i64 n, .slice a 0 c] 24) = (w.alloc (boxP W)).alloc (.cells #[.int .i64 14, .string nm, .int .i64 n, .slice a 0 c] 24) := rfl
  have hX2 : w.heap.size + 1 < ((w.alloc (boxP W)).alloc (.cells #[.int .i64 14, .string nm, .int .i64 n, .slice a 0 c] 24)).heap.size := by simp
  generalize (w.alloc (boxP W)).alloc (.cells #[.int .i64 14, .string nm, .int .i64 n, .slice a 0 c] 24) = W2 at *
  unfold Wd.val Tm.val
  simp only [Tm.op, Tm.nm, Tm.n, Tm.a, Tm.ks, Tm.c, List.length_nil]
  obtain ⟨t0, t1⟩ := TP
  obtain ⟨u0, u1, u2, u3⟩ := TT
  have NE := mkHid (named_err W nm 3 _ (hW.later hb2) hl)
  unfold Wd.val at NE
  go_enter Tryz.func42, Tryz.ntmps42
  go_wp2_with fail
  ((with_reducible refine NE.out.mono ?_)); rintro e w1 ⟨rfl, hb1⟩
  exact ⟨rfl, rfl, bon hb2 hb1⟩

set_option maxRecDepth 100000 in
set_option maxHeartbeats 4000000 in
theorem nod_ok (W : Wd) (t : Tm) (hop : t.op = 14) (hks : t.ks = []) {v : Vl} (hl : look W t.nm 3 = some v) (hz : v.s.length ≤ 64) : CallsD W t (RetI v.n) := by
  intro w hW ht
  obtain ⟨op, nm, n, a, c, ks⟩ := t
  simp only [Tm.op, Tm.ks] at hop hks
  subst hop hks
  have htn := ht.nums
  simp only [Tm.op, Tm.nm, Tm.n, Tm.ks, Tm.c] at htn
  have hb2 : Below w.heap.size w ((w.alloc (boxP W)).alloc (.cells #[.int .i64 14, .string nm, .int .i64 n, .slice a 0 c] 24)) := bal (bal (Below.refl _ _) _) _
  have TP : TwoW ((w.alloc (boxP W)).alloc (.cells #[.int .i64 14, .string nm, .int .i64 n, .slice a 0 c] 24)) w.heap.size W := (boxP_two w W).later (bel_alloc _ _)
  have TT : ((w.alloc (boxP W)).alloc (.cells #[.int .i64 14, .string nm, .int .i64 n, .slice a 0 c] 24)).cell? ⟨w.heap.size + 1, 0, none⟩ = some (.int .i64 14) ∧ ((w.alloc (boxP W)).alloc (.cells #[.int .i64 14, .string nm, .int .i64 n, .slice a 0 c] 24)).cell? ⟨w.heap.size + 1, 1, none⟩ = some (.string nm) ∧ ((w.alloc (boxP W)).alloc (.cells #[.int .i64 14, .string nm, .int .i64 n, .slice a 0 c] 24)).cell? ⟨w.heap.size + 1, 2, none⟩ = some (.int .i64 n) ∧ ((w.alloc (boxP W)).alloc (.cells #[.int .i64 14, .string nm, .int .i64 n, .slice a 0 c] 24)).cell? ⟨w.heap.size + 1, 3, none⟩ = some (.slice a 0 c) := by simp [go_sem]
  have hW2 : (w.alloc (.cells #[.int .i64 W.nodes, .slice W.a W.l.length W.c] 55)).alloc (.cells #[.int .i64 14, .string nm, .int .i64 n, .slice a 0 c] 24) = (w.alloc (boxP W)).alloc (.cells #[.int .i64 14, .string nm, .int .i64 n, .slice a 0 c] 24) := rfl
  have hX2 : w.heap.size + 1 < ((w.alloc (boxP W)).alloc (.cells #[.int .i64 14, .string nm, .int .i64 n, .slice a 0 c] 24)).heap.size := by simp
  generalize (w.alloc (boxP W)).alloc (.cells #[.int .i64 14, .string nm, .int .i64 n, .slice a 0 c] 24) = W2 at *
  unfold Wd.val Tm.val
  simp only [Tm.op, Tm.nm, Tm.n, Tm.a, Tm.ks, Tm.c, List.length_nil]
  obtain ⟨t0, t1⟩ := TP
  obtain ⟨u0, u1, u2, u3⟩ := TT
  have NE := mkHid (named_ok W nm 3 v _ (hW.later hb2) hl (by omega))
  unfold Wd.val at NE
  have hfd : ∀ (x0 x1 x2 x3 : Value) (w : World), (Instr.field 36 (.agg #[x0, x1, x2, x3]) 1).run Tryz.prog w = .ok x1 w := fun _ _ _ _ _ => by kernel_rfl
  go_enter Tryz.func42, Tryz.ntmps42
  go_wp2_with fail
  ((with_reducible refine NE.out.mono ?_)); rintro e w1 ⟨a1, c1, rfl, ho, hb1⟩
  go_wp2
  go_ret
  exact ⟨rfl, bon hb2 hb1⟩

set_option maxRecDepth 100000 in
set_option maxHeartbeats 4000000 in
theorem tru15_e (W : Wd) (t : Tm) (hop : t.op = 15) (hks : t.ks = []) (hl : look W t.nm 4 = none) : CallsB W t (PanK 4) := by
  intro w hW ht
  obtain ⟨op, nm, n, a, c, ks⟩ := t
  simp only [Tm.op, Tm.ks] at hop hks
  subst hop hks
  have htn := ht.nums
  simp only [Tm.op, Tm.nm, Tm.n, Tm.ks, Tm.c] at htn
  have hb2 : Below w.heap.size w ((w.alloc (boxP W)).alloc (.cells #[.int .i64 15, .string nm, .int .i64 n, .slice a 0 c] 24)) := bal (bal (Below.refl _ _) _) _
  have TP : TwoW ((w.alloc (boxP W)).alloc (.cells #[.int .i64 15, .string nm, .int .i64 n, .slice a 0 c] 24)) w.heap.size W := (boxP_two w W).later (bel_alloc _ _)
  have TT : ((w.alloc (boxP W)).alloc (.cells #[.int .i64 15, .string nm, .int .i64 n, .slice a 0 c] 24)).cell? ⟨w.heap.size + 1, 0, none⟩ = some (.int .i64 15) ∧ ((w.alloc (boxP W)).alloc (.cells #[.int .i64 15, .string nm, .int .i64 n, .slice a 0 c] 24)).cell? ⟨w.heap.size + 1, 1, none⟩ = some (.string nm) ∧ ((w.alloc (boxP W)).alloc (.cells #[.int .i64 15, .string nm, .int .i64 n, .slice a 0 c] 24)).cell? ⟨w.heap.size + 1, 2, none⟩ = some (.int .i64 n) ∧ ((w.alloc (boxP W)).alloc (.cells #[.int .i64 15, .string nm, .int .i64 n, .slice a 0 c] 24)).cell? ⟨w.heap.size + 1, 3, none⟩ = some (.slice a 0 c) := by simp [go_sem]
  have hW2 : (w.alloc (.cells #[.int .i64 W.nodes, .slice W.a W.l.length W.c] 55)).alloc (.cells #[.int .i64 15, .string nm, .int .i64 n, .slice a 0 c] 24) = (w.alloc (boxP W)).alloc (.cells #[.int .i64 15, .string nm, .int .i64 n, .slice a 0 c] 24) := rfl
  have hX2 : w.heap.size + 1 < ((w.alloc (boxP W)).alloc (.cells #[.int .i64 15, .string nm, .int .i64 n, .slice a 0 c] 24)).heap.size := by simp
  generalize (w.alloc (boxP W)).alloc (.cells #[.int .i64 15, .string nm, .int .i64 n, .slice a 0 c] 24) = W2 at *
  unfold Wd.val Tm.val
  simp only [Tm.op, Tm.nm, Tm.n, Tm.a, Tm.ks, Tm.c, List.length_nil]
  obtain ⟨t0, t1⟩ := TP
  obtain ⟨u0, u1, u2, u3⟩ := TT
  have NE := mkHid (named_err W nm 4 _ (hW.later hb2) hl)
  unfold Wd.val at NE
  go_enter Tryz.func43, Tryz.ntmps43
  go_wp2_with fail
  ((with_reducible refine NE.out.mono ?_)); rintro e w1 ⟨rfl, hb1⟩
  exact ⟨rfl, rfl, bon hb2 hb1⟩

set_option maxRecDepth 100000 in
set_option maxHeartbeats 4000000 in
theorem tru15_ok (W : Wd) (t : Tm) (hop : t.op = 15) (hks : t.ks = []) {v : Vl} (hl : look W t.nm 4 = some v) (hz : v.s.length ≤ 64) : CallsB W t (RetB v.b) := by
  intro w hW ht
  obtain ⟨op, nm, n, a, c, ks⟩ := t
  simp only [Tm.op, Tm.ks] at hop hks
  subst hop hks
  have htn := ht.nums
  simp only [Tm.op, Tm.nm, Tm.n, Tm.ks, Tm.c] at htn
  have hb2 : Below w.heap.size w ((w.alloc (boxP W)).alloc (.cells #[.int .i64 15, .string nm, .int .i64 n, .slice a 0 c] 24)) := bal (bal (Below.refl _ _) _) _
  have TP : TwoW ((w.alloc (boxP W)).alloc (.cells #[.int .i64 15, .string nm, .int .i64 n, .slice a 0 c] 24)) w.heap.size W := (boxP_two w W).later (bel_alloc _ _)
  have TT : ((w.alloc (boxP W)).alloc (.cells #[.int .i64 15, .string nm, .int .i64 n, .slice a 0 c] 24)).cell? ⟨w.heap.size + 1, 0, none⟩ = some (.int .i64 15) ∧ ((w.alloc (boxP W)).alloc (.cells #[.int .i64 15, .string nm, .int .i64 n, .slice a 0 c] 24)).cell? ⟨w.heap.size + 1, 1, none⟩ = some (.string nm) ∧ ((w.alloc (boxP W)).alloc (.cells #[.int .i64 15, .string nm, .int .i64 n, .slice a 0 c] 24)).cell? ⟨w.heap.size + 1, 2, none⟩ = some (.int .i64 n) ∧ ((w.alloc (boxP W)).alloc (.cells #[.int .i64 15, .string nm, .int .i64 n, .slice a 0 c] 24)).cell? ⟨w.heap.size + 1, 3, none⟩ = some (.slice a 0 c) := by simp [go_sem]
  have hW2 : (w.alloc (.cells #[.int .i64 W.nodes, .slice W.a W.l.length W.c] 55)).alloc (.cells #[.int .i64 15, .string nm, .int .i64 n, .slice a 0 c] 24) = (w.alloc (boxP W)).alloc (.cells #[.int .i64 15, .string nm, .int .i64 n, .slice a 0 c] 24) := rfl
  have hX2 : w.heap.size + 1 < ((w.alloc (boxP W)).alloc (.cells #[.int .i64 15, .string nm, .int .i64 n, .slice a 0 c] 24)).heap.size := by simp
  generalize (w.alloc (boxP W)).alloc (.cells #[.int .i64 15, .string nm, .int .i64 n, .slice a 0 c] 24) = W2 at *
  unfold Wd.val Tm.val
  simp only [Tm.op, Tm.nm, Tm.n, Tm.a, Tm.ks, Tm.c, List.length_nil]
  obtain ⟨t0, t1⟩ := TP
  obtain ⟨u0, u1, u2, u3⟩ := TT
  have NE := mkHid (named_ok W nm 4 v _ (hW.later hb2) hl (by omega))
  unfold Wd.val at NE
  have hfd : ∀ (x0 x1 x2 x3 : Value) (w : World), (Instr.field 36 (.agg #[x0, x1, x2, x3]) 2).run Tryz.prog w = .ok x2 w := fun _ _ _ _ _ => by kernel_rfl
  go_enter Tryz.func43, Tryz.ntmps43
  go_wp2_with fail
  ((with_reducible refine NE.out.mono ?_)); rintro e w1 ⟨a1, c1, rfl, ho, hb1⟩
  go_wp2
  go_ret
  exact ⟨rfl, bon hb2 hb1⟩

set_option maxRecDepth 100000 in
set_option maxHeartbeats 4000000 in
theorem set7_e (W : Wd) (t : Tm) (hop : t.op = 7) (hks : t.ks = []) (hl : look W t.nm 2 = none) : CallsS W t (PanK 4) := by
  intro w hW ht
  obtain ⟨op, nm, n, a, c, ks⟩ := t
  simp only [Tm.op, Tm.ks] at hop hks
  subst hop hks
  have htn := ht.nums
  simp only [Tm.op, Tm.nm, Tm.n, Tm.ks, Tm.c] at htn
  have hb2 : Below w.heap.size w ((w.alloc (boxP W)).alloc (.cells #[.int .i64 7, .string nm, .int .i64 n, .slice a 0 c] 24)) := bal (bal (Below.refl _ _) _) _
  have TP : TwoW ((w.alloc (boxP W)).alloc (.cells #[.int .i64 7, .string nm, .int .i64 n, .slice a 0 c] 24)) w.heap.size W := (boxP_two w W).later (bel_alloc _ _)
  have TT : ((w.alloc (boxP W)).alloc (.cells #[.int .i64 7, .string nm, .int .i64 n, .slice a 0 c] 24)).cell? ⟨w.heap.size + 1, 0, none⟩ = some (.int .i64 7) ∧ ((w.alloc (boxP W)).alloc (.cells #[.int .i64 7, .string nm, .int .i64 n, .slice a 0 c] 24)).cell? ⟨w.heap.size + 1, 1, none⟩ = some (.string nm) ∧ ((w.alloc (boxP W)).alloc (.cells #[.int .i64 7, .string nm, .int .i64 n, .slice a 0 c] 24)).cell? ⟨w.heap.size + 1, 2, none⟩ = some (.int .i64 n) ∧ ((w.alloc (boxP W)).alloc (.cells #[.int .i64 7, .string nm, .int .i64 n, .slice a 0 c] 24)).cell? ⟨w.heap.size + 1, 3, none⟩ = some (.slice a 0 c) := by simp [go_sem]
  have hW2 : (w.alloc (.cells #[.int .i64 W.nodes, .slice W.a W.l.length W.c] 55)).alloc (.cells #[.int .i64 7, .string nm, .int .i64 n, .slice a 0 c] 24) = (w.alloc (boxP W)).alloc (.cells #[.int .i64 7, .string nm, .int .i64 n, .slice a 0 c] 24) := rfl
  have hX2 : w.heap.size + 1 < ((w.alloc (boxP W)).alloc (.cells #[.int .i64 7, .string nm, .int .i64 n, .slice a 0 c] 24)).heap.size := by simp
  generalize (w.alloc (boxP W)).alloc (.cells #[.int .i64 7, .string nm, .int .i64 n, .slice a 0 c] 24) = W2 at *
  unfold Wd.val Tm.val
  simp only [Tm.op, Tm.nm, Tm.n, Tm.a, Tm.ks, Tm.c, List.length_nil]
  obtain ⟨t0, t1⟩ := TP
  obtain ⟨u0, u1, u2, u3⟩ := TT
  have NE := mkHid (named_err W nm 2 _ (hW.later hb2) hl)
  unfold Wd.val at NE
  go_enter Tryz.func41, Tryz.ntmps41
  go_wp2_with fail
  ((with_reducible refine NE.out.mono ?_)); rintro e w1 ⟨rfl, hb1⟩
  exact ⟨rfl, rfl, bon hb2 hb1⟩

set_option maxRecDepth 100000 in
set_option maxHeartbeats 4000000 in
theorem set7_ok (W : Wd) (t : Tm) (hop : t.op = 7) (hks : t.ks = []) {v : Vl} (hl : look W t.nm 2 = some v) (hz : v.s.length ≤ 64) (hp : 0 < v.s.length) : CallsS W t (RetS v.s) := by
  intro w hW ht
  obtain ⟨op, nm, n, a, c, ks⟩ := t
  simp only [Tm.op, Tm.ks] at hop hks
  subst hop hks
  have htn := ht.nums
  simp only [Tm.op, Tm.nm, Tm.n, Tm.ks, Tm.c] at htn
  have hb2 : Below w.heap.size w ((w.alloc (boxP W)).alloc (.cells #[.int .i64 7, .string nm, .int .i64 n, .slice a 0 c] 24)) := bal (bal (Below.refl _ _) _) _
  have TP : TwoW ((w.alloc (boxP W)).alloc (.cells #[.int .i64 7, .string nm, .int .i64 n, .slice a 0 c] 24)) w.heap.size W := (boxP_two w W).later (bel_alloc _ _)
  have TT : ((w.alloc (boxP W)).alloc (.cells #[.int .i64 7, .string nm, .int .i64 n, .slice a 0 c] 24)).cell? ⟨w.heap.size + 1, 0, none⟩ = some (.int .i64 7) ∧ ((w.alloc (boxP W)).alloc (.cells #[.int .i64 7, .string nm, .int .i64 n, .slice a 0 c] 24)).cell? ⟨w.heap.size + 1, 1, none⟩ = some (.string nm) ∧ ((w.alloc (boxP W)).alloc (.cells #[.int .i64 7, .string nm, .int .i64 n, .slice a 0 c] 24)).cell? ⟨w.heap.size + 1, 2, none⟩ = some (.int .i64 n) ∧ ((w.alloc (boxP W)).alloc (.cells #[.int .i64 7, .string nm, .int .i64 n, .slice a 0 c] 24)).cell? ⟨w.heap.size + 1, 3, none⟩ = some (.slice a 0 c) := by simp [go_sem]
  have hW2 : (w.alloc (.cells #[.int .i64 W.nodes, .slice W.a W.l.length W.c] 55)).alloc (.cells #[.int .i64 7, .string nm, .int .i64 n, .slice a 0 c] 24) = (w.alloc (boxP W)).alloc (.cells #[.int .i64 7, .string nm, .int .i64 n, .slice a 0 c] 24) := rfl
  have hX2 : w.heap.size + 1 < ((w.alloc (boxP W)).alloc (.cells #[.int .i64 7, .string nm, .int .i64 n, .slice a 0 c] 24)).heap.size := by simp
  generalize (w.alloc (boxP W)).alloc (.cells #[.int .i64 7, .string nm, .int .i64 n, .slice a 0 c] 24) = W2 at *
  unfold Wd.val Tm.val
  simp only [Tm.op, Tm.nm, Tm.n, Tm.a, Tm.ks, Tm.c, List.length_nil]
  obtain ⟨t0, t1⟩ := TP
  obtain ⟨u0, u1, u2, u3⟩ := TT
  have NE := mkHid (named_ok W nm 2 v _ (hW.later hb2) hl (by omega))
  unfold Wd.val at NE
  have hfd : ∀ (x0 x1 x2 x3 : Value) (w : World), (Instr.field 36 (.agg #[x0, x1, x2, x3]) 3).run Tryz.prog w = .ok x3 w := fun _ _ _ _ _ => by kernel_rfl
  go_enter Tryz.func41, Tryz.ntmps41
  go_wp2_with fail
  ((with_reducible refine NE.out.mono ?_)); rintro e w1 ⟨a1, c1, rfl, ho, hb1⟩
  obtain ⟨g, rfl, hg1, hg2⟩ := Own.some ho hp
  go_wp2
  go_ret
  exact ⟨g, c1, rfl, own_base ho hb2.size, bon hb2 hb1⟩

set_option maxRecDepth 100000 in
set_option maxHeartbeats 4000000 in
theorem num3_e (W : Wd) (t : Tm) (k0 : Tm) (hop : t.op = 3) (hks : t.ks = [k0]) {e0 : Int} (C0 : CallsS W k0 (PanK e0)) : CallsN W t (PanK e0) := by
  intro w hW ht
  obtain ⟨op, nm, n, a, c, ks⟩ := t
  simp only [Tm.op, Tm.ks] at hop hks
  subst hop hks
  obtain ⟨kin0, b, o, ha, hbl, kf0⟩ := ht.kid 0 (by simp [Tm.ks])
  simp only [Tm.a, Tm.ks, List.getElem_cons_zero, Nat.zero_mul, Nat.add_zero] at ha kin0 kf0
  subst ha
  have htn := ht.nums
  simp only [Tm.op, Tm.nm, Tm.n, Tm.ks, Tm.c] at htn
  have hb2 : Below w.heap.size w ((w.alloc (boxP W)).alloc (.cells #[.int .i64 3, .string nm, .int .i64 n, .slice (some ⟨b, o, none⟩) 1 c] 24)) := bal (bal (Below.refl _ _) _) _
  have TP : TwoW ((w.alloc (boxP W)).alloc (.cells #[.int .i64 3, .string nm, .int .i64 n, .slice (some ⟨b, o, none⟩) 1 c] 24)) w.heap.size W := (boxP_two w W).later (bel_alloc _ _)
  have TT : ((w.alloc (boxP W)).alloc (.cells #[.int .i64 3, .string nm, .int .i64 n, .slice (some ⟨b, o, none⟩) 1 c] 24)).cell? ⟨w.heap.size + 1, 0, none⟩ = some (.int .i64 3) ∧ ((w.alloc (boxP W)).alloc (.cells #[.int .i64 3, .string nm, .int .i64 n, .slice (some ⟨b, o, none⟩) 1 c] 24)).cell? ⟨w.heap.size + 1, 1, none⟩ = some (.string nm) ∧ ((w.alloc (boxP W)).alloc (.cells #[.int .i64 3, .string nm, .int .i64 n, .slice (some ⟨b, o, none⟩) 1 c] 24)).cell? ⟨w.heap.size + 1, 2, none⟩ = some (.int .i64 n) ∧ ((w.alloc (boxP W)).alloc (.cells #[.int .i64 3, .string nm, .int .i64 n, .slice (some ⟨b, o, none⟩) 1 c] 24)).cell? ⟨w.heap.size + 1, 3, none⟩ = some (.slice (some ⟨b, o, none⟩) 1 c) := by simp [go_sem]
  have hW2 : (w.alloc (.cells #[.int .i64 W.nodes, .slice W.a W.l.length W.c] 55)).alloc (.cells #[.int .i64 3, .string nm, .int .i64 n, .slice (some ⟨b, o, none⟩) 1 c] 24) = (w.alloc (boxP W)).alloc (.cells #[.int .i64 3, .string nm, .int .i64 n, .slice (some ⟨b, o, none⟩) 1 c] 24) := rfl
  have hX2 : w.heap.size + 1 < ((w.alloc (boxP W)).alloc (.cells #[.int .i64 3, .string nm, .int .i64 n, .slice (some ⟨b, o, none⟩) 1 c] 24)).heap.size := by simp
  generalize (w.alloc (boxP W)).alloc (.cells #[.int .i64 3, .string nm, .int .i64 n, .slice (some ⟨b, o, none⟩) 1 c] 24) = W2 at *
  have P0 := mkHid (fun (w' : World) (hb : Below W2.heap.size W2 w') => C0 w' (hW.later (bon hb2 hb)) (kin0.later (bon hb2 hb)))
  unfold Wd.val Tm.val at P0
  obtain ⟨q00, q01, q02, q03⟩ : Four W2 b o k0 := Four.keep kf0 hb2 hbl
  clear C0 kin0 kf0
  unfold Wd.val Tm.val
  simp only [Tm.op, Tm.nm, Tm.n, Tm.a, Tm.ks, Tm.c, List.length_cons, List.length_nil, Nat.zero_add]
  obtain ⟨t0, t1⟩ := TP
  obtain ⟨u0, u1, u2, u3⟩ := TT
  go_enter Tryz.func40, Tryz.ntmps40
  go_wp2_with fail
  (try dsimp only [List.append])
  refine wp_region_held_drew (S := fun w' => w'.cell? ⟨w.heap.size, 0, none⟩ = some (.int .i64 W.nodes) ∧ w'.cell? ⟨w.heap.size, 1, none⟩ = some (.slice W.a W.l.length W.c) ∧ w'.cell? ⟨w.heap.size + 1, 0, none⟩ = some (.int .i64 3) ∧ w'.cell? ⟨w.heap.size + 1, 1, none⟩ = some (.string nm) ∧ w'.cell? ⟨w.heap.size + 1, 2, none⟩ = some (.int .i64 n) ∧ w'.cell? ⟨w.heap.size + 1, 3, none⟩ = some (.slice (some ⟨b, o, none⟩) 1 c) ∧ w'.cell? ⟨b, o, none⟩ = some (.int .i64 k0.op) ∧ w'.cell? ⟨b, o + 1, none⟩ = some (.string k0.nm) ∧ w'.cell? ⟨b, o + 2, none⟩ = some (.int .i64 k0.n) ∧ w'.cell? ⟨b, o + 3, none⟩ = some (.slice k0.a k0.ks.length k0.c)) (by kernel_rfl) ⟨t0, t1, u0, u1, u2, u3, q00, q01, q02, q03⟩ (fun hHeld => ?_)
  refine wpAnyH_take (i := 0) (v := ?_) rfl (by kernel_rfl) (by kernel_rfl) (by kernel_rfl) (fun _ _ _ h => h) (Or.inl ⟨by kernel_rfl, ?_⟩) (by assumption) ?_
  rotate_left
  · (intro w hSw; (try dsimp only at hSw); go_simp; try with_reducible rfl)
  simp only [Act.put, List.getElem_toArray, List.getElem_cons_zero, List.setIfInBounds_toArray, List.set_cons_zero, List.set_cons_succ]
  refine wpAnyH_take (i := 1) (v := ?_) rfl (by kernel_rfl) (by kernel_rfl) (by kernel_rfl) (fun _ _ _ h => h) (Or.inl ⟨by kernel_rfl, ?_⟩) (by assumption) ?_
  rotate_left
  · (intro w hSw; (try dsimp only at hSw); go_simp; try with_reducible rfl)
  simp only [Act.put, List.getElem_toArray, List.getElem_cons_succ, List.getElem_cons_zero, List.setIfInBounds_toArray, List.set_cons_zero, List.set_cons_succ]
  refine wpAnyH_take (i := 2) (v := ?_) rfl (by kernel_rfl) (by kernel_rfl) (by kernel_rfl) (fun _ _ _ h => h) (Or.inl ⟨by kernel_rfl, ?_⟩) (by assumption) ?_
  rotate_left
  · (intro w hSw; (try dsimp only at hSw); go_simp; try with_reducible rfl)
  simp only [Act.put, List.getElem_toArray, List.getElem_cons_succ, List.getElem_cons_zero, List.setIfInBounds_toArray, List.set_cons_zero, List.set_cons_succ]
  refine wpAnyH_take (i := 3) (v := ?_) rfl (by kernel_rfl) (by kernel_rfl) (by kernel_rfl) (fun _ _ _ h => h) (Or.inl ⟨by kernel_rfl, ?_⟩) (by assumption) ?_
  rotate_left
  · (intro w hSw; (try dsimp only at hSw); go_simp; try with_reducible rfl)
  simp only [Act.put, List.getElem_toArray, List.getElem_cons_succ, List.getElem_cons_zero, List.setIfInBounds_toArray, List.set_cons_zero, List.set_cons_succ]
  refine wpAnyH_take (i := 4) (v := ?_) rfl (by kernel_rfl) (by kernel_rfl) (by kernel_rfl) (fun _ _ _ h => h) (Or.inl ⟨by kernel_rfl, ?_⟩) (by assumption) ?_
  rotate_left
  · (intro w hSw; (try dsimp only at hSw); go_simp; try with_reducible rfl)
  simp only [Act.put, List.getElem_toArray, List.getElem_cons_succ, List.getElem_cons_zero, List.setIfInBounds_toArray, List.set_cons_zero, List.set_cons_succ]
  refine wpAnyH_ready (rs := [5]) (by kernel_rfl) (by simp) ?_
  refine AllReadyH.cons rfl (fun K hK => ?_) AllReadyH.nil
  go_simp
  go_wp2_with (go_at_call 41; ((with_reducible refine (P0.out _ (bdrew (Below.refl _ _))).mono ?_)); rintro e w1 ⟨rfl, hb1⟩)
  exact ⟨rfl, rfl, bon (bdrew hb2) hb1⟩

set_option maxRecDepth 100000 in
set_option maxHeartbeats 4000000 in
theorem num3_ok (W : Wd) (t : Tm) (k0 : Tm) (hop : t.op = 3) (hks : t.ks = [k0]) {l : List Bool} (C0 : CallsS W k0 (RetS l)) (hl : l.length ≤ 64) : CallsN W t (RetI (cntB l)) := by
  intro w hW ht
  obtain ⟨op, nm, n, a, c, ks⟩ := t
  simp only [Tm.op, Tm.ks] at hop hks
  subst hop hks
  obtain ⟨kin0, b, o, ha, hbl, kf0⟩ := ht.kid 0 (by simp [Tm.ks])
  simp only [Tm.a, Tm.ks, List.getElem_cons_zero, Nat.zero_mul, Nat.add_zero] at ha kin0 kf0
  subst ha
  have htn := ht.nums
  simp only [Tm.op, Tm.nm, Tm.n, Tm.ks, Tm.c] at htn
  have hb2 : Below w.heap.size w ((w.alloc (boxP W)).alloc (.cells #[.int .i64 3, .string nm, .int .i64 n, .slice (some ⟨b, o, none⟩) 1 c] 24)) := bal (bal (Below.refl _ _) _) _
  have TP : TwoW ((w.alloc (boxP W)).alloc (.cells #[.int .i64 3, .string nm, .int .i64 n, .slice (some ⟨b, o, none⟩) 1 c] 24)) w.heap.size W := (boxP_two w W).later (bel_alloc _ _)
  have TT : ((w.alloc (boxP W)).alloc (.cells #[.int .i64 3, .string nm, .int .i64 n, .slice (some ⟨b, o, none⟩) 1 c] 24)).cell? ⟨w.heap.size + 1, 0, none⟩ = some (.int .i64 3) ∧ ((w.alloc (boxP W)).alloc (.cells #[.int .i64 3, .string nm, .int .i64 n, .slice (some ⟨b, o, none⟩) 1 c] 24)).cell? ⟨w.heap.size + 1, 1, none⟩ = some (.string nm) ∧ ((w.alloc (boxP W)).alloc (.cells #[.int .i64 3, .string nm, .int .i64 n, .slice (some ⟨b, o, none⟩) 1 c] 24)).cell? ⟨w.heap.size + 1, 2, none⟩ = some (.int .i64 n) ∧ ((w.alloc (boxP W)).alloc (.cells #[.int .i64 3, .string nm, .int .i64 n, .slice (some ⟨b, o, none⟩) 1 c] 24)).cell? ⟨w.heap.size + 1, 3, none⟩ = some (.slice (some ⟨b, o, none⟩) 1 c) := by simp [go_sem]
  have hW2 : (w.alloc (.cells #[.int .i64 W.nodes, .slice W.a W.l.length W.c] 55)).alloc (.cells #[.int .i64 3, .string nm, .int .i64 n, .slice (some ⟨b, o, none⟩) 1 c] 24) = (w.alloc (boxP W)).alloc (.cells #[.int .i64 3, .string nm, .int .i64 n, .slice (some ⟨b, o, none⟩) 1 c] 24) := rfl
  have hX2 : w.heap.size + 1 < ((w.alloc (boxP W)).alloc (.cells #[.int .i64 3, .string nm, .int .i64 n, .slice (some ⟨b, o, none⟩) 1 c] 24)).heap.size := by simp
  generalize (w.alloc (boxP W)).alloc (.cells #[.int .i64 3, .string nm, .int .i64 n, .slice (some ⟨b, o, none⟩) 1 c] 24) = W2 at *
  have P0 := mkHid (fun (w' : World) (hb : Below W2.heap.size W2 w') => C0 w' (hW.later (bon hb2 hb)) (kin0.later (bon hb2 hb)))
  unfold Wd.val Tm.val at P0
  obtain ⟨q00, q01, q02, q03⟩ : Four W2 b o k0 := Four.keep kf0 hb2 hbl
  clear C0 kin0 kf0
  unfold Wd.val Tm.val
  simp only [Tm.op, Tm.nm, Tm.n, Tm.a, Tm.ks, Tm.c, List.length_cons, List.length_nil, Nat.zero_add]
  obtain ⟨t0, t1⟩ := TP
  obtain ⟨u0, u1, u2, u3⟩ := TT
  go_enter Tryz.func40, Tryz.ntmps40
  go_wp2_with fail
  (try dsimp only [List.append])
  refine wp_region_held_drew (S := fun w' => w'.cell? ⟨w.heap.size, 0, none⟩ = some (.int .i64 W.nodes) ∧ w'.cell? ⟨w.heap.size, 1, none⟩ = some (.slice W.a W.l.length W.c) ∧ w'.cell? ⟨w.heap.size + 1, 0, none⟩ = some (.int .i64 3) ∧ w'.cell? ⟨w.heap.size + 1, 1, none⟩ = some (.string nm) ∧ w'.cell? ⟨w.heap.size + 1, 2, none⟩ = some (.int .i64 n) ∧ w'.cell? ⟨w.heap.size + 1, 3, none⟩ = some (.slice (some ⟨b, o, none⟩) 1 c) ∧ w'.cell? ⟨b, o, none⟩ = some (.int .i64 k0.op) ∧ w'.cell? ⟨b, o + 1, none⟩ = some (.string k0.nm) ∧ w'.cell? ⟨b, o + 2, none⟩ = some (.int .i64 k0.n) ∧ w'.cell? ⟨b, o + 3, none⟩ = some (.slice k0.a k0.ks.length k0.c)) (by kernel_rfl) ⟨t0, t1, u0, u1, u2, u3, q00, q01, q02, q03⟩ (fun hHeld => ?_)
  refine wpAnyH_take (i := 0) (v := ?_) rfl (by kernel_rfl) (by kernel_rfl) (by kernel_rfl) (fun _ _ _ h => h) (Or.inl ⟨by kernel_rfl, ?_⟩) (by assumption) ?_
  rotate_left
  · (intro w hSw; (try dsimp only at hSw); go_simp; try with_reducible rfl)
  simp only [Act.put, List.getElem_toArray, List.getElem_cons_zero, List.setIfInBounds_toArray, List.set_cons_zero, List.set_cons_succ]
  refine wpAnyH_take (i := 1) (v := ?_) rfl (by kernel_rfl) (by kernel_rfl) (by kernel_rfl) (fun _ _ _ h => h) (Or.inl ⟨by kernel_rfl, ?_⟩) (by assumption) ?_
  rotate_left
  · (intro w hSw; (try dsimp only at hSw); go_simp; try with_reducible rfl)
  simp only [Act.put, List.getElem_toArray, List.getElem_cons_succ, List.getElem_cons_zero, List.setIfInBounds_toArray, List.set_cons_zero, List.set_cons_succ]
  refine wpAnyH_take (i := 2) (v := ?_) rfl (by kernel_rfl) (by kernel_rfl) (by kernel_rfl) (fun _ _ _ h => h) (Or.inl ⟨by kernel_rfl, ?_⟩) (by assumption) ?_
  rotate_left
  · (intro w hSw; (try dsimp only at hSw); go_simp; try with_reducible rfl)
  simp only [Act.put, List.getElem_toArray, List.getElem_cons_succ, List.getElem_cons_zero, List.setIfInBounds_toArray, List.set_cons_zero, List.set_cons_succ]
  refine wpAnyH_take (i := 3) (v := ?_) rfl (by kernel_rfl) (by kernel_rfl) (by kernel_rfl) (fun _ _ _ h => h) (Or.inl ⟨by kernel_rfl, ?_⟩) (by assumption) ?_
  rotate_left
  · (intro w hSw; (try dsimp only at hSw); go_simp; try with_reducible rfl)
  simp only [Act.put, List.getElem_toArray, List.getElem_cons_succ, List.getElem_cons_zero, List.setIfInBounds_toArray, List.set_cons_zero, List.set_cons_succ]
  refine wpAnyH_take (i := 4) (v := ?_) rfl (by kernel_rfl) (by kernel_rfl) (by kernel_rfl) (fun _ _ _ h => h) (Or.inl ⟨by kernel_rfl, ?_⟩) (by assumption) ?_
  rotate_left
  · (intro w hSw; (try dsimp only at hSw); go_simp; try with_reducible rfl)
  simp only [Act.put, List.getElem_toArray, List.getElem_cons_succ, List.getElem_cons_zero, List.setIfInBounds_toArray, List.set_cons_zero, List.set_cons_succ]
  refine wpAnyH_ready (rs := [5]) (by kernel_rfl) (by simp) ?_
  refine AllReadyH.cons rfl (fun K hK => ?_) AllReadyH.nil
  go_simp
  go_wp2_with (go_at_call 41; ((with_reducible refine (P0.out _ (bdrew (Below.refl _ _))).mono ?_)); rintro e w1 ⟨g0, c0, rfl, ho0, hb1⟩)
  have B1 := bon (bdrew (Below.refl W2.heap.size W2)) hb1
  refine hK.out _ _ (keep1 (by assumption) hb1) (fun hHeld => ?_)
  clear hK
  refine wpAnyH_ready (rs := [6]) (by kernel_rfl) (by simp) ?_
  refine AllReadyH.cons rfl (fun K hK => ?_) AllReadyH.nil
  go_simp
  go_wp2_with (go_at_call 57; ((with_reducible refine (cnt_any l g0 c0 _ (by omega) (Own.bin ho0)).mono ?_)); rintro e w3 ⟨rfl, hb3⟩)
  refine hK.out _ _ (keep1 (by assumption) hb3) (fun hHeld => ?_)
  clear hK
  refine wpAnyH_take (i := 7) (v := ?_) rfl (by kernel_rfl) (by kernel_rfl) (by kernel_rfl) (fun _ _ _ h => h) (Or.inl ⟨by kernel_rfl, ?_⟩) (by assumption) ?_
  rotate_left
  · (intro w hSw; (try dsimp only at hSw); go_simp; try with_reducible rfl)
  simp only [Act.put, List.getElem_toArray, List.getElem_cons_succ, List.getElem_cons_zero, List.setIfInBounds_toArray, List.set_cons_zero, List.set_cons_succ]
  refine wpAnyH_done (by kernel_rfl) ?_ _
  go_wp2
  go_ret
  exact ⟨rfl, bon (bon hb2 B1) hb3⟩

set_option maxRecDepth 100000 in
set_option maxHeartbeats 4000000 in
theorem num6_e (W : Wd) (t : Tm) (k0 : Tm) (hop : t.op = 6) (hks : t.ks = [k0]) {e0 : Int} (C0 : CallsN W k0 (PanK e0)) : CallsN W t (PanK e0) := by
  intro w hW ht
  obtain ⟨op, nm, n, a, c, ks⟩ := t
  simp only [Tm.op, Tm.ks] at hop hks
  subst hop hks
  obtain ⟨kin0, b, o, ha, hbl, kf0⟩ := ht.kid 0 (by simp [Tm.ks])
  simp only [Tm.a, Tm.ks, List.getElem_cons_zero, Nat.zero_mul, Nat.add_zero] at ha kin0 kf0
  subst ha
  have htn := ht.nums
  simp only [Tm.op, Tm.nm, Tm.n, Tm.ks, Tm.c] at htn
  have hb2 : Below w.heap.size w ((w.alloc (boxP W)).alloc (.cells #[.int .i64 6, .string nm, .int .i64 n, .slice (some ⟨b, o, none⟩) 1 c] 24)) := bal (bal (Below.refl _ _) _) _
  have TP : TwoW ((w.alloc (boxP W)).alloc (.cells #[.int .i64 6, .string nm, .int .i64 n, .slice (some ⟨b, o, none⟩) 1 c] 24)) w.heap.size W := (boxP_two w W).later (bel_alloc _ _)
  have TT : ((w.alloc (boxP W)).alloc (.cells #[.int .i64 6, .string nm, .int .i64 n, .slice (some ⟨b, o, none⟩) 1 c] 24)).cell? ⟨w.heap.size + 1, 0, none⟩ = some (.int .i64 6) ∧ ((w.alloc (boxP W)).alloc (.cells #[.int .i64 6, .string nm, .int .i64 n, .slice (some ⟨b, o, none⟩) 1 c] 24)).cell? ⟨w.heap.size + 1, 1, none⟩ = some (.string nm) ∧ ((w.alloc (boxP W)).alloc (.cells #[.int .i64 6, .string nm, .int .i64 n, .slice (some ⟨b, o, none⟩) 1 c] 24)).cell? ⟨w.heap.size + 1, 2, none⟩ = some (.int .i64 n) ∧ ((w.alloc (boxP W)).alloc (.cells #[.int .i64 6, .string nm, .int .i64 n, .slice (some ⟨b, o, none⟩) 1 c] 24)).cell? ⟨w.heap.size + 1, 3, none⟩ = some (.slice (some ⟨b, o, none⟩) 1 c) := by simp [go_sem]
  have hW2 : (w.alloc (.cells #[.int .i64 W.nodes, .slice W.a W.l.length W.c] 55)).alloc (.cells #[.int .i64 6, .string nm, .int .i64 n, .slice (some ⟨b, o, none⟩) 1 c] 24) = (w.alloc (boxP W)).alloc (.cells #[.int .i64 6, .string nm, .int .i64 n, .slice (some ⟨b, o, none⟩) 1 c] 24) := rfl
  have hX2 : w.heap.size + 1 < ((w.alloc (boxP W)).alloc (.cells #[.int .i64 6, .string nm, .int .i64 n, .slice (some ⟨b, o, none⟩) 1 c] 24)).heap.size := by simp
  generalize (w.alloc (boxP W)).alloc (.cells #[.int .i64 6, .string nm, .int .i64 n, .slice (some ⟨b, o, none⟩) 1 c] 24) = W2 at *
  have P0 := mkHid (fun (w' : World) (hb : Below W2.heap.size W2 w') => C0 w' (hW.later (bon hb2 hb)) (kin0.later (bon hb2 hb)))
  unfold Wd.val Tm.val at P0
  obtain ⟨q00, q01, q02, q03⟩ : Four W2 b o k0 := Four.keep kf0 hb2 hbl
  clear C0 kin0 kf0
  unfold Wd.val Tm.val
  simp only [Tm.op, Tm.nm, Tm.n, Tm.a, Tm.ks, Tm.c, List.length_cons, List.length_nil, Nat.zero_add]
  obtain ⟨t0, t1⟩ := TP
  obtain ⟨u0, u1, u2, u3⟩ := TT
  go_enter Tryz.func40, Tryz.ntmps40
  go_wp2_with fail
  (try dsimp only [List.append])
  refine wp_region_held_drew (S := fun w' => w'.cell? ⟨w.heap.size, 0, none⟩ = some (.int .i64 W.nodes) ∧ w'.cell? ⟨w.heap.size, 1, none⟩ = some (.slice W.a W.l.length W.c) ∧ w'.cell? ⟨w.heap.size + 1, 0, none⟩ = some (.int .i64 6) ∧ w'.cell? ⟨w.heap.size + 1, 1, none⟩ = some (.string nm) ∧ w'.cell? ⟨w.heap.size + 1, 2, none⟩ = some (.int .i64 n) ∧ w'.cell? ⟨w.heap.size + 1, 3, none⟩ = some (.slice (some ⟨b, o, none⟩) 1 c) ∧ w'.cell? ⟨b, o, none⟩ = some (.int .i64 k0.op) ∧ w'.cell? ⟨b, o + 1, none⟩ = some (.string k0.nm) ∧ w'.cell? ⟨b, o + 2, none⟩ = some (.int .i64 k0.n) ∧ w'.cell? ⟨b, o + 3, none⟩ = some (.slice k0.a k0.ks.length k0.c)) (by kernel_rfl) ⟨t0, t1, u0, u1, u2, u3, q00, q01, q02, q03⟩ (fun hHeld => ?_)
  refine wpAnyH_take (i := 0) (v := ?_) rfl (by kernel_rfl) (by kernel_rfl) (by kernel_rfl) (fun _ _ _ h => h) (Or.inl ⟨by kernel_rfl, ?_⟩) (by assumption) ?_
  rotate_left
  · (intro w hSw; (try dsimp only at hSw); go_simp; try with_reducible rfl)
  simp only [Act.put, List.getElem_toArray, List.getElem_cons_zero, List.setIfInBounds_toArray, List.set_cons_zero, List.set_cons_succ]
  refine wpAnyH_take (i := 1) (v := ?_) rfl (by kernel_rfl) (by kernel_rfl) (by kernel_rfl) (fun _ _ _ h => h) (Or.inl ⟨by kernel_rfl, ?_⟩) (by assumption) ?_
  rotate_left
  · (intro w hSw; (try dsimp only at hSw); go_simp; try with_reducible rfl)
  simp only [Act.put, List.getElem_toArray, List.getElem_cons_succ, List.getElem_cons_zero, List.setIfInBounds_toArray, List.set_cons_zero, List.set_cons_succ]
  refine wpAnyH_take (i := 2) (v := ?_) rfl (by kernel_rfl) (by kernel_rfl) (by kernel_rfl) (fun _ _ _ h => h) (Or.inl ⟨by kernel_rfl, ?_⟩) (by assumption) ?_
  rotate_left
  · (intro w hSw; (try dsimp only at hSw); go_simp; try with_reducible rfl)
  simp only [Act.put, List.getElem_toArray, List.getElem_cons_succ, List.getElem_cons_zero, List.setIfInBounds_toArray, List.set_cons_zero, List.set_cons_succ]
  refine wpAnyH_take (i := 3) (v := ?_) rfl (by kernel_rfl) (by kernel_rfl) (by kernel_rfl) (fun _ _ _ h => h) (Or.inl ⟨by kernel_rfl, ?_⟩) (by assumption) ?_
  rotate_left
  · (intro w hSw; (try dsimp only at hSw); go_simp; try with_reducible rfl)
  simp only [Act.put, List.getElem_toArray, List.getElem_cons_succ, List.getElem_cons_zero, List.setIfInBounds_toArray, List.set_cons_zero, List.set_cons_succ]
  refine wpAnyH_take (i := 4) (v := ?_) rfl (by kernel_rfl) (by kernel_rfl) (by kernel_rfl) (fun _ _ _ h => h) (Or.inl ⟨by kernel_rfl, ?_⟩) (by assumption) ?_
  rotate_left
  · (intro w hSw; (try dsimp only at hSw); go_simp; try with_reducible rfl)
  simp only [Act.put, List.getElem_toArray, List.getElem_cons_succ, List.getElem_cons_zero, List.setIfInBounds_toArray, List.set_cons_zero, List.set_cons_succ]
  refine wpAnyH_take (i := 5) (v := ?_) rfl (by kernel_rfl) (by kernel_rfl) (by kernel_rfl) (fun _ _ _ h => h) (Or.inl ⟨by kernel_rfl, ?_⟩) (by assumption) ?_
  rotate_left
  · (intro w hSw; (try dsimp only at hSw); go_simp; try with_reducible rfl)
  simp only [Act.put, List.getElem_toArray, List.getElem_cons_succ, List.getElem_cons_zero, List.setIfInBounds_toArray, List.set_cons_zero, List.set_cons_succ]
  refine wpAnyH_take (i := 6) (v := ?_) rfl (by kernel_rfl) (by kernel_rfl) (by kernel_rfl) (fun _ _ _ h => h) (Or.inl ⟨by kernel_rfl, ?_⟩) (by assumption) ?_
  rotate_left
  · (intro w hSw; (try dsimp only at hSw); go_simp; try with_reducible rfl)
  simp only [Act.put, List.getElem_toArray, List.getElem_cons_succ, List.getElem_cons_zero, List.setIfInBounds_toArray, List.set_cons_zero, List.set_cons_succ]
  refine wpAnyH_ready (rs := [7]) (by kernel_rfl) (by simp) ?_
  refine AllReadyH.cons rfl (fun K hK => ?_) AllReadyH.nil
  go_simp
  go_wp2_with (go_at_call 40; ((with_reducible refine (P0.out _ (bdrew (Below.refl _ _))).mono ?_)); rintro e w1 ⟨rfl, hb1⟩)
  exact ⟨rfl, rfl, bon (bdrew hb2) hb1⟩

set_option maxRecDepth 100000 in
set_option maxHeartbeats 4000000 in
theorem num6_ok (W : Wd) (t : Tm) (k0 : Tm) (hop : t.op = 6) (hks : t.ks = [k0]) {n0 : Int} (C0 : CallsN W k0 (RetI n0)) (h0 : fitB n0 = true) (hf : fitB (t.n * n0) = true) : CallsN W t (RetI (t.n * n0)) := by
  intro w hW ht
  obtain ⟨op, nm, n, a, c, ks⟩ := t
  simp only [Tm.op, Tm.ks] at hop hks
  subst hop hks
  obtain ⟨kin0, b, o, ha, hbl, kf0⟩ := ht.kid 0 (by simp [Tm.ks])
  simp only [Tm.a, Tm.ks, List.getElem_cons_zero, Nat.zero_mul, Nat.add_zero] at ha kin0 kf0
  subst ha
  have htn := ht.nums
  simp only [Tm.op, Tm.nm, Tm.n, Tm.ks, Tm.c] at htn
  have hb2 : Below w.heap.size w ((w.alloc (boxP W)).alloc (.cells #[.int .i64 6, .string nm, .int .i64 n, .slice (some ⟨b, o, none⟩) 1 c] 24)) := bal (bal (Below.refl _ _) _) _
  have TP : TwoW ((w.alloc (boxP W)).alloc (.cells #[.int .i64 6, .string nm, .int .i64 n, .slice (some ⟨b, o, none⟩) 1 c] 24)) w.heap.size W := (boxP_two w W).later (bel_alloc _ _)
  have TT : ((w.alloc (boxP W)).alloc (.cells #[.int .i64 6, .string nm, .int .i64 n, .slice (some ⟨b, o, none⟩) 1 c] 24)).cell? ⟨w.heap.size + 1, 0, none⟩ = some (.int .i64 6) ∧ ((w.alloc (boxP W)).alloc (.cells #[.int .i64 6, .string nm, .int .i64 n, .slice (some ⟨b, o, none⟩) 1 c] 24)).cell? ⟨w.heap.size + 1, 1, none⟩ = some (.string nm) ∧ ((w.alloc (boxP W)).alloc (.cells #[.int .i64 6, .string nm, .int .i64 n, .slice (some ⟨b, o, none⟩) 1 c] 24)).cell? ⟨w.heap.size + 1, 2, none⟩ = some (.int .i64 n) ∧ ((w.alloc (boxP W)).alloc (.cells #[.int .i64 6, .string nm, .int .i64 n, .slice (some ⟨b, o, none⟩) 1 c] 24)).cell? ⟨w.heap.size + 1, 3, none⟩ = some (.slice (some ⟨b, o, none⟩) 1 c) := by simp [go_sem]
  have hW2 : (w.alloc (.cells #[.int .i64 W.nodes, .slice W.a W.l.length W.c] 55)).alloc (.cells #[.int .i64 6, .string nm, .int .i64 n, .slice (some ⟨b, o, none⟩) 1 c] 24) = (w.alloc (boxP W)).alloc (.cells #[.int .i64 6, .string nm, .int .i64 n, .slice (some ⟨b, o, none⟩) 1 c] 24) := rfl
  have hX2 : w.heap.size + 1 < ((w.alloc (boxP W)).alloc (.cells #[.int .i64 6, .string nm, .int .i64 n, .slice (some ⟨b, o, none⟩) 1 c] 24)).heap.size := by simp
  generalize (w.alloc (boxP W)).alloc (.cells #[.int .i64 6, .string nm, .int .i64 n, .slice (some ⟨b, o, none⟩) 1 c] 24) = W2 at *
  have P0 := mkHid (fun (w' : World) (hb : Below W2.heap.size W2 w') => C0 w' (hW.later (bon hb2 hb)) (kin0.later (bon hb2 hb)))
  unfold Wd.val Tm.val at P0
  obtain ⟨q00, q01, q02, q03⟩ : Four W2 b o k0 := Four.keep kf0 hb2 hbl
  clear C0 kin0 kf0
  unfold Wd.val Tm.val
  simp only [Tm.op, Tm.nm, Tm.n, Tm.a, Tm.ks, Tm.c, List.length_cons, List.length_nil, Nat.zero_add]
  obtain ⟨t0, t1⟩ := TP
  obtain ⟨u0, u1, u2, u3⟩ := TT
  have AD := mkHid (fun w => Nu.mul_any n n0 w htn.2.1 h0)
  rw [show Nu.tel (n * n0) = n * n0 from if_pos hf, show Nu.fitB (n * n0) = true from hf] at AD
  go_enter Tryz.func40, Tryz.ntmps40
  go_wp2_with fail
  (try dsimp only [List.append])
  refine wp_region_held_drew (S := fun w' => w'.cell? ⟨w.heap.size, 0, none⟩ = some (.int .i64 W.nodes) ∧ w'.cell? ⟨w.heap.size, 1, none⟩ = some (.slice W.a W.l.length W.c) ∧ w'.cell? ⟨w.heap.size + 1, 0, none⟩ = some (.int .i64 6) ∧ w'.cell? ⟨w.heap.size + 1, 1, none⟩ = some (.string nm) ∧ w'.cell? ⟨w.heap.size + 1, 2, none⟩ = some (.int .i64 n) ∧ w'.cell? ⟨w.heap.size + 1, 3, none⟩ = some (.slice (some ⟨b, o, none⟩) 1 c) ∧ w'.cell? ⟨b, o, none⟩ = some (.int .i64 k0.op) ∧ w'.cell? ⟨b, o + 1, none⟩ = some (.string k0.nm) ∧ w'.cell? ⟨b, o + 2, none⟩ = some (.int .i64 k0.n) ∧ w'.cell? ⟨b, o + 3, none⟩ = some (.slice k0.a k0.ks.length k0.c)) (by kernel_rfl) ⟨t0, t1, u0, u1, u2, u3, q00, q01, q02, q03⟩ (fun hHeld => ?_)
  refine wpAnyH_take (i := 0) (v := ?_) rfl (by kernel_rfl) (by kernel_rfl) (by kernel_rfl) (fun _ _ _ h => h) (Or.inl ⟨by kernel_rfl, ?_⟩) (by assumption) ?_
  rotate_left
  · (intro w hSw; (try dsimp only at hSw); go_simp; try with_reducible rfl)
  simp only [Act.put, List.getElem_toArray, List.getElem_cons_zero, List.setIfInBounds_toArray, List.set_cons_zero, List.set_cons_succ]
  refine wpAnyH_take (i := 1) (v := ?_) rfl (by kernel_rfl) (by kernel_rfl) (by kernel_rfl) (fun _ _ _ h => h) (Or.inl ⟨by kernel_rfl, ?_⟩) (by assumption) ?_
  rotate_left
  · (intro w hSw; (try dsimp only at hSw); go_simp; try with_reducible rfl)
  simp only [Act.put, List.getElem_toArray, List.getElem_cons_succ, List.getElem_cons_zero, List.setIfInBounds_toArray, List.set_cons_zero, List.set_cons_succ]
  refine wpAnyH_take (i := 2) (v := ?_) rfl (by kernel_rfl) (by kernel_rfl) (by kernel_rfl) (fun _ _ _ h => h) (Or.inl ⟨by kernel_rfl, ?_⟩) (by assumption) ?_
  rotate_left
  · (intro w hSw; (try dsimp only at hSw); go_simp; try with_reducible rfl)
  simp only [Act.put, List.getElem_toArray, List.getElem_cons_succ, List.getElem_cons_zero, List.setIfInBounds_toArray, List.set_cons_zero, List.set_cons_succ]
  refine wpAnyH_take (i := 3) (v := ?_) rfl (by kernel_rfl) (by kernel_rfl) (by kernel_rfl) (fun _ _ _ h => h) (Or.inl ⟨by kernel_rfl, ?_⟩) (by assumption) ?_
  rotate_left
  · (intro w hSw; (try dsimp only at hSw); go_simp; try with_reducible rfl)
  simp only [Act.put, List.getElem_toArray, List.getElem_cons_succ, List.getElem_cons_zero, List.setIfInBounds_toArray, List.set_cons_zero, List.set_cons_succ]
  refine wpAnyH_take (i := 4) (v := ?_) rfl (by kernel_rfl) (by kernel_rfl) (by kernel_rfl) (fun _ _ _ h => h) (Or.inl ⟨by kernel_rfl, ?_⟩) (by assumption) ?_
  rotate_left
  · (intro w hSw; (try dsimp only at hSw); go_simp; try with_reducible rfl)
  simp only [Act.put, List.getElem_toArray, List.getElem_cons_succ, List.getElem_cons_zero, List.setIfInBounds_toArray, List.set_cons_zero, List.set_cons_succ]
  refine wpAnyH_take (i := 5) (v := ?_) rfl (by kernel_rfl) (by kernel_rfl) (by kernel_rfl) (fun _ _ _ h => h) (Or.inl ⟨by kernel_rfl, ?_⟩) (by assumption) ?_
  rotate_left
  · (intro w hSw; (try dsimp only at hSw); go_simp; try with_reducible rfl)
  simp only [Act.put, List.getElem_toArray, List.getElem_cons_succ, List.getElem_cons_zero, List.setIfInBounds_toArray, List.set_cons_zero, List.set_cons_succ]
  refine wpAnyH_take (i := 6) (v := ?_) rfl (by kernel_rfl) (by kernel_rfl) (by kernel_rfl) (fun _ _ _ h => h) (Or.inl ⟨by kernel_rfl, ?_⟩) (by assumption) ?_
  rotate_left
  · (intro w hSw; (try dsimp only at hSw); go_simp; try with_reducible rfl)
  simp only [Act.put, List.getElem_toArray, List.getElem_cons_succ, List.getElem_cons_zero, List.setIfInBounds_toArray, List.set_cons_zero, List.set_cons_succ]
  refine wpAnyH_ready (rs := [7]) (by kernel_rfl) (by simp) ?_
  refine AllReadyH.cons rfl (fun K hK => ?_) AllReadyH.nil
  go_simp
  go_wp2_with (go_at_call 40; ((with_reducible refine (P0.out _ (bdrew (Below.refl _ _))).mono ?_)); rintro e w1 ⟨rfl, hb1⟩)
  have B1 := bon (bdrew (Below.refl W2.heap.size W2)) hb1
  refine hK.out _ _ (keep1 (by assumption) hb1) (fun hHeld => ?_)
  clear hK
  refine wpAnyH_ready (rs := [8]) (by kernel_rfl) (by simp) ?_
  refine AllReadyH.cons rfl (fun K hK => ?_) AllReadyH.nil
  go_simp
  go_wp2_with (go_at_call 59; ((with_reducible refine (AD.out _).mono ?_)); rintro e w3 ⟨rfl, hb3⟩)
  refine hK.out _ _ (keep1 (by assumption) hb3) (fun hHeld => ?_)
  clear hK
  refine wpAnyH_take (i := 9) (v := ?_) rfl (by kernel_rfl) (by kernel_rfl) (by kernel_rfl) (fun _ _ _ h => h) (Or.inl ⟨by kernel_rfl, ?_⟩) (by assumption) ?_
  rotate_left
  · (intro w hSw; (try dsimp only at hSw); go_simp; try with_reducible rfl)
  simp only [Act.put, List.getElem_toArray, List.getElem_cons_succ, List.getElem_cons_zero, List.setIfInBounds_toArray, List.set_cons_zero, List.set_cons_succ]
  refine wpAnyH_take (i := 10) (v := ?_) rfl (by kernel_rfl) (by kernel_rfl) (by kernel_rfl) (fun _ _ _ h => h) (Or.inl ⟨by kernel_rfl, ?_⟩) (by assumption) ?_
  rotate_left
  · (intro w hSw; (try dsimp only at hSw); go_simp; try with_reducible rfl)
  simp only [Act.put, List.getElem_toArray, List.getElem_cons_succ, List.getElem_cons_zero, List.setIfInBounds_toArray, List.set_cons_zero, List.set_cons_succ]
  refine wpAnyH_ready (rs := [11]) (by kernel_rfl) (by simp) ?_
  refine AllReadyH.cons rfl (fun K hK => ?_) AllReadyH.nil
  go_simp
  go_wp2_with (go_at_call 58; ((with_reducible refine (fit_ok _ _).mono ?_)); rintro e w4 ⟨rfl, hb4⟩)
  refine hK.out _ _ (keep1 (by assumption) hb4) (fun hHeld => ?_)
  clear hK
  refine wpAnyH_take (i := 12) (v := ?_) rfl (by kernel_rfl) (by kernel_rfl) (by kernel_rfl) (fun _ _ _ h => h) (Or.inl ⟨by kernel_rfl, ?_⟩) (by assumption) ?_
  rotate_left
  · (intro w hSw; (try dsimp only at hSw); go_simp; try with_reducible rfl)
  simp only [Act.put, List.getElem_toArray, List.getElem_cons_succ, List.getElem_cons_zero, List.setIfInBounds_toArray, List.set_cons_zero, List.set_cons_succ]
  refine wpAnyH_done (by kernel_rfl) ?_ _
  go_wp2
  go_ret
  exact ⟨rfl, bon (bon (bon hb2 B1) hb3) hb4⟩

set_option maxRecDepth 100000 in
set_option maxHeartbeats 4000000 in
theorem num6_big (W : Wd) (t : Tm) (k0 : Tm) (hop : t.op = 6) (hks : t.ks = [k0]) {n0 : Int} (C0 : CallsN W k0 (RetI n0)) (h0 : fitB n0 = true) (hf : fitB (t.n * n0) = false) : CallsN W t (PanK 5) := by
  intro w hW ht
  obtain ⟨op, nm, n, a, c, ks⟩ := t
  simp only [Tm.op, Tm.ks] at hop hks
  subst hop hks
  obtain ⟨kin0, b, o, ha, hbl, kf0⟩ := ht.kid 0 (by simp [Tm.ks])
  simp only [Tm.a, Tm.ks, List.getElem_cons_zero, Nat.zero_mul, Nat.add_zero] at ha kin0 kf0
  subst ha
  have htn := ht.nums
  simp only [Tm.op, Tm.nm, Tm.n, Tm.ks, Tm.c] at htn
  have hb2 : Below w.heap.size w ((w.alloc (boxP W)).alloc (.cells #[.int .i64 6, .string nm, .int .i64 n, .slice (some ⟨b, o, none⟩) 1 c] 24)) := bal (bal (Below.refl _ _) _) _
  have TP : TwoW ((w.alloc (boxP W)).alloc (.cells #[.int .i64 6, .string nm, .int .i64 n, .slice (some ⟨b, o, none⟩) 1 c] 24)) w.heap.size W := (boxP_two w W).later (bel_alloc _ _)
  have TT : ((w.alloc (boxP W)).alloc (.cells #[.int .i64 6, .string nm, .int .i64 n, .slice (some ⟨b, o, none⟩) 1 c] 24)).cell? ⟨w.heap.size + 1, 0, none⟩ = some (.int .i64 6) ∧ ((w.alloc (boxP W)).alloc (.cells #[.int .i64 6, .string nm, .int .i64 n, .slice (some ⟨b, o, none⟩) 1 c] 24)).cell? ⟨w.heap.size + 1, 1, none⟩ = some (.string nm) ∧ ((w.alloc (boxP W)).alloc (.cells #[.int .i64 6, .string nm, .int .i64 n, .slice (some ⟨b, o, none⟩) 1 c] 24)).cell? ⟨w.heap.size + 1, 2, none⟩ = some (.int .i64 n) ∧ ((w.alloc (boxP W)).alloc (.cells #[.int .i64 6, .string nm, .int .i64 n, .slice (some ⟨b, o, none⟩) 1 c] 24)).cell? ⟨w.heap.size + 1, 3, none⟩ = some (.slice (some ⟨b, o, none⟩) 1 c) := by simp [go_sem]
  have hW2 : (w.alloc (.cells #[.int .i64 W.nodes, .slice W.a W.l.length W.c] 55)).alloc (.cells #[.int .i64 6, .string nm, .int .i64 n, .slice (some ⟨b, o, none⟩) 1 c] 24) = (w.alloc (boxP W)).alloc (.cells #[.int .i64 6, .string nm, .int .i64 n, .slice (some ⟨b, o, none⟩) 1 c] 24) := rfl
  have hX2 : w.heap.size + 1 < ((w.alloc (boxP W)).alloc (.cells #[.int .i64 6, .string nm, .int .i64 n, .slice (some ⟨b, o, none⟩) 1 c] 24)).heap.size := by simp
  generalize (w.alloc (boxP W)).alloc (.cells #[.int .i64 6, .string nm, .int .i64 n, .slice (some ⟨b, o, none⟩) 1 c] 24) = W2 at *
  have P0 := mkHid (fun (w' : World) (hb : Below W2.heap.size W2 w') => C0 w' (hW.later (bon hb2 hb)) (kin0.later (bon hb2 hb)))
  unfold Wd.val Tm.val at P0
  obtain ⟨q00, q01, q02, q03⟩ : Four W2 b o k0 := Four.keep kf0 hb2 hbl
  clear C0 kin0 kf0
  unfold Wd.val Tm.val
  simp only [Tm.op, Tm.nm, Tm.n, Tm.a, Tm.ks, Tm.c, List.length_cons, List.length_nil, Nat.zero_add]
  obtain ⟨t0, t1⟩ := TP
  obtain ⟨u0, u1, u2, u3⟩ := TT
  have AD := mkHid (fun w => Nu.mul_any n n0 w htn.2.1 h0)
  rw [show Nu.fitB (n * n0) = false from hf] at AD
  go_enter Tryz.func40, Tryz.ntmps40
  go_wp2_with fail
  (try dsimp only [List.append])
  refine wp_region_held_drew (S := fun w' => w'.cell? ⟨w.heap.size, 0, none⟩ = some (.int .i64 W.nodes) ∧ w'.cell? ⟨w.heap.size, 1, none⟩ = some (.slice W.a W.l.length W.c) ∧ w'.cell? ⟨w.heap.size + 1, 0, none⟩ = some (.int .i64 6) ∧ w'.cell? ⟨w.heap.size + 1, 1, none⟩ = some (.string nm) ∧ w'.cell? ⟨w.heap.size + 1, 2, none⟩ = some (.int .i64 n) ∧ w'.cell? ⟨w.heap.size + 1, 3, none⟩ = some (.slice (some ⟨b, o, none⟩) 1 c) ∧ w'.cell? ⟨b, o, none⟩ = some (.int .i64 k0.op) ∧ w'.cell? ⟨b, o + 1, none⟩ = some (.string k0.nm) ∧ w'.cell? ⟨b, o + 2, none⟩ = some (.int .i64 k0.n) ∧ w'.cell? ⟨b, o + 3, none⟩ = some (.slice k0.a k0.ks.length k0.c)) (by kernel_rfl) ⟨t0, t1, u0, u1, u2, u3, q00, q01, q02, q03⟩ (fun hHeld => ?_)
  refine wpAnyH_take (i := 0) (v := ?_) rfl (by kernel_rfl) (by kernel_rfl) (by kernel_rfl) (fun _ _ _ h => h) (Or.inl ⟨by kernel_rfl, ?_⟩) (by assumption) ?_
  rotate_left
  · (intro w hSw; (try dsimp only at hSw); go_simp; try with_reducible rfl)
  simp only [Act.put, List.getElem_toArray, List.getElem_cons_zero, List.setIfInBounds_toArray, List.set_cons_zero, List.set_cons_succ]
  refine wpAnyH_take (i := 1) (v := ?_) rfl (by kernel_rfl) (by kernel_rfl) (by kernel_rfl) (fun _ _ _ h => h) (Or.inl ⟨by kernel_rfl, ?_⟩) (by assumption) ?_
  rotate_left
  · (intro w hSw; (try dsimp only at hSw); go_simp; try with_reducible rfl)
  simp only [Act.put, List.getElem_toArray, List.getElem_cons_succ, List.getElem_cons_zero, List.setIfInBounds_toArray, List.set_cons_zero, List.set_cons_succ]
  refine wpAnyH_take (i := 2) (v := ?_) rfl (by kernel_rfl) (by kernel_rfl) (by kernel_rfl) (fun _ _ _ h => h) (Or.inl ⟨by kernel_rfl, ?_⟩) (by assumption) ?_
  rotate_left
  · (intro w hSw; (try dsimp only at hSw); go_simp; try with_reducible rfl)
  simp only [Act.put, List.getElem_toArray, List.getElem_cons_succ, List.getElem_cons_zero, List.setIfInBounds_toArray, List.set_cons_zero, List.set_cons_succ]
  refine wpAnyH_take (i := 3) (v := ?_) rfl (by kernel_rfl) (by kernel_rfl) (by kernel_rfl) (fun _ _ _ h => h) (Or.inl ⟨by kernel_rfl, ?_⟩) (by assumption) ?_
  rotate_left
  · (intro w hSw; (try dsimp only at hSw); go_simp; try with_reducible rfl)
  simp only [Act.put, List.getElem_toArray, List.getElem_cons_succ, List.getElem_cons_zero, List.setIfInBounds_toArray, List.set_cons_zero, List.set_cons_succ]
  refine wpAnyH_take (i := 4) (v := ?_) rfl (by kernel_rfl) (by kernel_rfl) (by kernel_rfl) (fun _ _ _ h => h) (Or.inl ⟨by kernel_rfl, ?_⟩) (by assumption) ?_
  rotate_left
  · (intro w hSw; (try dsimp only at hSw); go_simp; try with_reducible rfl)
  simp only [Act.put, List.getElem_toArray, List.getElem_cons_succ, List.getElem_cons_zero, List.setIfInBounds_toArray, List.set_cons_zero, List.set_cons_succ]
  refine wpAnyH_take (i := 5) (v := ?_) rfl (by kernel_rfl) (by kernel_rfl) (by kernel_rfl) (fun _ _ _ h => h) (Or.inl ⟨by kernel_rfl, ?_⟩) (by assumption) ?_
  rotate_left
  · (intro w hSw; (try dsimp only at hSw); go_simp; try with_reducible rfl)
  simp only [Act.put, List.getElem_toArray, List.getElem_cons_succ, List.getElem_cons_zero, List.setIfInBounds_toArray, List.set_cons_zero, List.set_cons_succ]
  refine wpAnyH_take (i := 6) (v := ?_) rfl (by kernel_rfl) (by kernel_rfl) (by kernel_rfl) (fun _ _ _ h => h) (Or.inl ⟨by kernel_rfl, ?_⟩) (by assumption) ?_
  rotate_left
  · (intro w hSw; (try dsimp only at hSw); go_simp; try with_reducible rfl)
  simp only [Act.put, List.getElem_toArray, List.getElem_cons_succ, List.getElem_cons_zero, List.setIfInBounds_toArray, List.set_cons_zero, List.set_cons_succ]
  refine wpAnyH_ready (rs := [7]) (by kernel_rfl) (by simp) ?_
  refine AllReadyH.cons rfl (fun K hK => ?_) AllReadyH.nil
  go_simp
  go_wp2_with (go_at_call 40; ((with_reducible refine (P0.out _ (bdrew (Below.refl _ _))).mono ?_)); rintro e w1 ⟨rfl, hb1⟩)
  have B1 := bon (bdrew (Below.refl W2.heap.size W2)) hb1
  refine hK.out _ _ (keep1 (by assumption) hb1) (fun hHeld => ?_)
  clear hK
  refine wpAnyH_ready (rs := [8]) (by kernel_rfl) (by simp) ?_
  refine AllReadyH.cons rfl (fun K hK => ?_) AllReadyH.nil
  go_simp
  go_wp2_with (go_at_call 59; ((with_reducible refine (AD.out _).mono ?_)); rintro e w3 ⟨rfl, hb3⟩)
  refine hK.out _ _ (keep1 (by assumption) hb3) (fun hHeld => ?_)
  clear hK
  refine wpAnyH_take (i := 9) (v := ?_) rfl (by kernel_rfl) (by kernel_rfl) (by kernel_rfl) (fun _ _ _ h => h) (Or.inl ⟨by kernel_rfl, ?_⟩) (by assumption) ?_
  rotate_left
  · (intro w hSw; (try dsimp only at hSw); go_simp; try with_reducible rfl)
  simp only [Act.put, List.getElem_toArray, List.getElem_cons_succ, List.getElem_cons_zero, List.setIfInBounds_toArray, List.set_cons_zero, List.set_cons_succ]
  refine wpAnyH_take (i := 10) (v := ?_) rfl (by kernel_rfl) (by kernel_rfl) (by kernel_rfl) (fun _ _ _ h => h) (Or.inl ⟨by kernel_rfl, ?_⟩) (by assumption) ?_
  rotate_left
  · (intro w hSw; (try dsimp only at hSw); go_simp; try with_reducible rfl)
  simp only [Act.put, List.getElem_toArray, List.getElem_cons_succ, List.getElem_cons_zero, List.setIfInBounds_toArray, List.set_cons_zero, List.set_cons_succ]
  refine wpAnyH_ready (rs := [11]) (by kernel_rfl) (by simp) ?_
  refine AllReadyH.cons rfl (fun K hK => ?_) AllReadyH.nil
  go_simp
  go_wp2_with (go_at_call 58; ((with_reducible refine (fit_err _ _).mono ?_)); rintro e w4 ⟨rfl, hb4⟩)
  exact ⟨rfl, rfl, bon (bon (bon hb2 B1) hb3) hb4⟩
end
end Go.Proofs.YtdfebacjbapahaaGreatDoor
