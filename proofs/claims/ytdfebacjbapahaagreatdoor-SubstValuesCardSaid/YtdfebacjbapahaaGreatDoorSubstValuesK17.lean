/-
  What SubstValues's proof stands on, part 17: EvGd, EvH.
-/
import Derived.Test.YtdfebacjbapahaaGreatDoorSubstValuesK12
import Derived.BigRegion
import Derived.Deep.RegionHeld2
namespace Go.Proofs.YtdfebacjbapahaaGreatDoor
section
open Go.RowKit

set_option maxRecDepth 100000 in
set_option maxHeartbeats 4000000 in
theorem tru28_e0 (W : Wd) (t : Tm) (k0 k1 : Tm) (hop : t.op = 28) (hks : t.ks = [k0, k1]) {e0 : Int} {P : World → Ending → World → Prop} (C0 : CallsD W k0 (PanK e0)) (C1 : CallsD W k1 P) : CallsB W t (PanK e0) := by
  intro w hW ht
  obtain ⟨op, nm, n, a, c, ks⟩ := t
  simp only [Tm.op, Tm.ks] at hop hks
  subst hop hks
  obtain ⟨kin0, b, o, ha, hbl, kf0⟩ := ht.kid 0 (by simp [Tm.ks])
  obtain ⟨kin1, b1, o1, ha1, hbl1, kf1⟩ := ht.kid 1 (by simp [Tm.ks])
  simp only [Tm.a, Tm.ks, List.getElem_cons_zero, List.getElem_cons_succ, Nat.zero_mul, Nat.one_mul, Nat.add_zero] at ha kin0 kf0 ha1 kin1 kf1
  subst ha
  cases ha1
  have htn := ht.nums
  simp only [Tm.op, Tm.nm, Tm.n, Tm.ks, Tm.c] at htn
  have hb2 : Below w.heap.size w ((w.alloc (boxP W)).alloc (.cells #[.int .i64 28, .string nm, .int .i64 n, .slice (some ⟨b, o, none⟩) 2 c] 24)) := bal (bal (Below.refl _ _) _) _
  have TP : TwoW ((w.alloc (boxP W)).alloc (.cells #[.int .i64 28, .string nm, .int .i64 n, .slice (some ⟨b, o, none⟩) 2 c] 24)) w.heap.size W := (boxP_two w W).later (bel_alloc _ _)
  have TT : ((w.alloc (boxP W)).alloc (.cells #[.int .i64 28, .string nm, .int .i64 n, .slice (some ⟨b, o, none⟩) 2 c] 24)).cell? ⟨w.heap.size + 1, 0, none⟩ = some (.int .i64 28) ∧ ((w.alloc (boxP W)).alloc (.cells #[.int .i64 28, .string nm, .int .i64 n, .slice (some ⟨b, o, none⟩) 2 c] 24)).cell? ⟨w.heap.size + 1, 1, none⟩ = some (.string nm) ∧ ((w.alloc (boxP W)).alloc (.cells #[.int .i64 28, .string nm, .int .i64 n, .slice (some ⟨b, o, none⟩) 2 c] 24)).cell? ⟨w.heap.size + 1, 2, none⟩ = some (.int .i64 n) ∧ ((w.alloc (boxP W)).alloc (.cells #[.int .i64 28, .string nm, .int .i64 n, .slice (some ⟨b, o, none⟩) 2 c] 24)).cell? ⟨w.heap.size + 1, 3, none⟩ = some (.slice (some ⟨b, o, none⟩) 2 c) := by simp [go_sem]
  have hW2 : (w.alloc (.cells #[.int .i64 W.nodes, .slice W.a W.l.length W.c] 55)).alloc (.cells #[.int .i64 28, .string nm, .int .i64 n, .slice (some ⟨b, o, none⟩) 2 c] 24) = (w.alloc (boxP W)).alloc (.cells #[.int .i64 28, .string nm, .int .i64 n, .slice (some ⟨b, o, none⟩) 2 c] 24) := rfl
  have hX2 : w.heap.size + 1 < ((w.alloc (boxP W)).alloc (.cells #[.int .i64 28, .string nm, .int .i64 n, .slice (some ⟨b, o, none⟩) 2 c] 24)).heap.size := by simp
  generalize (w.alloc (boxP W)).alloc (.cells #[.int .i64 28, .string nm, .int .i64 n, .slice (some ⟨b, o, none⟩) 2 c] 24) = W2 at *
  have P0 := mkHid (fun (w' : World) (hb : Below W2.heap.size W2 w') => C0 w' (hW.later (bon hb2 hb)) (kin0.later (bon hb2 hb)))
  unfold Wd.val Tm.val at P0
  obtain ⟨q00, q01, q02, q03⟩ : Four W2 b o k0 := Four.keep kf0 hb2 hbl
  have P1 := mkHid (fun (w' : World) (hb : Below W2.heap.size W2 w') => C1 w' (hW.later (bon hb2 hb)) (kin1.later (bon hb2 hb)))
  unfold Wd.val Tm.val at P1
  obtain ⟨q10, q11, q12, q13⟩ : Four W2 b (o + 4) k1 := Four.keep kf1 hb2 hbl1
  clear C0 kin0 kf0 C1 kin1 kf1
  unfold Wd.val Tm.val
  simp only [Tm.op, Tm.nm, Tm.n, Tm.a, Tm.ks, Tm.c, List.length_cons, List.length_nil, Nat.zero_add, Nat.reduceAdd]
  obtain ⟨t0, t1⟩ := TP
  obtain ⟨u0, u1, u2, u3⟩ := TT
  go_enter Tryz.func43, Tryz.ntmps43
  go_wp2_with fail
  (try dsimp only [List.append])
  refine wp_region_held_drew (S := fun w' => w'.cell? ⟨w.heap.size, 0, none⟩ = some (.int .i64 W.nodes) ∧ w'.cell? ⟨w.heap.size, 1, none⟩ = some (.slice W.a W.l.length W.c) ∧ w'.cell? ⟨w.heap.size + 1, 0, none⟩ = some (.int .i64 28) ∧ w'.cell? ⟨w.heap.size + 1, 1, none⟩ = some (.string nm) ∧ w'.cell? ⟨w.heap.size + 1, 2, none⟩ = some (.int .i64 n) ∧ w'.cell? ⟨w.heap.size + 1, 3, none⟩ = some (.slice (some ⟨b, o, none⟩) 2 c) ∧ w'.cell? ⟨b, o, none⟩ = some (.int .i64 k0.op) ∧ w'.cell? ⟨b, o + 1, none⟩ = some (.string k0.nm) ∧ w'.cell? ⟨b, o + 2, none⟩ = some (.int .i64 k0.n) ∧ w'.cell? ⟨b, o + 3, none⟩ = some (.slice k0.a k0.ks.length k0.c) ∧ w'.cell? ⟨b, o + 4, none⟩ = some (.int .i64 k1.op) ∧ w'.cell? ⟨b, o + 4 + 1, none⟩ = some (.string k1.nm) ∧ w'.cell? ⟨b, o + 4 + 2, none⟩ = some (.int .i64 k1.n) ∧ w'.cell? ⟨b, o + 4 + 3, none⟩ = some (.slice k1.a k1.ks.length k1.c)) (by kernel_rfl) ⟨t0, t1, u0, u1, u2, u3, q00, q01, q02, q03, q10, q11, q12, q13⟩ (fun hHeld => ?_)
  refine wpAnyH_take (i := 0) (v := ?_) rfl (by kernel_rfl) (by kernel_rfl) (by kernel_rfl) (fun _ _ _ h => h) (Or.inl ⟨by kernel_rfl, ?_⟩) (by assumption) ?_
  rotate_left
  · (intro w hSw; (try dsimp only at hSw); go_simp; try with_reducible rfl)
  simp only [Act.put, List.getElem_toArray, List.getElem_cons_zero, List.setIfInBounds_toArray, List.set_cons_zero, List.set_cons_succ]
  refine wpAnyH_take (i := 1) (v := ?_) rfl (by kernel_rfl) (by kernel_rfl) (by kernel_rfl) (fun _ _ _ h => h) (Or.inl ⟨by kernel_rfl, ?_⟩) (by assumption) ?_
  rotate_left
  · (intro w hSw; (try dsimp only at hSw); go_simp; try with_reducible rfl)
  simp only [Act.put, List.getElem_toArray, List.getElem_cons_succ, List.getElem_cons_zero, List.setIfInBounds_toArray, List.set_cons_zero, List.set_cons_succ]
  refine wpAnyH_take (i := 2) (v := ?_) rfl (by kernel_rfl) (by kernel_rfl) (by kernel_rfl) (fun _ _ _ h => h) (Or.inl ⟨by kernel_rfl, ?_⟩) (by assumption) ?_
  rotate_left
  · (intro w hSw; (try dsimp only at hSw); go_simp; try with_reducible rfl)
  simp only [Act.put, List.getElem_toArray, List.getElem_cons_succ, List.getElem_cons_zero, List.setIfInBounds_toArray, List.set_cons_zero, List.set_cons_succ]
  refine wpAnyH_take (i := 3) (v := ?_) rfl (by kernel_rfl) (by kernel_rfl) (by kernel_rfl) (fun _ _ _ h => h) (Or.inl ⟨by kernel_rfl, ?_⟩) (by assumption) ?_
  rotate_left
  · (intro w hSw; (try dsimp only at hSw); go_simp; try with_reducible rfl)
  simp only [Act.put, List.getElem_toArray, List.getElem_cons_succ, List.getElem_cons_zero, List.setIfInBounds_toArray, List.set_cons_zero, List.set_cons_succ]
  refine wpAnyH_take (i := 4) (v := ?_) rfl (by kernel_rfl) (by kernel_rfl) (by kernel_rfl) (fun _ _ _ h => h) (Or.inl ⟨by kernel_rfl, ?_⟩) (by assumption) ?_
  rotate_left
  · (intro w hSw; (try dsimp only at hSw); go_simp; try with_reducible rfl)
  simp only [Act.put, List.getElem_toArray, List.getElem_cons_succ, List.getElem_cons_zero, List.setIfInBounds_toArray, List.set_cons_zero, List.set_cons_succ]
  refine wpAnyH_take (i := 6) (v := ?_) rfl (by kernel_rfl) (by kernel_rfl) (by kernel_rfl) (fun _ _ _ h => h) (Or.inl ⟨by kernel_rfl, ?_⟩) (by assumption) ?_
  rotate_left
  · (intro w hSw; (try dsimp only at hSw); go_simp; try with_reducible rfl)
  simp only [Act.put, List.getElem_toArray, List.getElem_cons_succ, List.getElem_cons_zero, List.setIfInBounds_toArray, List.set_cons_zero, List.set_cons_succ]
  refine wpAnyH_take (i := 7) (v := ?_) rfl (by kernel_rfl) (by kernel_rfl) (by kernel_rfl) (fun _ _ _ h => h) (Or.inl ⟨by kernel_rfl, ?_⟩) (by assumption) ?_
  rotate_left
  · (intro w hSw; (try dsimp only at hSw); go_simp; try with_reducible rfl)
  simp only [Act.put, List.getElem_toArray, List.getElem_cons_succ, List.getElem_cons_zero, List.setIfInBounds_toArray, List.set_cons_zero, List.set_cons_succ]
  refine wpAnyH_take (i := 8) (v := ?_) rfl (by kernel_rfl) (by kernel_rfl) (by kernel_rfl) (fun _ _ _ h => h) (Or.inl ⟨by kernel_rfl, ?_⟩) (by assumption) ?_
  rotate_left
  · (intro w hSw; (try dsimp only at hSw); go_simp; try with_reducible rfl)
  simp only [Act.put, List.getElem_toArray, List.getElem_cons_succ, List.getElem_cons_zero, List.setIfInBounds_toArray, List.set_cons_zero, List.set_cons_succ]
  refine wpAnyH_take (i := 9) (v := ?_) rfl (by kernel_rfl) (by kernel_rfl) (by kernel_rfl) (fun _ _ _ h => h) (Or.inl ⟨by kernel_rfl, ?_⟩) (by assumption) ?_
  rotate_left
  · (intro w hSw; (try dsimp only at hSw); go_simp; try with_reducible rfl)
  simp only [Act.put, List.getElem_toArray, List.getElem_cons_succ, List.getElem_cons_zero, List.setIfInBounds_toArray, List.set_cons_zero, List.set_cons_succ]
  refine wpAnyH_take (i := 10) (v := ?_) rfl (by kernel_rfl) (by kernel_rfl) (by kernel_rfl) (fun _ _ _ h => h) (Or.inl ⟨by kernel_rfl, ?_⟩) (by assumption) ?_
  rotate_left
  · (intro w hSw; (try dsimp only at hSw); go_simp; try with_reducible rfl)
  simp only [Act.put, List.getElem_toArray, List.getElem_cons_succ, List.getElem_cons_zero, List.setIfInBounds_toArray, List.set_cons_zero, List.set_cons_succ]
  refine wpAnyH_ready (rs := [5]) (by kernel_rfl) (by simp) ?_
  refine AllReadyH.cons rfl (fun K hK => ?_) AllReadyH.nil
  go_simp
  go_wp2_with (go_at_call 42; ((with_reducible refine (P0.out _ (bdrew (Below.refl _ _))).mono ?_)); rintro e w1 ⟨rfl, hb1⟩)
  exact ⟨rfl, rfl, bon (bdrew hb2) hb1⟩

set_option maxRecDepth 100000 in
set_option maxHeartbeats 4000000 in
theorem tru28_e1 (W : Wd) (t : Tm) (k0 k1 : Tm) (hop : t.op = 28) (hks : t.ks = [k0, k1]) {n0 e1 : Int} (C0 : CallsD W k0 (RetI n0)) (C1 : CallsD W k1 (PanK e1)) : CallsB W t (PanK e1) := by
  intro w hW ht
  obtain ⟨op, nm, n, a, c, ks⟩ := t
  simp only [Tm.op, Tm.ks] at hop hks
  subst hop hks
  obtain ⟨kin0, b, o, ha, hbl, kf0⟩ := ht.kid 0 (by simp [Tm.ks])
  obtain ⟨kin1, b1, o1, ha1, hbl1, kf1⟩ := ht.kid 1 (by simp [Tm.ks])
  simp only [Tm.a, Tm.ks, List.getElem_cons_zero, List.getElem_cons_succ, Nat.zero_mul, Nat.one_mul, Nat.add_zero] at ha kin0 kf0 ha1 kin1 kf1
  subst ha
  cases ha1
  have htn := ht.nums
  simp only [Tm.op, Tm.nm, Tm.n, Tm.ks, Tm.c] at htn
  have hb2 : Below w.heap.size w ((w.alloc (boxP W)).alloc (.cells #[.int .i64 28, .string nm, .int .i64 n, .slice (some ⟨b, o, none⟩) 2 c] 24)) := bal (bal (Below.refl _ _) _) _
  have TP : TwoW ((w.alloc (boxP W)).alloc (.cells #[.int .i64 28, .string nm, .int .i64 n, .slice (some ⟨b, o, none⟩) 2 c] 24)) w.heap.size W := (boxP_two w W).later (bel_alloc _ _)
  have TT : ((w.alloc (boxP W)).alloc (.cells #[.int .i64 28, .string nm, .int .i64 n, .slice (some ⟨b, o, none⟩) 2 c] 24)).cell? ⟨w.heap.size + 1, 0, none⟩ = some (.int .i64 28) ∧ ((w.alloc (boxP W)).alloc (.cells #[.int .i64 28, .string nm, .int .i64 n, .slice (some ⟨b, o, none⟩) 2 c] 24)).cell? ⟨w.heap.size + 1, 1, none⟩ = some (.string nm) ∧ ((w.alloc (boxP W)).alloc (.cells #[.int .i64 28, .string nm, .int .i64 n, .slice (some ⟨b, o, none⟩) 2 c] 24)).cell? ⟨w.heap.size + 1, 2, none⟩ = some (.int .i64 n) ∧ ((w.alloc (boxP W)).alloc (.cells #[.int .i64 28, .string nm, .int .i64 n, .slice (some ⟨b, o, none⟩) 2 c] 24)).cell? ⟨w.heap.size + 1, 3, none⟩ = some (.slice (some ⟨b, o, none⟩) 2 c) := by simp [go_sem]
  have hW2 : (w.alloc (.cells #[.int .i64 W.nodes, .slice W.a W.l.length W.c] 55)).alloc (.cells #[.int .i64 28, .string nm, .int .i64 n, .slice (some ⟨b, o, none⟩) 2 c] 24) = (w.alloc (boxP W)).alloc (.cells #[.int .i64 28, .string nm, .int .i64 n, .slice (some ⟨b, o, none⟩) 2 c] 24) := rfl
  have hX2 : w.heap.size + 1 < ((w.alloc (boxP W)).alloc (.cells #[.int .i64 28, .string nm, .int .i64 n, .slice (some ⟨b, o, none⟩) 2 c] 24)).heap.size := by simp
  generalize (w.alloc (boxP W)).alloc (.cells #[.int .i64 28, .string nm, .int .i64 n, .slice (some ⟨b, o, none⟩) 2 c] 24) = W2 at *
  have P0 := mkHid (fun (w' : World) (hb : Below W2.heap.size W2 w') => C0 w' (hW.later (bon hb2 hb)) (kin0.later (bon hb2 hb)))
  unfold Wd.val Tm.val at P0
  obtain ⟨q00, q01, q02, q03⟩ : Four W2 b o k0 := Four.keep kf0 hb2 hbl
  have P1 := mkHid (fun (w' : World) (hb : Below W2.heap.size W2 w') => C1 w' (hW.later (bon hb2 hb)) (kin1.later (bon hb2 hb)))
  unfold Wd.val Tm.val at P1
  obtain ⟨q10, q11, q12, q13⟩ : Four W2 b (o + 4) k1 := Four.keep kf1 hb2 hbl1
  clear C0 kin0 kf0 C1 kin1 kf1
  unfold Wd.val Tm.val
  simp only [Tm.op, Tm.nm, Tm.n, Tm.a, Tm.ks, Tm.c, List.length_cons, List.length_nil, Nat.zero_add, Nat.reduceAdd]
  obtain ⟨t0, t1⟩ := TP
  obtain ⟨u0, u1, u2, u3⟩ := TT
  go_enter Tryz.func43, Tryz.ntmps43
  go_wp2_with fail
  (try dsimp only [List.append])
  refine wp_region_held_drew (S := fun w' => w'.cell? ⟨w.heap.size, 0, none⟩ = some (.int .i64 W.nodes) ∧ w'.cell? ⟨w.heap.size, 1, none⟩ = some (.slice W.a W.l.length W.c) ∧ w'.cell? ⟨w.heap.size + 1, 0, none⟩ = some (.int .i64 28) ∧ w'.cell? ⟨w.heap.size + 1, 1, none⟩ = some (.string nm) ∧ w'.cell? ⟨w.heap.size + 1, 2, none⟩ = some (.int .i64 n) ∧ w'.cell? ⟨w.heap.size + 1, 3, none⟩ = some (.slice (some ⟨b, o, none⟩) 2 c) ∧ w'.cell? ⟨b, o, none⟩ = some (.int .i64 k0.op) ∧ w'.cell? ⟨b, o + 1, none⟩ = some (.string k0.nm) ∧ w'.cell? ⟨b, o + 2, none⟩ = some (.int .i64 k0.n) ∧ w'.cell? ⟨b, o + 3, none⟩ = some (.slice k0.a k0.ks.length k0.c) ∧ w'.cell? ⟨b, o + 4, none⟩ = some (.int .i64 k1.op) ∧ w'.cell? ⟨b, o + 4 + 1, none⟩ = some (.string k1.nm) ∧ w'.cell? ⟨b, o + 4 + 2, none⟩ = some (.int .i64 k1.n) ∧ w'.cell? ⟨b, o + 4 + 3, none⟩ = some (.slice k1.a k1.ks.length k1.c)) (by kernel_rfl) ⟨t0, t1, u0, u1, u2, u3, q00, q01, q02, q03, q10, q11, q12, q13⟩ (fun hHeld => ?_)
  refine wpAnyH_take (i := 0) (v := ?_) rfl (by kernel_rfl) (by kernel_rfl) (by kernel_rfl) (fun _ _ _ h => h) (Or.inl ⟨by kernel_rfl, ?_⟩) (by assumption) ?_
  rotate_left
  · (intro w hSw; (try dsimp only at hSw); go_simp; try with_reducible rfl)
  simp only [Act.put, List.getElem_toArray, List.getElem_cons_zero, List.setIfInBounds_toArray, List.set_cons_zero, List.set_cons_succ]
  refine wpAnyH_take (i := 1) (v := ?_) rfl (by kernel_rfl) (by kernel_rfl) (by kernel_rfl) (fun _ _ _ h => h) (Or.inl ⟨by kernel_rfl, ?_⟩) (by assumption) ?_
  rotate_left
  · (intro w hSw; (try dsimp only at hSw); go_simp; try with_reducible rfl)
  simp only [Act.put, List.getElem_toArray, List.getElem_cons_succ, List.getElem_cons_zero, List.setIfInBounds_toArray, List.set_cons_zero, List.set_cons_succ]
  refine wpAnyH_take (i := 2) (v := ?_) rfl (by kernel_rfl) (by kernel_rfl) (by kernel_rfl) (fun _ _ _ h => h) (Or.inl ⟨by kernel_rfl, ?_⟩) (by assumption) ?_
  rotate_left
  · (intro w hSw; (try dsimp only at hSw); go_simp; try with_reducible rfl)
  simp only [Act.put, List.getElem_toArray, List.getElem_cons_succ, List.getElem_cons_zero, List.setIfInBounds_toArray, List.set_cons_zero, List.set_cons_succ]
  refine wpAnyH_take (i := 3) (v := ?_) rfl (by kernel_rfl) (by kernel_rfl) (by kernel_rfl) (fun _ _ _ h => h) (Or.inl ⟨by kernel_rfl, ?_⟩) (by assumption) ?_
  rotate_left
  · (intro w hSw; (try dsimp only at hSw); go_simp; try with_reducible rfl)
  simp only [Act.put, List.getElem_toArray, List.getElem_cons_succ, List.getElem_cons_zero, List.setIfInBounds_toArray, List.set_cons_zero, List.set_cons_succ]
  refine wpAnyH_take (i := 4) (v := ?_) rfl (by kernel_rfl) (by kernel_rfl) (by kernel_rfl) (fun _ _ _ h => h) (Or.inl ⟨by kernel_rfl, ?_⟩) (by assumption) ?_
  rotate_left
  · (intro w hSw; (try dsimp only at hSw); go_simp; try with_reducible rfl)
  simp only [Act.put, List.getElem_toArray, List.getElem_cons_succ, List.getElem_cons_zero, List.setIfInBounds_toArray, List.set_cons_zero, List.set_cons_succ]
  refine wpAnyH_take (i := 6) (v := ?_) rfl (by kernel_rfl) (by kernel_rfl) (by kernel_rfl) (fun _ _ _ h => h) (Or.inl ⟨by kernel_rfl, ?_⟩) (by assumption) ?_
  rotate_left
  · (intro w hSw; (try dsimp only at hSw); go_simp; try with_reducible rfl)
  simp only [Act.put, List.getElem_toArray, List.getElem_cons_succ, List.getElem_cons_zero, List.setIfInBounds_toArray, List.set_cons_zero, List.set_cons_succ]
  refine wpAnyH_take (i := 7) (v := ?_) rfl (by kernel_rfl) (by kernel_rfl) (by kernel_rfl) (fun _ _ _ h => h) (Or.inl ⟨by kernel_rfl, ?_⟩) (by assumption) ?_
  rotate_left
  · (intro w hSw; (try dsimp only at hSw); go_simp; try with_reducible rfl)
  simp only [Act.put, List.getElem_toArray, List.getElem_cons_succ, List.getElem_cons_zero, List.setIfInBounds_toArray, List.set_cons_zero, List.set_cons_succ]
  refine wpAnyH_take (i := 8) (v := ?_) rfl (by kernel_rfl) (by kernel_rfl) (by kernel_rfl) (fun _ _ _ h => h) (Or.inl ⟨by kernel_rfl, ?_⟩) (by assumption) ?_
  rotate_left
  · (intro w hSw; (try dsimp only at hSw); go_simp; try with_reducible rfl)
  simp only [Act.put, List.getElem_toArray, List.getElem_cons_succ, List.getElem_cons_zero, List.setIfInBounds_toArray, List.set_cons_zero, List.set_cons_succ]
  refine wpAnyH_take (i := 9) (v := ?_) rfl (by kernel_rfl) (by kernel_rfl) (by kernel_rfl) (fun _ _ _ h => h) (Or.inl ⟨by kernel_rfl, ?_⟩) (by assumption) ?_
  rotate_left
  · (intro w hSw; (try dsimp only at hSw); go_simp; try with_reducible rfl)
  simp only [Act.put, List.getElem_toArray, List.getElem_cons_succ, List.getElem_cons_zero, List.setIfInBounds_toArray, List.set_cons_zero, List.set_cons_succ]
  refine wpAnyH_take (i := 10) (v := ?_) rfl (by kernel_rfl) (by kernel_rfl) (by kernel_rfl) (fun _ _ _ h => h) (Or.inl ⟨by kernel_rfl, ?_⟩) (by assumption) ?_
  rotate_left
  · (intro w hSw; (try dsimp only at hSw); go_simp; try with_reducible rfl)
  simp only [Act.put, List.getElem_toArray, List.getElem_cons_succ, List.getElem_cons_zero, List.setIfInBounds_toArray, List.set_cons_zero, List.set_cons_succ]
  refine wpAnyH_ready (rs := [5]) (by kernel_rfl) (by simp) ?_
  refine AllReadyH.cons rfl (fun K hK => ?_) AllReadyH.nil
  go_simp
  go_wp2_with (go_at_call 42; ((with_reducible refine (P0.out _ (bdrew (Below.refl _ _))).mono ?_)); rintro e w1 ⟨rfl, hb1⟩)
  have B1 := bon (bdrew (Below.refl W2.heap.size W2)) hb1
  refine hK.out _ _ (keep2 (by assumption) hb1) (fun hHeld => ?_)
  clear hK
  refine wpAnyH_ready (rs := [11]) (by kernel_rfl) (by simp) ?_
  refine AllReadyH.cons rfl (fun K hK => ?_) AllReadyH.nil
  go_simp
  go_wp2_with (go_at_call 42; ((with_reducible refine (P1.out _ B1).mono ?_)); rintro e w3 ⟨rfl, hb3⟩)
  exact ⟨rfl, rfl, bon (bon hb2 B1) hb3⟩

set_option maxRecDepth 100000 in
set_option maxHeartbeats 4000000 in
theorem tru28_ok (W : Wd) (t : Tm) (k0 k1 : Tm) (hop : t.op = 28) (hks : t.ks = [k0, k1]) {n0 n1 : Int} (C0 : CallsD W k0 (RetI n0)) (C1 : CallsD W k1 (RetI n1)) : CallsB W t (RetB (n0 == n1)) := by
  intro w hW ht
  obtain ⟨op, nm, n, a, c, ks⟩ := t
  simp only [Tm.op, Tm.ks] at hop hks
  subst hop hks
  obtain ⟨kin0, b, o, ha, hbl, kf0⟩ := ht.kid 0 (by simp [Tm.ks])
  obtain ⟨kin1, b1, o1, ha1, hbl1, kf1⟩ := ht.kid 1 (by simp [Tm.ks])
  simp only [Tm.a, Tm.ks, List.getElem_cons_zero, List.getElem_cons_succ, Nat.zero_mul, Nat.one_mul, Nat.add_zero] at ha kin0 kf0 ha1 kin1 kf1
  subst ha
  cases ha1
  have htn := ht.nums
  simp only [Tm.op, Tm.nm, Tm.n, Tm.ks, Tm.c] at htn
  have hb2 : Below w.heap.size w ((w.alloc (boxP W)).alloc (.cells #[.int .i64 28, .string nm, .int .i64 n, .slice (some ⟨b, o, none⟩) 2 c] 24)) := bal (bal (Below.refl _ _) _) _
  have TP : TwoW ((w.alloc (boxP W)).alloc (.cells #[.int .i64 28, .string nm, .int .i64 n, .slice (some ⟨b, o, none⟩) 2 c] 24)) w.heap.size W := (boxP_two w W).later (bel_alloc _ _)
  have TT : ((w.alloc (boxP W)).alloc (.cells #[.int .i64 28, .string nm, .int .i64 n, .slice (some ⟨b, o, none⟩) 2 c] 24)).cell? ⟨w.heap.size + 1, 0, none⟩ = some (.int .i64 28) ∧ ((w.alloc (boxP W)).alloc (.cells #[.int .i64 28, .string nm, .int .i64 n, .slice (some ⟨b, o, none⟩) 2 c] 24)).cell? ⟨w.heap.size + 1, 1, none⟩ = some (.string nm) ∧ ((w.alloc (boxP W)).alloc (.cells #[.int .i64 28, .string nm, .int .i64 n, .slice (some ⟨b, o, none⟩) 2 c] 24)).cell? ⟨w.heap.size + 1, 2, none⟩ = some (.int .i64 n) ∧ ((w.alloc (boxP W)).alloc (.cells #[.int .i64 28, .string nm, .int .i64 n, .slice (some ⟨b, o, none⟩) 2 c] 24)).cell? ⟨w.heap.size + 1, 3, none⟩ = some (.slice (some ⟨b, o, none⟩) 2 c) := by simp [go_sem]
  have hW2 : (w.alloc (.cells #[.int .i64 W.nodes, .slice W.a W.l.length W.c] 55)).alloc (.cells #[.int .i64 28, .string nm, .int .i64 n, .slice (some ⟨b, o, none⟩) 2 c] 24) = (w.alloc (boxP W)).alloc (.cells #[.int .i64 28, .string nm, .int .i64 n, .slice (some ⟨b, o, none⟩) 2 c] 24) := rfl
  have hX2 : w.heap.size + 1 < ((w.alloc (boxP W)).alloc (.cells #[.int .i64 28, .string nm, .int .i64 n, .slice (some ⟨b, o, none⟩) 2 c] 24)).heap.size := by simp
  generalize (w.alloc (boxP W)).alloc (.cells #[.int .i64 28, .string nm, .int .i64 n, .slice (some ⟨b, o, none⟩) 2 c] 24) = W2 at *
  have P0 := mkHid (fun (w' : World) (hb : Below W2.heap.size W2 w') => C0 w' (hW.later (bon hb2 hb)) (kin0.later (bon hb2 hb)))
  unfold Wd.val Tm.val at P0
  obtain ⟨q00, q01, q02, q03⟩ : Four W2 b o k0 := Four.keep kf0 hb2 hbl
  have P1 := mkHid (fun (w' : World) (hb : Below W2.heap.size W2 w') => C1 w' (hW.later (bon hb2 hb)) (kin1.later (bon hb2 hb)))
  unfold Wd.val Tm.val at P1
  obtain ⟨q10, q11, q12, q13⟩ : Four W2 b (o + 4) k1 := Four.keep kf1 hb2 hbl1
  clear C0 kin0 kf0 C1 kin1 kf1
  unfold Wd.val Tm.val
  simp only [Tm.op, Tm.nm, Tm.n, Tm.a, Tm.ks, Tm.c, List.length_cons, List.length_nil, Nat.zero_add, Nat.reduceAdd]
  obtain ⟨t0, t1⟩ := TP
  obtain ⟨u0, u1, u2, u3⟩ := TT
  go_enter Tryz.func43, Tryz.ntmps43
  go_wp2_with fail
  (try dsimp only [List.append])
  refine wp_region_held_drew (S := fun w' => w'.cell? ⟨w.heap.size, 0, none⟩ = some (.int .i64 W.nodes) ∧ w'.cell? ⟨w.heap.size, 1, none⟩ = some (.slice W.a W.l.length W.c) ∧ w'.cell? ⟨w.heap.size + 1, 0, none⟩ = some (.int .i64 28) ∧ w'.cell? ⟨w.heap.size + 1, 1, none⟩ = some (.string nm) ∧ w'.cell? ⟨w.heap.size + 1, 2, none⟩ = some (.int .i64 n) ∧ w'.cell? ⟨w.heap.size + 1, 3, none⟩ = some (.slice (some ⟨b, o, none⟩) 2 c) ∧ w'.cell? ⟨b, o, none⟩ = some (.int .i64 k0.op) ∧ w'.cell? ⟨b, o + 1, none⟩ = some (.string k0.nm) ∧ w'.cell? ⟨b, o + 2, none⟩ = some (.int .i64 k0.n) ∧ w'.cell? ⟨b, o + 3, none⟩ = some (.slice k0.a k0.ks.length k0.c) ∧ w'.cell? ⟨b, o + 4, none⟩ = some (.int .i64 k1.op) ∧ w'.cell? ⟨b, o + 4 + 1, none⟩ = some (.string k1.nm) ∧ w'.cell? ⟨b, o + 4 + 2, none⟩ = some (.int .i64 k1.n) ∧ w'.cell? ⟨b, o + 4 + 3, none⟩ = some (.slice k1.a k1.ks.length k1.c)) (by kernel_rfl) ⟨t0, t1, u0, u1, u2, u3, q00, q01, q02, q03, q10, q11, q12, q13⟩ (fun hHeld => ?_)
  refine wpAnyH_take (i := 0) (v := ?_) rfl (by kernel_rfl) (by kernel_rfl) (by kernel_rfl) (fun _ _ _ h => h) (Or.inl ⟨by kernel_rfl, ?_⟩) (by assumption) ?_
  rotate_left
  · (intro w hSw; (try dsimp only at hSw); go_simp; try with_reducible rfl)
  simp only [Act.put, List.getElem_toArray, List.getElem_cons_zero, List.setIfInBounds_toArray, List.set_cons_zero, List.set_cons_succ]
  refine wpAnyH_take (i := 1) (v := ?_) rfl (by kernel_rfl) (by kernel_rfl) (by kernel_rfl) (fun _ _ _ h => h) (Or.inl ⟨by kernel_rfl, ?_⟩) (by assumption) ?_
  rotate_left
  · (intro w hSw; (try dsimp only at hSw); go_simp; try with_reducible rfl)
  simp only [Act.put, List.getElem_toArray, List.getElem_cons_succ, List.getElem_cons_zero, List.setIfInBounds_toArray, List.set_cons_zero, List.set_cons_succ]
  refine wpAnyH_take (i := 2) (v := ?_) rfl (by kernel_rfl) (by kernel_rfl) (by kernel_rfl) (fun _ _ _ h => h) (Or.inl ⟨by kernel_rfl, ?_⟩) (by assumption) ?_
  rotate_left
  · (intro w hSw; (try dsimp only at hSw); go_simp; try with_reducible rfl)
  simp only [Act.put, List.getElem_toArray, List.getElem_cons_succ, List.getElem_cons_zero, List.setIfInBounds_toArray, List.set_cons_zero, List.set_cons_succ]
  refine wpAnyH_take (i := 3) (v := ?_) rfl (by kernel_rfl) (by kernel_rfl) (by kernel_rfl) (fun _ _ _ h => h) (Or.inl ⟨by kernel_rfl, ?_⟩) (by assumption) ?_
  rotate_left
  · (intro w hSw; (try dsimp only at hSw); go_simp; try with_reducible rfl)
  simp only [Act.put, List.getElem_toArray, List.getElem_cons_succ, List.getElem_cons_zero, List.setIfInBounds_toArray, List.set_cons_zero, List.set_cons_succ]
  refine wpAnyH_take (i := 4) (v := ?_) rfl (by kernel_rfl) (by kernel_rfl) (by kernel_rfl) (fun _ _ _ h => h) (Or.inl ⟨by kernel_rfl, ?_⟩) (by assumption) ?_
  rotate_left
  · (intro w hSw; (try dsimp only at hSw); go_simp; try with_reducible rfl)
  simp only [Act.put, List.getElem_toArray, List.getElem_cons_succ, List.getElem_cons_zero, List.setIfInBounds_toArray, List.set_cons_zero, List.set_cons_succ]
  refine wpAnyH_take (i := 6) (v := ?_) rfl (by kernel_rfl) (by kernel_rfl) (by kernel_rfl) (fun _ _ _ h => h) (Or.inl ⟨by kernel_rfl, ?_⟩) (by assumption) ?_
  rotate_left
  · (intro w hSw; (try dsimp only at hSw); go_simp; try with_reducible rfl)
  simp only [Act.put, List.getElem_toArray, List.getElem_cons_succ, List.getElem_cons_zero, List.setIfInBounds_toArray, List.set_cons_zero, List.set_cons_succ]
  refine wpAnyH_take (i := 7) (v := ?_) rfl (by kernel_rfl) (by kernel_rfl) (by kernel_rfl) (fun _ _ _ h => h) (Or.inl ⟨by kernel_rfl, ?_⟩) (by assumption) ?_
  rotate_left
  · (intro w hSw; (try dsimp only at hSw); go_simp; try with_reducible rfl)
  simp only [Act.put, List.getElem_toArray, List.getElem_cons_succ, List.getElem_cons_zero, List.setIfInBounds_toArray, List.set_cons_zero, List.set_cons_succ]
  refine wpAnyH_take (i := 8) (v := ?_) rfl (by kernel_rfl) (by kernel_rfl) (by kernel_rfl) (fun _ _ _ h => h) (Or.inl ⟨by kernel_rfl, ?_⟩) (by assumption) ?_
  rotate_left
  · (intro w hSw; (try dsimp only at hSw); go_simp; try with_reducible rfl)
  simp only [Act.put, List.getElem_toArray, List.getElem_cons_succ, List.getElem_cons_zero, List.setIfInBounds_toArray, List.set_cons_zero, List.set_cons_succ]
  refine wpAnyH_take (i := 9) (v := ?_) rfl (by kernel_rfl) (by kernel_rfl) (by kernel_rfl) (fun _ _ _ h => h) (Or.inl ⟨by kernel_rfl, ?_⟩) (by assumption) ?_
  rotate_left
  · (intro w hSw; (try dsimp only at hSw); go_simp; try with_reducible rfl)
  simp only [Act.put, List.getElem_toArray, List.getElem_cons_succ, List.getElem_cons_zero, List.setIfInBounds_toArray, List.set_cons_zero, List.set_cons_succ]
  refine wpAnyH_take (i := 10) (v := ?_) rfl (by kernel_rfl) (by kernel_rfl) (by kernel_rfl) (fun _ _ _ h => h) (Or.inl ⟨by kernel_rfl, ?_⟩) (by assumption) ?_
  rotate_left
  · (intro w hSw; (try dsimp only at hSw); go_simp; try with_reducible rfl)
  simp only [Act.put, List.getElem_toArray, List.getElem_cons_succ, List.getElem_cons_zero, List.setIfInBounds_toArray, List.set_cons_zero, List.set_cons_succ]
  refine wpAnyH_ready (rs := [5]) (by kernel_rfl) (by simp) ?_
  refine AllReadyH.cons rfl (fun K hK => ?_) AllReadyH.nil
  go_simp
  go_wp2_with (go_at_call 42; ((with_reducible refine (P0.out _ (bdrew (Below.refl _ _))).mono ?_)); rintro e w1 ⟨rfl, hb1⟩)
  have B1 := bon (bdrew (Below.refl W2.heap.size W2)) hb1
  refine hK.out _ _ (keep2 (by assumption) hb1) (fun hHeld => ?_)
  clear hK
  refine wpAnyH_ready (rs := [11]) (by kernel_rfl) (by simp) ?_
  refine AllReadyH.cons rfl (fun K hK => ?_) AllReadyH.nil
  go_simp
  go_wp2_with (go_at_call 42; ((with_reducible refine (P1.out _ B1).mono ?_)); rintro e w3 ⟨rfl, hb3⟩)
  refine hK.out _ _ (keep2 (by assumption) hb3) (fun hHeld => ?_)
  clear hK
  refine wpAnyH_take (i := 12) (v := ?_) rfl (by kernel_rfl) (by kernel_rfl) (by kernel_rfl) (fun _ _ _ h => h) (Or.inl ⟨by kernel_rfl, ?_⟩) (by assumption) ?_
  rotate_left
  · (intro w hSw; (try dsimp only at hSw); go_simp; try with_reducible rfl)
  simp only [Act.put, List.getElem_toArray, List.getElem_cons_succ, List.getElem_cons_zero, List.setIfInBounds_toArray, List.set_cons_zero, List.set_cons_succ]
  refine wpAnyH_take (i := 13) (v := ?_) rfl (by kernel_rfl) (by kernel_rfl) (by kernel_rfl) (fun _ _ _ h => h) (Or.inl ⟨by kernel_rfl, ?_⟩) (by assumption) ?_
  rotate_left
  · (intro w hSw; (try dsimp only at hSw); go_simp; try with_reducible rfl)
  simp only [Act.put, List.getElem_toArray, List.getElem_cons_succ, List.getElem_cons_zero, List.setIfInBounds_toArray, List.set_cons_zero, List.set_cons_succ]
  refine wpAnyH_done (by kernel_rfl) ?_ _
  have BW := bon (bon hb2 B1) hb3
  go_wp2
  go_ret
  exact ⟨rfl, BW⟩
end
section
open Go.RowKit

/-- how many are as asked -/
def cntA (x : Bool) (l : List Bool) : Nat := (l.filter (· == x)).length
theorem cntA_le (x : Bool) (l : List Bool) : cntA x l ≤ l.length := List.length_filter_le _ _
theorem cntA_snoc (x : Bool) (l : List Bool) (y : Bool) : cntA x (l ++ [y]) = cntA x l + if y == x then 1 else 0 := by
  unfold cntA
  rw [List.filter_append, List.length_append]
  cases h : (y == x) <;> simp [List.filter, h]
theorem cntA_all (l : List Bool) : decide ((cntA false l : Int) = 0) = l.all id := by
  induction l with
  | nil => rfl
  | cons x l ih =>
    cases x
    · simp [cntA, List.filter]; omega
    · rw [List.all_cons, ← ih]; rfl
theorem cntA_any (l : List Bool) : decide (0 < cntA true l) = l.any id := by
  induction l with
  | nil => rfl
  | cons x l ih =>
    cases x
    · rw [List.any_cons, ← ih]; rfl
    · simp [cntA, List.filter]
/-- what is known so far, and the rest -/
def joinE (l : List Bool) (r : Except Int (List Vv)) : Except Int (List Vv) :=
  match r with
  | .error e => .error e
  | .ok vs => .ok (l.map Vv.b ++ vs)
theorem joinE_err {W : Wd} {l : List Bool} {k : Tm} {ks : List Tm} {e : Int} (h : ev W k = .error e) : joinE l (evs W (k :: ks)) = .error e := by
  simp only [evs, h, joinE]
theorem joinE_ok {W : Wd} {l : List Bool} {k : Tm} {ks : List Tm} {x : Bool} (h : ev W k = .ok (.b x)) : joinE l (evs W (k :: ks)) = joinE (l ++ [x]) (evs W ks) := by
  simp only [evs, h]
  cases evs W ks with
  | error e => rfl
  | ok vs => simp [joinE]
/-- truth answers as it should -/
def TruthOf (W : Wd) (k : Tm) : Prop := (∃ x, ev W k = .ok (.b x) ∧ CallsB W k (RetB x)) ∨ ∃ e, ev W k = .error e ∧ CallsB W k (PanK e)
def TimesP (W : Wd) (ks : List Tm) (x : Bool) (w : World) (e : Ending) (w' : World) : Prop :=
  (∃ l : List Bool, evs W ks = .ok (l.map Vv.b) ∧ l.length = ks.length ∧ e = .returned (.int .i64 (cntA x l)) ∧ Below w.heap.size w w') ∨ ∃ k, evs W ks = .error k ∧ PanK k w e w'

set_option maxRecDepth 100000 in
set_option maxHeartbeats 2000000 in
theorem times_any (W : Wd) (t : Tm) (x : Bool) (w : World) (hW : WIn w w.heap.size W) (hin : TIn w w.heap.size t) (hz : t.ks.length ≤ 2000) (ih : ∀ k ∈ t.ks, TruthOf W k) :
    Calls Tryz.prog 63 #[W.val, .slice t.a t.ks.length t.c, .bool x] w (TimesP W t.ks x w) := by
  have IH := mkHid ih
  have HIN := mkHid hin
  have HW := mkHid hW
  have hB0 := bel_alloc w (boxP W)
  have TW := boxP_two w W
  have KP := mkHid (fun (wr : World) (hb : Below (w.alloc (boxP W)).heap.size (w.alloc (boxP W)) wr) => TW.later hb)
  have START : Hid (evs W t.ks = joinE [] (evs W (t.ks.drop 0))) := by
    show _ = joinE [] (evs W t.ks)
    cases evs W t.ks <;> rfl
  clear ih hin hW
  generalize hn' : t.ks.length = n at *
  have HN := mkHid hn'
  clear hn'
  have hW0 : w.alloc (.cells #[.int .i64 W.nodes, .slice W.a W.l.length W.c] 55) = w.alloc (boxP W) := rfl
  generalize w.alloc (boxP W) = W0 at *
  unfold Wd.val
  obtain ⟨a0, a1⟩ := TW
  go_enter Tryz.func63, Tryz.ntmps63
  go_wp2
  clear a0 a1 hW0
  go_loopw [7, 12] (fun m i w' => ∃ (k : Nat) (y : Int) (l : List Bool), i = .int .i64 y ∧ y = k ∧ k ≤ n ∧ l.length = k ∧ m = .int .i64 (cntA x l : Nat) ∧ Below W0.heap.size W0 w' ∧ Hid (evs W t.ks = joinE l (evs W (t.ks.drop k)))) (fun _ i _ => (n - intOf i).toNat)
  case atStart => exact ⟨0, 0, [], rfl, rfl, Nat.zero_le _, rfl, rfl, Below.refl _ _, START⟩
  case round =>
    obtain ⟨k, y, l, rfl, hyk, hk, hlk, rfl, hb, hal⟩ := hrel
    obtain rfl : y = (k : Int) := hyk
    clear START
    have hcl := cntA_le x l
    have HLK := mkHid hlk
    have hbw : Below w.heap.size w wr := bon hB0 hb
    by_cases hlt : k < n
    · have hk' : k < t.ks.length := by rw [HN.out]; exact hlt
      obtain ⟨kin, b, o, ha, hbB, kf⟩ := HIN.out.kid k hk'
      have kin' := (kin.keep hbw).mono hbw.size
      have kf' := kf.keep hbw hbB
      have TR := IH.out t.ks[k] (List.getElem_mem _)
      have hdr := mkHid (List.drop_eq_getElem_cons hk')
      rw [hdr.out] at hal
      rw [ha]
      clear ha kin kf hdr IH
      generalize t.ks[k] = q at *
      clear hk'
      obtain ⟨g0, g1, g2, g3⟩ := kf'
      have hb2 := bel_alloc wr (boxT q)
      obtain ⟨f0, f1, f2, f3⟩ := box_four wr q
      simp only [Nat.zero_add] at f1 f2 f3
      obtain ⟨p0, p1⟩ := (KP.out wr hb).later hb2
      have hW2 : wr.alloc (.cells #[.int .i64 q.op, .string q.nm, .int .i64 q.n, .slice q.a q.ks.length q.c] 24) = wr.alloc (boxT q) := rfl
      have PI := mkHid (kin'.later hb2)
      have PW := mkHid (HW.out.later (bon hbw hb2))
      have hB2 := bon hb hb2
      generalize wr.alloc (boxT q) = W2 at *
      have hlk2 : l.length ≤ 2000 := by omega
      clear hlk
      rcases TR with ⟨z, hz1, C⟩ | ⟨er, hz1, C⟩
      · have CC := mkHid (C W2 PW.out PI.out)
        unfold Wd.val Tm.val at CC
        rw [joinE_ok hz1] at hal
        have HZ := mkHid (cntA_snoc x l z)
        clear C hz1 PI PW
        cases hzx : (z == x)
        · rw [hzx] at HZ
          go_wp2_with fail
          ((with_reducible refine CC.out.mono ?_)); rintro e w3 ⟨rfl, hb3⟩
          have B3 := bon hB2 hb3
          go_wp2
          go_roundw
          case rel => exact ⟨k + 1, _, l ++ [z], rfl, by omega, by omega, by rw [List.length_append, HLK.out]; rfl, by rw [HZ.out]; rfl, B3, hal⟩
          case measure => simp [intOf]; omega
        · rw [hzx] at HZ
          go_wp2_with fail
          ((with_reducible refine CC.out.mono ?_)); rintro e w3 ⟨rfl, hb3⟩
          have B3 := bon hB2 hb3
          go_wp2
          go_roundw
          case rel => exact ⟨k + 1, _, l ++ [z], rfl, by omega, by omega, by rw [List.length_append, HLK.out]; rfl, by rw [HZ.out]; go_num, B3, hal⟩
          case measure => simp [intOf]; omega
      · have CC := mkHid (C W2 PW.out PI.out)
        unfold Wd.val Tm.val at CC
        rw [joinE_err hz1] at hal
        clear C hz1 PI PW
        go_wp2_with fail
        ((with_reducible refine CC.out.mono ?_)); rintro e w3 ⟨rfl, hb3⟩
        exact ⟨rfl, .inr ⟨er, hal.out, rfl, bon hB0 (bon hB2 hb3)⟩⟩
    · have hal2 := hal.out
      rw [List.drop_eq_nil_of_le (by rw [HN.out]; omega)] at hal2
      have hal3 : Hid (evs W t.ks = .ok (l.map Vv.b)) := by
        show _ = _
        rw [hal2]; simp [joinE, evs]
      clear hal hal2
      have hln : Hid (l.length = t.ks.length) := by show _ = _; rw [HN.out, HLK.out]; omega
      clear hlk
      go_wp2
      go_ret
      exact .inl ⟨l, hal3.out, hln.out, rfl, hbw⟩

theorem times_ok (W : Wd) (t : Tm) (x : Bool) (l : List Bool) (w : World) (hW : WIn w w.heap.size W) (hin : TIn w w.heap.size t) (hz : t.ks.length ≤ 2000) (ih : ∀ k ∈ t.ks, TruthOf W k) (h : evs W t.ks = .ok (l.map Vv.b)) :
    Calls Tryz.prog 63 #[W.val, .slice t.a t.ks.length t.c, .bool x] w (RetI (cntA x l) w) := by
  refine (times_any W t x w hW hin hz ih).mono ?_
  rintro e w' (⟨l', h1, -, rfl, hb⟩ | ⟨k, h1, -⟩)
  · rw [h] at h1
    have h2 : l.map Vv.b = l'.map Vv.b := Except.ok.inj h1
    have : l = l' := (List.map_inj_right (fun _ _ h => Vv.b.inj h)).1 h2
    subst this
    exact ⟨rfl, hb⟩
  · rw [h] at h1; cases h1
theorem times_err (W : Wd) (t : Tm) (x : Bool) (k : Int) (w : World) (hW : WIn w w.heap.size W) (hin : TIn w w.heap.size t) (hz : t.ks.length ≤ 2000) (ih : ∀ k ∈ t.ks, TruthOf W k) (h : evs W t.ks = .error k) :
    Calls Tryz.prog 63 #[W.val, .slice t.a t.ks.length t.c, .bool x] w (PanK k w) := by
  refine (times_any W t x w hW hin hz ih).mono ?_
  rintro e w' (⟨l', h1, -⟩ | ⟨k', h1, h2⟩)
  · rw [h] at h1; cases h1
  · rw [h] at h1
    cases h1
    exact h2

set_option maxRecDepth 100000 in
set_option maxHeartbeats 2000000 in
theorem tru19_ok (W : Wd) (t : Tm) (hop : t.op = 19) (hz : t.ks.length ≤ 2000) (ih : ∀ k ∈ t.ks, TruthOf W k) {l : List Bool} (h : evs W t.ks = .ok (l.map Vv.b)) : CallsB W t (RetB (l.all id)) := by
  intro w hW ht
  have hb2 : Below w.heap.size w ((w.alloc (boxP W)).alloc (boxT t)) := bal (bal (Below.refl _ _) _) _
  have TP : TwoW ((w.alloc (boxP W)).alloc (boxT t)) w.heap.size W := (boxP_two w W).later (bel_alloc _ _)
  have TT : Four ((w.alloc (boxP W)).alloc (boxT t)) (w.heap.size + 1) 0 t := by have := box_four (w.alloc (boxP W)) t; simpa using this
  have TC := mkHid (times_ok W t false l _ (hW.later hb2) (ht.later hb2) hz ih h)
  have hW2 : (w.alloc (.cells #[.int .i64 W.nodes, .slice W.a W.l.length W.c] 55)).alloc (.cells #[.int .i64 t.op, .string t.nm, .int .i64 t.n, .slice t.a t.ks.length t.c] 24) = (w.alloc (boxP W)).alloc (boxT t) := rfl
  generalize (w.alloc (boxP W)).alloc (boxT t) = W2 at *
  obtain ⟨t0, t1⟩ := TP
  obtain ⟨u0, u1, u2, u3⟩ := TT
  simp only [Nat.zero_add] at u1 u2 u3
  unfold Wd.val at TC ⊢
  unfold Tm.val
  rw [hop] at u0 hW2 ⊢
  clear hW ht ih hz h hop
  have HC := mkHid (cntA_all l)
  go_enter Tryz.func43, Tryz.ntmps43
  go_wp2_with fail
  ((with_reducible refine TC.out.mono ?_)); rintro e w3 ⟨rfl, hb3⟩
  go_wp2
  go_ret
  exact ⟨by rw [← HC.out]; rfl, bon hb2 hb3⟩

set_option maxRecDepth 100000 in
set_option maxHeartbeats 2000000 in
theorem tru19_e (W : Wd) (t : Tm) (hop : t.op = 19) (hz : t.ks.length ≤ 2000) (ih : ∀ k ∈ t.ks, TruthOf W k) {e0 : Int} (h : evs W t.ks = .error e0) : CallsB W t (PanK e0) := by
  intro w hW ht
  have hb2 : Below w.heap.size w ((w.alloc (boxP W)).alloc (boxT t)) := bal (bal (Below.refl _ _) _) _
  have TP : TwoW ((w.alloc (boxP W)).alloc (boxT t)) w.heap.size W := (boxP_two w W).later (bel_alloc _ _)
  have TT : Four ((w.alloc (boxP W)).alloc (boxT t)) (w.heap.size + 1) 0 t := by have := box_four (w.alloc (boxP W)) t; simpa using this
  have TC := mkHid (times_err W t false e0 _ (hW.later hb2) (ht.later hb2) hz ih h)
  have hW2 : (w.alloc (.cells #[.int .i64 W.nodes, .slice W.a W.l.length W.c] 55)).alloc (.cells #[.int .i64 t.op, .string t.nm, .int .i64 t.n, .slice t.a t.ks.length t.c] 24) = (w.alloc (boxP W)).alloc (boxT t) := rfl
  generalize (w.alloc (boxP W)).alloc (boxT t) = W2 at *
  obtain ⟨t0, t1⟩ := TP
  obtain ⟨u0, u1, u2, u3⟩ := TT
  simp only [Nat.zero_add] at u1 u2 u3
  unfold Wd.val at TC ⊢
  unfold Tm.val
  rw [hop] at u0 hW2 ⊢
  clear hW ht ih hz h hop
  go_enter Tryz.func43, Tryz.ntmps43
  go_wp2_with fail
  ((with_reducible refine TC.out.mono ?_)); rintro e w3 ⟨rfl, hb3⟩
  exact ⟨rfl, rfl, bon hb2 hb3⟩

set_option maxRecDepth 100000 in
set_option maxHeartbeats 2000000 in
theorem tru20_ok (W : Wd) (t : Tm) (hop : t.op = 20) (hz : t.ks.length ≤ 2000) (ih : ∀ k ∈ t.ks, TruthOf W k) {l : List Bool} (h : evs W t.ks = .ok (l.map Vv.b)) : CallsB W t (RetB (l.any id)) := by
  intro w hW ht
  have hb2 : Below w.heap.size w ((w.alloc (boxP W)).alloc (boxT t)) := bal (bal (Below.refl _ _) _) _
  have TP : TwoW ((w.alloc (boxP W)).alloc (boxT t)) w.heap.size W := (boxP_two w W).later (bel_alloc _ _)
  have TT : Four ((w.alloc (boxP W)).alloc (boxT t)) (w.heap.size + 1) 0 t := by have := box_four (w.alloc (boxP W)) t; simpa using this
  have TC := mkHid (times_ok W t true l _ (hW.later hb2) (ht.later hb2) hz ih h)
  have hW2 : (w.alloc (.cells #[.int .i64 W.nodes, .slice W.a W.l.length W.c] 55)).alloc (.cells #[.int .i64 t.op, .string t.nm, .int .i64 t.n, .slice t.a t.ks.length t.c] 24) = (w.alloc (boxP W)).alloc (boxT t) := rfl
  generalize (w.alloc (boxP W)).alloc (boxT t) = W2 at *
  obtain ⟨t0, t1⟩ := TP
  obtain ⟨u0, u1, u2, u3⟩ := TT
  simp only [Nat.zero_add] at u1 u2 u3
  unfold Wd.val at TC ⊢
  unfold Tm.val
  rw [hop] at u0 hW2 ⊢
  clear hW ht ih hz h hop
  have HC := mkHid (cntA_any l)
  go_enter Tryz.func43, Tryz.ntmps43
  go_wp2_with fail
  ((with_reducible refine TC.out.mono ?_)); rintro e w3 ⟨rfl, hb3⟩
  go_wp2
  go_ret
  exact ⟨by rw [← HC.out]; rfl, bon hb2 hb3⟩

set_option maxRecDepth 100000 in
set_option maxHeartbeats 2000000 in
theorem tru20_e (W : Wd) (t : Tm) (hop : t.op = 20) (hz : t.ks.length ≤ 2000) (ih : ∀ k ∈ t.ks, TruthOf W k) {e0 : Int} (h : evs W t.ks = .error e0) : CallsB W t (PanK e0) := by
  intro w hW ht
  have hb2 : Below w.heap.size w ((w.alloc (boxP W)).alloc (boxT t)) := bal (bal (Below.refl _ _) _) _
  have TP : TwoW ((w.alloc (boxP W)).alloc (boxT t)) w.heap.size W := (boxP_two w W).later (bel_alloc _ _)
  have TT : Four ((w.alloc (boxP W)).alloc (boxT t)) (w.heap.size + 1) 0 t := by have := box_four (w.alloc (boxP W)) t; simpa using this
  have TC := mkHid (times_err W t true e0 _ (hW.later hb2) (ht.later hb2) hz ih h)
  have hW2 : (w.alloc (.cells #[.int .i64 W.nodes, .slice W.a W.l.length W.c] 55)).alloc (.cells #[.int .i64 t.op, .string t.nm, .int .i64 t.n, .slice t.a t.ks.length t.c] 24) = (w.alloc (boxP W)).alloc (boxT t) := rfl
  generalize (w.alloc (boxP W)).alloc (boxT t) = W2 at *
  obtain ⟨t0, t1⟩ := TP
  obtain ⟨u0, u1, u2, u3⟩ := TT
  simp only [Nat.zero_add] at u1 u2 u3
  unfold Wd.val at TC ⊢
  unfold Tm.val
  rw [hop] at u0 hW2 ⊢
  clear hW ht ih hz h hop
  go_enter Tryz.func43, Tryz.ntmps43
  go_wp2_with fail
  ((with_reducible refine TC.out.mono ?_)); rintro e w3 ⟨rfl, hb3⟩
  exact ⟨rfl, rfl, bon hb2 hb3⟩
end
end Go.Proofs.YtdfebacjbapahaaGreatDoor
