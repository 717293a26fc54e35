/-
  What SubstValues's proof stands on, part 16: EvGc.
-/
import Derived.Test.YtdfebacjbapahaaGreatDoorSubstValuesK12
import Derived.BigRegion
import Derived.Deep.RegionHeld2
namespace Go.Proofs.YtdfebacjbapahaaGreatDoor
section
open Go.RowKit

set_option maxRecDepth 100000 in
set_option maxHeartbeats 4000000 in
theorem tru25_e0 (W : Wd) (t : Tm) (k0 k1 : Tm) (hop : t.op = 25) (hks : t.ks = [k0, k1]) {e0 : Int} {P : World → Ending → World → Prop} (C0 : CallsD W k0 (PanK e0)) (C1 : CallsS W k1 P) : CallsB W t (PanK e0) := by
  intro w hW ht
  obtain ⟨op, nm, n, a, c, ks⟩ := t
  simp only [Tm.op, Tm.ks] at hop hks
  subst hop hks
  obtain ⟨kin0, b, o, ha, hbl, kf0⟩ := ht.kid 0 (by simp [Tm.ks])
  obtain ⟨kin1, b1, o1, ha1, hbl1, kf1⟩ := ht.kid 1 (by simp [Tm.ks])
  simp only [Tm.a, Tm.ks, List.getElem_cons_zero, List.getElem_cons_succ, Nat.zero_mul, Nat.one_mul, Nat.add_zero] at ha kin0 kf0 ha1 kin1 kf1
  subst ha
  cases ha1
  have htn := ht.nums
  simp only [Tm.op, Tm.nm, Tm.n, Tm.ks, Tm.c] at htn
  have hb2 : Below w.heap.size w ((w.alloc (boxP W)).alloc (.cells #[.int .i64 25, .string nm, .int .i64 n, .slice (some ⟨b, o, none⟩) 2 c] 24)) := bal (bal (Below.refl _ _) _) _
  have TP : TwoW ((w.alloc (boxP W)).alloc (.cells #[.int .i64 25, .string nm, .int .i64 n, .slice (some ⟨b, o, none⟩) 2 c] 24)) w.heap.size W := (boxP_two w W).later (bel_alloc _ _)
  have TT : ((w.alloc (boxP W)).alloc (.cells #[.int .i64 25, .string nm, .int .i64 n, .slice (some ⟨b, o, none⟩) 2 c] 24)).cell? ⟨w.heap.size + 1, 0, none⟩ = some (.int .i64 25) ∧ ((w.alloc (boxP W)).alloc (.cells #[.int .i64 25, .string nm, .int .i64 n, .slice (some ⟨b, o, none⟩) 2 c] 24)).cell? ⟨w.heap.size + 1, 1, none⟩ = some (.string nm) ∧ ((w.alloc (boxP W)).alloc (.cells #[.int .i64 25, .string nm, .int .i64 n, .slice (some ⟨b, o, none⟩) 2 c] 24)).cell? ⟨w.heap.size + 1, 2, none⟩ = some (.int .i64 n) ∧ ((w.alloc (boxP W)).alloc (.cells #[.int .i64 25, .string nm, .int .i64 n, .slice (some ⟨b, o, none⟩) 2 c] 24)).cell? ⟨w.heap.size + 1, 3, none⟩ = some (.slice (some ⟨b, o, none⟩) 2 c) := by simp [go_sem]
  have hW2 : (w.alloc (.cells #[.int .i64 W.nodes, .slice W.a W.l.length W.c] 55)).alloc (.cells #[.int .i64 25, .string nm, .int .i64 n, .slice (some ⟨b, o, none⟩) 2 c] 24) = (w.alloc (boxP W)).alloc (.cells #[.int .i64 25, .string nm, .int .i64 n, .slice (some ⟨b, o, none⟩) 2 c] 24) := rfl
  have hX2 : w.heap.size + 1 < ((w.alloc (boxP W)).alloc (.cells #[.int .i64 25, .string nm, .int .i64 n, .slice (some ⟨b, o, none⟩) 2 c] 24)).heap.size := by simp
  generalize (w.alloc (boxP W)).alloc (.cells #[.int .i64 25, .string nm, .int .i64 n, .slice (some ⟨b, o, none⟩) 2 c] 24) = W2 at *
  have P0 := mkHid (fun (w' : World) (hb : Below W2.heap.size W2 w') => C0 w' (hW.later (bon hb2 hb)) (kin0.later (bon hb2 hb)))
  unfold Wd.val Tm.val at P0
  obtain ⟨q00, q01, q02, q03⟩ : Four W2 b o k0 := Four.keep kf0 hb2 hbl
  have P1 := mkHid (fun (w' : World) (hb : Below W2.heap.size W2 w') => C1 w' (hW.later (bon hb2 hb)) (kin1.later (bon hb2 hb)))
  unfold Wd.val Tm.val at P1
  obtain ⟨q10, q11, q12, q13⟩ : Four W2 b (o + 4) k1 := Four.keep kf1 hb2 hbl1
  clear C0 kin0 kf0 C1 kin1 kf1
  unfold Wd.val Tm.val
  simp only [Tm.op, Tm.nm, Tm.n, Tm.a, Tm.ks, Tm.c, List.length_cons, List.length_nil, Nat.zero_add, Nat.reduceAdd]
  obtain ⟨t0, t1⟩ := TP
  obtain ⟨u0, u1, u2, u3⟩ := TT
  go_enter Tryz.func43, Tryz.ntmps43
  go_wp2_with fail
  (try dsimp only [List.append])
  refine wp_region_held_drew (S := fun w' => w'.cell? ⟨w.heap.size, 0, none⟩ = some (.int .i64 W.nodes) ∧ w'.cell? ⟨w.heap.size, 1, none⟩ = some (.slice W.a W.l.length W.c) ∧ w'.cell? ⟨w.heap.size + 1, 0, none⟩ = some (.int .i64 25) ∧ w'.cell? ⟨w.heap.size + 1, 1, none⟩ = some (.string nm) ∧ w'.cell? ⟨w.heap.size + 1, 2, none⟩ = some (.int .i64 n) ∧ w'.cell? ⟨w.heap.size + 1, 3, none⟩ = some (.slice (some ⟨b, o, none⟩) 2 c) ∧ w'.cell? ⟨b, o, none⟩ = some (.int .i64 k0.op) ∧ w'.cell? ⟨b, o + 1, none⟩ = some (.string k0.nm) ∧ w'.cell? ⟨b, o + 2, none⟩ = some (.int .i64 k0.n) ∧ w'.cell? ⟨b, o + 3, none⟩ = some (.slice k0.a k0.ks.length k0.c) ∧ w'.cell? ⟨b, o + 4, none⟩ = some (.int .i64 k1.op) ∧ w'.cell? ⟨b, o + 4 + 1, none⟩ = some (.string k1.nm) ∧ w'.cell? ⟨b, o + 4 + 2, none⟩ = some (.int .i64 k1.n) ∧ w'.cell? ⟨b, o + 4 + 3, none⟩ = some (.slice k1.a k1.ks.length k1.c)) (by kernel_rfl) ⟨t0, t1, u0, u1, u2, u3, q00, q01, q02, q03, q10, q11, q12, q13⟩ (fun hHeld => ?_)
  refine wpAnyH_take (i := 0) (v := ?_) rfl (by kernel_rfl) (by kernel_rfl) (by kernel_rfl) (fun _ _ _ h => h) (Or.inl ⟨by kernel_rfl, ?_⟩) (by assumption) ?_
  rotate_left
  · (intro w hSw; (try dsimp only at hSw); go_simp; try with_reducible rfl)
  simp only [Act.put, List.getElem_toArray, List.getElem_cons_zero, List.setIfInBounds_toArray, List.set_cons_zero, List.set_cons_succ]
  refine wpAnyH_take (i := 1) (v := ?_) rfl (by kernel_rfl) (by kernel_rfl) (by kernel_rfl) (fun _ _ _ h => h) (Or.inl ⟨by kernel_rfl, ?_⟩) (by assumption) ?_
  rotate_left
  · (intro w hSw; (try dsimp only at hSw); go_simp; try with_reducible rfl)
  simp only [Act.put, List.getElem_toArray, List.getElem_cons_succ, List.getElem_cons_zero, List.setIfInBounds_toArray, List.set_cons_zero, List.set_cons_succ]
  refine wpAnyH_take (i := 2) (v := ?_) rfl (by kernel_rfl) (by kernel_rfl) (by kernel_rfl) (fun _ _ _ h => h) (Or.inl ⟨by kernel_rfl, ?_⟩) (by assumption) ?_
  rotate_left
  · (intro w hSw; (try dsimp only at hSw); go_simp; try with_reducible rfl)
  simp only [Act.put, List.getElem_toArray, List.getElem_cons_succ, List.getElem_cons_zero, List.setIfInBounds_toArray, List.set_cons_zero, List.set_cons_succ]
  refine wpAnyH_take (i := 3) (v := ?_) rfl (by kernel_rfl) (by kernel_rfl) (by kernel_rfl) (fun _ _ _ h => h) (Or.inl ⟨by kernel_rfl, ?_⟩) (by assumption) ?_
  rotate_left
  · (intro w hSw; (try dsimp only at hSw); go_simp; try with_reducible rfl)
  simp only [Act.put, List.getElem_toArray, List.getElem_cons_succ, List.getElem_cons_zero, List.setIfInBounds_toArray, List.set_cons_zero, List.set_cons_succ]
  refine wpAnyH_take (i := 4) (v := ?_) rfl (by kernel_rfl) (by kernel_rfl) (by kernel_rfl) (fun _ _ _ h => h) (Or.inl ⟨by kernel_rfl, ?_⟩) (by assumption) ?_
  rotate_left
  · (intro w hSw; (try dsimp only at hSw); go_simp; try with_reducible rfl)
  simp only [Act.put, List.getElem_toArray, List.getElem_cons_succ, List.getElem_cons_zero, List.setIfInBounds_toArray, List.set_cons_zero, List.set_cons_succ]
  refine wpAnyH_take (i := 6) (v := ?_) rfl (by kernel_rfl) (by kernel_rfl) (by kernel_rfl) (fun _ _ _ h => h) (Or.inl ⟨by kernel_rfl, ?_⟩) (by assumption) ?_
  rotate_left
  · (intro w hSw; (try dsimp only at hSw); go_simp; try with_reducible rfl)
  simp only [Act.put, List.getElem_toArray, List.getElem_cons_succ, List.getElem_cons_zero, List.setIfInBounds_toArray, List.set_cons_zero, List.set_cons_succ]
  refine wpAnyH_take (i := 7) (v := ?_) rfl (by kernel_rfl) (by kernel_rfl) (by kernel_rfl) (fun _ _ _ h => h) (Or.inl ⟨by kernel_rfl, ?_⟩) (by assumption) ?_
  rotate_left
  · (intro w hSw; (try dsimp only at hSw); go_simp; try with_reducible rfl)
  simp only [Act.put, List.getElem_toArray, List.getElem_cons_succ, List.getElem_cons_zero, List.setIfInBounds_toArray, List.set_cons_zero, List.set_cons_succ]
  refine wpAnyH_take (i := 8) (v := ?_) rfl (by kernel_rfl) (by kernel_rfl) (by kernel_rfl) (fun _ _ _ h => h) (Or.inl ⟨by kernel_rfl, ?_⟩) (by assumption) ?_
  rotate_left
  · (intro w hSw; (try dsimp only at hSw); go_simp; try with_reducible rfl)
  simp only [Act.put, List.getElem_toArray, List.getElem_cons_succ, List.getElem_cons_zero, List.setIfInBounds_toArray, List.set_cons_zero, List.set_cons_succ]
  refine wpAnyH_take (i := 9) (v := ?_) rfl (by kernel_rfl) (by kernel_rfl) (by kernel_rfl) (fun _ _ _ h => h) (Or.inl ⟨by kernel_rfl, ?_⟩) (by assumption) ?_
  rotate_left
  · (intro w hSw; (try dsimp only at hSw); go_simp; try with_reducible rfl)
  simp only [Act.put, List.getElem_toArray, List.getElem_cons_succ, List.getElem_cons_zero, List.setIfInBounds_toArray, List.set_cons_zero, List.set_cons_succ]
  refine wpAnyH_take (i := 10) (v := ?_) rfl (by kernel_rfl) (by kernel_rfl) (by kernel_rfl) (fun _ _ _ h => h) (Or.inl ⟨by kernel_rfl, ?_⟩) (by assumption) ?_
  rotate_left
  · (intro w hSw; (try dsimp only at hSw); go_simp; try with_reducible rfl)
  simp only [Act.put, List.getElem_toArray, List.getElem_cons_succ, List.getElem_cons_zero, List.setIfInBounds_toArray, List.set_cons_zero, List.set_cons_succ]
  refine wpAnyH_ready (rs := [5]) (by kernel_rfl) (by simp) ?_
  refine AllReadyH.cons rfl (fun K hK => ?_) AllReadyH.nil
  go_simp
  go_wp2_with (go_at_call 42; ((with_reducible refine (P0.out _ (bdrew (Below.refl _ _))).mono ?_)); rintro e w1 ⟨rfl, hb1⟩)
  exact ⟨rfl, rfl, bon (bdrew hb2) hb1⟩

set_option maxRecDepth 100000 in
set_option maxHeartbeats 4000000 in
theorem tru25_e1 (W : Wd) (t : Tm) (k0 k1 : Tm) (hop : t.op = 25) (hks : t.ks = [k0, k1]) {n0 e1 : Int} (C0 : CallsD W k0 (RetI n0)) (C1 : CallsS W k1 (PanK e1)) : CallsB W t (PanK e1) := by
  intro w hW ht
  obtain ⟨op, nm, n, a, c, ks⟩ := t
  simp only [Tm.op, Tm.ks] at hop hks
  subst hop hks
  obtain ⟨kin0, b, o, ha, hbl, kf0⟩ := ht.kid 0 (by simp [Tm.ks])
  obtain ⟨kin1, b1, o1, ha1, hbl1, kf1⟩ := ht.kid 1 (by simp [Tm.ks])
  simp only [Tm.a, Tm.ks, List.getElem_cons_zero, List.getElem_cons_succ, Nat.zero_mul, Nat.one_mul, Nat.add_zero] at ha kin0 kf0 ha1 kin1 kf1
  subst ha
  cases ha1
  have htn := ht.nums
  simp only [Tm.op, Tm.nm, Tm.n, Tm.ks, Tm.c] at htn
  have hb2 : Below w.heap.size w ((w.alloc (boxP W)).alloc (.cells #[.int .i64 25, .string nm, .int .i64 n, .slice (some ⟨b, o, none⟩) 2 c] 24)) := bal (bal (Below.refl _ _) _) _
  have TP : TwoW ((w.alloc (boxP W)).alloc (.cells #[.int .i64 25, .string nm, .int .i64 n, .slice (some ⟨b, o, none⟩) 2 c] 24)) w.heap.size W := (boxP_two w W).later (bel_alloc _ _)
  have TT : ((w.alloc (boxP W)).alloc (.cells #[.int .i64 25, .string nm, .int .i64 n, .slice (some ⟨b, o, none⟩) 2 c] 24)).cell? ⟨w.heap.size + 1, 0, none⟩ = some (.int .i64 25) ∧ ((w.alloc (boxP W)).alloc (.cells #[.int .i64 25, .string nm, .int .i64 n, .slice (some ⟨b, o, none⟩) 2 c] 24)).cell? ⟨w.heap.size + 1, 1, none⟩ = some (.string nm) ∧ ((w.alloc (boxP W)).alloc (.cells #[.int .i64 25, .string nm, .int .i64 n, .slice (some ⟨b, o, none⟩) 2 c] 24)).cell? ⟨w.heap.size + 1, 2, none⟩ = some (.int .i64 n) ∧ ((w.alloc (boxP W)).alloc (.cells #[.int .i64 25, .string nm, .int .i64 n, .slice (some ⟨b, o, none⟩) 2 c] 24)).cell? ⟨w.heap.size + 1, 3, none⟩ = some (.slice (some ⟨b, o, none⟩) 2 c) := by simp [go_sem]
  have hW2 : (w.alloc (.cells #[.int .i64 W.nodes, .slice W.a W.l.length W.c] 55)).alloc (.cells #[.int .i64 25, .string nm, .int .i64 n, .slice (some ⟨b, o, none⟩) 2 c] 24) = (w.alloc (boxP W)).alloc (.cells #[.int .i64 25, .string nm, .int .i64 n, .slice (some ⟨b, o, none⟩) 2 c] 24) := rfl
  have hX2 : w.heap.size + 1 < ((w.alloc (boxP W)).alloc (.cells #[.int .i64 25, .string nm, .int .i64 n, .slice (some ⟨b, o, none⟩) 2 c] 24)).heap.size := by simp
  generalize (w.alloc (boxP W)).alloc (.cells #[.int .i64 25, .string nm, .int .i64 n, .slice (some ⟨b, o, none⟩) 2 c] 24) = W2 at *
  have P0 := mkHid (fun (w' : World) (hb : Below W2.heap.size W2 w') => C0 w' (hW.later (bon hb2 hb)) (kin0.later (bon hb2 hb)))
  unfold Wd.val Tm.val at P0
  obtain ⟨q00, q01, q02, q03⟩ : Four W2 b o k0 := Four.keep kf0 hb2 hbl
  have P1 := mkHid (fun (w' : World) (hb : Below W2.heap.size W2 w') => C1 w' (hW.later (bon hb2 hb)) (kin1.later (bon hb2 hb)))
  unfold Wd.val Tm.val at P1
  obtain ⟨q10, q11, q12, q13⟩ : Four W2 b (o + 4) k1 := Four.keep kf1 hb2 hbl1
  clear C0 kin0 kf0 C1 kin1 kf1
  unfold Wd.val Tm.val
  simp only [Tm.op, Tm.nm, Tm.n, Tm.a, Tm.ks, Tm.c, List.length_cons, List.length_nil, Nat.zero_add, Nat.reduceAdd]
  obtain ⟨t0, t1⟩ := TP
  obtain ⟨u0, u1, u2, u3⟩ := TT
  go_enter Tryz.func43, Tryz.ntmps43
  go_wp2_with fail
  (try dsimp only [List.append])
  refine wp_region_held_drew (S := fun w' => w'.cell? ⟨w.heap.size, 0, none⟩ = some (.int .i64 W.nodes) ∧ w'.cell? ⟨w.heap.size, 1, none⟩ = some (.slice W.a W.l.length W.c) ∧ w'.cell? ⟨w.heap.size + 1, 0, none⟩ = some (.int .i64 25) ∧ w'.cell? ⟨w.heap.size + 1, 1, none⟩ = some (.string nm) ∧ w'.cell? ⟨w.heap.size + 1, 2, none⟩ = some (.int .i64 n) ∧ w'.cell? ⟨w.heap.size + 1, 3, none⟩ = some (.slice (some ⟨b, o, none⟩) 2 c) ∧ w'.cell? ⟨b, o, none⟩ = some (.int .i64 k0.op) ∧ w'.cell? ⟨b, o + 1, none⟩ = some (.string k0.nm) ∧ w'.cell? ⟨b, o + 2, none⟩ = some (.int .i64 k0.n) ∧ w'.cell? ⟨b, o + 3, none⟩ = some (.slice k0.a k0.ks.length k0.c) ∧ w'.cell? ⟨b, o + 4, none⟩ = some (.int .i64 k1.op) ∧ w'.cell? ⟨b, o + 4 + 1, none⟩ = some (.string k1.nm) ∧ w'.cell? ⟨b, o + 4 + 2, none⟩ = some (.int .i64 k1.n) ∧ w'.cell? ⟨b, o + 4 + 3, none⟩ = some (.slice k1.a k1.ks.length k1.c)) (by kernel_rfl) ⟨t0, t1, u0, u1, u2, u3, q00, q01, q02, q03, q10, q11, q12, q13⟩ (fun hHeld => ?_)
  refine wpAnyH_take (i := 0) (v := ?_) rfl (by kernel_rfl) (by kernel_rfl) (by kernel_rfl) (fun _ _ _ h => h) (Or.inl ⟨by kernel_rfl, ?_⟩) (by assumption) ?_
  rotate_left
  · (intro w hSw; (try dsimp only at hSw); go_simp; try with_reducible rfl)
  simp only [Act.put, List.getElem_toArray, List.getElem_cons_zero, List.setIfInBounds_toArray, List.set_cons_zero, List.set_cons_succ]
  refine wpAnyH_take (i := 1) (v := ?_) rfl (by kernel_rfl) (by kernel_rfl) (by kernel_rfl) (fun _ _ _ h => h) (Or.inl ⟨by kernel_rfl, ?_⟩) (by assumption) ?_
  rotate_left
  · (intro w hSw; (try dsimp only at hSw); go_simp; try with_reducible rfl)
  simp only [Act.put, List.getElem_toArray, List.getElem_cons_succ, List.getElem_cons_zero, List.setIfInBounds_toArray, List.set_cons_zero, List.set_cons_succ]
  refine wpAnyH_take (i := 2) (v := ?_) rfl (by kernel_rfl) (by kernel_rfl) (by kernel_rfl) (fun _ _ _ h => h) (Or.inl ⟨by kernel_rfl, ?_⟩) (by assumption) ?_
  rotate_left
  · (intro w hSw; (try dsimp only at hSw); go_simp; try with_reducible rfl)
  simp only [Act.put, List.getElem_toArray, List.getElem_cons_succ, List.getElem_cons_zero, List.setIfInBounds_toArray, List.set_cons_zero, List.set_cons_succ]
  refine wpAnyH_take (i := 3) (v := ?_) rfl (by kernel_rfl) (by kernel_rfl) (by kernel_rfl) (fun _ _ _ h => h) (Or.inl ⟨by kernel_rfl, ?_⟩) (by assumption) ?_
  rotate_left
  · (intro w hSw; (try dsimp only at hSw); go_simp; try with_reducible rfl)
  simp only [Act.put, List.getElem_toArray, List.getElem_cons_succ, List.getElem_cons_zero, List.setIfInBounds_toArray, List.set_cons_zero, List.set_cons_succ]
  refine wpAnyH_take (i := 4) (v := ?_) rfl (by kernel_rfl) (by kernel_rfl) (by kernel_rfl) (fun _ _ _ h => h) (Or.inl ⟨by kernel_rfl, ?_⟩) (by assumption) ?_
  rotate_left
  · (intro w hSw; (try dsimp only at hSw); go_simp; try with_reducible rfl)
  simp only [Act.put, List.getElem_toArray, List.getElem_cons_succ, List.getElem_cons_zero, List.setIfInBounds_toArray, List.set_cons_zero, List.set_cons_succ]
  refine wpAnyH_take (i := 6) (v := ?_) rfl (by kernel_rfl) (by kernel_rfl) (by kernel_rfl) (fun _ _ _ h => h) (Or.inl ⟨by kernel_rfl, ?_⟩) (by assumption) ?_
  rotate_left
  · (intro w hSw; (try dsimp only at hSw); go_simp; try with_reducible rfl)
  simp only [Act.put, List.getElem_toArray, List.getElem_cons_succ, List.getElem_cons_zero, List.setIfInBounds_toArray, List.set_cons_zero, List.set_cons_succ]
  refine wpAnyH_take (i := 7) (v := ?_) rfl (by kernel_rfl) (by kernel_rfl) (by kernel_rfl) (fun _ _ _ h => h) (Or.inl ⟨by kernel_rfl, ?_⟩) (by assumption) ?_
  rotate_left
  · (intro w hSw; (try dsimp only at hSw); go_simp; try with_reducible rfl)
  simp only [Act.put, List.getElem_toArray, List.getElem_cons_succ, List.getElem_cons_zero, List.setIfInBounds_toArray, List.set_cons_zero, List.set_cons_succ]
  refine wpAnyH_take (i := 8) (v := ?_) rfl (by kernel_rfl) (by kernel_rfl) (by kernel_rfl) (fun _ _ _ h => h) (Or.inl ⟨by kernel_rfl, ?_⟩) (by assumption) ?_
  rotate_left
  · (intro w hSw; (try dsimp only at hSw); go_simp; try with_reducible rfl)
  simp only [Act.put, List.getElem_toArray, List.getElem_cons_succ, List.getElem_cons_zero, List.setIfInBounds_toArray, List.set_cons_zero, List.set_cons_succ]
  refine wpAnyH_take (i := 9) (v := ?_) rfl (by kernel_rfl) (by kernel_rfl) (by kernel_rfl) (fun _ _ _ h => h) (Or.inl ⟨by kernel_rfl, ?_⟩) (by assumption) ?_
  rotate_left
  · (intro w hSw; (try dsimp only at hSw); go_simp; try with_reducible rfl)
  simp only [Act.put, List.getElem_toArray, List.getElem_cons_succ, List.getElem_cons_zero, List.setIfInBounds_toArray, List.set_cons_zero, List.set_cons_succ]
  refine wpAnyH_take (i := 10) (v := ?_) rfl (by kernel_rfl) (by kernel_rfl) (by kernel_rfl) (fun _ _ _ h => h) (Or.inl ⟨by kernel_rfl, ?_⟩) (by assumption) ?_
  rotate_left
  · (intro w hSw; (try dsimp only at hSw); go_simp; try with_reducible rfl)
  simp only [Act.put, List.getElem_toArray, List.getElem_cons_succ, List.getElem_cons_zero, List.setIfInBounds_toArray, List.set_cons_zero, List.set_cons_succ]
  refine wpAnyH_ready (rs := [5]) (by kernel_rfl) (by simp) ?_
  refine AllReadyH.cons rfl (fun K hK => ?_) AllReadyH.nil
  go_simp
  go_wp2_with (go_at_call 42; ((with_reducible refine (P0.out _ (bdrew (Below.refl _ _))).mono ?_)); rintro e w1 ⟨rfl, hb1⟩)
  have B1 := bon (bdrew (Below.refl W2.heap.size W2)) hb1
  refine hK.out _ _ (keep2 (by assumption) hb1) (fun hHeld => ?_)
  clear hK
  refine wpAnyH_ready (rs := [11]) (by kernel_rfl) (by simp) ?_
  refine AllReadyH.cons rfl (fun K hK => ?_) AllReadyH.nil
  go_simp
  go_wp2_with (go_at_call 41; ((with_reducible refine (P1.out _ B1).mono ?_)); rintro e w3 ⟨rfl, hb3⟩)
  exact ⟨rfl, rfl, bon (bon hb2 B1) hb3⟩

set_option maxRecDepth 100000 in
set_option maxHeartbeats 4000000 in
theorem tru25_ok (W : Wd) (t : Tm) (k0 k1 : Tm) (hop : t.op = 25) (hks : t.ks = [k0, k1]) {n0 : Int} {l1 : List Bool} (C0 : CallsD W k0 (RetI n0)) (C1 : CallsS W k1 (RetS l1)) (h0 : 0 ≤ n0) (h1 : n0.toNat < l1.length) : CallsB W t (RetB (l1.getD n0.toNat false)) := by
  intro w hW ht
  obtain ⟨op, nm, n, a, c, ks⟩ := t
  simp only [Tm.op, Tm.ks] at hop hks
  subst hop hks
  obtain ⟨kin0, b, o, ha, hbl, kf0⟩ := ht.kid 0 (by simp [Tm.ks])
  obtain ⟨kin1, b1, o1, ha1, hbl1, kf1⟩ := ht.kid 1 (by simp [Tm.ks])
  simp only [Tm.a, Tm.ks, List.getElem_cons_zero, List.getElem_cons_succ, Nat.zero_mul, Nat.one_mul, Nat.add_zero] at ha kin0 kf0 ha1 kin1 kf1
  subst ha
  cases ha1
  have htn := ht.nums
  simp only [Tm.op, Tm.nm, Tm.n, Tm.ks, Tm.c] at htn
  have hb2 : Below w.heap.size w ((w.alloc (boxP W)).alloc (.cells #[.int .i64 25, .string nm, .int .i64 n, .slice (some ⟨b, o, none⟩) 2 c] 24)) := bal (bal (Below.refl _ _) _) _
  have TP : TwoW ((w.alloc (boxP W)).alloc (.cells #[.int .i64 25, .string nm, .int .i64 n, .slice (some ⟨b, o, none⟩) 2 c] 24)) w.heap.size W := (boxP_two w W).later (bel_alloc _ _)
  have TT : ((w.alloc (boxP W)).alloc (.cells #[.int .i64 25, .string nm, .int .i64 n, .slice (some ⟨b, o, none⟩) 2 c] 24)).cell? ⟨w.heap.size + 1, 0, none⟩ = some (.int .i64 25) ∧ ((w.alloc (boxP W)).alloc (.cells #[.int .i64 25, .string nm, .int .i64 n, .slice (some ⟨b, o, none⟩) 2 c] 24)).cell? ⟨w.heap.size + 1, 1, none⟩ = some (.string nm) ∧ ((w.alloc (boxP W)).alloc (.cells #[.int .i64 25, .string nm, .int .i64 n, .slice (some ⟨b, o, none⟩) 2 c] 24)).cell? ⟨w.heap.size + 1, 2, none⟩ = some (.int .i64 n) ∧ ((w.alloc (boxP W)).alloc (.cells #[.int .i64 25, .string nm, .int .i64 n, .slice (some ⟨b, o, none⟩) 2 c] 24)).cell? ⟨w.heap.size + 1, 3, none⟩ = some (.slice (some ⟨b, o, none⟩) 2 c) := by simp [go_sem]
  have hW2 : (w.alloc (.cells #[.int .i64 W.nodes, .slice W.a W.l.length W.c] 55)).alloc (.cells #[.int .i64 25, .string nm, .int .i64 n, .slice (some ⟨b, o, none⟩) 2 c] 24) = (w.alloc (boxP W)).alloc (.cells #[.int .i64 25, .string nm, .int .i64 n, .slice (some ⟨b, o, none⟩) 2 c] 24) := rfl
  have hX2 : w.heap.size + 1 < ((w.alloc (boxP W)).alloc (.cells #[.int .i64 25, .string nm, .int .i64 n, .slice (some ⟨b, o, none⟩) 2 c] 24)).heap.size := by simp
  generalize (w.alloc (boxP W)).alloc (.cells #[.int .i64 25, .string nm, .int .i64 n, .slice (some ⟨b, o, none⟩) 2 c] 24) = W2 at *
  have P0 := mkHid (fun (w' : World) (hb : Below W2.heap.size W2 w') => C0 w' (hW.later (bon hb2 hb)) (kin0.later (bon hb2 hb)))
  unfold Wd.val Tm.val at P0
  obtain ⟨q00, q01, q02, q03⟩ : Four W2 b o k0 := Four.keep kf0 hb2 hbl
  have P1 := mkHid (fun (w' : World) (hb : Below W2.heap.size W2 w') => C1 w' (hW.later (bon hb2 hb)) (kin1.later (bon hb2 hb)))
  unfold Wd.val Tm.val at P1
  obtain ⟨q10, q11, q12, q13⟩ : Four W2 b (o + 4) k1 := Four.keep kf1 hb2 hbl1
  clear C0 kin0 kf0 C1 kin1 kf1
  unfold Wd.val Tm.val
  simp only [Tm.op, Tm.nm, Tm.n, Tm.a, Tm.ks, Tm.c, List.length_cons, List.length_nil, Nat.zero_add, Nat.reduceAdd]
  obtain ⟨t0, t1⟩ := TP
  obtain ⟨u0, u1, u2, u3⟩ := TT
  go_enter Tryz.func43, Tryz.ntmps43
  go_wp2_with fail
  (try dsimp only [List.append])
  refine wp_region_held_drew (S := fun w' => w'.cell? ⟨w.heap.size, 0, none⟩ = some (.int .i64 W.nodes) ∧ w'.cell? ⟨w.heap.size, 1, none⟩ = some (.slice W.a W.l.length W.c) ∧ w'.cell? ⟨w.heap.size + 1, 0, none⟩ = some (.int .i64 25) ∧ w'.cell? ⟨w.heap.size + 1, 1, none⟩ = some (.string nm) ∧ w'.cell? ⟨w.heap.size + 1, 2, none⟩ = some (.int .i64 n) ∧ w'.cell? ⟨w.heap.size + 1, 3, none⟩ = some (.slice (some ⟨b, o, none⟩) 2 c) ∧ w'.cell? ⟨b, o, none⟩ = some (.int .i64 k0.op) ∧ w'.cell? ⟨b, o + 1, none⟩ = some (.string k0.nm) ∧ w'.cell? ⟨b, o + 2, none⟩ = some (.int .i64 k0.n) ∧ w'.cell? ⟨b, o + 3, none⟩ = some (.slice k0.a k0.ks.length k0.c) ∧ w'.cell? ⟨b, o + 4, none⟩ = some (.int .i64 k1.op) ∧ w'.cell? ⟨b, o + 4 + 1, none⟩ = some (.string k1.nm) ∧ w'.cell? ⟨b, o + 4 + 2, none⟩ = some (.int .i64 k1.n) ∧ w'.cell? ⟨b, o + 4 + 3, none⟩ = some (.slice k1.a k1.ks.length k1.c)) (by kernel_rfl) ⟨t0, t1, u0, u1, u2, u3, q00, q01, q02, q03, q10, q11, q12, q13⟩ (fun hHeld => ?_)
  refine wpAnyH_take (i := 0) (v := ?_) rfl (by kernel_rfl) (by kernel_rfl) (by kernel_rfl) (fun _ _ _ h => h) (Or.inl ⟨by kernel_rfl, ?_⟩) (by assumption) ?_
  rotate_left
  · (intro w hSw; (try dsimp only at hSw); go_simp; try with_reducible rfl)
  simp only [Act.put, List.getElem_toArray, List.getElem_cons_zero, List.setIfInBounds_toArray, List.set_cons_zero, List.set_cons_succ]
  refine wpAnyH_take (i := 1) (v := ?_) rfl (by kernel_rfl) (by kernel_rfl) (by kernel_rfl) (fun _ _ _ h => h) (Or.inl ⟨by kernel_rfl, ?_⟩) (by assumption) ?_
  rotate_left
  · (intro w hSw; (try dsimp only at hSw); go_simp; try with_reducible rfl)
  simp only [Act.put, List.getElem_toArray, List.getElem_cons_succ, List.getElem_cons_zero, List.setIfInBounds_toArray, List.set_cons_zero, List.set_cons_succ]
  refine wpAnyH_take (i := 2) (v := ?_) rfl (by kernel_rfl) (by kernel_rfl) (by kernel_rfl) (fun _ _ _ h => h) (Or.inl ⟨by kernel_rfl, ?_⟩) (by assumption) ?_
  rotate_left
  · (intro w hSw; (try dsimp only at hSw); go_simp; try with_reducible rfl)
  simp only [Act.put, List.getElem_toArray, List.getElem_cons_succ, List.getElem_cons_zero, List.setIfInBounds_toArray, List.set_cons_zero, List.set_cons_succ]
  refine wpAnyH_take (i := 3) (v := ?_) rfl (by kernel_rfl) (by kernel_rfl) (by kernel_rfl) (fun _ _ _ h => h) (Or.inl ⟨by kernel_rfl, ?_⟩) (by assumption) ?_
  rotate_left
  · (intro w hSw; (try dsimp only at hSw); go_simp; try with_reducible rfl)
  simp only [Act.put, List.getElem_toArray, List.getElem_cons_succ, List.getElem_cons_zero, List.setIfInBounds_toArray, List.set_cons_zero, List.set_cons_succ]
  refine wpAnyH_take (i := 4) (v := ?_) rfl (by kernel_rfl) (by kernel_rfl) (by kernel_rfl) (fun _ _ _ h => h) (Or.inl ⟨by kernel_rfl, ?_⟩) (by assumption) ?_
  rotate_left
  · (intro w hSw; (try dsimp only at hSw); go_simp; try with_reducible rfl)
  simp only [Act.put, List.getElem_toArray, List.getElem_cons_succ, List.getElem_cons_zero, List.setIfInBounds_toArray, List.set_cons_zero, List.set_cons_succ]
  refine wpAnyH_take (i := 6) (v := ?_) rfl (by kernel_rfl) (by kernel_rfl) (by kernel_rfl) (fun _ _ _ h => h) (Or.inl ⟨by kernel_rfl, ?_⟩) (by assumption) ?_
  rotate_left
  · (intro w hSw; (try dsimp only at hSw); go_simp; try with_reducible rfl)
  simp only [Act.put, List.getElem_toArray, List.getElem_cons_succ, List.getElem_cons_zero, List.setIfInBounds_toArray, List.set_cons_zero, List.set_cons_succ]
  refine wpAnyH_take (i := 7) (v := ?_) rfl (by kernel_rfl) (by kernel_rfl) (by kernel_rfl) (fun _ _ _ h => h) (Or.inl ⟨by kernel_rfl, ?_⟩) (by assumption) ?_
  rotate_left
  · (intro w hSw; (try dsimp only at hSw); go_simp; try with_reducible rfl)
  simp only [Act.put, List.getElem_toArray, List.getElem_cons_succ, List.getElem_cons_zero, List.setIfInBounds_toArray, List.set_cons_zero, List.set_cons_succ]
  refine wpAnyH_take (i := 8) (v := ?_) rfl (by kernel_rfl) (by kernel_rfl) (by kernel_rfl) (fun _ _ _ h => h) (Or.inl ⟨by kernel_rfl, ?_⟩) (by assumption) ?_
  rotate_left
  · (intro w hSw; (try dsimp only at hSw); go_simp; try with_reducible rfl)
  simp only [Act.put, List.getElem_toArray, List.getElem_cons_succ, List.getElem_cons_zero, List.setIfInBounds_toArray, List.set_cons_zero, List.set_cons_succ]
  refine wpAnyH_take (i := 9) (v := ?_) rfl (by kernel_rfl) (by kernel_rfl) (by kernel_rfl) (fun _ _ _ h => h) (Or.inl ⟨by kernel_rfl, ?_⟩) (by assumption) ?_
  rotate_left
  · (intro w hSw; (try dsimp only at hSw); go_simp; try with_reducible rfl)
  simp only [Act.put, List.getElem_toArray, List.getElem_cons_succ, List.getElem_cons_zero, List.setIfInBounds_toArray, List.set_cons_zero, List.set_cons_succ]
  refine wpAnyH_take (i := 10) (v := ?_) rfl (by kernel_rfl) (by kernel_rfl) (by kernel_rfl) (fun _ _ _ h => h) (Or.inl ⟨by kernel_rfl, ?_⟩) (by assumption) ?_
  rotate_left
  · (intro w hSw; (try dsimp only at hSw); go_simp; try with_reducible rfl)
  simp only [Act.put, List.getElem_toArray, List.getElem_cons_succ, List.getElem_cons_zero, List.setIfInBounds_toArray, List.set_cons_zero, List.set_cons_succ]
  refine wpAnyH_ready (rs := [5]) (by kernel_rfl) (by simp) ?_
  refine AllReadyH.cons rfl (fun K hK => ?_) AllReadyH.nil
  go_simp
  go_wp2_with (go_at_call 42; ((with_reducible refine (P0.out _ (bdrew (Below.refl _ _))).mono ?_)); rintro e w1 ⟨rfl, hb1⟩)
  have B1 := bon (bdrew (Below.refl W2.heap.size W2)) hb1
  refine hK.out _ _ (keep2 (by assumption) hb1) (fun hHeld => ?_)
  clear hK
  refine wpAnyH_ready (rs := [11]) (by kernel_rfl) (by simp) ?_
  refine AllReadyH.cons rfl (fun K hK => ?_) AllReadyH.nil
  go_simp
  go_wp2_with (go_at_call 41; ((with_reducible refine (P1.out _ B1).mono ?_)); rintro e w3 ⟨g1, c1, rfl, ho1, hb3⟩)
  refine hK.out _ _ (keep2 (by assumption) hb3) (fun hHeld => ?_)
  clear hK
  refine wpAnyH_take (i := 12) (v := ?_) rfl (by kernel_rfl) (by kernel_rfl) (by kernel_rfl) (fun _ _ _ h => h) (Or.inl ⟨by kernel_rfl, ?_⟩) (by assumption) ?_
  rotate_left
  · (intro w hSw; (try dsimp only at hSw); go_simp; try with_reducible rfl)
  simp only [Act.put, List.getElem_toArray, List.getElem_cons_succ, List.getElem_cons_zero, List.setIfInBounds_toArray, List.set_cons_zero, List.set_cons_succ]
  refine wpAnyH_take (i := 13) (v := ?_) rfl (by kernel_rfl) (by kernel_rfl) (by kernel_rfl) (fun _ _ _ h => h) (Or.inl ⟨by kernel_rfl, ?_⟩) (by assumption) ?_
  rotate_left
  · (intro w hSw; (try dsimp only at hSw); go_simp; try with_reducible rfl)
  simp only [Act.put, List.getElem_toArray, List.getElem_cons_succ, List.getElem_cons_zero, List.setIfInBounds_toArray, List.set_cons_zero, List.set_cons_succ]
  refine wpAnyH_done (by kernel_rfl) ?_ _
  have BW := bon (bon hb2 B1) hb3
  obtain ⟨b', o', e, -, cb⟩ := Own.bin ho1 n0.toNat h1
  cases e
  rw [Nat.zero_add] at cb
  have hgd : Hid (l1.getD n0.toNat false = l1[n0.toNat]) := by show _ = _; simp [List.getD, h1]
  have hlt : n0 < (l1.length : Int) := by omega
  go_wp2
  go_ret
  exact ⟨by rw [hgd.out]; rfl, BW⟩

set_option maxRecDepth 100000 in
set_option maxHeartbeats 4000000 in
theorem tru26_e0 (W : Wd) (t : Tm) (k0 k1 : Tm) (hop : t.op = 26) (hks : t.ks = [k0, k1]) {e0 : Int} {P : World → Ending → World → Prop} (C0 : CallsS W k0 (PanK e0)) (C1 : CallsS W k1 P) : CallsB W t (PanK e0) := by
  intro w hW ht
  obtain ⟨op, nm, n, a, c, ks⟩ := t
  simp only [Tm.op, Tm.ks] at hop hks
  subst hop hks
  obtain ⟨kin0, b, o, ha, hbl, kf0⟩ := ht.kid 0 (by simp [Tm.ks])
  obtain ⟨kin1, b1, o1, ha1, hbl1, kf1⟩ := ht.kid 1 (by simp [Tm.ks])
  simp only [Tm.a, Tm.ks, List.getElem_cons_zero, List.getElem_cons_succ, Nat.zero_mul, Nat.one_mul, Nat.add_zero] at ha kin0 kf0 ha1 kin1 kf1
  subst ha
  cases ha1
  have htn := ht.nums
  simp only [Tm.op, Tm.nm, Tm.n, Tm.ks, Tm.c] at htn
  have hb2 : Below w.heap.size w ((w.alloc (boxP W)).alloc (.cells #[.int .i64 26, .string nm, .int .i64 n, .slice (some ⟨b, o, none⟩) 2 c] 24)) := bal (bal (Below.refl _ _) _) _
  have TP : TwoW ((w.alloc (boxP W)).alloc (.cells #[.int .i64 26, .string nm, .int .i64 n, .slice (some ⟨b, o, none⟩) 2 c] 24)) w.heap.size W := (boxP_two w W).later (bel_alloc _ _)
  have TT : ((w.alloc (boxP W)).alloc (.cells #[.int .i64 26, .string nm, .int .i64 n, .slice (some ⟨b, o, none⟩) 2 c] 24)).cell? ⟨w.heap.size + 1, 0, none⟩ = some (.int .i64 26) ∧ ((w.alloc (boxP W)).alloc (.cells #[.int .i64 26, .string nm, .int .i64 n, .slice (some ⟨b, o, none⟩) 2 c] 24)).cell? ⟨w.heap.size + 1, 1, none⟩ = some (.string nm) ∧ ((w.alloc (boxP W)).alloc (.cells #[.int .i64 26, .string nm, .int .i64 n, .slice (some ⟨b, o, none⟩) 2 c] 24)).cell? ⟨w.heap.size + 1, 2, none⟩ = some (.int .i64 n) ∧ ((w.alloc (boxP W)).alloc (.cells #[.int .i64 26, .string nm, .int .i64 n, .slice (some ⟨b, o, none⟩) 2 c] 24)).cell? ⟨w.heap.size + 1, 3, none⟩ = some (.slice (some ⟨b, o, none⟩) 2 c) := by simp [go_sem]
  have hW2 : (w.alloc (.cells #[.int .i64 W.nodes, .slice W.a W.l.length W.c] 55)).alloc (.cells #[.int .i64 26, .string nm, .int .i64 n, .slice (some ⟨b, o, none⟩) 2 c] 24) = (w.alloc (boxP W)).alloc (.cells #[.int .i64 26, .string nm, .int .i64 n, .slice (some ⟨b, o, none⟩) 2 c] 24) := rfl
  have hX2 : w.heap.size + 1 < ((w.alloc (boxP W)).alloc (.cells #[.int .i64 26, .string nm, .int .i64 n, .slice (some ⟨b, o, none⟩) 2 c] 24)).heap.size := by simp
  generalize (w.alloc (boxP W)).alloc (.cells #[.int .i64 26, .string nm, .int .i64 n, .slice (some ⟨b, o, none⟩) 2 c] 24) = W2 at *
  have P0 := mkHid (fun (w' : World) (hb : Below W2.heap.size W2 w') => C0 w' (hW.later (bon hb2 hb)) (kin0.later (bon hb2 hb)))
  unfold Wd.val Tm.val at P0
  obtain ⟨q00, q01, q02, q03⟩ : Four W2 b o k0 := Four.keep kf0 hb2 hbl
  have P1 := mkHid (fun (w' : World) (hb : Below W2.heap.size W2 w') => C1 w' (hW.later (bon hb2 hb)) (kin1.later (bon hb2 hb)))
  unfold Wd.val Tm.val at P1
  obtain ⟨q10, q11, q12, q13⟩ : Four W2 b (o + 4) k1 := Four.keep kf1 hb2 hbl1
  clear C0 kin0 kf0 C1 kin1 kf1
  unfold Wd.val Tm.val
  simp only [Tm.op, Tm.nm, Tm.n, Tm.a, Tm.ks, Tm.c, List.length_cons, List.length_nil, Nat.zero_add, Nat.reduceAdd]
  obtain ⟨t0, t1⟩ := TP
  obtain ⟨u0, u1, u2, u3⟩ := TT
  go_enter Tryz.func43, Tryz.ntmps43
  go_wp2_with fail
  (try dsimp only [List.append])
  refine wp_region_held_drew (S := fun w' => w'.cell? ⟨w.heap.size, 0, none⟩ = some (.int .i64 W.nodes) ∧ w'.cell? ⟨w.heap.size, 1, none⟩ = some (.slice W.a W.l.length W.c) ∧ w'.cell? ⟨w.heap.size + 1, 0, none⟩ = some (.int .i64 26) ∧ w'.cell? ⟨w.heap.size + 1, 1, none⟩ = some (.string nm) ∧ w'.cell? ⟨w.heap.size + 1, 2, none⟩ = some (.int .i64 n) ∧ w'.cell? ⟨w.heap.size + 1, 3, none⟩ = some (.slice (some ⟨b, o, none⟩) 2 c) ∧ w'.cell? ⟨b, o, none⟩ = some (.int .i64 k0.op) ∧ w'.cell? ⟨b, o + 1, none⟩ = some (.string k0.nm) ∧ w'.cell? ⟨b, o + 2, none⟩ = some (.int .i64 k0.n) ∧ w'.cell? ⟨b, o + 3, none⟩ = some (.slice k0.a k0.ks.length k0.c) ∧ w'.cell? ⟨b, o + 4, none⟩ = some (.int .i64 k1.op) ∧ w'.cell? ⟨b, o + 4 + 1, none⟩ = some (.string k1.nm) ∧ w'.cell? ⟨b, o + 4 + 2, none⟩ = some (.int .i64 k1.n) ∧ w'.cell? ⟨b, o + 4 + 3, none⟩ = some (.slice k1.a k1.ks.length k1.c)) (by kernel_rfl) ⟨t0, t1, u0, u1, u2, u3, q00, q01, q02, q03, q10, q11, q12, q13⟩ (fun hHeld => ?_)
  refine wpAnyH_take (i := 0) (v := ?_) rfl (by kernel_rfl) (by kernel_rfl) (by kernel_rfl) (fun _ _ _ h => h) (Or.inl ⟨by kernel_rfl, ?_⟩) (by assumption) ?_
  rotate_left
  · (intro w hSw; (try dsimp only at hSw); go_simp; try with_reducible rfl)
  simp only [Act.put, List.getElem_toArray, List.getElem_cons_zero, List.setIfInBounds_toArray, List.set_cons_zero, List.set_cons_succ]
  refine wpAnyH_take (i := 1) (v := ?_) rfl (by kernel_rfl) (by kernel_rfl) (by kernel_rfl) (fun _ _ _ h => h) (Or.inl ⟨by kernel_rfl, ?_⟩) (by assumption) ?_
  rotate_left
  · (intro w hSw; (try dsimp only at hSw); go_simp; try with_reducible rfl)
  simp only [Act.put, List.getElem_toArray, List.getElem_cons_succ, List.getElem_cons_zero, List.setIfInBounds_toArray, List.set_cons_zero, List.set_cons_succ]
  refine wpAnyH_take (i := 2) (v := ?_) rfl (by kernel_rfl) (by kernel_rfl) (by kernel_rfl) (fun _ _ _ h => h) (Or.inl ⟨by kernel_rfl, ?_⟩) (by assumption) ?_
  rotate_left
  · (intro w hSw; (try dsimp only at hSw); go_simp; try with_reducible rfl)
  simp only [Act.put, List.getElem_toArray, List.getElem_cons_succ, List.getElem_cons_zero, List.setIfInBounds_toArray, List.set_cons_zero, List.set_cons_succ]
  refine wpAnyH_take (i := 3) (v := ?_) rfl (by kernel_rfl) (by kernel_rfl) (by kernel_rfl) (fun _ _ _ h => h) (Or.inl ⟨by kernel_rfl, ?_⟩) (by assumption) ?_
  rotate_left
  · (intro w hSw; (try dsimp only at hSw); go_simp; try with_reducible rfl)
  simp only [Act.put, List.getElem_toArray, List.getElem_cons_succ, List.getElem_cons_zero, List.setIfInBounds_toArray, List.set_cons_zero, List.set_cons_succ]
  refine wpAnyH_take (i := 4) (v := ?_) rfl (by kernel_rfl) (by kernel_rfl) (by kernel_rfl) (fun _ _ _ h => h) (Or.inl ⟨by kernel_rfl, ?_⟩) (by assumption) ?_
  rotate_left
  · (intro w hSw; (try dsimp only at hSw); go_simp; try with_reducible rfl)
  simp only [Act.put, List.getElem_toArray, List.getElem_cons_succ, List.getElem_cons_zero, List.setIfInBounds_toArray, List.set_cons_zero, List.set_cons_succ]
  refine wpAnyH_take (i := 6) (v := ?_) rfl (by kernel_rfl) (by kernel_rfl) (by kernel_rfl) (fun _ _ _ h => h) (Or.inl ⟨by kernel_rfl, ?_⟩) (by assumption) ?_
  rotate_left
  · (intro w hSw; (try dsimp only at hSw); go_simp; try with_reducible rfl)
  simp only [Act.put, List.getElem_toArray, List.getElem_cons_succ, List.getElem_cons_zero, List.setIfInBounds_toArray, List.set_cons_zero, List.set_cons_succ]
  refine wpAnyH_take (i := 7) (v := ?_) rfl (by kernel_rfl) (by kernel_rfl) (by kernel_rfl) (fun _ _ _ h => h) (Or.inl ⟨by kernel_rfl, ?_⟩) (by assumption) ?_
  rotate_left
  · (intro w hSw; (try dsimp only at hSw); go_simp; try with_reducible rfl)
  simp only [Act.put, List.getElem_toArray, List.getElem_cons_succ, List.getElem_cons_zero, List.setIfInBounds_toArray, List.set_cons_zero, List.set_cons_succ]
  refine wpAnyH_take (i := 8) (v := ?_) rfl (by kernel_rfl) (by kernel_rfl) (by kernel_rfl) (fun _ _ _ h => h) (Or.inl ⟨by kernel_rfl, ?_⟩) (by assumption) ?_
  rotate_left
  · (intro w hSw; (try dsimp only at hSw); go_simp; try with_reducible rfl)
  simp only [Act.put, List.getElem_toArray, List.getElem_cons_succ, List.getElem_cons_zero, List.setIfInBounds_toArray, List.set_cons_zero, List.set_cons_succ]
  refine wpAnyH_take (i := 9) (v := ?_) rfl (by kernel_rfl) (by kernel_rfl) (by kernel_rfl) (fun _ _ _ h => h) (Or.inl ⟨by kernel_rfl, ?_⟩) (by assumption) ?_
  rotate_left
  · (intro w hSw; (try dsimp only at hSw); go_simp; try with_reducible rfl)
  simp only [Act.put, List.getElem_toArray, List.getElem_cons_succ, List.getElem_cons_zero, List.setIfInBounds_toArray, List.set_cons_zero, List.set_cons_succ]
  refine wpAnyH_take (i := 10) (v := ?_) rfl (by kernel_rfl) (by kernel_rfl) (by kernel_rfl) (fun _ _ _ h => h) (Or.inl ⟨by kernel_rfl, ?_⟩) (by assumption) ?_
  rotate_left
  · (intro w hSw; (try dsimp only at hSw); go_simp; try with_reducible rfl)
  simp only [Act.put, List.getElem_toArray, List.getElem_cons_succ, List.getElem_cons_zero, List.setIfInBounds_toArray, List.set_cons_zero, List.set_cons_succ]
  refine wpAnyH_ready (rs := [5]) (by kernel_rfl) (by simp) ?_
  refine AllReadyH.cons rfl (fun K hK => ?_) AllReadyH.nil
  go_simp
  go_wp2_with (go_at_call 41; ((with_reducible refine (P0.out _ (bdrew (Below.refl _ _))).mono ?_)); rintro e w1 ⟨rfl, hb1⟩)
  exact ⟨rfl, rfl, bon (bdrew hb2) hb1⟩

set_option maxRecDepth 100000 in
set_option maxHeartbeats 4000000 in
theorem tru26_e1 (W : Wd) (t : Tm) (k0 k1 : Tm) (hop : t.op = 26) (hks : t.ks = [k0, k1]) {l0 : List Bool} {e1 : Int} (C0 : CallsS W k0 (RetS l0)) (C1 : CallsS W k1 (PanK e1)) : CallsB W t (PanK e1) := by
  intro w hW ht
  obtain ⟨op, nm, n, a, c, ks⟩ := t
  simp only [Tm.op, Tm.ks] at hop hks
  subst hop hks
  obtain ⟨kin0, b, o, ha, hbl, kf0⟩ := ht.kid 0 (by simp [Tm.ks])
  obtain ⟨kin1, b1, o1, ha1, hbl1, kf1⟩ := ht.kid 1 (by simp [Tm.ks])
  simp only [Tm.a, Tm.ks, List.getElem_cons_zero, List.getElem_cons_succ, Nat.zero_mul, Nat.one_mul, Nat.add_zero] at ha kin0 kf0 ha1 kin1 kf1
  subst ha
  cases ha1
  have htn := ht.nums
  simp only [Tm.op, Tm.nm, Tm.n, Tm.ks, Tm.c] at htn
  have hb2 : Below w.heap.size w ((w.alloc (boxP W)).alloc (.cells #[.int .i64 26, .string nm, .int .i64 n, .slice (some ⟨b, o, none⟩) 2 c] 24)) := bal (bal (Below.refl _ _) _) _
  have TP : TwoW ((w.alloc (boxP W)).alloc (.cells #[.int .i64 26, .string nm, .int .i64 n, .slice (some ⟨b, o, none⟩) 2 c] 24)) w.heap.size W := (boxP_two w W).later (bel_alloc _ _)
  have TT : ((w.alloc (boxP W)).alloc (.cells #[.int .i64 26, .string nm, .int .i64 n, .slice (some ⟨b, o, none⟩) 2 c] 24)).cell? ⟨w.heap.size + 1, 0, none⟩ = some (.int .i64 26) ∧ ((w.alloc (boxP W)).alloc (.cells #[.int .i64 26, .string nm, .int .i64 n, .slice (some ⟨b, o, none⟩) 2 c] 24)).cell? ⟨w.heap.size + 1, 1, none⟩ = some (.string nm) ∧ ((w.alloc (boxP W)).alloc (.cells #[.int .i64 26, .string nm, .int .i64 n, .slice (some ⟨b, o, none⟩) 2 c] 24)).cell? ⟨w.heap.size + 1, 2, none⟩ = some (.int .i64 n) ∧ ((w.alloc (boxP W)).alloc (.cells #[.int .i64 26, .string nm, .int .i64 n, .slice (some ⟨b, o, none⟩) 2 c] 24)).cell? ⟨w.heap.size + 1, 3, none⟩ = some (.slice (some ⟨b, o, none⟩) 2 c) := by simp [go_sem]
  have hW2 : (w.alloc (.cells #[.int .i64 W.nodes, .slice W.a W.l.length W.c] 55)).alloc (.cells #[.int .i64 26, .string nm, .int .i64 n, .slice (some ⟨b, o, none⟩) 2 c] 24) = (w.alloc (boxP W)).alloc (.cells #[.int .i64 26, .string nm, .int .i64 n, .slice (some ⟨b, o, none⟩) 2 c] 24) := rfl
  have hX2 : w.heap.size + 1 < ((w.alloc (boxP W)).alloc (.cells #[.int .i64 26, .string nm, .int .i64 n, .slice (some ⟨b, o, none⟩) 2 c] 24)).heap.size := by simp
  generalize (w.alloc (boxP W)).alloc (.cells #[.int .i64 26, .string nm, .int .i64 n, .slice (some ⟨b, o, none⟩) 2 c] 24) = W2 at *
  have P0 := mkHid (fun (w' : World) (hb : Below W2.heap.size W2 w') => C0 w' (hW.later (bon hb2 hb)) (kin0.later (bon hb2 hb)))
  unfold Wd.val Tm.val at P0
  obtain ⟨q00, q01, q02, q03⟩ : Four W2 b o k0 := Four.keep kf0 hb2 hbl
  have P1 := mkHid (fun (w' : World) (hb : Below W2.heap.size W2 w') => C1 w' (hW.later (bon hb2 hb)) (kin1.later (bon hb2 hb)))
  unfold Wd.val Tm.val at P1
  obtain ⟨q10, q11, q12, q13⟩ : Four W2 b (o + 4) k1 := Four.keep kf1 hb2 hbl1
  clear C0 kin0 kf0 C1 kin1 kf1
  unfold Wd.val Tm.val
  simp only [Tm.op, Tm.nm, Tm.n, Tm.a, Tm.ks, Tm.c, List.length_cons, List.length_nil, Nat.zero_add, Nat.reduceAdd]
  obtain ⟨t0, t1⟩ := TP
  obtain ⟨u0, u1, u2, u3⟩ := TT
  go_enter Tryz.func43, Tryz.ntmps43
  go_wp2_with fail
  (try dsimp only [List.append])
  refine wp_region_held_drew (S := fun w' => w'.cell? ⟨w.heap.size, 0, none⟩ = some (.int .i64 W.nodes) ∧ w'.cell? ⟨w.heap.size, 1, none⟩ = some (.slice W.a W.l.length W.c) ∧ w'.cell? ⟨w.heap.size + 1, 0, none⟩ = some (.int .i64 26) ∧ w'.cell? ⟨w.heap.size + 1, 1, none⟩ = some (.string nm) ∧ w'.cell? ⟨w.heap.size + 1, 2, none⟩ = some (.int .i64 n) ∧ w'.cell? ⟨w.heap.size + 1, 3, none⟩ = some (.slice (some ⟨b, o, none⟩) 2 c) ∧ w'.cell? ⟨b, o, none⟩ = some (.int .i64 k0.op) ∧ w'.cell? ⟨b, o + 1, none⟩ = some (.string k0.nm) ∧ w'.cell? ⟨b, o + 2, none⟩ = some (.int .i64 k0.n) ∧ w'.cell? ⟨b, o + 3, none⟩ = some (.slice k0.a k0.ks.length k0.c) ∧ w'.cell? ⟨b, o + 4, none⟩ = some (.int .i64 k1.op) ∧ w'.cell? ⟨b, o + 4 + 1, none⟩ = some (.string k1.nm) ∧ w'.cell? ⟨b, o + 4 + 2, none⟩ = some (.int .i64 k1.n) ∧ w'.cell? ⟨b, o + 4 + 3, none⟩ = some (.slice k1.a k1.ks.length k1.c)) (by kernel_rfl) ⟨t0, t1, u0, u1, u2, u3, q00, q01, q02, q03, q10, q11, q12, q13⟩ (fun hHeld => ?_)
  refine wpAnyH_take (i := 0) (v := ?_) rfl (by kernel_rfl) (by kernel_rfl) (by kernel_rfl) (fun _ _ _ h => h) (Or.inl ⟨by kernel_rfl, ?_⟩) (by assumption) ?_
  rotate_left
  · (intro w hSw; (try dsimp only at hSw); go_simp; try with_reducible rfl)
  simp only [Act.put, List.getElem_toArray, List.getElem_cons_zero, List.setIfInBounds_toArray, List.set_cons_zero, List.set_cons_succ]
  refine wpAnyH_take (i := 1) (v := ?_) rfl (by kernel_rfl) (by kernel_rfl) (by kernel_rfl) (fun _ _ _ h => h) (Or.inl ⟨by kernel_rfl, ?_⟩) (by assumption) ?_
  rotate_left
  · (intro w hSw; (try dsimp only at hSw); go_simp; try with_reducible rfl)
  simp only [Act.put, List.getElem_toArray, List.getElem_cons_succ, List.getElem_cons_zero, List.setIfInBounds_toArray, List.set_cons_zero, List.set_cons_succ]
  refine wpAnyH_take (i := 2) (v := ?_) rfl (by kernel_rfl) (by kernel_rfl) (by kernel_rfl) (fun _ _ _ h => h) (Or.inl ⟨by kernel_rfl, ?_⟩) (by assumption) ?_
  rotate_left
  · (intro w hSw; (try dsimp only at hSw); go_simp; try with_reducible rfl)
  simp only [Act.put, List.getElem_toArray, List.getElem_cons_succ, List.getElem_cons_zero, List.setIfInBounds_toArray, List.set_cons_zero, List.set_cons_succ]
  refine wpAnyH_take (i := 3) (v := ?_) rfl (by kernel_rfl) (by kernel_rfl) (by kernel_rfl) (fun _ _ _ h => h) (Or.inl ⟨by kernel_rfl, ?_⟩) (by assumption) ?_
  rotate_left
  · (intro w hSw; (try dsimp only at hSw); go_simp; try with_reducible rfl)
  simp only [Act.put, List.getElem_toArray, List.getElem_cons_succ, List.getElem_cons_zero, List.setIfInBounds_toArray, List.set_cons_zero, List.set_cons_succ]
  refine wpAnyH_take (i := 4) (v := ?_) rfl (by kernel_rfl) (by kernel_rfl) (by kernel_rfl) (fun _ _ _ h => h) (Or.inl ⟨by kernel_rfl, ?_⟩) (by assumption) ?_
  rotate_left
  · (intro w hSw; (try dsimp only at hSw); go_simp; try with_reducible rfl)
  simp only [Act.put, List.getElem_toArray, List.getElem_cons_succ, List.getElem_cons_zero, List.setIfInBounds_toArray, List.set_cons_zero, List.set_cons_succ]
  refine wpAnyH_take (i := 6) (v := ?_) rfl (by kernel_rfl) (by kernel_rfl) (by kernel_rfl) (fun _ _ _ h => h) (Or.inl ⟨by kernel_rfl, ?_⟩) (by assumption) ?_
  rotate_left
  · (intro w hSw; (try dsimp only at hSw); go_simp; try with_reducible rfl)
  simp only [Act.put, List.getElem_toArray, List.getElem_cons_succ, List.getElem_cons_zero, List.setIfInBounds_toArray, List.set_cons_zero, List.set_cons_succ]
  refine wpAnyH_take (i := 7) (v := ?_) rfl (by kernel_rfl) (by kernel_rfl) (by kernel_rfl) (fun _ _ _ h => h) (Or.inl ⟨by kernel_rfl, ?_⟩) (by assumption) ?_
  rotate_left
  · (intro w hSw; (try dsimp only at hSw); go_simp; try with_reducible rfl)
  simp only [Act.put, List.getElem_toArray, List.getElem_cons_succ, List.getElem_cons_zero, List.setIfInBounds_toArray, List.set_cons_zero, List.set_cons_succ]
  refine wpAnyH_take (i := 8) (v := ?_) rfl (by kernel_rfl) (by kernel_rfl) (by kernel_rfl) (fun _ _ _ h => h) (Or.inl ⟨by kernel_rfl, ?_⟩) (by assumption) ?_
  rotate_left
  · (intro w hSw; (try dsimp only at hSw); go_simp; try with_reducible rfl)
  simp only [Act.put, List.getElem_toArray, List.getElem_cons_succ, List.getElem_cons_zero, List.setIfInBounds_toArray, List.set_cons_zero, List.set_cons_succ]
  refine wpAnyH_take (i := 9) (v := ?_) rfl (by kernel_rfl) (by kernel_rfl) (by kernel_rfl) (fun _ _ _ h => h) (Or.inl ⟨by kernel_rfl, ?_⟩) (by assumption) ?_
  rotate_left
  · (intro w hSw; (try dsimp only at hSw); go_simp; try with_reducible rfl)
  simp only [Act.put, List.getElem_toArray, List.getElem_cons_succ, List.getElem_cons_zero, List.setIfInBounds_toArray, List.set_cons_zero, List.set_cons_succ]
  refine wpAnyH_take (i := 10) (v := ?_) rfl (by kernel_rfl) (by kernel_rfl) (by kernel_rfl) (fun _ _ _ h => h) (Or.inl ⟨by kernel_rfl, ?_⟩) (by assumption) ?_
  rotate_left
  · (intro w hSw; (try dsimp only at hSw); go_simp; try with_reducible rfl)
  simp only [Act.put, List.getElem_toArray, List.getElem_cons_succ, List.getElem_cons_zero, List.setIfInBounds_toArray, List.set_cons_zero, List.set_cons_succ]
  refine wpAnyH_ready (rs := [5]) (by kernel_rfl) (by simp) ?_
  refine AllReadyH.cons rfl (fun K hK => ?_) AllReadyH.nil
  go_simp
  go_wp2_with (go_at_call 41; ((with_reducible refine (P0.out _ (bdrew (Below.refl _ _))).mono ?_)); rintro e w1 ⟨g0, c0, rfl, ho0, hb1⟩)
  have B1 := bon (bdrew (Below.refl W2.heap.size W2)) hb1
  refine hK.out _ _ (keep2 (by assumption) hb1) (fun hHeld => ?_)
  clear hK
  refine wpAnyH_ready (rs := [11]) (by kernel_rfl) (by simp) ?_
  refine AllReadyH.cons rfl (fun K hK => ?_) AllReadyH.nil
  go_simp
  go_wp2_with (go_at_call 41; ((with_reducible refine (P1.out _ B1).mono ?_)); rintro e w3 ⟨rfl, hb3⟩)
  exact ⟨rfl, rfl, bon (bon hb2 B1) hb3⟩

set_option maxRecDepth 100000 in
set_option maxHeartbeats 4000000 in
theorem tru26_ok (W : Wd) (t : Tm) (k0 k1 : Tm) (hop : t.op = 26) (hks : t.ks = [k0, k1]) {l0 l1 : List Bool} (C0 : CallsS W k0 (RetS l0)) (C1 : CallsS W k1 (RetS l1)) (h01 : l0.length = l1.length)  (h64 : l0.length ≤ 64) : CallsB W t (RetB (subB l0 l1)) := by
  intro w hW ht
  obtain ⟨op, nm, n, a, c, ks⟩ := t
  simp only [Tm.op, Tm.ks] at hop hks
  subst hop hks
  obtain ⟨kin0, b, o, ha, hbl, kf0⟩ := ht.kid 0 (by simp [Tm.ks])
  obtain ⟨kin1, b1, o1, ha1, hbl1, kf1⟩ := ht.kid 1 (by simp [Tm.ks])
  simp only [Tm.a, Tm.ks, List.getElem_cons_zero, List.getElem_cons_succ, Nat.zero_mul, Nat.one_mul, Nat.add_zero] at ha kin0 kf0 ha1 kin1 kf1
  subst ha
  cases ha1
  have htn := ht.nums
  simp only [Tm.op, Tm.nm, Tm.n, Tm.ks, Tm.c] at htn
  have hb2 : Below w.heap.size w ((w.alloc (boxP W)).alloc (.cells #[.int .i64 26, .string nm, .int .i64 n, .slice (some ⟨b, o, none⟩) 2 c] 24)) := bal (bal (Below.refl _ _) _) _
  have TP : TwoW ((w.alloc (boxP W)).alloc (.cells #[.int .i64 26, .string nm, .int .i64 n, .slice (some ⟨b, o, none⟩) 2 c] 24)) w.heap.size W := (boxP_two w W).later (bel_alloc _ _)
  have TT : ((w.alloc (boxP W)).alloc (.cells #[.int .i64 26, .string nm, .int .i64 n, .slice (some ⟨b, o, none⟩) 2 c] 24)).cell? ⟨w.heap.size + 1, 0, none⟩ = some (.int .i64 26) ∧ ((w.alloc (boxP W)).alloc (.cells #[.int .i64 26, .string nm, .int .i64 n, .slice (some ⟨b, o, none⟩) 2 c] 24)).cell? ⟨w.heap.size + 1, 1, none⟩ = some (.string nm) ∧ ((w.alloc (boxP W)).alloc (.cells #[.int .i64 26, .string nm, .int .i64 n, .slice (some ⟨b, o, none⟩) 2 c] 24)).cell? ⟨w.heap.size + 1, 2, none⟩ = some (.int .i64 n) ∧ ((w.alloc (boxP W)).alloc (.cells #[.int .i64 26, .string nm, .int .i64 n, .slice (some ⟨b, o, none⟩) 2 c] 24)).cell? ⟨w.heap.size + 1, 3, none⟩ = some (.slice (some ⟨b, o, none⟩) 2 c) := by simp [go_sem]
  have hW2 : (w.alloc (.cells #[.int .i64 W.nodes, .slice W.a W.l.length W.c] 55)).alloc (.cells #[.int .i64 26, .string nm, .int .i64 n, .slice (some ⟨b, o, none⟩) 2 c] 24) = (w.alloc (boxP W)).alloc (.cells #[.int .i64 26, .string nm, .int .i64 n, .slice (some ⟨b, o, none⟩) 2 c] 24) := rfl
  have hX2 : w.heap.size + 1 < ((w.alloc (boxP W)).alloc (.cells #[.int .i64 26, .string nm, .int .i64 n, .slice (some ⟨b, o, none⟩) 2 c] 24)).heap.size := by simp
  generalize (w.alloc (boxP W)).alloc (.cells #[.int .i64 26, .string nm, .int .i64 n, .slice (some ⟨b, o, none⟩) 2 c] 24) = W2 at *
  have P0 := mkHid (fun (w' : World) (hb : Below W2.heap.size W2 w') => C0 w' (hW.later (bon hb2 hb)) (kin0.later (bon hb2 hb)))
  unfold Wd.val Tm.val at P0
  obtain ⟨q00, q01, q02, q03⟩ : Four W2 b o k0 := Four.keep kf0 hb2 hbl
  have P1 := mkHid (fun (w' : World) (hb : Below W2.heap.size W2 w') => C1 w' (hW.later (bon hb2 hb)) (kin1.later (bon hb2 hb)))
  unfold Wd.val Tm.val at P1
  obtain ⟨q10, q11, q12, q13⟩ : Four W2 b (o + 4) k1 := Four.keep kf1 hb2 hbl1
  clear C0 kin0 kf0 C1 kin1 kf1
  unfold Wd.val Tm.val
  simp only [Tm.op, Tm.nm, Tm.n, Tm.a, Tm.ks, Tm.c, List.length_cons, List.length_nil, Nat.zero_add, Nat.reduceAdd]
  obtain ⟨t0, t1⟩ := TP
  obtain ⟨u0, u1, u2, u3⟩ := TT
  have H01 := mkHid h01
  clear h01
  go_enter Tryz.func43, Tryz.ntmps43
  go_wp2_with fail
  (try dsimp only [List.append])
  refine wp_region_held_drew (S := fun w' => w'.cell? ⟨w.heap.size, 0, none⟩ = some (.int .i64 W.nodes) ∧ w'.cell? ⟨w.heap.size, 1, none⟩ = some (.slice W.a W.l.length W.c) ∧ w'.cell? ⟨w.heap.size + 1, 0, none⟩ = some (.int .i64 26) ∧ w'.cell? ⟨w.heap.size + 1, 1, none⟩ = some (.string nm) ∧ w'.cell? ⟨w.heap.size + 1, 2, none⟩ = some (.int .i64 n) ∧ w'.cell? ⟨w.heap.size + 1, 3, none⟩ = some (.slice (some ⟨b, o, none⟩) 2 c) ∧ w'.cell? ⟨b, o, none⟩ = some (.int .i64 k0.op) ∧ w'.cell? ⟨b, o + 1, none⟩ = some (.string k0.nm) ∧ w'.cell? ⟨b, o + 2, none⟩ = some (.int .i64 k0.n) ∧ w'.cell? ⟨b, o + 3, none⟩ = some (.slice k0.a k0.ks.length k0.c) ∧ w'.cell? ⟨b, o + 4, none⟩ = some (.int .i64 k1.op) ∧ w'.cell? ⟨b, o + 4 + 1, none⟩ = some (.string k1.nm) ∧ w'.cell? ⟨b, o + 4 + 2, none⟩ = some (.int .i64 k1.n) ∧ w'.cell? ⟨b, o + 4 + 3, none⟩ = some (.slice k1.a k1.ks.length k1.c)) (by kernel_rfl) ⟨t0, t1, u0, u1, u2, u3, q00, q01, q02, q03, q10, q11, q12, q13⟩ (fun hHeld => ?_)
  refine wpAnyH_take (i := 0) (v := ?_) rfl (by kernel_rfl) (by kernel_rfl) (by kernel_rfl) (fun _ _ _ h => h) (Or.inl ⟨by kernel_rfl, ?_⟩) (by assumption) ?_
  rotate_left
  · (intro w hSw; (try dsimp only at hSw); go_simp; try with_reducible rfl)
  simp only [Act.put, List.getElem_toArray, List.getElem_cons_zero, List.setIfInBounds_toArray, List.set_cons_zero, List.set_cons_succ]
  refine wpAnyH_take (i := 1) (v := ?_) rfl (by kernel_rfl) (by kernel_rfl) (by kernel_rfl) (fun _ _ _ h => h) (Or.inl ⟨by kernel_rfl, ?_⟩) (by assumption) ?_
  rotate_left
  · (intro w hSw; (try dsimp only at hSw); go_simp; try with_reducible rfl)
  simp only [Act.put, List.getElem_toArray, List.getElem_cons_succ, List.getElem_cons_zero, List.setIfInBounds_toArray, List.set_cons_zero, List.set_cons_succ]
  refine wpAnyH_take (i := 2) (v := ?_) rfl (by kernel_rfl) (by kernel_rfl) (by kernel_rfl) (fun _ _ _ h => h) (Or.inl ⟨by kernel_rfl, ?_⟩) (by assumption) ?_
  rotate_left
  · (intro w hSw; (try dsimp only at hSw); go_simp; try with_reducible rfl)
  simp only [Act.put, List.getElem_toArray, List.getElem_cons_succ, List.getElem_cons_zero, List.setIfInBounds_toArray, List.set_cons_zero, List.set_cons_succ]
  refine wpAnyH_take (i := 3) (v := ?_) rfl (by kernel_rfl) (by kernel_rfl) (by kernel_rfl) (fun _ _ _ h => h) (Or.inl ⟨by kernel_rfl, ?_⟩) (by assumption) ?_
  rotate_left
  · (intro w hSw; (try dsimp only at hSw); go_simp; try with_reducible rfl)
  simp only [Act.put, List.getElem_toArray, List.getElem_cons_succ, List.getElem_cons_zero, List.setIfInBounds_toArray, List.set_cons_zero, List.set_cons_succ]
  refine wpAnyH_take (i := 4) (v := ?_) rfl (by kernel_rfl) (by kernel_rfl) (by kernel_rfl) (fun _ _ _ h => h) (Or.inl ⟨by kernel_rfl, ?_⟩) (by assumption) ?_
  rotate_left
  · (intro w hSw; (try dsimp only at hSw); go_simp; try with_reducible rfl)
  simp only [Act.put, List.getElem_toArray, List.getElem_cons_succ, List.getElem_cons_zero, List.setIfInBounds_toArray, List.set_cons_zero, List.set_cons_succ]
  refine wpAnyH_take (i := 6) (v := ?_) rfl (by kernel_rfl) (by kernel_rfl) (by kernel_rfl) (fun _ _ _ h => h) (Or.inl ⟨by kernel_rfl, ?_⟩) (by assumption) ?_
  rotate_left
  · (intro w hSw; (try dsimp only at hSw); go_simp; try with_reducible rfl)
  simp only [Act.put, List.getElem_toArray, List.getElem_cons_succ, List.getElem_cons_zero, List.setIfInBounds_toArray, List.set_cons_zero, List.set_cons_succ]
  refine wpAnyH_take (i := 7) (v := ?_) rfl (by kernel_rfl) (by kernel_rfl) (by kernel_rfl) (fun _ _ _ h => h) (Or.inl ⟨by kernel_rfl, ?_⟩) (by assumption) ?_
  rotate_left
  · (intro w hSw; (try dsimp only at hSw); go_simp; try with_reducible rfl)
  simp only [Act.put, List.getElem_toArray, List.getElem_cons_succ, List.getElem_cons_zero, List.setIfInBounds_toArray, List.set_cons_zero, List.set_cons_succ]
  refine wpAnyH_take (i := 8) (v := ?_) rfl (by kernel_rfl) (by kernel_rfl) (by kernel_rfl) (fun _ _ _ h => h) (Or.inl ⟨by kernel_rfl, ?_⟩) (by assumption) ?_
  rotate_left
  · (intro w hSw; (try dsimp only at hSw); go_simp; try with_reducible rfl)
  simp only [Act.put, List.getElem_toArray, List.getElem_cons_succ, List.getElem_cons_zero, List.setIfInBounds_toArray, List.set_cons_zero, List.set_cons_succ]
  refine wpAnyH_take (i := 9) (v := ?_) rfl (by kernel_rfl) (by kernel_rfl) (by kernel_rfl) (fun _ _ _ h => h) (Or.inl ⟨by kernel_rfl, ?_⟩) (by assumption) ?_
  rotate_left
  · (intro w hSw; (try dsimp only at hSw); go_simp; try with_reducible rfl)
  simp only [Act.put, List.getElem_toArray, List.getElem_cons_succ, List.getElem_cons_zero, List.setIfInBounds_toArray, List.set_cons_zero, List.set_cons_succ]
  refine wpAnyH_take (i := 10) (v := ?_) rfl (by kernel_rfl) (by kernel_rfl) (by kernel_rfl) (fun _ _ _ h => h) (Or.inl ⟨by kernel_rfl, ?_⟩) (by assumption) ?_
  rotate_left
  · (intro w hSw; (try dsimp only at hSw); go_simp; try with_reducible rfl)
  simp only [Act.put, List.getElem_toArray, List.getElem_cons_succ, List.getElem_cons_zero, List.setIfInBounds_toArray, List.set_cons_zero, List.set_cons_succ]
  refine wpAnyH_ready (rs := [5]) (by kernel_rfl) (by simp) ?_
  refine AllReadyH.cons rfl (fun K hK => ?_) AllReadyH.nil
  go_simp
  go_wp2_with (go_at_call 41; ((with_reducible refine (P0.out _ (bdrew (Below.refl _ _))).mono ?_)); rintro e w1 ⟨g0, c0, rfl, ho0, hb1⟩)
  have B1 := bon (bdrew (Below.refl W2.heap.size W2)) hb1
  refine hK.out _ _ (keep2 (by assumption) hb1) (fun hHeld => ?_)
  clear hK
  refine wpAnyH_ready (rs := [11]) (by kernel_rfl) (by simp) ?_
  refine AllReadyH.cons rfl (fun K hK => ?_) AllReadyH.nil
  go_simp
  go_wp2_with (go_at_call 41; ((with_reducible refine (P1.out _ B1).mono ?_)); rintro e w3 ⟨g1, c1, rfl, ho1, hb3⟩)
  refine hK.out _ _ (keep2 (by assumption) hb3) (fun hHeld => ?_)
  clear hK
  refine wpAnyH_take (i := 12) (v := ?_) rfl (by kernel_rfl) (by kernel_rfl) (by kernel_rfl) (fun _ _ _ h => h) (Or.inl ⟨by kernel_rfl, ?_⟩) (by assumption) ?_
  rotate_left
  · (intro w hSw; (try dsimp only at hSw); go_simp; try with_reducible rfl)
  simp only [Act.put, List.getElem_toArray, List.getElem_cons_succ, List.getElem_cons_zero, List.setIfInBounds_toArray, List.set_cons_zero, List.set_cons_succ]
  refine wpAnyH_take (i := 13) (v := ?_) rfl (by kernel_rfl) (by kernel_rfl) (by kernel_rfl) (fun _ _ _ h => h) (Or.inl ⟨by kernel_rfl, ?_⟩) (by assumption) ?_
  rotate_left
  · (intro w hSw; (try dsimp only at hSw); go_simp; try with_reducible rfl)
  simp only [Act.put, List.getElem_toArray, List.getElem_cons_succ, List.getElem_cons_zero, List.setIfInBounds_toArray, List.set_cons_zero, List.set_cons_succ]
  refine wpAnyH_done (by kernel_rfl) ?_ _
  have BW := bon (bon hb2 B1) hb3
  have hu0 : w3.cell? ⟨w.heap.size + 1, 0, none⟩ = some (.int .i64 26) := hHeld.2.2.1
  have own0 := (Own.bin ho0).keep hb3
  have bin0 := own0.mono hb3.size
  have bin1 := Own.bin ho1
  have h01 := H01.out
  have SC := mkHid (within_any l0 l1 g0 g1 c0 c1 w3 (by omega) (by omega) bin0 bin1)
  clear h01
  cases hs : subB l0 l1
  all_goals
    rw [hs] at SC
    have HS := mkHid hs
    clear hs
    go_wp2_with (go_at_call 65; ((with_reducible refine SC.out.mono ?_)); rintro e w4 ⟨rfl, hb4⟩; have hu1 := cell_later hb4 hu0)
    go_ret
    exact ⟨by rw [HS.out]; rfl, bon BW hb4⟩

set_option maxRecDepth 100000 in
set_option maxHeartbeats 4000000 in
theorem tru27_e0 (W : Wd) (t : Tm) (k0 k1 : Tm) (hop : t.op = 27) (hks : t.ks = [k0, k1]) {e0 : Int} {P : World → Ending → World → Prop} (C0 : CallsS W k0 (PanK e0)) (C1 : CallsS W k1 P) : CallsB W t (PanK e0) := by
  intro w hW ht
  obtain ⟨op, nm, n, a, c, ks⟩ := t
  simp only [Tm.op, Tm.ks] at hop hks
  subst hop hks
  obtain ⟨kin0, b, o, ha, hbl, kf0⟩ := ht.kid 0 (by simp [Tm.ks])
  obtain ⟨kin1, b1, o1, ha1, hbl1, kf1⟩ := ht.kid 1 (by simp [Tm.ks])
  simp only [Tm.a, Tm.ks, List.getElem_cons_zero, List.getElem_cons_succ, Nat.zero_mul, Nat.one_mul, Nat.add_zero] at ha kin0 kf0 ha1 kin1 kf1
  subst ha
  cases ha1
  have htn := ht.nums
  simp only [Tm.op, Tm.nm, Tm.n, Tm.ks, Tm.c] at htn
  have hb2 : Below w.heap.size w ((w.alloc (boxP W)).alloc (.cells #[.int .i64 27, .string nm, .int .i64 n, .slice (some ⟨b, o, none⟩) 2 c] 24)) := bal (bal (Below.refl _ _) _) _
  have TP : TwoW ((w.alloc (boxP W)).alloc (.cells #[.int .i64 27, .string nm, .int .i64 n, .slice (some ⟨b, o, none⟩) 2 c] 24)) w.heap.size W := (boxP_two w W).later (bel_alloc _ _)
  have TT : ((w.alloc (boxP W)).alloc (.cells #[.int .i64 27, .string nm, .int .i64 n, .slice (some ⟨b, o, none⟩) 2 c] 24)).cell? ⟨w.heap.size + 1, 0, none⟩ = some (.int .i64 27) ∧ ((w.alloc (boxP W)).alloc (.cells #[.int .i64 27, .string nm, .int .i64 n, .slice (some ⟨b, o, none⟩) 2 c] 24)).cell? ⟨w.heap.size + 1, 1, none⟩ = some (.string nm) ∧ ((w.alloc (boxP W)).alloc (.cells #[.int .i64 27, .string nm, .int .i64 n, .slice (some ⟨b, o, none⟩) 2 c] 24)).cell? ⟨w.heap.size + 1, 2, none⟩ = some (.int .i64 n) ∧ ((w.alloc (boxP W)).alloc (.cells #[.int .i64 27, .string nm, .int .i64 n, .slice (some ⟨b, o, none⟩) 2 c] 24)).cell? ⟨w.heap.size + 1, 3, none⟩ = some (.slice (some ⟨b, o, none⟩) 2 c) := by simp [go_sem]
  have hW2 : (w.alloc (.cells #[.int .i64 W.nodes, .slice W.a W.l.length W.c] 55)).alloc (.cells #[.int .i64 27, .string nm, .int .i64 n, .slice (some ⟨b, o, none⟩) 2 c] 24) = (w.alloc (boxP W)).alloc (.cells #[.int .i64 27, .string nm, .int .i64 n, .slice (some ⟨b, o, none⟩) 2 c] 24) := rfl
  have hX2 : w.heap.size + 1 < ((w.alloc (boxP W)).alloc (.cells #[.int .i64 27, .string nm, .int .i64 n, .slice (some ⟨b, o, none⟩) 2 c] 24)).heap.size := by simp
  generalize (w.alloc (boxP W)).alloc (.cells #[.int .i64 27, .string nm, .int .i64 n, .slice (some ⟨b, o, none⟩) 2 c] 24) = W2 at *
  have P0 := mkHid (fun (w' : World) (hb : Below W2.heap.size W2 w') => C0 w' (hW.later (bon hb2 hb)) (kin0.later (bon hb2 hb)))
  unfold Wd.val Tm.val at P0
  obtain ⟨q00, q01, q02, q03⟩ : Four W2 b o k0 := Four.keep kf0 hb2 hbl
  have P1 := mkHid (fun (w' : World) (hb : Below W2.heap.size W2 w') => C1 w' (hW.later (bon hb2 hb)) (kin1.later (bon hb2 hb)))
  unfold Wd.val Tm.val at P1
  obtain ⟨q10, q11, q12, q13⟩ : Four W2 b (o + 4) k1 := Four.keep kf1 hb2 hbl1
  clear C0 kin0 kf0 C1 kin1 kf1
  unfold Wd.val Tm.val
  simp only [Tm.op, Tm.nm, Tm.n, Tm.a, Tm.ks, Tm.c, List.length_cons, List.length_nil, Nat.zero_add, Nat.reduceAdd]
  obtain ⟨t0, t1⟩ := TP
  obtain ⟨u0, u1, u2, u3⟩ := TT
  go_enter Tryz.func43, Tryz.ntmps43
  go_wp2_with fail
  (try dsimp only [List.append])
  refine wp_region_held_drew (S := fun w' => w'.cell? ⟨w.heap.size, 0, none⟩ = some (.int .i64 W.nodes) ∧ w'.cell? ⟨w.heap.size, 1, none⟩ = some (.slice W.a W.l.length W.c) ∧ w'.cell? ⟨w.heap.size + 1, 0, none⟩ = some (.int .i64 27) ∧ w'.cell? ⟨w.heap.size + 1, 1, none⟩ = some (.string nm) ∧ w'.cell? ⟨w.heap.size + 1, 2, none⟩ = some (.int .i64 n) ∧ w'.cell? ⟨w.heap.size + 1, 3, none⟩ = some (.slice (some ⟨b, o, none⟩) 2 c) ∧ w'.cell? ⟨b, o, none⟩ = some (.int .i64 k0.op) ∧ w'.cell? ⟨b, o + 1, none⟩ = some (.string k0.nm) ∧ w'.cell? ⟨b, o + 2, none⟩ = some (.int .i64 k0.n) ∧ w'.cell? ⟨b, o + 3, none⟩ = some (.slice k0.a k0.ks.length k0.c) ∧ w'.cell? ⟨b, o + 4, none⟩ = some (.int .i64 k1.op) ∧ w'.cell? ⟨b, o + 4 + 1, none⟩ = some (.string k1.nm) ∧ w'.cell? ⟨b, o + 4 + 2, none⟩ = some (.int .i64 k1.n) ∧ w'.cell? ⟨b, o + 4 + 3, none⟩ = some (.slice k1.a k1.ks.length k1.c)) (by kernel_rfl) ⟨t0, t1, u0, u1, u2, u3, q00, q01, q02, q03, q10, q11, q12, q13⟩ (fun hHeld => ?_)
  refine wpAnyH_take (i := 0) (v := ?_) rfl (by kernel_rfl) (by kernel_rfl) (by kernel_rfl) (fun _ _ _ h => h) (Or.inl ⟨by kernel_rfl, ?_⟩) (by assumption) ?_
  rotate_left
  · (intro w hSw; (try dsimp only at hSw); go_simp; try with_reducible rfl)
  simp only [Act.put, List.getElem_toArray, List.getElem_cons_zero, List.setIfInBounds_toArray, List.set_cons_zero, List.set_cons_succ]
  refine wpAnyH_take (i := 1) (v := ?_) rfl (by kernel_rfl) (by kernel_rfl) (by kernel_rfl) (fun _ _ _ h => h) (Or.inl ⟨by kernel_rfl, ?_⟩) (by assumption) ?_
  rotate_left
  · (intro w hSw; (try dsimp only at hSw); go_simp; try with_reducible rfl)
  simp only [Act.put, List.getElem_toArray, List.getElem_cons_succ, List.getElem_cons_zero, List.setIfInBounds_toArray, List.set_cons_zero, List.set_cons_succ]
  refine wpAnyH_take (i := 2) (v := ?_) rfl (by kernel_rfl) (by kernel_rfl) (by kernel_rfl) (fun _ _ _ h => h) (Or.inl ⟨by kernel_rfl, ?_⟩) (by assumption) ?_
  rotate_left
  · (intro w hSw; (try dsimp only at hSw); go_simp; try with_reducible rfl)
  simp only [Act.put, List.getElem_toArray, List.getElem_cons_succ, List.getElem_cons_zero, List.setIfInBounds_toArray, List.set_cons_zero, List.set_cons_succ]
  refine wpAnyH_take (i := 3) (v := ?_) rfl (by kernel_rfl) (by kernel_rfl) (by kernel_rfl) (fun _ _ _ h => h) (Or.inl ⟨by kernel_rfl, ?_⟩) (by assumption) ?_
  rotate_left
  · (intro w hSw; (try dsimp only at hSw); go_simp; try with_reducible rfl)
  simp only [Act.put, List.getElem_toArray, List.getElem_cons_succ, List.getElem_cons_zero, List.setIfInBounds_toArray, List.set_cons_zero, List.set_cons_succ]
  refine wpAnyH_take (i := 4) (v := ?_) rfl (by kernel_rfl) (by kernel_rfl) (by kernel_rfl) (fun _ _ _ h => h) (Or.inl ⟨by kernel_rfl, ?_⟩) (by assumption) ?_
  rotate_left
  · (intro w hSw; (try dsimp only at hSw); go_simp; try with_reducible rfl)
  simp only [Act.put, List.getElem_toArray, List.getElem_cons_succ, List.getElem_cons_zero, List.setIfInBounds_toArray, List.set_cons_zero, List.set_cons_succ]
  refine wpAnyH_take (i := 6) (v := ?_) rfl (by kernel_rfl) (by kernel_rfl) (by kernel_rfl) (fun _ _ _ h => h) (Or.inl ⟨by kernel_rfl, ?_⟩) (by assumption) ?_
  rotate_left
  · (intro w hSw; (try dsimp only at hSw); go_simp; try with_reducible rfl)
  simp only [Act.put, List.getElem_toArray, List.getElem_cons_succ, List.getElem_cons_zero, List.setIfInBounds_toArray, List.set_cons_zero, List.set_cons_succ]
  refine wpAnyH_take (i := 7) (v := ?_) rfl (by kernel_rfl) (by kernel_rfl) (by kernel_rfl) (fun _ _ _ h => h) (Or.inl ⟨by kernel_rfl, ?_⟩) (by assumption) ?_
  rotate_left
  · (intro w hSw; (try dsimp only at hSw); go_simp; try with_reducible rfl)
  simp only [Act.put, List.getElem_toArray, List.getElem_cons_succ, List.getElem_cons_zero, List.setIfInBounds_toArray, List.set_cons_zero, List.set_cons_succ]
  refine wpAnyH_take (i := 8) (v := ?_) rfl (by kernel_rfl) (by kernel_rfl) (by kernel_rfl) (fun _ _ _ h => h) (Or.inl ⟨by kernel_rfl, ?_⟩) (by assumption) ?_
  rotate_left
  · (intro w hSw; (try dsimp only at hSw); go_simp; try with_reducible rfl)
  simp only [Act.put, List.getElem_toArray, List.getElem_cons_succ, List.getElem_cons_zero, List.setIfInBounds_toArray, List.set_cons_zero, List.set_cons_succ]
  refine wpAnyH_take (i := 9) (v := ?_) rfl (by kernel_rfl) (by kernel_rfl) (by kernel_rfl) (fun _ _ _ h => h) (Or.inl ⟨by kernel_rfl, ?_⟩) (by assumption) ?_
  rotate_left
  · (intro w hSw; (try dsimp only at hSw); go_simp; try with_reducible rfl)
  simp only [Act.put, List.getElem_toArray, List.getElem_cons_succ, List.getElem_cons_zero, List.setIfInBounds_toArray, List.set_cons_zero, List.set_cons_succ]
  refine wpAnyH_take (i := 10) (v := ?_) rfl (by kernel_rfl) (by kernel_rfl) (by kernel_rfl) (fun _ _ _ h => h) (Or.inl ⟨by kernel_rfl, ?_⟩) (by assumption) ?_
  rotate_left
  · (intro w hSw; (try dsimp only at hSw); go_simp; try with_reducible rfl)
  simp only [Act.put, List.getElem_toArray, List.getElem_cons_succ, List.getElem_cons_zero, List.setIfInBounds_toArray, List.set_cons_zero, List.set_cons_succ]
  refine wpAnyH_ready (rs := [5]) (by kernel_rfl) (by simp) ?_
  refine AllReadyH.cons rfl (fun K hK => ?_) AllReadyH.nil
  go_simp
  go_wp2_with (go_at_call 41; ((with_reducible refine (P0.out _ (bdrew (Below.refl _ _))).mono ?_)); rintro e w1 ⟨rfl, hb1⟩)
  exact ⟨rfl, rfl, bon (bdrew hb2) hb1⟩

set_option maxRecDepth 100000 in
set_option maxHeartbeats 4000000 in
theorem tru27_e1 (W : Wd) (t : Tm) (k0 k1 : Tm) (hop : t.op = 27) (hks : t.ks = [k0, k1]) {l0 : List Bool} {e1 : Int} (C0 : CallsS W k0 (RetS l0)) (C1 : CallsS W k1 (PanK e1)) : CallsB W t (PanK e1) := by
  intro w hW ht
  obtain ⟨op, nm, n, a, c, ks⟩ := t
  simp only [Tm.op, Tm.ks] at hop hks
  subst hop hks
  obtain ⟨kin0, b, o, ha, hbl, kf0⟩ := ht.kid 0 (by simp [Tm.ks])
  obtain ⟨kin1, b1, o1, ha1, hbl1, kf1⟩ := ht.kid 1 (by simp [Tm.ks])
  simp only [Tm.a, Tm.ks, List.getElem_cons_zero, List.getElem_cons_succ, Nat.zero_mul, Nat.one_mul, Nat.add_zero] at ha kin0 kf0 ha1 kin1 kf1
  subst ha
  cases ha1
  have htn := ht.nums
  simp only [Tm.op, Tm.nm, Tm.n, Tm.ks, Tm.c] at htn
  have hb2 : Below w.heap.size w ((w.alloc (boxP W)).alloc (.cells #[.int .i64 27, .string nm, .int .i64 n, .slice (some ⟨b, o, none⟩) 2 c] 24)) := bal (bal (Below.refl _ _) _) _
  have TP : TwoW ((w.alloc (boxP W)).alloc (.cells #[.int .i64 27, .string nm, .int .i64 n, .slice (some ⟨b, o, none⟩) 2 c] 24)) w.heap.size W := (boxP_two w W).later (bel_alloc _ _)
  have TT : ((w.alloc (boxP W)).alloc (.cells #[.int .i64 27, .string nm, .int .i64 n, .slice (some ⟨b, o, none⟩) 2 c] 24)).cell? ⟨w.heap.size + 1, 0, none⟩ = some (.int .i64 27) ∧ ((w.alloc (boxP W)).alloc (.cells #[.int .i64 27, .string nm, .int .i64 n, .slice (some ⟨b, o, none⟩) 2 c] 24)).cell? ⟨w.heap.size + 1, 1, none⟩ = some (.string nm) ∧ ((w.alloc (boxP W)).alloc (.cells #[.int .i64 27, .string nm, .int .i64 n, .slice (some ⟨b, o, none⟩) 2 c] 24)).cell? ⟨w.heap.size + 1, 2, none⟩ = some (.int .i64 n) ∧ ((w.alloc (boxP W)).alloc (.cells #[.int .i64 27, .string nm, .int .i64 n, .slice (some ⟨b, o, none⟩) 2 c] 24)).cell? ⟨w.heap.size + 1, 3, none⟩ = some (.slice (some ⟨b, o, none⟩) 2 c) := by simp [go_sem]
  have hW2 : (w.alloc (.cells #[.int .i64 W.nodes, .slice W.a W.l.length W.c] 55)).alloc (.cells #[.int .i64 27, .string nm, .int .i64 n, .slice (some ⟨b, o, none⟩) 2 c] 24) = (w.alloc (boxP W)).alloc (.cells #[.int .i64 27, .string nm, .int .i64 n, .slice (some ⟨b, o, none⟩) 2 c] 24) := rfl
  have hX2 : w.heap.size + 1 < ((w.alloc (boxP W)).alloc (.cells #[.int .i64 27, .string nm, .int .i64 n, .slice (some ⟨b, o, none⟩) 2 c] 24)).heap.size := by simp
  generalize (w.alloc (boxP W)).alloc (.cells #[.int .i64 27, .string nm, .int .i64 n, .slice (some ⟨b, o, none⟩) 2 c] 24) = W2 at *
  have P0 := mkHid (fun (w' : World) (hb : Below W2.heap.size W2 w') => C0 w' (hW.later (bon hb2 hb)) (kin0.later (bon hb2 hb)))
  unfold Wd.val Tm.val at P0
  obtain ⟨q00, q01, q02, q03⟩ : Four W2 b o k0 := Four.keep kf0 hb2 hbl
  have P1 := mkHid (fun (w' : World) (hb : Below W2.heap.size W2 w') => C1 w' (hW.later (bon hb2 hb)) (kin1.later (bon hb2 hb)))
  unfold Wd.val Tm.val at P1
  obtain ⟨q10, q11, q12, q13⟩ : Four W2 b (o + 4) k1 := Four.keep kf1 hb2 hbl1
  clear C0 kin0 kf0 C1 kin1 kf1
  unfold Wd.val Tm.val
  simp only [Tm.op, Tm.nm, Tm.n, Tm.a, Tm.ks, Tm.c, List.length_cons, List.length_nil, Nat.zero_add, Nat.reduceAdd]
  obtain ⟨t0, t1⟩ := TP
  obtain ⟨u0, u1, u2, u3⟩ := TT
  go_enter Tryz.func43, Tryz.ntmps43
  go_wp2_with fail
  (try dsimp only [List.append])
  refine wp_region_held_drew (S := fun w' => w'.cell? ⟨w.heap.size, 0, none⟩ = some (.int .i64 W.nodes) ∧ w'.cell? ⟨w.heap.size, 1, none⟩ = some (.slice W.a W.l.length W.c) ∧ w'.cell? ⟨w.heap.size + 1, 0, none⟩ = some (.int .i64 27) ∧ w'.cell? ⟨w.heap.size + 1, 1, none⟩ = some (.string nm) ∧ w'.cell? ⟨w.heap.size + 1, 2, none⟩ = some (.int .i64 n) ∧ w'.cell? ⟨w.heap.size + 1, 3, none⟩ = some (.slice (some ⟨b, o, none⟩) 2 c) ∧ w'.cell? ⟨b, o, none⟩ = some (.int .i64 k0.op) ∧ w'.cell? ⟨b, o + 1, none⟩ = some (.string k0.nm) ∧ w'.cell? ⟨b, o + 2, none⟩ = some (.int .i64 k0.n) ∧ w'.cell? ⟨b, o + 3, none⟩ = some (.slice k0.a k0.ks.length k0.c) ∧ w'.cell? ⟨b, o + 4, none⟩ = some (.int .i64 k1.op) ∧ w'.cell? ⟨b, o + 4 + 1, none⟩ = some (.string k1.nm) ∧ w'.cell? ⟨b, o + 4 + 2, none⟩ = some (.int .i64 k1.n) ∧ w'.cell? ⟨b, o + 4 + 3, none⟩ = some (.slice k1.a k1.ks.length k1.c)) (by kernel_rfl) ⟨t0, t1, u0, u1, u2, u3, q00, q01, q02, q03, q10, q11, q12, q13⟩ (fun hHeld => ?_)
  refine wpAnyH_take (i := 0) (v := ?_) rfl (by kernel_rfl) (by kernel_rfl) (by kernel_rfl) (fun _ _ _ h => h) (Or.inl ⟨by kernel_rfl, ?_⟩) (by assumption) ?_
  rotate_left
  · (intro w hSw; (try dsimp only at hSw); go_simp; try with_reducible rfl)
  simp only [Act.put, List.getElem_toArray, List.getElem_cons_zero, List.setIfInBounds_toArray, List.set_cons_zero, List.set_cons_succ]
  refine wpAnyH_take (i := 1) (v := ?_) rfl (by kernel_rfl) (by kernel_rfl) (by kernel_rfl) (fun _ _ _ h => h) (Or.inl ⟨by kernel_rfl, ?_⟩) (by assumption) ?_
  rotate_left
  · (intro w hSw; (try dsimp only at hSw); go_simp; try with_reducible rfl)
  simp only [Act.put, List.getElem_toArray, List.getElem_cons_succ, List.getElem_cons_zero, List.setIfInBounds_toArray, List.set_cons_zero, List.set_cons_succ]
  refine wpAnyH_take (i := 2) (v := ?_) rfl (by kernel_rfl) (by kernel_rfl) (by kernel_rfl) (fun _ _ _ h => h) (Or.inl ⟨by kernel_rfl, ?_⟩) (by assumption) ?_
  rotate_left
  · (intro w hSw; (try dsimp only at hSw); go_simp; try with_reducible rfl)
  simp only [Act.put, List.getElem_toArray, List.getElem_cons_succ, List.getElem_cons_zero, List.setIfInBounds_toArray, List.set_cons_zero, List.set_cons_succ]
  refine wpAnyH_take (i := 3) (v := ?_) rfl (by kernel_rfl) (by kernel_rfl) (by kernel_rfl) (fun _ _ _ h => h) (Or.inl ⟨by kernel_rfl, ?_⟩) (by assumption) ?_
  rotate_left
  · (intro w hSw; (try dsimp only at hSw); go_simp; try with_reducible rfl)
  simp only [Act.put, List.getElem_toArray, List.getElem_cons_succ, List.getElem_cons_zero, List.setIfInBounds_toArray, List.set_cons_zero, List.set_cons_succ]
  refine wpAnyH_take (i := 4) (v := ?_) rfl (by kernel_rfl) (by kernel_rfl) (by kernel_rfl) (fun _ _ _ h => h) (Or.inl ⟨by kernel_rfl, ?_⟩) (by assumption) ?_
  rotate_left
  · (intro w hSw; (try dsimp only at hSw); go_simp; try with_reducible rfl)
  simp only [Act.put, List.getElem_toArray, List.getElem_cons_succ, List.getElem_cons_zero, List.setIfInBounds_toArray, List.set_cons_zero, List.set_cons_succ]
  refine wpAnyH_take (i := 6) (v := ?_) rfl (by kernel_rfl) (by kernel_rfl) (by kernel_rfl) (fun _ _ _ h => h) (Or.inl ⟨by kernel_rfl, ?_⟩) (by assumption) ?_
  rotate_left
  · (intro w hSw; (try dsimp only at hSw); go_simp; try with_reducible rfl)
  simp only [Act.put, List.getElem_toArray, List.getElem_cons_succ, List.getElem_cons_zero, List.setIfInBounds_toArray, List.set_cons_zero, List.set_cons_succ]
  refine wpAnyH_take (i := 7) (v := ?_) rfl (by kernel_rfl) (by kernel_rfl) (by kernel_rfl) (fun _ _ _ h => h) (Or.inl ⟨by kernel_rfl, ?_⟩) (by assumption) ?_
  rotate_left
  · (intro w hSw; (try dsimp only at hSw); go_simp; try with_reducible rfl)
  simp only [Act.put, List.getElem_toArray, List.getElem_cons_succ, List.getElem_cons_zero, List.setIfInBounds_toArray, List.set_cons_zero, List.set_cons_succ]
  refine wpAnyH_take (i := 8) (v := ?_) rfl (by kernel_rfl) (by kernel_rfl) (by kernel_rfl) (fun _ _ _ h => h) (Or.inl ⟨by kernel_rfl, ?_⟩) (by assumption) ?_
  rotate_left
  · (intro w hSw; (try dsimp only at hSw); go_simp; try with_reducible rfl)
  simp only [Act.put, List.getElem_toArray, List.getElem_cons_succ, List.getElem_cons_zero, List.setIfInBounds_toArray, List.set_cons_zero, List.set_cons_succ]
  refine wpAnyH_take (i := 9) (v := ?_) rfl (by kernel_rfl) (by kernel_rfl) (by kernel_rfl) (fun _ _ _ h => h) (Or.inl ⟨by kernel_rfl, ?_⟩) (by assumption) ?_
  rotate_left
  · (intro w hSw; (try dsimp only at hSw); go_simp; try with_reducible rfl)
  simp only [Act.put, List.getElem_toArray, List.getElem_cons_succ, List.getElem_cons_zero, List.setIfInBounds_toArray, List.set_cons_zero, List.set_cons_succ]
  refine wpAnyH_take (i := 10) (v := ?_) rfl (by kernel_rfl) (by kernel_rfl) (by kernel_rfl) (fun _ _ _ h => h) (Or.inl ⟨by kernel_rfl, ?_⟩) (by assumption) ?_
  rotate_left
  · (intro w hSw; (try dsimp only at hSw); go_simp; try with_reducible rfl)
  simp only [Act.put, List.getElem_toArray, List.getElem_cons_succ, List.getElem_cons_zero, List.setIfInBounds_toArray, List.set_cons_zero, List.set_cons_succ]
  refine wpAnyH_ready (rs := [5]) (by kernel_rfl) (by simp) ?_
  refine AllReadyH.cons rfl (fun K hK => ?_) AllReadyH.nil
  go_simp
  go_wp2_with (go_at_call 41; ((with_reducible refine (P0.out _ (bdrew (Below.refl _ _))).mono ?_)); rintro e w1 ⟨g0, c0, rfl, ho0, hb1⟩)
  have B1 := bon (bdrew (Below.refl W2.heap.size W2)) hb1
  refine hK.out _ _ (keep2 (by assumption) hb1) (fun hHeld => ?_)
  clear hK
  refine wpAnyH_ready (rs := [11]) (by kernel_rfl) (by simp) ?_
  refine AllReadyH.cons rfl (fun K hK => ?_) AllReadyH.nil
  go_simp
  go_wp2_with (go_at_call 41; ((with_reducible refine (P1.out _ B1).mono ?_)); rintro e w3 ⟨rfl, hb3⟩)
  exact ⟨rfl, rfl, bon (bon hb2 B1) hb3⟩

set_option maxRecDepth 100000 in
set_option maxHeartbeats 4000000 in
theorem tru27_ok (W : Wd) (t : Tm) (k0 k1 : Tm) (hop : t.op = 27) (hks : t.ks = [k0, k1]) {l0 l1 : List Bool} (C0 : CallsS W k0 (RetS l0)) (C1 : CallsS W k1 (RetS l1)) (h01 : l0.length = l1.length)  (h64 : l0.length ≤ 64) : CallsB W t (RetB (subB l0 l1 && subB l1 l0)) := by
  intro w hW ht
  obtain ⟨op, nm, n, a, c, ks⟩ := t
  simp only [Tm.op, Tm.ks] at hop hks
  subst hop hks
  obtain ⟨kin0, b, o, ha, hbl, kf0⟩ := ht.kid 0 (by simp [Tm.ks])
  obtain ⟨kin1, b1, o1, ha1, hbl1, kf1⟩ := ht.kid 1 (by simp [Tm.ks])
  simp only [Tm.a, Tm.ks, List.getElem_cons_zero, List.getElem_cons_succ, Nat.zero_mul, Nat.one_mul, Nat.add_zero] at ha kin0 kf0 ha1 kin1 kf1
  subst ha
  cases ha1
  have htn := ht.nums
  simp only [Tm.op, Tm.nm, Tm.n, Tm.ks, Tm.c] at htn
  have hb2 : Below w.heap.size w ((w.alloc (boxP W)).alloc (.cells #[.int .i64 27, .string nm, .int .i64 n, .slice (some ⟨b, o, none⟩) 2 c] 24)) := bal (bal (Below.refl _ _) _) _
  have TP : TwoW ((w.alloc (boxP W)).alloc (.cells #[.int .i64 27, .string nm, .int .i64 n, .slice (some ⟨b, o, none⟩) 2 c] 24)) w.heap.size W := (boxP_two w W).later (bel_alloc _ _)
  have TT : ((w.alloc (boxP W)).alloc (.cells #[.int .i64 27, .string nm, .int .i64 n, .slice (some ⟨b, o, none⟩) 2 c] 24)).cell? ⟨w.heap.size + 1, 0, none⟩ = some (.int .i64 27) ∧ ((w.alloc (boxP W)).alloc (.cells #[.int .i64 27, .string nm, .int .i64 n, .slice (some ⟨b, o, none⟩) 2 c] 24)).cell? ⟨w.heap.size + 1, 1, none⟩ = some (.string nm) ∧ ((w.alloc (boxP W)).alloc (.cells #[.int .i64 27, .string nm, .int .i64 n, .slice (some ⟨b, o, none⟩) 2 c] 24)).cell? ⟨w.heap.size + 1, 2, none⟩ = some (.int .i64 n) ∧ ((w.alloc (boxP W)).alloc (.cells #[.int .i64 27, .string nm, .int .i64 n, .slice (some ⟨b, o, none⟩) 2 c] 24)).cell? ⟨w.heap.size + 1, 3, none⟩ = some (.slice (some ⟨b, o, none⟩) 2 c) := by simp [go_sem]
  have hW2 : (w.alloc (.cells #[.int .i64 W.nodes, .slice W.a W.l.length W.c] 55)).alloc (.cells #[.int .i64 27, .string nm, .int .i64 n, .slice (some ⟨b, o, none⟩) 2 c] 24) = (w.alloc (boxP W)).alloc (.cells #[.int .i64 27, .string nm, .int .i64 n, .slice (some ⟨b, o, none⟩) 2 c] 24) := rfl
  have hX2 : w.heap.size + 1 < ((w.alloc (boxP W)).alloc (.cells #[.int .i64 27, .string nm, .int .i64 n, .slice (some ⟨b, o, none⟩) 2 c] 24)).heap.size := by simp
  generalize (w.alloc (boxP W)).alloc (.cells #[.int .i64 27, .string nm, .int .i64 n, .slice (some ⟨b, o, none⟩) 2 c] 24) = W2 at *
  have P0 := mkHid (fun (w' : World) (hb : Below W2.heap.size W2 w') => C0 w' (hW.later (bon hb2 hb)) (kin0.later (bon hb2 hb)))
  unfold Wd.val Tm.val at P0
  obtain ⟨q00, q01, q02, q03⟩ : Four W2 b o k0 := Four.keep kf0 hb2 hbl
  have P1 := mkHid (fun (w' : World) (hb : Below W2.heap.size W2 w') => C1 w' (hW.later (bon hb2 hb)) (kin1.later (bon hb2 hb)))
  unfold Wd.val Tm.val at P1
  obtain ⟨q10, q11, q12, q13⟩ : Four W2 b (o + 4) k1 := Four.keep kf1 hb2 hbl1
  clear C0 kin0 kf0 C1 kin1 kf1
  unfold Wd.val Tm.val
  simp only [Tm.op, Tm.nm, Tm.n, Tm.a, Tm.ks, Tm.c, List.length_cons, List.length_nil, Nat.zero_add, Nat.reduceAdd]
  obtain ⟨t0, t1⟩ := TP
  obtain ⟨u0, u1, u2, u3⟩ := TT
  have H01 := mkHid h01
  clear h01
  go_enter Tryz.func43, Tryz.ntmps43
  go_wp2_with fail
  (try dsimp only [List.append])
  refine wp_region_held_drew (S := fun w' => w'.cell? ⟨w.heap.size, 0, none⟩ = some (.int .i64 W.nodes) ∧ w'.cell? ⟨w.heap.size, 1, none⟩ = some (.slice W.a W.l.length W.c) ∧ w'.cell? ⟨w.heap.size + 1, 0, none⟩ = some (.int .i64 27) ∧ w'.cell? ⟨w.heap.size + 1, 1, none⟩ = some (.string nm) ∧ w'.cell? ⟨w.heap.size + 1, 2, none⟩ = some (.int .i64 n) ∧ w'.cell? ⟨w.heap.size + 1, 3, none⟩ = some (.slice (some ⟨b, o, none⟩) 2 c) ∧ w'.cell? ⟨b, o, none⟩ = some (.int .i64 k0.op) ∧ w'.cell? ⟨b, o + 1, none⟩ = some (.string k0.nm) ∧ w'.cell? ⟨b, o + 2, none⟩ = some (.int .i64 k0.n) ∧ w'.cell? ⟨b, o + 3, none⟩ = some (.slice k0.a k0.ks.length k0.c) ∧ w'.cell? ⟨b, o + 4, none⟩ = some (.int .i64 k1.op) ∧ w'.cell? ⟨b, o + 4 + 1, none⟩ = some (.string k1.nm) ∧ w'.cell? ⟨b, o + 4 + 2, none⟩ = some (.int .i64 k1.n) ∧ w'.cell? ⟨b, o + 4 + 3, none⟩ = some (.slice k1.a k1.ks.length k1.c)) (by kernel_rfl) ⟨t0, t1, u0, u1, u2, u3, q00, q01, q02, q03, q10, q11, q12, q13⟩ (fun hHeld => ?_)
  refine wpAnyH_take (i := 0) (v := ?_) rfl (by kernel_rfl) (by kernel_rfl) (by kernel_rfl) (fun _ _ _ h => h) (Or.inl ⟨by kernel_rfl, ?_⟩) (by assumption) ?_
  rotate_left
  · (intro w hSw; (try dsimp only at hSw); go_simp; try with_reducible rfl)
  simp only [Act.put, List.getElem_toArray, List.getElem_cons_zero, List.setIfInBounds_toArray, List.set_cons_zero, List.set_cons_succ]
  refine wpAnyH_take (i := 1) (v := ?_) rfl (by kernel_rfl) (by kernel_rfl) (by kernel_rfl) (fun _ _ _ h => h) (Or.inl ⟨by kernel_rfl, ?_⟩) (by assumption) ?_
  rotate_left
  · (intro w hSw; (try dsimp only at hSw); go_simp; try with_reducible rfl)
  simp only [Act.put, List.getElem_toArray, List.getElem_cons_succ, List.getElem_cons_zero, List.setIfInBounds_toArray, List.set_cons_zero, List.set_cons_succ]
  refine wpAnyH_take (i := 2) (v := ?_) rfl (by kernel_rfl) (by kernel_rfl) (by kernel_rfl) (fun _ _ _ h => h) (Or.inl ⟨by kernel_rfl, ?_⟩) (by assumption) ?_
  rotate_left
  · (intro w hSw; (try dsimp only at hSw); go_simp; try with_reducible rfl)
  simp only [Act.put, List.getElem_toArray, List.getElem_cons_succ, List.getElem_cons_zero, List.setIfInBounds_toArray, List.set_cons_zero, List.set_cons_succ]
  refine wpAnyH_take (i := 3) (v := ?_) rfl (by kernel_rfl) (by kernel_rfl) (by kernel_rfl) (fun _ _ _ h => h) (Or.inl ⟨by kernel_rfl, ?_⟩) (by assumption) ?_
  rotate_left
  · (intro w hSw; (try dsimp only at hSw); go_simp; try with_reducible rfl)
  simp only [Act.put, List.getElem_toArray, List.getElem_cons_succ, List.getElem_cons_zero, List.setIfInBounds_toArray, List.set_cons_zero, List.set_cons_succ]
  refine wpAnyH_take (i := 4) (v := ?_) rfl (by kernel_rfl) (by kernel_rfl) (by kernel_rfl) (fun _ _ _ h => h) (Or.inl ⟨by kernel_rfl, ?_⟩) (by assumption) ?_
  rotate_left
  · (intro w hSw; (try dsimp only at hSw); go_simp; try with_reducible rfl)
  simp only [Act.put, List.getElem_toArray, List.getElem_cons_succ, List.getElem_cons_zero, List.setIfInBounds_toArray, List.set_cons_zero, List.set_cons_succ]
  refine wpAnyH_take (i := 6) (v := ?_) rfl (by kernel_rfl) (by kernel_rfl) (by kernel_rfl) (fun _ _ _ h => h) (Or.inl ⟨by kernel_rfl, ?_⟩) (by assumption) ?_
  rotate_left
  · (intro w hSw; (try dsimp only at hSw); go_simp; try with_reducible rfl)
  simp only [Act.put, List.getElem_toArray, List.getElem_cons_succ, List.getElem_cons_zero, List.setIfInBounds_toArray, List.set_cons_zero, List.set_cons_succ]
  refine wpAnyH_take (i := 7) (v := ?_) rfl (by kernel_rfl) (by kernel_rfl) (by kernel_rfl) (fun _ _ _ h => h) (Or.inl ⟨by kernel_rfl, ?_⟩) (by assumption) ?_
  rotate_left
  · (intro w hSw; (try dsimp only at hSw); go_simp; try with_reducible rfl)
  simp only [Act.put, List.getElem_toArray, List.getElem_cons_succ, List.getElem_cons_zero, List.setIfInBounds_toArray, List.set_cons_zero, List.set_cons_succ]
  refine wpAnyH_take (i := 8) (v := ?_) rfl (by kernel_rfl) (by kernel_rfl) (by kernel_rfl) (fun _ _ _ h => h) (Or.inl ⟨by kernel_rfl, ?_⟩) (by assumption) ?_
  rotate_left
  · (intro w hSw; (try dsimp only at hSw); go_simp; try with_reducible rfl)
  simp only [Act.put, List.getElem_toArray, List.getElem_cons_succ, List.getElem_cons_zero, List.setIfInBounds_toArray, List.set_cons_zero, List.set_cons_succ]
  refine wpAnyH_take (i := 9) (v := ?_) rfl (by kernel_rfl) (by kernel_rfl) (by kernel_rfl) (fun _ _ _ h => h) (Or.inl ⟨by kernel_rfl, ?_⟩) (by assumption) ?_
  rotate_left
  · (intro w hSw; (try dsimp only at hSw); go_simp; try with_reducible rfl)
  simp only [Act.put, List.getElem_toArray, List.getElem_cons_succ, List.getElem_cons_zero, List.setIfInBounds_toArray, List.set_cons_zero, List.set_cons_succ]
  refine wpAnyH_take (i := 10) (v := ?_) rfl (by kernel_rfl) (by kernel_rfl) (by kernel_rfl) (fun _ _ _ h => h) (Or.inl ⟨by kernel_rfl, ?_⟩) (by assumption) ?_
  rotate_left
  · (intro w hSw; (try dsimp only at hSw); go_simp; try with_reducible rfl)
  simp only [Act.put, List.getElem_toArray, List.getElem_cons_succ, List.getElem_cons_zero, List.setIfInBounds_toArray, List.set_cons_zero, List.set_cons_succ]
  refine wpAnyH_ready (rs := [5]) (by kernel_rfl) (by simp) ?_
  refine AllReadyH.cons rfl (fun K hK => ?_) AllReadyH.nil
  go_simp
  go_wp2_with (go_at_call 41; ((with_reducible refine (P0.out _ (bdrew (Below.refl _ _))).mono ?_)); rintro e w1 ⟨g0, c0, rfl, ho0, hb1⟩)
  have B1 := bon (bdrew (Below.refl W2.heap.size W2)) hb1
  refine hK.out _ _ (keep2 (by assumption) hb1) (fun hHeld => ?_)
  clear hK
  refine wpAnyH_ready (rs := [11]) (by kernel_rfl) (by simp) ?_
  refine AllReadyH.cons rfl (fun K hK => ?_) AllReadyH.nil
  go_simp
  go_wp2_with (go_at_call 41; ((with_reducible refine (P1.out _ B1).mono ?_)); rintro e w3 ⟨g1, c1, rfl, ho1, hb3⟩)
  refine hK.out _ _ (keep2 (by assumption) hb3) (fun hHeld => ?_)
  clear hK
  refine wpAnyH_take (i := 12) (v := ?_) rfl (by kernel_rfl) (by kernel_rfl) (by kernel_rfl) (fun _ _ _ h => h) (Or.inl ⟨by kernel_rfl, ?_⟩) (by assumption) ?_
  rotate_left
  · (intro w hSw; (try dsimp only at hSw); go_simp; try with_reducible rfl)
  simp only [Act.put, List.getElem_toArray, List.getElem_cons_succ, List.getElem_cons_zero, List.setIfInBounds_toArray, List.set_cons_zero, List.set_cons_succ]
  refine wpAnyH_take (i := 13) (v := ?_) rfl (by kernel_rfl) (by kernel_rfl) (by kernel_rfl) (fun _ _ _ h => h) (Or.inl ⟨by kernel_rfl, ?_⟩) (by assumption) ?_
  rotate_left
  · (intro w hSw; (try dsimp only at hSw); go_simp; try with_reducible rfl)
  simp only [Act.put, List.getElem_toArray, List.getElem_cons_succ, List.getElem_cons_zero, List.setIfInBounds_toArray, List.set_cons_zero, List.set_cons_succ]
  refine wpAnyH_done (by kernel_rfl) ?_ _
  have BW := bon (bon hb2 B1) hb3
  have hu0 : w3.cell? ⟨w.heap.size + 1, 0, none⟩ = some (.int .i64 27) := hHeld.2.2.1
  have own0 := (Own.bin ho0).keep hb3
  have bin0 := own0.mono hb3.size
  have bin1 := Own.bin ho1
  have h01 := H01.out
  have SC := mkHid (within_any l0 l1 g0 g1 c0 c1 w3 (by omega) (by omega) bin0 bin1)
  have SC2 := mkHid (fun w' (hb : Below w3.heap.size w3 w') => within_any l1 l0 g1 g0 c1 c0 w' (by omega) (by omega) ((bin1.keep hb).mono hb.size) ((bin0.keep hb).mono hb.size))
  clear h01
  cases hs : subB l0 l1
  · rw [hs] at SC
    have HS := mkHid hs
    clear hs
    go_wp2_with (go_at_call 65; ((with_reducible refine SC.out.mono ?_)); rintro e w4 ⟨rfl, hb4⟩)
    go_ret
    exact ⟨by rw [HS.out]; rfl, bon BW hb4⟩
  · rw [hs] at SC
    have HS := mkHid hs
    clear hs
    go_wp2_with fail
    ((with_reducible refine SC.out.mono ?_)); rintro e w4 ⟨rfl, hb4⟩
    have hu1 := cell_later hb4 hu0
    go_wp2_with (go_at_call 65; ((with_reducible refine (SC2.out _ hb4).mono ?_)); rintro e w5 ⟨rfl, hb5⟩)
    go_ret
    exact ⟨by rw [HS.out]; rfl, bon (bon BW hb4) hb5⟩
end
end Go.Proofs.YtdfebacjbapahaaGreatDoor
