/-
  What SubstValues's proof stands on, part 11: EvE.
-/
import Derived.Test.YtdfebacjbapahaaGreatDoorSubstValuesK09
import Derived.Test.YtdfebacjbapahaaGreatDoorSubstValuesK10
import Derived.BigRegion
import Derived.Deep.RegionHeld2
namespace Go.Proofs.YtdfebacjbapahaaGreatDoor
section
open Go.RowKit

/-- what a call of eval's number does with a term in a world -/
def CallsN (W : Wd) (t : Tm) (P : World → Ending → World → Prop) : Prop := ∀ w : World, WIn w w.heap.size W → TIn w w.heap.size t → Calls Tryz.prog 40 #[W.val, t.val] w (P w)
/-- what a call of eval's set does with a term in a world -/
def CallsS (W : Wd) (t : Tm) (P : World → Ending → World → Prop) : Prop := ∀ w : World, WIn w w.heap.size W → TIn w w.heap.size t → Calls Tryz.prog 41 #[W.val, t.val] w (P w)
/-- what a call of eval's node does with a term in a world -/
def CallsD (W : Wd) (t : Tm) (P : World → Ending → World → Prop) : Prop := ∀ w : World, WIn w w.heap.size W → TIn w w.heap.size t → Calls Tryz.prog 42 #[W.val, t.val] w (P w)
/-- what a call of eval's truth does with a term in a world -/
def CallsB (W : Wd) (t : Tm) (P : World → Ending → World → Prop) : Prop := ∀ w : World, WIn w w.heap.size W → TIn w w.heap.size t → Calls Tryz.prog 43 #[W.val, t.val] w (P w)
theorem keep1 {w w' : World} {p0 p1 p2 p3 p4 p5 p6 p7 p8 p9 : Addr} {v0 v1 v2 v3 v4 v5 v6 v7 v8 v9 : Value} (h : w.cell? p0 = some v0 ∧ w.cell? p1 = some v1 ∧ w.cell? p2 = some v2 ∧ w.cell? p3 = some v3 ∧ w.cell? p4 = some v4 ∧ w.cell? p5 = some v5 ∧ w.cell? p6 = some v6 ∧ w.cell? p7 = some v7 ∧ w.cell? p8 = some v8 ∧ w.cell? p9 = some v9) (hb : Below w.heap.size w w') :
    w'.cell? p0 = some v0 ∧ w'.cell? p1 = some v1 ∧ w'.cell? p2 = some v2 ∧ w'.cell? p3 = some v3 ∧ w'.cell? p4 = some v4 ∧ w'.cell? p5 = some v5 ∧ w'.cell? p6 = some v6 ∧ w'.cell? p7 = some v7 ∧ w'.cell? p8 = some v8 ∧ w'.cell? p9 = some v9 := by
  obtain ⟨x0, x1, x2, x3, x4, x5, x6, x7, x8, x9⟩ := h
  exact ⟨cell_later hb x0, cell_later hb x1, cell_later hb x2, cell_later hb x3, cell_later hb x4, cell_later hb x5, cell_later hb x6, cell_later hb x7, cell_later hb x8, cell_later hb x9⟩
theorem keep2 {w w' : World} {p0 p1 p2 p3 p4 p5 p6 p7 p8 p9 p10 p11 p12 p13 : Addr} {v0 v1 v2 v3 v4 v5 v6 v7 v8 v9 v10 v11 v12 v13 : Value} (h : w.cell? p0 = some v0 ∧ w.cell? p1 = some v1 ∧ w.cell? p2 = some v2 ∧ w.cell? p3 = some v3 ∧ w.cell? p4 = some v4 ∧ w.cell? p5 = some v5 ∧ w.cell? p6 = some v6 ∧ w.cell? p7 = some v7 ∧ w.cell? p8 = some v8 ∧ w.cell? p9 = some v9 ∧ w.cell? p10 = some v10 ∧ w.cell? p11 = some v11 ∧ w.cell? p12 = some v12 ∧ w.cell? p13 = some v13) (hb : Below w.heap.size w w') :
    w'.cell? p0 = some v0 ∧ w'.cell? p1 = some v1 ∧ w'.cell? p2 = some v2 ∧ w'.cell? p3 = some v3 ∧ w'.cell? p4 = some v4 ∧ w'.cell? p5 = some v5 ∧ w'.cell? p6 = some v6 ∧ w'.cell? p7 = some v7 ∧ w'.cell? p8 = some v8 ∧ w'.cell? p9 = some v9 ∧ w'.cell? p10 = some v10 ∧ w'.cell? p11 = some v11 ∧ w'.cell? p12 = some v12 ∧ w'.cell? p13 = some v13 := by
  obtain ⟨x0, x1, x2, x3, x4, x5, x6, x7, x8, x9, x10, x11, x12, x13⟩ := h
  exact ⟨cell_later hb x0, cell_later hb x1, cell_later hb x2, cell_later hb x3, cell_later hb x4, cell_later hb x5, cell_later hb x6, cell_later hb x7, cell_later hb x8, cell_later hb x9, cell_later hb x10, cell_later hb x11, cell_later hb x12, cell_later hb x13⟩
set_option maxRecDepth 100000 in
set_option maxHeartbeats 4000000 in
theorem num4_e0 (W : Wd) (t : Tm) (k0 k1 : Tm) (hop : t.op = 4) (hks : t.ks = [k0, k1]) {e0 : Int} {P : World → Ending → World → Prop} (C0 : CallsN W k0 (PanK e0)) (C1 : CallsN W k1 P) : CallsN W t (PanK e0) := by
  intro w hW ht
  obtain ⟨op, nm, n, a, c, ks⟩ := t
  simp only [Tm.op, Tm.ks] at hop hks
  subst hop hks
  obtain ⟨kin0, b, o, ha, hbl, kf0⟩ := ht.kid 0 (by simp [Tm.ks])
  obtain ⟨kin1, b1, o1, ha1, hbl1, kf1⟩ := ht.kid 1 (by simp [Tm.ks])
  simp only [Tm.a, Tm.ks, List.getElem_cons_zero, List.getElem_cons_succ, Nat.zero_mul, Nat.one_mul, Nat.add_zero] at ha kin0 kf0 ha1 kin1 kf1
  subst ha
  cases ha1
  have htn := ht.nums
  simp only [Tm.op, Tm.nm, Tm.n, Tm.ks, Tm.c] at htn
  have hb2 : Below w.heap.size w ((w.alloc (boxP W)).alloc (.cells #[.int .i64 4, .string nm, .int .i64 n, .slice (some ⟨b, o, none⟩) 2 c] 24)) := bal (bal (Below.refl _ _) _) _
  have TP : TwoW ((w.alloc (boxP W)).alloc (.cells #[.int .i64 4, .string nm, .int .i64 n, .slice (some ⟨b, o, none⟩) 2 c] 24)) w.heap.size W := (boxP_two w W).later (bel_alloc _ _)
  have TT : ((w.alloc (boxP W)).alloc (.cells #[.int .i64 4, .string nm, .int .i64 n, .slice (some ⟨b, o, none⟩) 2 c] 24)).cell? ⟨w.heap.size + 1, 0, none⟩ = some (.int .i64 4) ∧ ((w.alloc (boxP W)).alloc (.cells #[.int .i64 4, .string nm, .int .i64 n, .slice (some ⟨b, o, none⟩) 2 c] 24)).cell? ⟨w.heap.size + 1, 1, none⟩ = some (.string nm) ∧ ((w.alloc (boxP W)).alloc (.cells #[.int .i64 4, .string nm, .int .i64 n, .slice (some ⟨b, o, none⟩) 2 c] 24)).cell? ⟨w.heap.size + 1, 2, none⟩ = some (.int .i64 n) ∧ ((w.alloc (boxP W)).alloc (.cells #[.int .i64 4, .string nm, .int .i64 n, .slice (some ⟨b, o, none⟩) 2 c] 24)).cell? ⟨w.heap.size + 1, 3, none⟩ = some (.slice (some ⟨b, o, none⟩) 2 c) := by simp [go_sem]
  have hW2 : (w.alloc (.cells #[.int .i64 W.nodes, .slice W.a W.l.length W.c] 55)).alloc (.cells #[.int .i64 4, .string nm, .int .i64 n, .slice (some ⟨b, o, none⟩) 2 c] 24) = (w.alloc (boxP W)).alloc (.cells #[.int .i64 4, .string nm, .int .i64 n, .slice (some ⟨b, o, none⟩) 2 c] 24) := rfl
  have hX2 : w.heap.size + 1 < ((w.alloc (boxP W)).alloc (.cells #[.int .i64 4, .string nm, .int .i64 n, .slice (some ⟨b, o, none⟩) 2 c] 24)).heap.size := by simp
  generalize (w.alloc (boxP W)).alloc (.cells #[.int .i64 4, .string nm, .int .i64 n, .slice (some ⟨b, o, none⟩) 2 c] 24) = W2 at *
  have P0 := mkHid (fun (w' : World) (hb : Below W2.heap.size W2 w') => C0 w' (hW.later (bon hb2 hb)) (kin0.later (bon hb2 hb)))
  unfold Wd.val Tm.val at P0
  obtain ⟨q00, q01, q02, q03⟩ : Four W2 b o k0 := Four.keep kf0 hb2 hbl
  have P1 := mkHid (fun (w' : World) (hb : Below W2.heap.size W2 w') => C1 w' (hW.later (bon hb2 hb)) (kin1.later (bon hb2 hb)))
  unfold Wd.val Tm.val at P1
  obtain ⟨q10, q11, q12, q13⟩ : Four W2 b (o + 4) k1 := Four.keep kf1 hb2 hbl1
  clear C0 kin0 kf0 C1 kin1 kf1
  unfold Wd.val Tm.val
  simp only [Tm.op, Tm.nm, Tm.n, Tm.a, Tm.ks, Tm.c, List.length_cons, List.length_nil, Nat.zero_add, Nat.reduceAdd]
  obtain ⟨t0, t1⟩ := TP
  obtain ⟨u0, u1, u2, u3⟩ := TT
  go_enter Tryz.func40, Tryz.ntmps40
  go_wp2_with fail
  (try dsimp only [List.append])
  refine wp_region_held_drew (S := fun w' => w'.cell? ⟨w.heap.size, 0, none⟩ = some (.int .i64 W.nodes) ∧ w'.cell? ⟨w.heap.size, 1, none⟩ = some (.slice W.a W.l.length W.c) ∧ w'.cell? ⟨w.heap.size + 1, 0, none⟩ = some (.int .i64 4) ∧ w'.cell? ⟨w.heap.size + 1, 1, none⟩ = some (.string nm) ∧ w'.cell? ⟨w.heap.size + 1, 2, none⟩ = some (.int .i64 n) ∧ w'.cell? ⟨w.heap.size + 1, 3, none⟩ = some (.slice (some ⟨b, o, none⟩) 2 c) ∧ w'.cell? ⟨b, o, none⟩ = some (.int .i64 k0.op) ∧ w'.cell? ⟨b, o + 1, none⟩ = some (.string k0.nm) ∧ w'.cell? ⟨b, o + 2, none⟩ = some (.int .i64 k0.n) ∧ w'.cell? ⟨b, o + 3, none⟩ = some (.slice k0.a k0.ks.length k0.c) ∧ w'.cell? ⟨b, o + 4, none⟩ = some (.int .i64 k1.op) ∧ w'.cell? ⟨b, o + 4 + 1, none⟩ = some (.string k1.nm) ∧ w'.cell? ⟨b, o + 4 + 2, none⟩ = some (.int .i64 k1.n) ∧ w'.cell? ⟨b, o + 4 + 3, none⟩ = some (.slice k1.a k1.ks.length k1.c)) (by kernel_rfl) ⟨t0, t1, u0, u1, u2, u3, q00, q01, q02, q03, q10, q11, q12, q13⟩ (fun hHeld => ?_)
  refine wpAnyH_take (i := 0) (v := ?_) rfl (by kernel_rfl) (by kernel_rfl) (by kernel_rfl) (fun _ _ _ h => h) (Or.inl ⟨by kernel_rfl, ?_⟩) (by assumption) ?_
  rotate_left
  · (intro w hSw; (try dsimp only at hSw); go_simp; try with_reducible rfl)
  simp only [Act.put, List.getElem_toArray, List.getElem_cons_zero, List.setIfInBounds_toArray, List.set_cons_zero, List.set_cons_succ]
  refine wpAnyH_take (i := 1) (v := ?_) rfl (by kernel_rfl) (by kernel_rfl) (by kernel_rfl) (fun _ _ _ h => h) (Or.inl ⟨by kernel_rfl, ?_⟩) (by assumption) ?_
  rotate_left
  · (intro w hSw; (try dsimp only at hSw); go_simp; try with_reducible rfl)
  simp only [Act.put, List.getElem_toArray, List.getElem_cons_succ, List.getElem_cons_zero, List.setIfInBounds_toArray, List.set_cons_zero, List.set_cons_succ]
  refine wpAnyH_take (i := 2) (v := ?_) rfl (by kernel_rfl) (by kernel_rfl) (by kernel_rfl) (fun _ _ _ h => h) (Or.inl ⟨by kernel_rfl, ?_⟩) (by assumption) ?_
  rotate_left
  · (intro w hSw; (try dsimp only at hSw); go_simp; try with_reducible rfl)
  simp only [Act.put, List.getElem_toArray, List.getElem_cons_succ, List.getElem_cons_zero, List.setIfInBounds_toArray, List.set_cons_zero, List.set_cons_succ]
  refine wpAnyH_take (i := 3) (v := ?_) rfl (by kernel_rfl) (by kernel_rfl) (by kernel_rfl) (fun _ _ _ h => h) (Or.inl ⟨by kernel_rfl, ?_⟩) (by assumption) ?_
  rotate_left
  · (intro w hSw; (try dsimp only at hSw); go_simp; try with_reducible rfl)
  simp only [Act.put, List.getElem_toArray, List.getElem_cons_succ, List.getElem_cons_zero, List.setIfInBounds_toArray, List.set_cons_zero, List.set_cons_succ]
  refine wpAnyH_take (i := 4) (v := ?_) rfl (by kernel_rfl) (by kernel_rfl) (by kernel_rfl) (fun _ _ _ h => h) (Or.inl ⟨by kernel_rfl, ?_⟩) (by assumption) ?_
  rotate_left
  · (intro w hSw; (try dsimp only at hSw); go_simp; try with_reducible rfl)
  simp only [Act.put, List.getElem_toArray, List.getElem_cons_succ, List.getElem_cons_zero, List.setIfInBounds_toArray, List.set_cons_zero, List.set_cons_succ]
  refine wpAnyH_take (i := 6) (v := ?_) rfl (by kernel_rfl) (by kernel_rfl) (by kernel_rfl) (fun _ _ _ h => h) (Or.inl ⟨by kernel_rfl, ?_⟩) (by assumption) ?_
  rotate_left
  · (intro w hSw; (try dsimp only at hSw); go_simp; try with_reducible rfl)
  simp only [Act.put, List.getElem_toArray, List.getElem_cons_succ, List.getElem_cons_zero, List.setIfInBounds_toArray, List.set_cons_zero, List.set_cons_succ]
  refine wpAnyH_take (i := 7) (v := ?_) rfl (by kernel_rfl) (by kernel_rfl) (by kernel_rfl) (fun _ _ _ h => h) (Or.inl ⟨by kernel_rfl, ?_⟩) (by assumption) ?_
  rotate_left
  · (intro w hSw; (try dsimp only at hSw); go_simp; try with_reducible rfl)
  simp only [Act.put, List.getElem_toArray, List.getElem_cons_succ, List.getElem_cons_zero, List.setIfInBounds_toArray, List.set_cons_zero, List.set_cons_succ]
  refine wpAnyH_take (i := 8) (v := ?_) rfl (by kernel_rfl) (by kernel_rfl) (by kernel_rfl) (fun _ _ _ h => h) (Or.inl ⟨by kernel_rfl, ?_⟩) (by assumption) ?_
  rotate_left
  · (intro w hSw; (try dsimp only at hSw); go_simp; try with_reducible rfl)
  simp only [Act.put, List.getElem_toArray, List.getElem_cons_succ, List.getElem_cons_zero, List.setIfInBounds_toArray, List.set_cons_zero, List.set_cons_succ]
  refine wpAnyH_take (i := 9) (v := ?_) rfl (by kernel_rfl) (by kernel_rfl) (by kernel_rfl) (fun _ _ _ h => h) (Or.inl ⟨by kernel_rfl, ?_⟩) (by assumption) ?_
  rotate_left
  · (intro w hSw; (try dsimp only at hSw); go_simp; try with_reducible rfl)
  simp only [Act.put, List.getElem_toArray, List.getElem_cons_succ, List.getElem_cons_zero, List.setIfInBounds_toArray, List.set_cons_zero, List.set_cons_succ]
  refine wpAnyH_take (i := 10) (v := ?_) rfl (by kernel_rfl) (by kernel_rfl) (by kernel_rfl) (fun _ _ _ h => h) (Or.inl ⟨by kernel_rfl, ?_⟩) (by assumption) ?_
  rotate_left
  · (intro w hSw; (try dsimp only at hSw); go_simp; try with_reducible rfl)
  simp only [Act.put, List.getElem_toArray, List.getElem_cons_succ, List.getElem_cons_zero, List.setIfInBounds_toArray, List.set_cons_zero, List.set_cons_succ]
  refine wpAnyH_ready (rs := [5]) (by kernel_rfl) (by simp) ?_
  refine AllReadyH.cons rfl (fun K hK => ?_) AllReadyH.nil
  go_simp
  go_wp2_with (go_at_call 40; ((with_reducible refine (P0.out _ (bdrew (Below.refl _ _))).mono ?_)); rintro e w1 ⟨rfl, hb1⟩)
  exact ⟨rfl, rfl, bon (bdrew hb2) hb1⟩

set_option maxRecDepth 100000 in
set_option maxHeartbeats 4000000 in
theorem num4_e1 (W : Wd) (t : Tm) (k0 k1 : Tm) (hop : t.op = 4) (hks : t.ks = [k0, k1]) {n0 e1 : Int} (C0 : CallsN W k0 (RetI n0)) (C1 : CallsN W k1 (PanK e1)) : CallsN W t (PanK e1) := by
  intro w hW ht
  obtain ⟨op, nm, n, a, c, ks⟩ := t
  simp only [Tm.op, Tm.ks] at hop hks
  subst hop hks
  obtain ⟨kin0, b, o, ha, hbl, kf0⟩ := ht.kid 0 (by simp [Tm.ks])
  obtain ⟨kin1, b1, o1, ha1, hbl1, kf1⟩ := ht.kid 1 (by simp [Tm.ks])
  simp only [Tm.a, Tm.ks, List.getElem_cons_zero, List.getElem_cons_succ, Nat.zero_mul, Nat.one_mul, Nat.add_zero] at ha kin0 kf0 ha1 kin1 kf1
  subst ha
  cases ha1
  have htn := ht.nums
  simp only [Tm.op, Tm.nm, Tm.n, Tm.ks, Tm.c] at htn
  have hb2 : Below w.heap.size w ((w.alloc (boxP W)).alloc (.cells #[.int .i64 4, .string nm, .int .i64 n, .slice (some ⟨b, o, none⟩) 2 c] 24)) := bal (bal (Below.refl _ _) _) _
  have TP : TwoW ((w.alloc (boxP W)).alloc (.cells #[.int .i64 4, .string nm, .int .i64 n, .slice (some ⟨b, o, none⟩) 2 c] 24)) w.heap.size W := (boxP_two w W).later (bel_alloc _ _)
  have TT : ((w.alloc (boxP W)).alloc (.cells #[.int .i64 4, .string nm, .int .i64 n, .slice (some ⟨b, o, none⟩) 2 c] 24)).cell? ⟨w.heap.size + 1, 0, none⟩ = some (.int .i64 4) ∧ ((w.alloc (boxP W)).alloc (.cells #[.int .i64 4, .string nm, .int .i64 n, .slice (some ⟨b, o, none⟩) 2 c] 24)).cell? ⟨w.heap.size + 1, 1, none⟩ = some (.string nm) ∧ ((w.alloc (boxP W)).alloc (.cells #[.int .i64 4, .string nm, .int .i64 n, .slice (some ⟨b, o, none⟩) 2 c] 24)).cell? ⟨w.heap.size + 1, 2, none⟩ = some (.int .i64 n) ∧ ((w.alloc (boxP W)).alloc (.cells #[.int .i64 4, .string nm, .int .i64 n, .slice (some ⟨b, o, none⟩) 2 c] 24)).cell? ⟨w.heap.size + 1, 3, none⟩ = some (.slice (some ⟨b, o, none⟩) 2 c) := by simp [go_sem]
  have hW2 : (w.alloc (.cells #[.int .i64 W.nodes, .slice W.a W.l.length W.c] 55)).alloc (.cells #[.int .i64 4, .string nm, .int .i64 n, .slice (some ⟨b, o, none⟩) 2 c] 24) = (w.alloc (boxP W)).alloc (.cells #[.int .i64 4, .string nm, .int .i64 n, .slice (some ⟨b, o, none⟩) 2 c] 24) := rfl
  have hX2 : w.heap.size + 1 < ((w.alloc (boxP W)).alloc (.cells #[.int .i64 4, .string nm, .int .i64 n, .slice (some ⟨b, o, none⟩) 2 c] 24)).heap.size := by simp
  generalize (w.alloc (boxP W)).alloc (.cells #[.int .i64 4, .string nm, .int .i64 n, .slice (some ⟨b, o, none⟩) 2 c] 24) = W2 at *
  have P0 := mkHid (fun (w' : World) (hb : Below W2.heap.size W2 w') => C0 w' (hW.later (bon hb2 hb)) (kin0.later (bon hb2 hb)))
  unfold Wd.val Tm.val at P0
  obtain ⟨q00, q01, q02, q03⟩ : Four W2 b o k0 := Four.keep kf0 hb2 hbl
  have P1 := mkHid (fun (w' : World) (hb : Below W2.heap.size W2 w') => C1 w' (hW.later (bon hb2 hb)) (kin1.later (bon hb2 hb)))
  unfold Wd.val Tm.val at P1
  obtain ⟨q10, q11, q12, q13⟩ : Four W2 b (o + 4) k1 := Four.keep kf1 hb2 hbl1
  clear C0 kin0 kf0 C1 kin1 kf1
  unfold Wd.val Tm.val
  simp only [Tm.op, Tm.nm, Tm.n, Tm.a, Tm.ks, Tm.c, List.length_cons, List.length_nil, Nat.zero_add, Nat.reduceAdd]
  obtain ⟨t0, t1⟩ := TP
  obtain ⟨u0, u1, u2, u3⟩ := TT
  go_enter Tryz.func40, Tryz.ntmps40
  go_wp2_with fail
  (try dsimp only [List.append])
  refine wp_region_held_drew (S := fun w' => w'.cell? ⟨w.heap.size, 0, none⟩ = some (.int .i64 W.nodes) ∧ w'.cell? ⟨w.heap.size, 1, none⟩ = some (.slice W.a W.l.length W.c) ∧ w'.cell? ⟨w.heap.size + 1, 0, none⟩ = some (.int .i64 4) ∧ w'.cell? ⟨w.heap.size + 1, 1, none⟩ = some (.string nm) ∧ w'.cell? ⟨w.heap.size + 1, 2, none⟩ = some (.int .i64 n) ∧ w'.cell? ⟨w.heap.size + 1, 3, none⟩ = some (.slice (some ⟨b, o, none⟩) 2 c) ∧ w'.cell? ⟨b, o, none⟩ = some (.int .i64 k0.op) ∧ w'.cell? ⟨b, o + 1, none⟩ = some (.string k0.nm) ∧ w'.cell? ⟨b, o + 2, none⟩ = some (.int .i64 k0.n) ∧ w'.cell? ⟨b, o + 3, none⟩ = some (.slice k0.a k0.ks.length k0.c) ∧ w'.cell? ⟨b, o + 4, none⟩ = some (.int .i64 k1.op) ∧ w'.cell? ⟨b, o + 4 + 1, none⟩ = some (.string k1.nm) ∧ w'.cell? ⟨b, o + 4 + 2, none⟩ = some (.int .i64 k1.n) ∧ w'.cell? ⟨b, o + 4 + 3, none⟩ = some (.slice k1.a k1.ks.length k1.c)) (by kernel_rfl) ⟨t0, t1, u0, u1, u2, u3, q00, q01, q02, q03, q10, q11, q12, q13⟩ (fun hHeld => ?_)
  refine wpAnyH_take (i := 0) (v := ?_) rfl (by kernel_rfl) (by kernel_rfl) (by kernel_rfl) (fun _ _ _ h => h) (Or.inl ⟨by kernel_rfl, ?_⟩) (by assumption) ?_
  rotate_left
  · (intro w hSw; (try dsimp only at hSw); go_simp; try with_reducible rfl)
  simp only [Act.put, List.getElem_toArray, List.getElem_cons_zero, List.setIfInBounds_toArray, List.set_cons_zero, List.set_cons_succ]
  refine wpAnyH_take (i := 1) (v := ?_) rfl (by kernel_rfl) (by kernel_rfl) (by kernel_rfl) (fun _ _ _ h => h) (Or.inl ⟨by kernel_rfl, ?_⟩) (by assumption) ?_
  rotate_left
  · (intro w hSw; (try dsimp only at hSw); go_simp; try with_reducible rfl)
  simp only [Act.put, List.getElem_toArray, List.getElem_cons_succ, List.getElem_cons_zero, List.setIfInBounds_toArray, List.set_cons_zero, List.set_cons_succ]
  refine wpAnyH_take (i := 2) (v := ?_) rfl (by kernel_rfl) (by kernel_rfl) (by kernel_rfl) (fun _ _ _ h => h) (Or.inl ⟨by kernel_rfl, ?_⟩) (by assumption) ?_
  rotate_left
  · (intro w hSw; (try dsimp only at hSw); go_simp; try with_reducible rfl)
  simp only [Act.put, List.getElem_toArray, List.getElem_cons_succ, List.getElem_cons_zero, List.setIfInBounds_toArray, List.set_cons_zero, List.set_cons_succ]
  refine wpAnyH_take (i := 3) (v := ?_) rfl (by kernel_rfl) (by kernel_rfl) (by kernel_rfl) (fun _ _ _ h => h) (Or.inl ⟨by kernel_rfl, ?_⟩) (by assumption) ?_
  rotate_left
  · (intro w hSw; (try dsimp only at hSw); go_simp; try with_reducible rfl)
  simp only [Act.put, List.getElem_toArray, List.getElem_cons_succ, List.getElem_cons_zero, List.setIfInBounds_toArray, List.set_cons_zero, List.set_cons_succ]
  refine wpAnyH_take (i := 4) (v := ?_) rfl (by kernel_rfl) (by kernel_rfl) (by kernel_rfl) (fun _ _ _ h => h) (Or.inl ⟨by kernel_rfl, ?_⟩) (by assumption) ?_
  rotate_left
  · (intro w hSw; (try dsimp only at hSw); go_simp; try with_reducible rfl)
  simp only [Act.put, List.getElem_toArray, List.getElem_cons_succ, List.getElem_cons_zero, List.setIfInBounds_toArray, List.set_cons_zero, List.set_cons_succ]
  refine wpAnyH_take (i := 6) (v := ?_) rfl (by kernel_rfl) (by kernel_rfl) (by kernel_rfl) (fun _ _ _ h => h) (Or.inl ⟨by kernel_rfl, ?_⟩) (by assumption) ?_
  rotate_left
  · (intro w hSw; (try dsimp only at hSw); go_simp; try with_reducible rfl)
  simp only [Act.put, List.getElem_toArray, List.getElem_cons_succ, List.getElem_cons_zero, List.setIfInBounds_toArray, List.set_cons_zero, List.set_cons_succ]
  refine wpAnyH_take (i := 7) (v := ?_) rfl (by kernel_rfl) (by kernel_rfl) (by kernel_rfl) (fun _ _ _ h => h) (Or.inl ⟨by kernel_rfl, ?_⟩) (by assumption) ?_
  rotate_left
  · (intro w hSw; (try dsimp only at hSw); go_simp; try with_reducible rfl)
  simp only [Act.put, List.getElem_toArray, List.getElem_cons_succ, List.getElem_cons_zero, List.setIfInBounds_toArray, List.set_cons_zero, List.set_cons_succ]
  refine wpAnyH_take (i := 8) (v := ?_) rfl (by kernel_rfl) (by kernel_rfl) (by kernel_rfl) (fun _ _ _ h => h) (Or.inl ⟨by kernel_rfl, ?_⟩) (by assumption) ?_
  rotate_left
  · (intro w hSw; (try dsimp only at hSw); go_simp; try with_reducible rfl)
  simp only [Act.put, List.getElem_toArray, List.getElem_cons_succ, List.getElem_cons_zero, List.setIfInBounds_toArray, List.set_cons_zero, List.set_cons_succ]
  refine wpAnyH_take (i := 9) (v := ?_) rfl (by kernel_rfl) (by kernel_rfl) (by kernel_rfl) (fun _ _ _ h => h) (Or.inl ⟨by kernel_rfl, ?_⟩) (by assumption) ?_
  rotate_left
  · (intro w hSw; (try dsimp only at hSw); go_simp; try with_reducible rfl)
  simp only [Act.put, List.getElem_toArray, List.getElem_cons_succ, List.getElem_cons_zero, List.setIfInBounds_toArray, List.set_cons_zero, List.set_cons_succ]
  refine wpAnyH_take (i := 10) (v := ?_) rfl (by kernel_rfl) (by kernel_rfl) (by kernel_rfl) (fun _ _ _ h => h) (Or.inl ⟨by kernel_rfl, ?_⟩) (by assumption) ?_
  rotate_left
  · (intro w hSw; (try dsimp only at hSw); go_simp; try with_reducible rfl)
  simp only [Act.put, List.getElem_toArray, List.getElem_cons_succ, List.getElem_cons_zero, List.setIfInBounds_toArray, List.set_cons_zero, List.set_cons_succ]
  refine wpAnyH_ready (rs := [5]) (by kernel_rfl) (by simp) ?_
  refine AllReadyH.cons rfl (fun K hK => ?_) AllReadyH.nil
  go_simp
  go_wp2_with (go_at_call 40; ((with_reducible refine (P0.out _ (bdrew (Below.refl _ _))).mono ?_)); rintro e w1 ⟨rfl, hb1⟩)
  have B1 := bon (bdrew (Below.refl W2.heap.size W2)) hb1
  refine hK.out _ _ (keep2 (by assumption) hb1) (fun hHeld => ?_)
  clear hK
  refine wpAnyH_ready (rs := [11]) (by kernel_rfl) (by simp) ?_
  refine AllReadyH.cons rfl (fun K hK => ?_) AllReadyH.nil
  go_simp
  go_wp2_with (go_at_call 40; ((with_reducible refine (P1.out _ B1).mono ?_)); rintro e w3 ⟨rfl, hb3⟩)
  exact ⟨rfl, rfl, bon (bon hb2 B1) hb3⟩

set_option maxRecDepth 100000 in
set_option maxHeartbeats 4000000 in
theorem num4_ok (W : Wd) (t : Tm) (k0 k1 : Tm) (hop : t.op = 4) (hks : t.ks = [k0, k1]) {n0 n1 : Int} (C0 : CallsN W k0 (RetI n0)) (C1 : CallsN W k1 (RetI n1)) (h0 : fitB n0 = true) (h1 : fitB n1 = true) (hf : fitB (n0 + n1) = true) : CallsN W t (RetI (n0 + n1)) := by
  intro w hW ht
  obtain ⟨op, nm, n, a, c, ks⟩ := t
  simp only [Tm.op, Tm.ks] at hop hks
  subst hop hks
  obtain ⟨kin0, b, o, ha, hbl, kf0⟩ := ht.kid 0 (by simp [Tm.ks])
  obtain ⟨kin1, b1, o1, ha1, hbl1, kf1⟩ := ht.kid 1 (by simp [Tm.ks])
  simp only [Tm.a, Tm.ks, List.getElem_cons_zero, List.getElem_cons_succ, Nat.zero_mul, Nat.one_mul, Nat.add_zero] at ha kin0 kf0 ha1 kin1 kf1
  subst ha
  cases ha1
  have htn := ht.nums
  simp only [Tm.op, Tm.nm, Tm.n, Tm.ks, Tm.c] at htn
  have hb2 : Below w.heap.size w ((w.alloc (boxP W)).alloc (.cells #[.int .i64 4, .string nm, .int .i64 n, .slice (some ⟨b, o, none⟩) 2 c] 24)) := bal (bal (Below.refl _ _) _) _
  have TP : TwoW ((w.alloc (boxP W)).alloc (.cells #[.int .i64 4, .string nm, .int .i64 n, .slice (some ⟨b, o, none⟩) 2 c] 24)) w.heap.size W := (boxP_two w W).later (bel_alloc _ _)
  have TT : ((w.alloc (boxP W)).alloc (.cells #[.int .i64 4, .string nm, .int .i64 n, .slice (some ⟨b, o, none⟩) 2 c] 24)).cell? ⟨w.heap.size + 1, 0, none⟩ = some (.int .i64 4) ∧ ((w.alloc (boxP W)).alloc (.cells #[.int .i64 4, .string nm, .int .i64 n, .slice (some ⟨b, o, none⟩) 2 c] 24)).cell? ⟨w.heap.size + 1, 1, none⟩ = some (.string nm) ∧ ((w.alloc (boxP W)).alloc (.cells #[.int .i64 4, .string nm, .int .i64 n, .slice (some ⟨b, o, none⟩) 2 c] 24)).cell? ⟨w.heap.size + 1, 2, none⟩ = some (.int .i64 n) ∧ ((w.alloc (boxP W)).alloc (.cells #[.int .i64 4, .string nm, .int .i64 n, .slice (some ⟨b, o, none⟩) 2 c] 24)).cell? ⟨w.heap.size + 1, 3, none⟩ = some (.slice (some ⟨b, o, none⟩) 2 c) := by simp [go_sem]
  have hW2 : (w.alloc (.cells #[.int .i64 W.nodes, .slice W.a W.l.length W.c] 55)).alloc (.cells #[.int .i64 4, .string nm, .int .i64 n, .slice (some ⟨b, o, none⟩) 2 c] 24) = (w.alloc (boxP W)).alloc (.cells #[.int .i64 4, .string nm, .int .i64 n, .slice (some ⟨b, o, none⟩) 2 c] 24) := rfl
  have hX2 : w.heap.size + 1 < ((w.alloc (boxP W)).alloc (.cells #[.int .i64 4, .string nm, .int .i64 n, .slice (some ⟨b, o, none⟩) 2 c] 24)).heap.size := by simp
  generalize (w.alloc (boxP W)).alloc (.cells #[.int .i64 4, .string nm, .int .i64 n, .slice (some ⟨b, o, none⟩) 2 c] 24) = W2 at *
  have P0 := mkHid (fun (w' : World) (hb : Below W2.heap.size W2 w') => C0 w' (hW.later (bon hb2 hb)) (kin0.later (bon hb2 hb)))
  unfold Wd.val Tm.val at P0
  obtain ⟨q00, q01, q02, q03⟩ : Four W2 b o k0 := Four.keep kf0 hb2 hbl
  have P1 := mkHid (fun (w' : World) (hb : Below W2.heap.size W2 w') => C1 w' (hW.later (bon hb2 hb)) (kin1.later (bon hb2 hb)))
  unfold Wd.val Tm.val at P1
  obtain ⟨q10, q11, q12, q13⟩ : Four W2 b (o + 4) k1 := Four.keep kf1 hb2 hbl1
  clear C0 kin0 kf0 C1 kin1 kf1
  unfold Wd.val Tm.val
  simp only [Tm.op, Tm.nm, Tm.n, Tm.a, Tm.ks, Tm.c, List.length_cons, List.length_nil, Nat.zero_add, Nat.reduceAdd]
  obtain ⟨t0, t1⟩ := TP
  obtain ⟨u0, u1, u2, u3⟩ := TT
  have AD := mkHid (fun w => Nu.add_any n0 n1 w h0 h1)
  rw [show Nu.tel (n0 + n1) = n0 + n1 from if_pos hf, show Nu.fitB (n0 + n1) = true from hf] at AD
  go_enter Tryz.func40, Tryz.ntmps40
  go_wp2_with fail
  (try dsimp only [List.append])
  refine wp_region_held_drew (S := fun w' => w'.cell? ⟨w.heap.size, 0, none⟩ = some (.int .i64 W.nodes) ∧ w'.cell? ⟨w.heap.size, 1, none⟩ = some (.slice W.a W.l.length W.c) ∧ w'.cell? ⟨w.heap.size + 1, 0, none⟩ = some (.int .i64 4) ∧ w'.cell? ⟨w.heap.size + 1, 1, none⟩ = some (.string nm) ∧ w'.cell? ⟨w.heap.size + 1, 2, none⟩ = some (.int .i64 n) ∧ w'.cell? ⟨w.heap.size + 1, 3, none⟩ = some (.slice (some ⟨b, o, none⟩) 2 c) ∧ w'.cell? ⟨b, o, none⟩ = some (.int .i64 k0.op) ∧ w'.cell? ⟨b, o + 1, none⟩ = some (.string k0.nm) ∧ w'.cell? ⟨b, o + 2, none⟩ = some (.int .i64 k0.n) ∧ w'.cell? ⟨b, o + 3, none⟩ = some (.slice k0.a k0.ks.length k0.c) ∧ w'.cell? ⟨b, o + 4, none⟩ = some (.int .i64 k1.op) ∧ w'.cell? ⟨b, o + 4 + 1, none⟩ = some (.string k1.nm) ∧ w'.cell? ⟨b, o + 4 + 2, none⟩ = some (.int .i64 k1.n) ∧ w'.cell? ⟨b, o + 4 + 3, none⟩ = some (.slice k1.a k1.ks.length k1.c)) (by kernel_rfl) ⟨t0, t1, u0, u1, u2, u3, q00, q01, q02, q03, q10, q11, q12, q13⟩ (fun hHeld => ?_)
  refine wpAnyH_take (i := 0) (v := ?_) rfl (by kernel_rfl) (by kernel_rfl) (by kernel_rfl) (fun _ _ _ h => h) (Or.inl ⟨by kernel_rfl, ?_⟩) (by assumption) ?_
  rotate_left
  · (intro w hSw; (try dsimp only at hSw); go_simp; try with_reducible rfl)
  simp only [Act.put, List.getElem_toArray, List.getElem_cons_zero, List.setIfInBounds_toArray, List.set_cons_zero, List.set_cons_succ]
  refine wpAnyH_take (i := 1) (v := ?_) rfl (by kernel_rfl) (by kernel_rfl) (by kernel_rfl) (fun _ _ _ h => h) (Or.inl ⟨by kernel_rfl, ?_⟩) (by assumption) ?_
  rotate_left
  · (intro w hSw; (try dsimp only at hSw); go_simp; try with_reducible rfl)
  simp only [Act.put, List.getElem_toArray, List.getElem_cons_succ, List.getElem_cons_zero, List.setIfInBounds_toArray, List.set_cons_zero, List.set_cons_succ]
  refine wpAnyH_take (i := 2) (v := ?_) rfl (by kernel_rfl) (by kernel_rfl) (by kernel_rfl) (fun _ _ _ h => h) (Or.inl ⟨by kernel_rfl, ?_⟩) (by assumption) ?_
  rotate_left
  · (intro w hSw; (try dsimp only at hSw); go_simp; try with_reducible rfl)
  simp only [Act.put, List.getElem_toArray, List.getElem_cons_succ, List.getElem_cons_zero, List.setIfInBounds_toArray, List.set_cons_zero, List.set_cons_succ]
  refine wpAnyH_take (i := 3) (v := ?_) rfl (by kernel_rfl) (by kernel_rfl) (by kernel_rfl) (fun _ _ _ h => h) (Or.inl ⟨by kernel_rfl, ?_⟩) (by assumption) ?_
  rotate_left
  · (intro w hSw; (try dsimp only at hSw); go_simp; try with_reducible rfl)
  simp only [Act.put, List.getElem_toArray, List.getElem_cons_succ, List.getElem_cons_zero, List.setIfInBounds_toArray, List.set_cons_zero, List.set_cons_succ]
  refine wpAnyH_take (i := 4) (v := ?_) rfl (by kernel_rfl) (by kernel_rfl) (by kernel_rfl) (fun _ _ _ h => h) (Or.inl ⟨by kernel_rfl, ?_⟩) (by assumption) ?_
  rotate_left
  · (intro w hSw; (try dsimp only at hSw); go_simp; try with_reducible rfl)
  simp only [Act.put, List.getElem_toArray, List.getElem_cons_succ, List.getElem_cons_zero, List.setIfInBounds_toArray, List.set_cons_zero, List.set_cons_succ]
  refine wpAnyH_take (i := 6) (v := ?_) rfl (by kernel_rfl) (by kernel_rfl) (by kernel_rfl) (fun _ _ _ h => h) (Or.inl ⟨by kernel_rfl, ?_⟩) (by assumption) ?_
  rotate_left
  · (intro w hSw; (try dsimp only at hSw); go_simp; try with_reducible rfl)
  simp only [Act.put, List.getElem_toArray, List.getElem_cons_succ, List.getElem_cons_zero, List.setIfInBounds_toArray, List.set_cons_zero, List.set_cons_succ]
  refine wpAnyH_take (i := 7) (v := ?_) rfl (by kernel_rfl) (by kernel_rfl) (by kernel_rfl) (fun _ _ _ h => h) (Or.inl ⟨by kernel_rfl, ?_⟩) (by assumption) ?_
  rotate_left
  · (intro w hSw; (try dsimp only at hSw); go_simp; try with_reducible rfl)
  simp only [Act.put, List.getElem_toArray, List.getElem_cons_succ, List.getElem_cons_zero, List.setIfInBounds_toArray, List.set_cons_zero, List.set_cons_succ]
  refine wpAnyH_take (i := 8) (v := ?_) rfl (by kernel_rfl) (by kernel_rfl) (by kernel_rfl) (fun _ _ _ h => h) (Or.inl ⟨by kernel_rfl, ?_⟩) (by assumption) ?_
  rotate_left
  · (intro w hSw; (try dsimp only at hSw); go_simp; try with_reducible rfl)
  simp only [Act.put, List.getElem_toArray, List.getElem_cons_succ, List.getElem_cons_zero, List.setIfInBounds_toArray, List.set_cons_zero, List.set_cons_succ]
  refine wpAnyH_take (i := 9) (v := ?_) rfl (by kernel_rfl) (by kernel_rfl) (by kernel_rfl) (fun _ _ _ h => h) (Or.inl ⟨by kernel_rfl, ?_⟩) (by assumption) ?_
  rotate_left
  · (intro w hSw; (try dsimp only at hSw); go_simp; try with_reducible rfl)
  simp only [Act.put, List.getElem_toArray, List.getElem_cons_succ, List.getElem_cons_zero, List.setIfInBounds_toArray, List.set_cons_zero, List.set_cons_succ]
  refine wpAnyH_take (i := 10) (v := ?_) rfl (by kernel_rfl) (by kernel_rfl) (by kernel_rfl) (fun _ _ _ h => h) (Or.inl ⟨by kernel_rfl, ?_⟩) (by assumption) ?_
  rotate_left
  · (intro w hSw; (try dsimp only at hSw); go_simp; try with_reducible rfl)
  simp only [Act.put, List.getElem_toArray, List.getElem_cons_succ, List.getElem_cons_zero, List.setIfInBounds_toArray, List.set_cons_zero, List.set_cons_succ]
  refine wpAnyH_ready (rs := [5]) (by kernel_rfl) (by simp) ?_
  refine AllReadyH.cons rfl (fun K hK => ?_) AllReadyH.nil
  go_simp
  go_wp2_with (go_at_call 40; ((with_reducible refine (P0.out _ (bdrew (Below.refl _ _))).mono ?_)); rintro e w1 ⟨rfl, hb1⟩)
  have B1 := bon (bdrew (Below.refl W2.heap.size W2)) hb1
  refine hK.out _ _ (keep2 (by assumption) hb1) (fun hHeld => ?_)
  clear hK
  refine wpAnyH_ready (rs := [11]) (by kernel_rfl) (by simp) ?_
  refine AllReadyH.cons rfl (fun K hK => ?_) AllReadyH.nil
  go_simp
  go_wp2_with (go_at_call 40; ((with_reducible refine (P1.out _ B1).mono ?_)); rintro e w3 ⟨rfl, hb3⟩)
  refine hK.out _ _ (keep2 (by assumption) hb3) (fun hHeld => ?_)
  clear hK
  refine wpAnyH_take (i := 12) (v := ?_) rfl (by kernel_rfl) (by kernel_rfl) (by kernel_rfl) (fun _ _ _ h => h) (Or.inl ⟨by kernel_rfl, ?_⟩) (by assumption) ?_
  rotate_left
  · (intro w hSw; (try dsimp only at hSw); go_simp; try with_reducible rfl)
  simp only [Act.put, List.getElem_toArray, List.getElem_cons_succ, List.getElem_cons_zero, List.setIfInBounds_toArray, List.set_cons_zero, List.set_cons_succ]
  refine wpAnyH_take (i := 13) (v := ?_) rfl (by kernel_rfl) (by kernel_rfl) (by kernel_rfl) (fun _ _ _ h => h) (Or.inl ⟨by kernel_rfl, ?_⟩) (by assumption) ?_
  rotate_left
  · (intro w hSw; (try dsimp only at hSw); go_simp; try with_reducible rfl)
  simp only [Act.put, List.getElem_toArray, List.getElem_cons_succ, List.getElem_cons_zero, List.setIfInBounds_toArray, List.set_cons_zero, List.set_cons_succ]
  refine wpAnyH_done (by kernel_rfl) ?_ _
  have BW := bon (bon hb2 B1) hb3
  go_wp2_with fail
  ((with_reducible refine (AD.out _).mono ?_)); rintro e w4 ⟨rfl, hb4⟩
  go_wp2_with (go_at_call 58; ((with_reducible refine (fit_ok _ _).mono ?_)); rintro e w5 ⟨rfl, hb5⟩)
  go_ret
  exact ⟨rfl, bon (bon BW hb4) hb5⟩

set_option maxRecDepth 100000 in
set_option maxHeartbeats 4000000 in
theorem num4_big (W : Wd) (t : Tm) (k0 k1 : Tm) (hop : t.op = 4) (hks : t.ks = [k0, k1]) {n0 n1 : Int} (C0 : CallsN W k0 (RetI n0)) (C1 : CallsN W k1 (RetI n1)) (h0 : fitB n0 = true) (h1 : fitB n1 = true) (hf : fitB (n0 + n1) = false) : CallsN W t (PanK 5) := by
  intro w hW ht
  obtain ⟨op, nm, n, a, c, ks⟩ := t
  simp only [Tm.op, Tm.ks] at hop hks
  subst hop hks
  obtain ⟨kin0, b, o, ha, hbl, kf0⟩ := ht.kid 0 (by simp [Tm.ks])
  obtain ⟨kin1, b1, o1, ha1, hbl1, kf1⟩ := ht.kid 1 (by simp [Tm.ks])
  simp only [Tm.a, Tm.ks, List.getElem_cons_zero, List.getElem_cons_succ, Nat.zero_mul, Nat.one_mul, Nat.add_zero] at ha kin0 kf0 ha1 kin1 kf1
  subst ha
  cases ha1
  have htn := ht.nums
  simp only [Tm.op, Tm.nm, Tm.n, Tm.ks, Tm.c] at htn
  have hb2 : Below w.heap.size w ((w.alloc (boxP W)).alloc (.cells #[.int .i64 4, .string nm, .int .i64 n, .slice (some ⟨b, o, none⟩) 2 c] 24)) := bal (bal (Below.refl _ _) _) _
  have TP : TwoW ((w.alloc (boxP W)).alloc (.cells #[.int .i64 4, .string nm, .int .i64 n, .slice (some ⟨b, o, none⟩) 2 c] 24)) w.heap.size W := (boxP_two w W).later (bel_alloc _ _)
  have TT : ((w.alloc (boxP W)).alloc (.cells #[.int .i64 4, .string nm, .int .i64 n, .slice (some ⟨b, o, none⟩) 2 c] 24)).cell? ⟨w.heap.size + 1, 0, none⟩ = some (.int .i64 4) ∧ ((w.alloc (boxP W)).alloc (.cells #[.int .i64 4, .string nm, .int .i64 n, .slice (some ⟨b, o, none⟩) 2 c] 24)).cell? ⟨w.heap.size + 1, 1, none⟩ = some (.string nm) ∧ ((w.alloc (boxP W)).alloc (.cells #[.int .i64 4, .string nm, .int .i64 n, .slice (some ⟨b, o, none⟩) 2 c] 24)).cell? ⟨w.heap.size + 1, 2, none⟩ = some (.int .i64 n) ∧ ((w.alloc (boxP W)).alloc (.cells #[.int .i64 4, .string nm, .int .i64 n, .slice (some ⟨b, o, none⟩) 2 c] 24)).cell? ⟨w.heap.size + 1, 3, none⟩ = some (.slice (some ⟨b, o, none⟩) 2 c) := by simp [go_sem]
  have hW2 : (w.alloc (.cells #[.int .i64 W.nodes, .slice W.a W.l.length W.c] 55)).alloc (.cells #[.int .i64 4, .string nm, .int .i64 n, .slice (some ⟨b, o, none⟩) 2 c] 24) = (w.alloc (boxP W)).alloc (.cells #[.int .i64 4, .string nm, .int .i64 n, .slice (some ⟨b, o, none⟩) 2 c] 24) := rfl
  have hX2 : w.heap.size + 1 < ((w.alloc (boxP W)).alloc (.cells #[.int .i64 4, .string nm, .int .i64 n, .slice (some ⟨b, o, none⟩) 2 c] 24)).heap.size := by simp
  generalize (w.alloc (boxP W)).alloc (.cells #[.int .i64 4, .string nm, .int .i64 n, .slice (some ⟨b, o, none⟩) 2 c] 24) = W2 at *
  have P0 := mkHid (fun (w' : World) (hb : Below W2.heap.size W2 w') => C0 w' (hW.later (bon hb2 hb)) (kin0.later (bon hb2 hb)))
  unfold Wd.val Tm.val at P0
  obtain ⟨q00, q01, q02, q03⟩ : Four W2 b o k0 := Four.keep kf0 hb2 hbl
  have P1 := mkHid (fun (w' : World) (hb : Below W2.heap.size W2 w') => C1 w' (hW.later (bon hb2 hb)) (kin1.later (bon hb2 hb)))
  unfold Wd.val Tm.val at P1
  obtain ⟨q10, q11, q12, q13⟩ : Four W2 b (o + 4) k1 := Four.keep kf1 hb2 hbl1
  clear C0 kin0 kf0 C1 kin1 kf1
  unfold Wd.val Tm.val
  simp only [Tm.op, Tm.nm, Tm.n, Tm.a, Tm.ks, Tm.c, List.length_cons, List.length_nil, Nat.zero_add, Nat.reduceAdd]
  obtain ⟨t0, t1⟩ := TP
  obtain ⟨u0, u1, u2, u3⟩ := TT
  have AD := mkHid (fun w => Nu.add_any n0 n1 w h0 h1)
  rw [show Nu.fitB (n0 + n1) = false from hf] at AD
  go_enter Tryz.func40, Tryz.ntmps40
  go_wp2_with fail
  (try dsimp only [List.append])
  refine wp_region_held_drew (S := fun w' => w'.cell? ⟨w.heap.size, 0, none⟩ = some (.int .i64 W.nodes) ∧ w'.cell? ⟨w.heap.size, 1, none⟩ = some (.slice W.a W.l.length W.c) ∧ w'.cell? ⟨w.heap.size + 1, 0, none⟩ = some (.int .i64 4) ∧ w'.cell? ⟨w.heap.size + 1, 1, none⟩ = some (.string nm) ∧ w'.cell? ⟨w.heap.size + 1, 2, none⟩ = some (.int .i64 n) ∧ w'.cell? ⟨w.heap.size + 1, 3, none⟩ = some (.slice (some ⟨b, o, none⟩) 2 c) ∧ w'.cell? ⟨b, o, none⟩ = some (.int .i64 k0.op) ∧ w'.cell? ⟨b, o + 1, none⟩ = some (.string k0.nm) ∧ w'.cell? ⟨b, o + 2, none⟩ = some (.int .i64 k0.n) ∧ w'.cell? ⟨b, o + 3, none⟩ = some (.slice k0.a k0.ks.length k0.c) ∧ w'.cell? ⟨b, o + 4, none⟩ = some (.int .i64 k1.op) ∧ w'.cell? ⟨b, o + 4 + 1, none⟩ = some (.string k1.nm) ∧ w'.cell? ⟨b, o + 4 + 2, none⟩ = some (.int .i64 k1.n) ∧ w'.cell? ⟨b, o + 4 + 3, none⟩ = some (.slice k1.a k1.ks.length k1.c)) (by kernel_rfl) ⟨t0, t1, u0, u1, u2, u3, q00, q01, q02, q03, q10, q11, q12, q13⟩ (fun hHeld => ?_)
  refine wpAnyH_take (i := 0) (v := ?_) rfl (by kernel_rfl) (by kernel_rfl) (by kernel_rfl) (fun _ _ _ h => h) (Or.inl ⟨by kernel_rfl, ?_⟩) (by assumption) ?_
  rotate_left
  · (intro w hSw; (try dsimp only at hSw); go_simp; try with_reducible rfl)
  simp only [Act.put, List.getElem_toArray, List.getElem_cons_zero, List.setIfInBounds_toArray, List.set_cons_zero, List.set_cons_succ]
  refine wpAnyH_take (i := 1) (v := ?_) rfl (by kernel_rfl) (by kernel_rfl) (by kernel_rfl) (fun _ _ _ h => h) (Or.inl ⟨by kernel_rfl, ?_⟩) (by assumption) ?_
  rotate_left
  · (intro w hSw; (try dsimp only at hSw); go_simp; try with_reducible rfl)
  simp only [Act.put, List.getElem_toArray, List.getElem_cons_succ, List.getElem_cons_zero, List.setIfInBounds_toArray, List.set_cons_zero, List.set_cons_succ]
  refine wpAnyH_take (i := 2) (v := ?_) rfl (by kernel_rfl) (by kernel_rfl) (by kernel_rfl) (fun _ _ _ h => h) (Or.inl ⟨by kernel_rfl, ?_⟩) (by assumption) ?_
  rotate_left
  · (intro w hSw; (try dsimp only at hSw); go_simp; try with_reducible rfl)
  simp only [Act.put, List.getElem_toArray, List.getElem_cons_succ, List.getElem_cons_zero, List.setIfInBounds_toArray, List.set_cons_zero, List.set_cons_succ]
  refine wpAnyH_take (i := 3) (v := ?_) rfl (by kernel_rfl) (by kernel_rfl) (by kernel_rfl) (fun _ _ _ h => h) (Or.inl ⟨by kernel_rfl, ?_⟩) (by assumption) ?_
  rotate_left
  · (intro w hSw; (try dsimp only at hSw); go_simp; try with_reducible rfl)
  simp only [Act.put, List.getElem_toArray, List.getElem_cons_succ, List.getElem_cons_zero, List.setIfInBounds_toArray, List.set_cons_zero, List.set_cons_succ]
  refine wpAnyH_take (i := 4) (v := ?_) rfl (by kernel_rfl) (by kernel_rfl) (by kernel_rfl) (fun _ _ _ h => h) (Or.inl ⟨by kernel_rfl, ?_⟩) (by assumption) ?_
  rotate_left
  · (intro w hSw; (try dsimp only at hSw); go_simp; try with_reducible rfl)
  simp only [Act.put, List.getElem_toArray, List.getElem_cons_succ, List.getElem_cons_zero, List.setIfInBounds_toArray, List.set_cons_zero, List.set_cons_succ]
  refine wpAnyH_take (i := 6) (v := ?_) rfl (by kernel_rfl) (by kernel_rfl) (by kernel_rfl) (fun _ _ _ h => h) (Or.inl ⟨by kernel_rfl, ?_⟩) (by assumption) ?_
  rotate_left
  · (intro w hSw; (try dsimp only at hSw); go_simp; try with_reducible rfl)
  simp only [Act.put, List.getElem_toArray, List.getElem_cons_succ, List.getElem_cons_zero, List.setIfInBounds_toArray, List.set_cons_zero, List.set_cons_succ]
  refine wpAnyH_take (i := 7) (v := ?_) rfl (by kernel_rfl) (by kernel_rfl) (by kernel_rfl) (fun _ _ _ h => h) (Or.inl ⟨by kernel_rfl, ?_⟩) (by assumption) ?_
  rotate_left
  · (intro w hSw; (try dsimp only at hSw); go_simp; try with_reducible rfl)
  simp only [Act.put, List.getElem_toArray, List.getElem_cons_succ, List.getElem_cons_zero, List.setIfInBounds_toArray, List.set_cons_zero, List.set_cons_succ]
  refine wpAnyH_take (i := 8) (v := ?_) rfl (by kernel_rfl) (by kernel_rfl) (by kernel_rfl) (fun _ _ _ h => h) (Or.inl ⟨by kernel_rfl, ?_⟩) (by assumption) ?_
  rotate_left
  · (intro w hSw; (try dsimp only at hSw); go_simp; try with_reducible rfl)
  simp only [Act.put, List.getElem_toArray, List.getElem_cons_succ, List.getElem_cons_zero, List.setIfInBounds_toArray, List.set_cons_zero, List.set_cons_succ]
  refine wpAnyH_take (i := 9) (v := ?_) rfl (by kernel_rfl) (by kernel_rfl) (by kernel_rfl) (fun _ _ _ h => h) (Or.inl ⟨by kernel_rfl, ?_⟩) (by assumption) ?_
  rotate_left
  · (intro w hSw; (try dsimp only at hSw); go_simp; try with_reducible rfl)
  simp only [Act.put, List.getElem_toArray, List.getElem_cons_succ, List.getElem_cons_zero, List.setIfInBounds_toArray, List.set_cons_zero, List.set_cons_succ]
  refine wpAnyH_take (i := 10) (v := ?_) rfl (by kernel_rfl) (by kernel_rfl) (by kernel_rfl) (fun _ _ _ h => h) (Or.inl ⟨by kernel_rfl, ?_⟩) (by assumption) ?_
  rotate_left
  · (intro w hSw; (try dsimp only at hSw); go_simp; try with_reducible rfl)
  simp only [Act.put, List.getElem_toArray, List.getElem_cons_succ, List.getElem_cons_zero, List.setIfInBounds_toArray, List.set_cons_zero, List.set_cons_succ]
  refine wpAnyH_ready (rs := [5]) (by kernel_rfl) (by simp) ?_
  refine AllReadyH.cons rfl (fun K hK => ?_) AllReadyH.nil
  go_simp
  go_wp2_with (go_at_call 40; ((with_reducible refine (P0.out _ (bdrew (Below.refl _ _))).mono ?_)); rintro e w1 ⟨rfl, hb1⟩)
  have B1 := bon (bdrew (Below.refl W2.heap.size W2)) hb1
  refine hK.out _ _ (keep2 (by assumption) hb1) (fun hHeld => ?_)
  clear hK
  refine wpAnyH_ready (rs := [11]) (by kernel_rfl) (by simp) ?_
  refine AllReadyH.cons rfl (fun K hK => ?_) AllReadyH.nil
  go_simp
  go_wp2_with (go_at_call 40; ((with_reducible refine (P1.out _ B1).mono ?_)); rintro e w3 ⟨rfl, hb3⟩)
  refine hK.out _ _ (keep2 (by assumption) hb3) (fun hHeld => ?_)
  clear hK
  refine wpAnyH_take (i := 12) (v := ?_) rfl (by kernel_rfl) (by kernel_rfl) (by kernel_rfl) (fun _ _ _ h => h) (Or.inl ⟨by kernel_rfl, ?_⟩) (by assumption) ?_
  rotate_left
  · (intro w hSw; (try dsimp only at hSw); go_simp; try with_reducible rfl)
  simp only [Act.put, List.getElem_toArray, List.getElem_cons_succ, List.getElem_cons_zero, List.setIfInBounds_toArray, List.set_cons_zero, List.set_cons_succ]
  refine wpAnyH_take (i := 13) (v := ?_) rfl (by kernel_rfl) (by kernel_rfl) (by kernel_rfl) (fun _ _ _ h => h) (Or.inl ⟨by kernel_rfl, ?_⟩) (by assumption) ?_
  rotate_left
  · (intro w hSw; (try dsimp only at hSw); go_simp; try with_reducible rfl)
  simp only [Act.put, List.getElem_toArray, List.getElem_cons_succ, List.getElem_cons_zero, List.setIfInBounds_toArray, List.set_cons_zero, List.set_cons_succ]
  refine wpAnyH_done (by kernel_rfl) ?_ _
  have BW := bon (bon hb2 B1) hb3
  go_wp2_with fail
  ((with_reducible refine (AD.out _).mono ?_)); rintro e w4 ⟨rfl, hb4⟩
  go_wp2_with (go_at_call 58; ((with_reducible refine (fit_err _ _).mono ?_)); rintro e w5 ⟨rfl, hb5⟩)
  exact ⟨rfl, rfl, bon (bon BW hb4) hb5⟩

set_option maxRecDepth 100000 in
set_option maxHeartbeats 4000000 in
theorem num5_e0 (W : Wd) (t : Tm) (k0 k1 : Tm) (hop : t.op = 5) (hks : t.ks = [k0, k1]) {e0 : Int} {P : World → Ending → World → Prop} (C0 : CallsN W k0 (PanK e0)) (C1 : CallsN W k1 P) : CallsN W t (PanK e0) := by
  intro w hW ht
  obtain ⟨op, nm, n, a, c, ks⟩ := t
  simp only [Tm.op, Tm.ks] at hop hks
  subst hop hks
  obtain ⟨kin0, b, o, ha, hbl, kf0⟩ := ht.kid 0 (by simp [Tm.ks])
  obtain ⟨kin1, b1, o1, ha1, hbl1, kf1⟩ := ht.kid 1 (by simp [Tm.ks])
  simp only [Tm.a, Tm.ks, List.getElem_cons_zero, List.getElem_cons_succ, Nat.zero_mul, Nat.one_mul, Nat.add_zero] at ha kin0 kf0 ha1 kin1 kf1
  subst ha
  cases ha1
  have htn := ht.nums
  simp only [Tm.op, Tm.nm, Tm.n, Tm.ks, Tm.c] at htn
  have hb2 : Below w.heap.size w ((w.alloc (boxP W)).alloc (.cells #[.int .i64 5, .string nm, .int .i64 n, .slice (some ⟨b, o, none⟩) 2 c] 24)) := bal (bal (Below.refl _ _) _) _
  have TP : TwoW ((w.alloc (boxP W)).alloc (.cells #[.int .i64 5, .string nm, .int .i64 n, .slice (some ⟨b, o, none⟩) 2 c] 24)) w.heap.size W := (boxP_two w W).later (bel_alloc _ _)
  have TT : ((w.alloc (boxP W)).alloc (.cells #[.int .i64 5, .string nm, .int .i64 n, .slice (some ⟨b, o, none⟩) 2 c] 24)).cell? ⟨w.heap.size + 1, 0, none⟩ = some (.int .i64 5) ∧ ((w.alloc (boxP W)).alloc (.cells #[.int .i64 5, .string nm, .int .i64 n, .slice (some ⟨b, o, none⟩) 2 c] 24)).cell? ⟨w.heap.size + 1, 1, none⟩ = some (.string nm) ∧ ((w.alloc (boxP W)).alloc (.cells #[.int .i64 5, .string nm, .int .i64 n, .slice (some ⟨b, o, none⟩) 2 c] 24)).cell? ⟨w.heap.size + 1, 2, none⟩ = some (.int .i64 n) ∧ ((w.alloc (boxP W)).alloc (.cells #[.int .i64 5, .string nm, .int .i64 n, .slice (some ⟨b, o, none⟩) 2 c] 24)).cell? ⟨w.heap.size + 1, 3, none⟩ = some (.slice (some ⟨b, o, none⟩) 2 c) := by simp [go_sem]
  have hW2 : (w.alloc (.cells #[.int .i64 W.nodes, .slice W.a W.l.length W.c] 55)).alloc (.cells #[.int .i64 5, .string nm, .int .i64 n, .slice (some ⟨b, o, none⟩) 2 c] 24) = (w.alloc (boxP W)).alloc (.cells #[.int .i64 5, .string nm, .int .i64 n, .slice (some ⟨b, o, none⟩) 2 c] 24) := rfl
  have hX2 : w.heap.size + 1 < ((w.alloc (boxP W)).alloc (.cells #[.int .i64 5, .string nm, .int .i64 n, .slice (some ⟨b, o, none⟩) 2 c] 24)).heap.size := by simp
  generalize (w.alloc (boxP W)).alloc (.cells #[.int .i64 5, .string nm, .int .i64 n, .slice (some ⟨b, o, none⟩) 2 c] 24) = W2 at *
  have P0 := mkHid (fun (w' : World) (hb : Below W2.heap.size W2 w') => C0 w' (hW.later (bon hb2 hb)) (kin0.later (bon hb2 hb)))
  unfold Wd.val Tm.val at P0
  obtain ⟨q00, q01, q02, q03⟩ : Four W2 b o k0 := Four.keep kf0 hb2 hbl
  have P1 := mkHid (fun (w' : World) (hb : Below W2.heap.size W2 w') => C1 w' (hW.later (bon hb2 hb)) (kin1.later (bon hb2 hb)))
  unfold Wd.val Tm.val at P1
  obtain ⟨q10, q11, q12, q13⟩ : Four W2 b (o + 4) k1 := Four.keep kf1 hb2 hbl1
  clear C0 kin0 kf0 C1 kin1 kf1
  unfold Wd.val Tm.val
  simp only [Tm.op, Tm.nm, Tm.n, Tm.a, Tm.ks, Tm.c, List.length_cons, List.length_nil, Nat.zero_add, Nat.reduceAdd]
  obtain ⟨t0, t1⟩ := TP
  obtain ⟨u0, u1, u2, u3⟩ := TT
  go_enter Tryz.func40, Tryz.ntmps40
  go_wp2_with fail
  (try dsimp only [List.append])
  refine wp_region_held_drew (S := fun w' => w'.cell? ⟨w.heap.size, 0, none⟩ = some (.int .i64 W.nodes) ∧ w'.cell? ⟨w.heap.size, 1, none⟩ = some (.slice W.a W.l.length W.c) ∧ w'.cell? ⟨w.heap.size + 1, 0, none⟩ = some (.int .i64 5) ∧ w'.cell? ⟨w.heap.size + 1, 1, none⟩ = some (.string nm) ∧ w'.cell? ⟨w.heap.size + 1, 2, none⟩ = some (.int .i64 n) ∧ w'.cell? ⟨w.heap.size + 1, 3, none⟩ = some (.slice (some ⟨b, o, none⟩) 2 c) ∧ w'.cell? ⟨b, o, none⟩ = some (.int .i64 k0.op) ∧ w'.cell? ⟨b, o + 1, none⟩ = some (.string k0.nm) ∧ w'.cell? ⟨b, o + 2, none⟩ = some (.int .i64 k0.n) ∧ w'.cell? ⟨b, o + 3, none⟩ = some (.slice k0.a k0.ks.length k0.c) ∧ w'.cell? ⟨b, o + 4, none⟩ = some (.int .i64 k1.op) ∧ w'.cell? ⟨b, o + 4 + 1, none⟩ = some (.string k1.nm) ∧ w'.cell? ⟨b, o + 4 + 2, none⟩ = some (.int .i64 k1.n) ∧ w'.cell? ⟨b, o + 4 + 3, none⟩ = some (.slice k1.a k1.ks.length k1.c)) (by kernel_rfl) ⟨t0, t1, u0, u1, u2, u3, q00, q01, q02, q03, q10, q11, q12, q13⟩ (fun hHeld => ?_)
  refine wpAnyH_take (i := 0) (v := ?_) rfl (by kernel_rfl) (by kernel_rfl) (by kernel_rfl) (fun _ _ _ h => h) (Or.inl ⟨by kernel_rfl, ?_⟩) (by assumption) ?_
  rotate_left
  · (intro w hSw; (try dsimp only at hSw); go_simp; try with_reducible rfl)
  simp only [Act.put, List.getElem_toArray, List.getElem_cons_zero, List.setIfInBounds_toArray, List.set_cons_zero, List.set_cons_succ]
  refine wpAnyH_take (i := 1) (v := ?_) rfl (by kernel_rfl) (by kernel_rfl) (by kernel_rfl) (fun _ _ _ h => h) (Or.inl ⟨by kernel_rfl, ?_⟩) (by assumption) ?_
  rotate_left
  · (intro w hSw; (try dsimp only at hSw); go_simp; try with_reducible rfl)
  simp only [Act.put, List.getElem_toArray, List.getElem_cons_succ, List.getElem_cons_zero, List.setIfInBounds_toArray, List.set_cons_zero, List.set_cons_succ]
  refine wpAnyH_take (i := 2) (v := ?_) rfl (by kernel_rfl) (by kernel_rfl) (by kernel_rfl) (fun _ _ _ h => h) (Or.inl ⟨by kernel_rfl, ?_⟩) (by assumption) ?_
  rotate_left
  · (intro w hSw; (try dsimp only at hSw); go_simp; try with_reducible rfl)
  simp only [Act.put, List.getElem_toArray, List.getElem_cons_succ, List.getElem_cons_zero, List.setIfInBounds_toArray, List.set_cons_zero, List.set_cons_succ]
  refine wpAnyH_take (i := 3) (v := ?_) rfl (by kernel_rfl) (by kernel_rfl) (by kernel_rfl) (fun _ _ _ h => h) (Or.inl ⟨by kernel_rfl, ?_⟩) (by assumption) ?_
  rotate_left
  · (intro w hSw; (try dsimp only at hSw); go_simp; try with_reducible rfl)
  simp only [Act.put, List.getElem_toArray, List.getElem_cons_succ, List.getElem_cons_zero, List.setIfInBounds_toArray, List.set_cons_zero, List.set_cons_succ]
  refine wpAnyH_take (i := 4) (v := ?_) rfl (by kernel_rfl) (by kernel_rfl) (by kernel_rfl) (fun _ _ _ h => h) (Or.inl ⟨by kernel_rfl, ?_⟩) (by assumption) ?_
  rotate_left
  · (intro w hSw; (try dsimp only at hSw); go_simp; try with_reducible rfl)
  simp only [Act.put, List.getElem_toArray, List.getElem_cons_succ, List.getElem_cons_zero, List.setIfInBounds_toArray, List.set_cons_zero, List.set_cons_succ]
  refine wpAnyH_take (i := 6) (v := ?_) rfl (by kernel_rfl) (by kernel_rfl) (by kernel_rfl) (fun _ _ _ h => h) (Or.inl ⟨by kernel_rfl, ?_⟩) (by assumption) ?_
  rotate_left
  · (intro w hSw; (try dsimp only at hSw); go_simp; try with_reducible rfl)
  simp only [Act.put, List.getElem_toArray, List.getElem_cons_succ, List.getElem_cons_zero, List.setIfInBounds_toArray, List.set_cons_zero, List.set_cons_succ]
  refine wpAnyH_take (i := 7) (v := ?_) rfl (by kernel_rfl) (by kernel_rfl) (by kernel_rfl) (fun _ _ _ h => h) (Or.inl ⟨by kernel_rfl, ?_⟩) (by assumption) ?_
  rotate_left
  · (intro w hSw; (try dsimp only at hSw); go_simp; try with_reducible rfl)
  simp only [Act.put, List.getElem_toArray, List.getElem_cons_succ, List.getElem_cons_zero, List.setIfInBounds_toArray, List.set_cons_zero, List.set_cons_succ]
  refine wpAnyH_take (i := 8) (v := ?_) rfl (by kernel_rfl) (by kernel_rfl) (by kernel_rfl) (fun _ _ _ h => h) (Or.inl ⟨by kernel_rfl, ?_⟩) (by assumption) ?_
  rotate_left
  · (intro w hSw; (try dsimp only at hSw); go_simp; try with_reducible rfl)
  simp only [Act.put, List.getElem_toArray, List.getElem_cons_succ, List.getElem_cons_zero, List.setIfInBounds_toArray, List.set_cons_zero, List.set_cons_succ]
  refine wpAnyH_take (i := 9) (v := ?_) rfl (by kernel_rfl) (by kernel_rfl) (by kernel_rfl) (fun _ _ _ h => h) (Or.inl ⟨by kernel_rfl, ?_⟩) (by assumption) ?_
  rotate_left
  · (intro w hSw; (try dsimp only at hSw); go_simp; try with_reducible rfl)
  simp only [Act.put, List.getElem_toArray, List.getElem_cons_succ, List.getElem_cons_zero, List.setIfInBounds_toArray, List.set_cons_zero, List.set_cons_succ]
  refine wpAnyH_take (i := 10) (v := ?_) rfl (by kernel_rfl) (by kernel_rfl) (by kernel_rfl) (fun _ _ _ h => h) (Or.inl ⟨by kernel_rfl, ?_⟩) (by assumption) ?_
  rotate_left
  · (intro w hSw; (try dsimp only at hSw); go_simp; try with_reducible rfl)
  simp only [Act.put, List.getElem_toArray, List.getElem_cons_succ, List.getElem_cons_zero, List.setIfInBounds_toArray, List.set_cons_zero, List.set_cons_succ]
  refine wpAnyH_ready (rs := [5]) (by kernel_rfl) (by simp) ?_
  refine AllReadyH.cons rfl (fun K hK => ?_) AllReadyH.nil
  go_simp
  go_wp2_with (go_at_call 40; ((with_reducible refine (P0.out _ (bdrew (Below.refl _ _))).mono ?_)); rintro e w1 ⟨rfl, hb1⟩)
  exact ⟨rfl, rfl, bon (bdrew hb2) hb1⟩

set_option maxRecDepth 100000 in
set_option maxHeartbeats 4000000 in
theorem num5_e1 (W : Wd) (t : Tm) (k0 k1 : Tm) (hop : t.op = 5) (hks : t.ks = [k0, k1]) {n0 e1 : Int} (C0 : CallsN W k0 (RetI n0)) (C1 : CallsN W k1 (PanK e1)) : CallsN W t (PanK e1) := by
  intro w hW ht
  obtain ⟨op, nm, n, a, c, ks⟩ := t
  simp only [Tm.op, Tm.ks] at hop hks
  subst hop hks
  obtain ⟨kin0, b, o, ha, hbl, kf0⟩ := ht.kid 0 (by simp [Tm.ks])
  obtain ⟨kin1, b1, o1, ha1, hbl1, kf1⟩ := ht.kid 1 (by simp [Tm.ks])
  simp only [Tm.a, Tm.ks, List.getElem_cons_zero, List.getElem_cons_succ, Nat.zero_mul, Nat.one_mul, Nat.add_zero] at ha kin0 kf0 ha1 kin1 kf1
  subst ha
  cases ha1
  have htn := ht.nums
  simp only [Tm.op, Tm.nm, Tm.n, Tm.ks, Tm.c] at htn
  have hb2 : Below w.heap.size w ((w.alloc (boxP W)).alloc (.cells #[.int .i64 5, .string nm, .int .i64 n, .slice (some ⟨b, o, none⟩) 2 c] 24)) := bal (bal (Below.refl _ _) _) _
  have TP : TwoW ((w.alloc (boxP W)).alloc (.cells #[.int .i64 5, .string nm, .int .i64 n, .slice (some ⟨b, o, none⟩) 2 c] 24)) w.heap.size W := (boxP_two w W).later (bel_alloc _ _)
  have TT : ((w.alloc (boxP W)).alloc (.cells #[.int .i64 5, .string nm, .int .i64 n, .slice (some ⟨b, o, none⟩) 2 c] 24)).cell? ⟨w.heap.size + 1, 0, none⟩ = some (.int .i64 5) ∧ ((w.alloc (boxP W)).alloc (.cells #[.int .i64 5, .string nm, .int .i64 n, .slice (some ⟨b, o, none⟩) 2 c] 24)).cell? ⟨w.heap.size + 1, 1, none⟩ = some (.string nm) ∧ ((w.alloc (boxP W)).alloc (.cells #[.int .i64 5, .string nm, .int .i64 n, .slice (some ⟨b, o, none⟩) 2 c] 24)).cell? ⟨w.heap.size + 1, 2, none⟩ = some (.int .i64 n) ∧ ((w.alloc (boxP W)).alloc (.cells #[.int .i64 5, .string nm, .int .i64 n, .slice (some ⟨b, o, none⟩) 2 c] 24)).cell? ⟨w.heap.size + 1, 3, none⟩ = some (.slice (some ⟨b, o, none⟩) 2 c) := by simp [go_sem]
  have hW2 : (w.alloc (.cells #[.int .i64 W.nodes, .slice W.a W.l.length W.c] 55)).alloc (.cells #[.int .i64 5, .string nm, .int .i64 n, .slice (some ⟨b, o, none⟩) 2 c] 24) = (w.alloc (boxP W)).alloc (.cells #[.int .i64 5, .string nm, .int .i64 n, .slice (some ⟨b, o, none⟩) 2 c] 24) := rfl
  have hX2 : w.heap.size + 1 < ((w.alloc (boxP W)).alloc (.cells #[.int .i64 5, .string nm, .int .i64 n, .slice (some ⟨b, o, none⟩) 2 c] 24)).heap.size := by simp
  generalize (w.alloc (boxP W)).alloc (.cells #[.int .i64 5, .string nm, .int .i64 n, .slice (some ⟨b, o, none⟩) 2 c] 24) = W2 at *
  have P0 := mkHid (fun (w' : World) (hb : Below W2.heap.size W2 w') => C0 w' (hW.later (bon hb2 hb)) (kin0.later (bon hb2 hb)))
  unfold Wd.val Tm.val at P0
  obtain ⟨q00, q01, q02, q03⟩ : Four W2 b o k0 := Four.keep kf0 hb2 hbl
  have P1 := mkHid (fun (w' : World) (hb : Below W2.heap.size W2 w') => C1 w' (hW.later (bon hb2 hb)) (kin1.later (bon hb2 hb)))
  unfold Wd.val Tm.val at P1
  obtain ⟨q10, q11, q12, q13⟩ : Four W2 b (o + 4) k1 := Four.keep kf1 hb2 hbl1
  clear C0 kin0 kf0 C1 kin1 kf1
  unfold Wd.val Tm.val
  simp only [Tm.op, Tm.nm, Tm.n, Tm.a, Tm.ks, Tm.c, List.length_cons, List.length_nil, Nat.zero_add, Nat.reduceAdd]
  obtain ⟨t0, t1⟩ := TP
  obtain ⟨u0, u1, u2, u3⟩ := TT
  go_enter Tryz.func40, Tryz.ntmps40
  go_wp2_with fail
  (try dsimp only [List.append])
  refine wp_region_held_drew (S := fun w' => w'.cell? ⟨w.heap.size, 0, none⟩ = some (.int .i64 W.nodes) ∧ w'.cell? ⟨w.heap.size, 1, none⟩ = some (.slice W.a W.l.length W.c) ∧ w'.cell? ⟨w.heap.size + 1, 0, none⟩ = some (.int .i64 5) ∧ w'.cell? ⟨w.heap.size + 1, 1, none⟩ = some (.string nm) ∧ w'.cell? ⟨w.heap.size + 1, 2, none⟩ = some (.int .i64 n) ∧ w'.cell? ⟨w.heap.size + 1, 3, none⟩ = some (.slice (some ⟨b, o, none⟩) 2 c) ∧ w'.cell? ⟨b, o, none⟩ = some (.int .i64 k0.op) ∧ w'.cell? ⟨b, o + 1, none⟩ = some (.string k0.nm) ∧ w'.cell? ⟨b, o + 2, none⟩ = some (.int .i64 k0.n) ∧ w'.cell? ⟨b, o + 3, none⟩ = some (.slice k0.a k0.ks.length k0.c) ∧ w'.cell? ⟨b, o + 4, none⟩ = some (.int .i64 k1.op) ∧ w'.cell? ⟨b, o + 4 + 1, none⟩ = some (.string k1.nm) ∧ w'.cell? ⟨b, o + 4 + 2, none⟩ = some (.int .i64 k1.n) ∧ w'.cell? ⟨b, o + 4 + 3, none⟩ = some (.slice k1.a k1.ks.length k1.c)) (by kernel_rfl) ⟨t0, t1, u0, u1, u2, u3, q00, q01, q02, q03, q10, q11, q12, q13⟩ (fun hHeld => ?_)
  refine wpAnyH_take (i := 0) (v := ?_) rfl (by kernel_rfl) (by kernel_rfl) (by kernel_rfl) (fun _ _ _ h => h) (Or.inl ⟨by kernel_rfl, ?_⟩) (by assumption) ?_
  rotate_left
  · (intro w hSw; (try dsimp only at hSw); go_simp; try with_reducible rfl)
  simp only [Act.put, List.getElem_toArray, List.getElem_cons_zero, List.setIfInBounds_toArray, List.set_cons_zero, List.set_cons_succ]
  refine wpAnyH_take (i := 1) (v := ?_) rfl (by kernel_rfl) (by kernel_rfl) (by kernel_rfl) (fun _ _ _ h => h) (Or.inl ⟨by kernel_rfl, ?_⟩) (by assumption) ?_
  rotate_left
  · (intro w hSw; (try dsimp only at hSw); go_simp; try with_reducible rfl)
  simp only [Act.put, List.getElem_toArray, List.getElem_cons_succ, List.getElem_cons_zero, List.setIfInBounds_toArray, List.set_cons_zero, List.set_cons_succ]
  refine wpAnyH_take (i := 2) (v := ?_) rfl (by kernel_rfl) (by kernel_rfl) (by kernel_rfl) (fun _ _ _ h => h) (Or.inl ⟨by kernel_rfl, ?_⟩) (by assumption) ?_
  rotate_left
  · (intro w hSw; (try dsimp only at hSw); go_simp; try with_reducible rfl)
  simp only [Act.put, List.getElem_toArray, List.getElem_cons_succ, List.getElem_cons_zero, List.setIfInBounds_toArray, List.set_cons_zero, List.set_cons_succ]
  refine wpAnyH_take (i := 3) (v := ?_) rfl (by kernel_rfl) (by kernel_rfl) (by kernel_rfl) (fun _ _ _ h => h) (Or.inl ⟨by kernel_rfl, ?_⟩) (by assumption) ?_
  rotate_left
  · (intro w hSw; (try dsimp only at hSw); go_simp; try with_reducible rfl)
  simp only [Act.put, List.getElem_toArray, List.getElem_cons_succ, List.getElem_cons_zero, List.setIfInBounds_toArray, List.set_cons_zero, List.set_cons_succ]
  refine wpAnyH_take (i := 4) (v := ?_) rfl (by kernel_rfl) (by kernel_rfl) (by kernel_rfl) (fun _ _ _ h => h) (Or.inl ⟨by kernel_rfl, ?_⟩) (by assumption) ?_
  rotate_left
  · (intro w hSw; (try dsimp only at hSw); go_simp; try with_reducible rfl)
  simp only [Act.put, List.getElem_toArray, List.getElem_cons_succ, List.getElem_cons_zero, List.setIfInBounds_toArray, List.set_cons_zero, List.set_cons_succ]
  refine wpAnyH_take (i := 6) (v := ?_) rfl (by kernel_rfl) (by kernel_rfl) (by kernel_rfl) (fun _ _ _ h => h) (Or.inl ⟨by kernel_rfl, ?_⟩) (by assumption) ?_
  rotate_left
  · (intro w hSw; (try dsimp only at hSw); go_simp; try with_reducible rfl)
  simp only [Act.put, List.getElem_toArray, List.getElem_cons_succ, List.getElem_cons_zero, List.setIfInBounds_toArray, List.set_cons_zero, List.set_cons_succ]
  refine wpAnyH_take (i := 7) (v := ?_) rfl (by kernel_rfl) (by kernel_rfl) (by kernel_rfl) (fun _ _ _ h => h) (Or.inl ⟨by kernel_rfl, ?_⟩) (by assumption) ?_
  rotate_left
  · (intro w hSw; (try dsimp only at hSw); go_simp; try with_reducible rfl)
  simp only [Act.put, List.getElem_toArray, List.getElem_cons_succ, List.getElem_cons_zero, List.setIfInBounds_toArray, List.set_cons_zero, List.set_cons_succ]
  refine wpAnyH_take (i := 8) (v := ?_) rfl (by kernel_rfl) (by kernel_rfl) (by kernel_rfl) (fun _ _ _ h => h) (Or.inl ⟨by kernel_rfl, ?_⟩) (by assumption) ?_
  rotate_left
  · (intro w hSw; (try dsimp only at hSw); go_simp; try with_reducible rfl)
  simp only [Act.put, List.getElem_toArray, List.getElem_cons_succ, List.getElem_cons_zero, List.setIfInBounds_toArray, List.set_cons_zero, List.set_cons_succ]
  refine wpAnyH_take (i := 9) (v := ?_) rfl (by kernel_rfl) (by kernel_rfl) (by kernel_rfl) (fun _ _ _ h => h) (Or.inl ⟨by kernel_rfl, ?_⟩) (by assumption) ?_
  rotate_left
  · (intro w hSw; (try dsimp only at hSw); go_simp; try with_reducible rfl)
  simp only [Act.put, List.getElem_toArray, List.getElem_cons_succ, List.getElem_cons_zero, List.setIfInBounds_toArray, List.set_cons_zero, List.set_cons_succ]
  refine wpAnyH_take (i := 10) (v := ?_) rfl (by kernel_rfl) (by kernel_rfl) (by kernel_rfl) (fun _ _ _ h => h) (Or.inl ⟨by kernel_rfl, ?_⟩) (by assumption) ?_
  rotate_left
  · (intro w hSw; (try dsimp only at hSw); go_simp; try with_reducible rfl)
  simp only [Act.put, List.getElem_toArray, List.getElem_cons_succ, List.getElem_cons_zero, List.setIfInBounds_toArray, List.set_cons_zero, List.set_cons_succ]
  refine wpAnyH_ready (rs := [5]) (by kernel_rfl) (by simp) ?_
  refine AllReadyH.cons rfl (fun K hK => ?_) AllReadyH.nil
  go_simp
  go_wp2_with (go_at_call 40; ((with_reducible refine (P0.out _ (bdrew (Below.refl _ _))).mono ?_)); rintro e w1 ⟨rfl, hb1⟩)
  have B1 := bon (bdrew (Below.refl W2.heap.size W2)) hb1
  refine hK.out _ _ (keep2 (by assumption) hb1) (fun hHeld => ?_)
  clear hK
  refine wpAnyH_ready (rs := [11]) (by kernel_rfl) (by simp) ?_
  refine AllReadyH.cons rfl (fun K hK => ?_) AllReadyH.nil
  go_simp
  go_wp2_with (go_at_call 40; ((with_reducible refine (P1.out _ B1).mono ?_)); rintro e w3 ⟨rfl, hb3⟩)
  exact ⟨rfl, rfl, bon (bon hb2 B1) hb3⟩

set_option maxRecDepth 100000 in
set_option maxHeartbeats 4000000 in
theorem num5_ok (W : Wd) (t : Tm) (k0 k1 : Tm) (hop : t.op = 5) (hks : t.ks = [k0, k1]) {n0 n1 : Int} (C0 : CallsN W k0 (RetI n0)) (C1 : CallsN W k1 (RetI n1)) (h0 : fitB n0 = true) (h1 : fitB n1 = true) (hf : fitB (n0 - n1) = true) : CallsN W t (RetI (n0 - n1)) := by
  intro w hW ht
  obtain ⟨op, nm, n, a, c, ks⟩ := t
  simp only [Tm.op, Tm.ks] at hop hks
  subst hop hks
  obtain ⟨kin0, b, o, ha, hbl, kf0⟩ := ht.kid 0 (by simp [Tm.ks])
  obtain ⟨kin1, b1, o1, ha1, hbl1, kf1⟩ := ht.kid 1 (by simp [Tm.ks])
  simp only [Tm.a, Tm.ks, List.getElem_cons_zero, List.getElem_cons_succ, Nat.zero_mul, Nat.one_mul, Nat.add_zero] at ha kin0 kf0 ha1 kin1 kf1
  subst ha
  cases ha1
  have htn := ht.nums
  simp only [Tm.op, Tm.nm, Tm.n, Tm.ks, Tm.c] at htn
  have hb2 : Below w.heap.size w ((w.alloc (boxP W)).alloc (.cells #[.int .i64 5, .string nm, .int .i64 n, .slice (some ⟨b, o, none⟩) 2 c] 24)) := bal (bal (Below.refl _ _) _) _
  have TP : TwoW ((w.alloc (boxP W)).alloc (.cells #[.int .i64 5, .string nm, .int .i64 n, .slice (some ⟨b, o, none⟩) 2 c] 24)) w.heap.size W := (boxP_two w W).later (bel_alloc _ _)
  have TT : ((w.alloc (boxP W)).alloc (.cells #[.int .i64 5, .string nm, .int .i64 n, .slice (some ⟨b, o, none⟩) 2 c] 24)).cell? ⟨w.heap.size + 1, 0, none⟩ = some (.int .i64 5) ∧ ((w.alloc (boxP W)).alloc (.cells #[.int .i64 5, .string nm, .int .i64 n, .slice (some ⟨b, o, none⟩) 2 c] 24)).cell? ⟨w.heap.size + 1, 1, none⟩ = some (.string nm) ∧ ((w.alloc (boxP W)).alloc (.cells #[.int .i64 5, .string nm, .int .i64 n, .slice (some ⟨b, o, none⟩) 2 c] 24)).cell? ⟨w.heap.size + 1, 2, none⟩ = some (.int .i64 n) ∧ ((w.alloc (boxP W)).alloc (.cells #[.int .i64 5, .string nm, .int .i64 n, .slice (some ⟨b, o, none⟩) 2 c] 24)).cell? ⟨w.heap.size + 1, 3, none⟩ = some (.slice (some ⟨b, o, none⟩) 2 c) := by simp [go_sem]
  have hW2 : (w.alloc (.cells #[.int .i64 W.nodes, .slice W.a W.l.length W.c] 55)).alloc (.cells #[.int .i64 5, .string nm, .int .i64 n, .slice (some ⟨b, o, none⟩) 2 c] 24) = (w.alloc (boxP W)).alloc (.cells #[.int .i64 5, .string nm, .int .i64 n, .slice (some ⟨b, o, none⟩) 2 c] 24) := rfl
  have hX2 : w.heap.size + 1 < ((w.alloc (boxP W)).alloc (.cells #[.int .i64 5, .string nm, .int .i64 n, .slice (some ⟨b, o, none⟩) 2 c] 24)).heap.size := by simp
  generalize (w.alloc (boxP W)).alloc (.cells #[.int .i64 5, .string nm, .int .i64 n, .slice (some ⟨b, o, none⟩) 2 c] 24) = W2 at *
  have P0 := mkHid (fun (w' : World) (hb : Below W2.heap.size W2 w') => C0 w' (hW.later (bon hb2 hb)) (kin0.later (bon hb2 hb)))
  unfold Wd.val Tm.val at P0
  obtain ⟨q00, q01, q02, q03⟩ : Four W2 b o k0 := Four.keep kf0 hb2 hbl
  have P1 := mkHid (fun (w' : World) (hb : Below W2.heap.size W2 w') => C1 w' (hW.later (bon hb2 hb)) (kin1.later (bon hb2 hb)))
  unfold Wd.val Tm.val at P1
  obtain ⟨q10, q11, q12, q13⟩ : Four W2 b (o + 4) k1 := Four.keep kf1 hb2 hbl1
  clear C0 kin0 kf0 C1 kin1 kf1
  unfold Wd.val Tm.val
  simp only [Tm.op, Tm.nm, Tm.n, Tm.a, Tm.ks, Tm.c, List.length_cons, List.length_nil, Nat.zero_add, Nat.reduceAdd]
  obtain ⟨t0, t1⟩ := TP
  obtain ⟨u0, u1, u2, u3⟩ := TT
  have AD := mkHid (fun w => Nu.sub_any n0 n1 w h0 h1)
  rw [show Nu.tel (n0 - n1) = n0 - n1 from if_pos hf, show Nu.fitB (n0 - n1) = true from hf] at AD
  go_enter Tryz.func40, Tryz.ntmps40
  go_wp2_with fail
  (try dsimp only [List.append])
  refine wp_region_held_drew (S := fun w' => w'.cell? ⟨w.heap.size, 0, none⟩ = some (.int .i64 W.nodes) ∧ w'.cell? ⟨w.heap.size, 1, none⟩ = some (.slice W.a W.l.length W.c) ∧ w'.cell? ⟨w.heap.size + 1, 0, none⟩ = some (.int .i64 5) ∧ w'.cell? ⟨w.heap.size + 1, 1, none⟩ = some (.string nm) ∧ w'.cell? ⟨w.heap.size + 1, 2, none⟩ = some (.int .i64 n) ∧ w'.cell? ⟨w.heap.size + 1, 3, none⟩ = some (.slice (some ⟨b, o, none⟩) 2 c) ∧ w'.cell? ⟨b, o, none⟩ = some (.int .i64 k0.op) ∧ w'.cell? ⟨b, o + 1, none⟩ = some (.string k0.nm) ∧ w'.cell? ⟨b, o + 2, none⟩ = some (.int .i64 k0.n) ∧ w'.cell? ⟨b, o + 3, none⟩ = some (.slice k0.a k0.ks.length k0.c) ∧ w'.cell? ⟨b, o + 4, none⟩ = some (.int .i64 k1.op) ∧ w'.cell? ⟨b, o + 4 + 1, none⟩ = some (.string k1.nm) ∧ w'.cell? ⟨b, o + 4 + 2, none⟩ = some (.int .i64 k1.n) ∧ w'.cell? ⟨b, o + 4 + 3, none⟩ = some (.slice k1.a k1.ks.length k1.c)) (by kernel_rfl) ⟨t0, t1, u0, u1, u2, u3, q00, q01, q02, q03, q10, q11, q12, q13⟩ (fun hHeld => ?_)
  refine wpAnyH_take (i := 0) (v := ?_) rfl (by kernel_rfl) (by kernel_rfl) (by kernel_rfl) (fun _ _ _ h => h) (Or.inl ⟨by kernel_rfl, ?_⟩) (by assumption) ?_
  rotate_left
  · (intro w hSw; (try dsimp only at hSw); go_simp; try with_reducible rfl)
  simp only [Act.put, List.getElem_toArray, List.getElem_cons_zero, List.setIfInBounds_toArray, List.set_cons_zero, List.set_cons_succ]
  refine wpAnyH_take (i := 1) (v := ?_) rfl (by kernel_rfl) (by kernel_rfl) (by kernel_rfl) (fun _ _ _ h => h) (Or.inl ⟨by kernel_rfl, ?_⟩) (by assumption) ?_
  rotate_left
  · (intro w hSw; (try dsimp only at hSw); go_simp; try with_reducible rfl)
  simp only [Act.put, List.getElem_toArray, List.getElem_cons_succ, List.getElem_cons_zero, List.setIfInBounds_toArray, List.set_cons_zero, List.set_cons_succ]
  refine wpAnyH_take (i := 2) (v := ?_) rfl (by kernel_rfl) (by kernel_rfl) (by kernel_rfl) (fun _ _ _ h => h) (Or.inl ⟨by kernel_rfl, ?_⟩) (by assumption) ?_
  rotate_left
  · (intro w hSw; (try dsimp only at hSw); go_simp; try with_reducible rfl)
  simp only [Act.put, List.getElem_toArray, List.getElem_cons_succ, List.getElem_cons_zero, List.setIfInBounds_toArray, List.set_cons_zero, List.set_cons_succ]
  refine wpAnyH_take (i := 3) (v := ?_) rfl (by kernel_rfl) (by kernel_rfl) (by kernel_rfl) (fun _ _ _ h => h) (Or.inl ⟨by kernel_rfl, ?_⟩) (by assumption) ?_
  rotate_left
  · (intro w hSw; (try dsimp only at hSw); go_simp; try with_reducible rfl)
  simp only [Act.put, List.getElem_toArray, List.getElem_cons_succ, List.getElem_cons_zero, List.setIfInBounds_toArray, List.set_cons_zero, List.set_cons_succ]
  refine wpAnyH_take (i := 4) (v := ?_) rfl (by kernel_rfl) (by kernel_rfl) (by kernel_rfl) (fun _ _ _ h => h) (Or.inl ⟨by kernel_rfl, ?_⟩) (by assumption) ?_
  rotate_left
  · (intro w hSw; (try dsimp only at hSw); go_simp; try with_reducible rfl)
  simp only [Act.put, List.getElem_toArray, List.getElem_cons_succ, List.getElem_cons_zero, List.setIfInBounds_toArray, List.set_cons_zero, List.set_cons_succ]
  refine wpAnyH_take (i := 6) (v := ?_) rfl (by kernel_rfl) (by kernel_rfl) (by kernel_rfl) (fun _ _ _ h => h) (Or.inl ⟨by kernel_rfl, ?_⟩) (by assumption) ?_
  rotate_left
  · (intro w hSw; (try dsimp only at hSw); go_simp; try with_reducible rfl)
  simp only [Act.put, List.getElem_toArray, List.getElem_cons_succ, List.getElem_cons_zero, List.setIfInBounds_toArray, List.set_cons_zero, List.set_cons_succ]
  refine wpAnyH_take (i := 7) (v := ?_) rfl (by kernel_rfl) (by kernel_rfl) (by kernel_rfl) (fun _ _ _ h => h) (Or.inl ⟨by kernel_rfl, ?_⟩) (by assumption) ?_
  rotate_left
  · (intro w hSw; (try dsimp only at hSw); go_simp; try with_reducible rfl)
  simp only [Act.put, List.getElem_toArray, List.getElem_cons_succ, List.getElem_cons_zero, List.setIfInBounds_toArray, List.set_cons_zero, List.set_cons_succ]
  refine wpAnyH_take (i := 8) (v := ?_) rfl (by kernel_rfl) (by kernel_rfl) (by kernel_rfl) (fun _ _ _ h => h) (Or.inl ⟨by kernel_rfl, ?_⟩) (by assumption) ?_
  rotate_left
  · (intro w hSw; (try dsimp only at hSw); go_simp; try with_reducible rfl)
  simp only [Act.put, List.getElem_toArray, List.getElem_cons_succ, List.getElem_cons_zero, List.setIfInBounds_toArray, List.set_cons_zero, List.set_cons_succ]
  refine wpAnyH_take (i := 9) (v := ?_) rfl (by kernel_rfl) (by kernel_rfl) (by kernel_rfl) (fun _ _ _ h => h) (Or.inl ⟨by kernel_rfl, ?_⟩) (by assumption) ?_
  rotate_left
  · (intro w hSw; (try dsimp only at hSw); go_simp; try with_reducible rfl)
  simp only [Act.put, List.getElem_toArray, List.getElem_cons_succ, List.getElem_cons_zero, List.setIfInBounds_toArray, List.set_cons_zero, List.set_cons_succ]
  refine wpAnyH_take (i := 10) (v := ?_) rfl (by kernel_rfl) (by kernel_rfl) (by kernel_rfl) (fun _ _ _ h => h) (Or.inl ⟨by kernel_rfl, ?_⟩) (by assumption) ?_
  rotate_left
  · (intro w hSw; (try dsimp only at hSw); go_simp; try with_reducible rfl)
  simp only [Act.put, List.getElem_toArray, List.getElem_cons_succ, List.getElem_cons_zero, List.setIfInBounds_toArray, List.set_cons_zero, List.set_cons_succ]
  refine wpAnyH_ready (rs := [5]) (by kernel_rfl) (by simp) ?_
  refine AllReadyH.cons rfl (fun K hK => ?_) AllReadyH.nil
  go_simp
  go_wp2_with (go_at_call 40; ((with_reducible refine (P0.out _ (bdrew (Below.refl _ _))).mono ?_)); rintro e w1 ⟨rfl, hb1⟩)
  have B1 := bon (bdrew (Below.refl W2.heap.size W2)) hb1
  refine hK.out _ _ (keep2 (by assumption) hb1) (fun hHeld => ?_)
  clear hK
  refine wpAnyH_ready (rs := [11]) (by kernel_rfl) (by simp) ?_
  refine AllReadyH.cons rfl (fun K hK => ?_) AllReadyH.nil
  go_simp
  go_wp2_with (go_at_call 40; ((with_reducible refine (P1.out _ B1).mono ?_)); rintro e w3 ⟨rfl, hb3⟩)
  refine hK.out _ _ (keep2 (by assumption) hb3) (fun hHeld => ?_)
  clear hK
  refine wpAnyH_take (i := 12) (v := ?_) rfl (by kernel_rfl) (by kernel_rfl) (by kernel_rfl) (fun _ _ _ h => h) (Or.inl ⟨by kernel_rfl, ?_⟩) (by assumption) ?_
  rotate_left
  · (intro w hSw; (try dsimp only at hSw); go_simp; try with_reducible rfl)
  simp only [Act.put, List.getElem_toArray, List.getElem_cons_succ, List.getElem_cons_zero, List.setIfInBounds_toArray, List.set_cons_zero, List.set_cons_succ]
  refine wpAnyH_take (i := 13) (v := ?_) rfl (by kernel_rfl) (by kernel_rfl) (by kernel_rfl) (fun _ _ _ h => h) (Or.inl ⟨by kernel_rfl, ?_⟩) (by assumption) ?_
  rotate_left
  · (intro w hSw; (try dsimp only at hSw); go_simp; try with_reducible rfl)
  simp only [Act.put, List.getElem_toArray, List.getElem_cons_succ, List.getElem_cons_zero, List.setIfInBounds_toArray, List.set_cons_zero, List.set_cons_succ]
  refine wpAnyH_done (by kernel_rfl) ?_ _
  have BW := bon (bon hb2 B1) hb3
  go_wp2_with fail
  ((with_reducible refine (AD.out _).mono ?_)); rintro e w4 ⟨rfl, hb4⟩
  go_wp2_with (go_at_call 58; ((with_reducible refine (fit_ok _ _).mono ?_)); rintro e w5 ⟨rfl, hb5⟩)
  go_ret
  exact ⟨rfl, bon (bon BW hb4) hb5⟩

set_option maxRecDepth 100000 in
set_option maxHeartbeats 4000000 in
theorem num5_big (W : Wd) (t : Tm) (k0 k1 : Tm) (hop : t.op = 5) (hks : t.ks = [k0, k1]) {n0 n1 : Int} (C0 : CallsN W k0 (RetI n0)) (C1 : CallsN W k1 (RetI n1)) (h0 : fitB n0 = true) (h1 : fitB n1 = true) (hf : fitB (n0 - n1) = false) : CallsN W t (PanK 5) := by
  intro w hW ht
  obtain ⟨op, nm, n, a, c, ks⟩ := t
  simp only [Tm.op, Tm.ks] at hop hks
  subst hop hks
  obtain ⟨kin0, b, o, ha, hbl, kf0⟩ := ht.kid 0 (by simp [Tm.ks])
  obtain ⟨kin1, b1, o1, ha1, hbl1, kf1⟩ := ht.kid 1 (by simp [Tm.ks])
  simp only [Tm.a, Tm.ks, List.getElem_cons_zero, List.getElem_cons_succ, Nat.zero_mul, Nat.one_mul, Nat.add_zero] at ha kin0 kf0 ha1 kin1 kf1
  subst ha
  cases ha1
  have htn := ht.nums
  simp only [Tm.op, Tm.nm, Tm.n, Tm.ks, Tm.c] at htn
  have hb2 : Below w.heap.size w ((w.alloc (boxP W)).alloc (.cells #[.int .i64 5, .string nm, .int .i64 n, .slice (some ⟨b, o, none⟩) 2 c] 24)) := bal (bal (Below.refl _ _) _) _
  have TP : TwoW ((w.alloc (boxP W)).alloc (.cells #[.int .i64 5, .string nm, .int .i64 n, .slice (some ⟨b, o, none⟩) 2 c] 24)) w.heap.size W := (boxP_two w W).later (bel_alloc _ _)
  have TT : ((w.alloc (boxP W)).alloc (.cells #[.int .i64 5, .string nm, .int .i64 n, .slice (some ⟨b, o, none⟩) 2 c] 24)).cell? ⟨w.heap.size + 1, 0, none⟩ = some (.int .i64 5) ∧ ((w.alloc (boxP W)).alloc (.cells #[.int .i64 5, .string nm, .int .i64 n, .slice (some ⟨b, o, none⟩) 2 c] 24)).cell? ⟨w.heap.size + 1, 1, none⟩ = some (.string nm) ∧ ((w.alloc (boxP W)).alloc (.cells #[.int .i64 5, .string nm, .int .i64 n, .slice (some ⟨b, o, none⟩) 2 c] 24)).cell? ⟨w.heap.size + 1, 2, none⟩ = some (.int .i64 n) ∧ ((w.alloc (boxP W)).alloc (.cells #[.int .i64 5, .string nm, .int .i64 n, .slice (some ⟨b, o, none⟩) 2 c] 24)).cell? ⟨w.heap.size + 1, 3, none⟩ = some (.slice (some ⟨b, o, none⟩) 2 c) := by simp [go_sem]
  have hW2 : (w.alloc (.cells #[.int .i64 W.nodes, .slice W.a W.l.length W.c] 55)).alloc (.cells #[.int .i64 5, .string nm, .int .i64 n, .slice (some ⟨b, o, none⟩) 2 c] 24) = (w.alloc (boxP W)).alloc (.cells #[.int .i64 5, .string nm, .int .i64 n, .slice (some ⟨b, o, none⟩) 2 c] 24) := rfl
  have hX2 : w.heap.size + 1 < ((w.alloc (boxP W)).alloc (.cells #[.int .i64 5, .string nm, .int .i64 n, .slice (some ⟨b, o, none⟩) 2 c] 24)).heap.size := by simp
  generalize (w.alloc (boxP W)).alloc (.cells #[.int .i64 5, .string nm, .int .i64 n, .slice (some ⟨b, o, none⟩) 2 c] 24) = W2 at *
  have P0 := mkHid (fun (w' : World) (hb : Below W2.heap.size W2 w') => C0 w' (hW.later (bon hb2 hb)) (kin0.later (bon hb2 hb)))
  unfold Wd.val Tm.val at P0
  obtain ⟨q00, q01, q02, q03⟩ : Four W2 b o k0 := Four.keep kf0 hb2 hbl
  have P1 := mkHid (fun (w' : World) (hb : Below W2.heap.size W2 w') => C1 w' (hW.later (bon hb2 hb)) (kin1.later (bon hb2 hb)))
  unfold Wd.val Tm.val at P1
  obtain ⟨q10, q11, q12, q13⟩ : Four W2 b (o + 4) k1 := Four.keep kf1 hb2 hbl1
  clear C0 kin0 kf0 C1 kin1 kf1
  unfold Wd.val Tm.val
  simp only [Tm.op, Tm.nm, Tm.n, Tm.a, Tm.ks, Tm.c, List.length_cons, List.length_nil, Nat.zero_add, Nat.reduceAdd]
  obtain ⟨t0, t1⟩ := TP
  obtain ⟨u0, u1, u2, u3⟩ := TT
  have AD := mkHid (fun w => Nu.sub_any n0 n1 w h0 h1)
  rw [show Nu.fitB (n0 - n1) = false from hf] at AD
  go_enter Tryz.func40, Tryz.ntmps40
  go_wp2_with fail
  (try dsimp only [List.append])
  refine wp_region_held_drew (S := fun w' => w'.cell? ⟨w.heap.size, 0, none⟩ = some (.int .i64 W.nodes) ∧ w'.cell? ⟨w.heap.size, 1, none⟩ = some (.slice W.a W.l.length W.c) ∧ w'.cell? ⟨w.heap.size + 1, 0, none⟩ = some (.int .i64 5) ∧ w'.cell? ⟨w.heap.size + 1, 1, none⟩ = some (.string nm) ∧ w'.cell? ⟨w.heap.size + 1, 2, none⟩ = some (.int .i64 n) ∧ w'.cell? ⟨w.heap.size + 1, 3, none⟩ = some (.slice (some ⟨b, o, none⟩) 2 c) ∧ w'.cell? ⟨b, o, none⟩ = some (.int .i64 k0.op) ∧ w'.cell? ⟨b, o + 1, none⟩ = some (.string k0.nm) ∧ w'.cell? ⟨b, o + 2, none⟩ = some (.int .i64 k0.n) ∧ w'.cell? ⟨b, o + 3, none⟩ = some (.slice k0.a k0.ks.length k0.c) ∧ w'.cell? ⟨b, o + 4, none⟩ = some (.int .i64 k1.op) ∧ w'.cell? ⟨b, o + 4 + 1, none⟩ = some (.string k1.nm) ∧ w'.cell? ⟨b, o + 4 + 2, none⟩ = some (.int .i64 k1.n) ∧ w'.cell? ⟨b, o + 4 + 3, none⟩ = some (.slice k1.a k1.ks.length k1.c)) (by kernel_rfl) ⟨t0, t1, u0, u1, u2, u3, q00, q01, q02, q03, q10, q11, q12, q13⟩ (fun hHeld => ?_)
  refine wpAnyH_take (i := 0) (v := ?_) rfl (by kernel_rfl) (by kernel_rfl) (by kernel_rfl) (fun _ _ _ h => h) (Or.inl ⟨by kernel_rfl, ?_⟩) (by assumption) ?_
  rotate_left
  · (intro w hSw; (try dsimp only at hSw); go_simp; try with_reducible rfl)
  simp only [Act.put, List.getElem_toArray, List.getElem_cons_zero, List.setIfInBounds_toArray, List.set_cons_zero, List.set_cons_succ]
  refine wpAnyH_take (i := 1) (v := ?_) rfl (by kernel_rfl) (by kernel_rfl) (by kernel_rfl) (fun _ _ _ h => h) (Or.inl ⟨by kernel_rfl, ?_⟩) (by assumption) ?_
  rotate_left
  · (intro w hSw; (try dsimp only at hSw); go_simp; try with_reducible rfl)
  simp only [Act.put, List.getElem_toArray, List.getElem_cons_succ, List.getElem_cons_zero, List.setIfInBounds_toArray, List.set_cons_zero, List.set_cons_succ]
  refine wpAnyH_take (i := 2) (v := ?_) rfl (by kernel_rfl) (by kernel_rfl) (by kernel_rfl) (fun _ _ _ h => h) (Or.inl ⟨by kernel_rfl, ?_⟩) (by assumption) ?_
  rotate_left
  · (intro w hSw; (try dsimp only at hSw); go_simp; try with_reducible rfl)
  simp only [Act.put, List.getElem_toArray, List.getElem_cons_succ, List.getElem_cons_zero, List.setIfInBounds_toArray, List.set_cons_zero, List.set_cons_succ]
  refine wpAnyH_take (i := 3) (v := ?_) rfl (by kernel_rfl) (by kernel_rfl) (by kernel_rfl) (fun _ _ _ h => h) (Or.inl ⟨by kernel_rfl, ?_⟩) (by assumption) ?_
  rotate_left
  · (intro w hSw; (try dsimp only at hSw); go_simp; try with_reducible rfl)
  simp only [Act.put, List.getElem_toArray, List.getElem_cons_succ, List.getElem_cons_zero, List.setIfInBounds_toArray, List.set_cons_zero, List.set_cons_succ]
  refine wpAnyH_take (i := 4) (v := ?_) rfl (by kernel_rfl) (by kernel_rfl) (by kernel_rfl) (fun _ _ _ h => h) (Or.inl ⟨by kernel_rfl, ?_⟩) (by assumption) ?_
  rotate_left
  · (intro w hSw; (try dsimp only at hSw); go_simp; try with_reducible rfl)
  simp only [Act.put, List.getElem_toArray, List.getElem_cons_succ, List.getElem_cons_zero, List.setIfInBounds_toArray, List.set_cons_zero, List.set_cons_succ]
  refine wpAnyH_take (i := 6) (v := ?_) rfl (by kernel_rfl) (by kernel_rfl) (by kernel_rfl) (fun _ _ _ h => h) (Or.inl ⟨by kernel_rfl, ?_⟩) (by assumption) ?_
  rotate_left
  · (intro w hSw; (try dsimp only at hSw); go_simp; try with_reducible rfl)
  simp only [Act.put, List.getElem_toArray, List.getElem_cons_succ, List.getElem_cons_zero, List.setIfInBounds_toArray, List.set_cons_zero, List.set_cons_succ]
  refine wpAnyH_take (i := 7) (v := ?_) rfl (by kernel_rfl) (by kernel_rfl) (by kernel_rfl) (fun _ _ _ h => h) (Or.inl ⟨by kernel_rfl, ?_⟩) (by assumption) ?_
  rotate_left
  · (intro w hSw; (try dsimp only at hSw); go_simp; try with_reducible rfl)
  simp only [Act.put, List.getElem_toArray, List.getElem_cons_succ, List.getElem_cons_zero, List.setIfInBounds_toArray, List.set_cons_zero, List.set_cons_succ]
  refine wpAnyH_take (i := 8) (v := ?_) rfl (by kernel_rfl) (by kernel_rfl) (by kernel_rfl) (fun _ _ _ h => h) (Or.inl ⟨by kernel_rfl, ?_⟩) (by assumption) ?_
  rotate_left
  · (intro w hSw; (try dsimp only at hSw); go_simp; try with_reducible rfl)
  simp only [Act.put, List.getElem_toArray, List.getElem_cons_succ, List.getElem_cons_zero, List.setIfInBounds_toArray, List.set_cons_zero, List.set_cons_succ]
  refine wpAnyH_take (i := 9) (v := ?_) rfl (by kernel_rfl) (by kernel_rfl) (by kernel_rfl) (fun _ _ _ h => h) (Or.inl ⟨by kernel_rfl, ?_⟩) (by assumption) ?_
  rotate_left
  · (intro w hSw; (try dsimp only at hSw); go_simp; try with_reducible rfl)
  simp only [Act.put, List.getElem_toArray, List.getElem_cons_succ, List.getElem_cons_zero, List.setIfInBounds_toArray, List.set_cons_zero, List.set_cons_succ]
  refine wpAnyH_take (i := 10) (v := ?_) rfl (by kernel_rfl) (by kernel_rfl) (by kernel_rfl) (fun _ _ _ h => h) (Or.inl ⟨by kernel_rfl, ?_⟩) (by assumption) ?_
  rotate_left
  · (intro w hSw; (try dsimp only at hSw); go_simp; try with_reducible rfl)
  simp only [Act.put, List.getElem_toArray, List.getElem_cons_succ, List.getElem_cons_zero, List.setIfInBounds_toArray, List.set_cons_zero, List.set_cons_succ]
  refine wpAnyH_ready (rs := [5]) (by kernel_rfl) (by simp) ?_
  refine AllReadyH.cons rfl (fun K hK => ?_) AllReadyH.nil
  go_simp
  go_wp2_with (go_at_call 40; ((with_reducible refine (P0.out _ (bdrew (Below.refl _ _))).mono ?_)); rintro e w1 ⟨rfl, hb1⟩)
  have B1 := bon (bdrew (Below.refl W2.heap.size W2)) hb1
  refine hK.out _ _ (keep2 (by assumption) hb1) (fun hHeld => ?_)
  clear hK
  refine wpAnyH_ready (rs := [11]) (by kernel_rfl) (by simp) ?_
  refine AllReadyH.cons rfl (fun K hK => ?_) AllReadyH.nil
  go_simp
  go_wp2_with (go_at_call 40; ((with_reducible refine (P1.out _ B1).mono ?_)); rintro e w3 ⟨rfl, hb3⟩)
  refine hK.out _ _ (keep2 (by assumption) hb3) (fun hHeld => ?_)
  clear hK
  refine wpAnyH_take (i := 12) (v := ?_) rfl (by kernel_rfl) (by kernel_rfl) (by kernel_rfl) (fun _ _ _ h => h) (Or.inl ⟨by kernel_rfl, ?_⟩) (by assumption) ?_
  rotate_left
  · (intro w hSw; (try dsimp only at hSw); go_simp; try with_reducible rfl)
  simp only [Act.put, List.getElem_toArray, List.getElem_cons_succ, List.getElem_cons_zero, List.setIfInBounds_toArray, List.set_cons_zero, List.set_cons_succ]
  refine wpAnyH_take (i := 13) (v := ?_) rfl (by kernel_rfl) (by kernel_rfl) (by kernel_rfl) (fun _ _ _ h => h) (Or.inl ⟨by kernel_rfl, ?_⟩) (by assumption) ?_
  rotate_left
  · (intro w hSw; (try dsimp only at hSw); go_simp; try with_reducible rfl)
  simp only [Act.put, List.getElem_toArray, List.getElem_cons_succ, List.getElem_cons_zero, List.setIfInBounds_toArray, List.set_cons_zero, List.set_cons_succ]
  refine wpAnyH_done (by kernel_rfl) ?_ _
  have BW := bon (bon hb2 B1) hb3
  go_wp2_with fail
  ((with_reducible refine (AD.out _).mono ?_)); rintro e w4 ⟨rfl, hb4⟩
  go_wp2_with (go_at_call 58; ((with_reducible refine (fit_err _ _).mono ?_)); rintro e w5 ⟨rfl, hb5⟩)
  exact ⟨rfl, rfl, bon (bon BW hb4) hb5⟩
end
end Go.Proofs.YtdfebacjbapahaaGreatDoor
