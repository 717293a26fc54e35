/-
  The walks of norm's inside, affirmed and denied, one for each operation.
-/
import Derived.Test.YtlobffjgkhcjbaaDoorNmC
import Derived.BigRegion
import Derived.Deep.RegionHeld2
namespace Go.Proofs.YtlobffjgkhcjbaaDoor
open Go.RowKit

set_option maxRecDepth 100000 in
set_option maxHeartbeats 4000000 in
theorem aff19 (F : Tm → Tm) (t : Tm) (hop : t.op = 19) {F0 : Tm → Tm} (hlen : t.ks.length ≤ 2000) (Ck : ∀ k ∈ t.ks, ∀ w' : World, TIn w' w'.heap.size k → Calls Tryd.prog 66 #[k.val] w' (BecP F0 k w')) (hF : F t = mkT 19 (t.ks.map F0)) (w : World) (ht : TIn w w.heap.size t) : Calls Tryd.prog 66 #[t.val] w (BecP F t w) := by
  have HT := mkHid ht
  have HFT := mkHid hF
  clear hF
  have hTV : t.val = t.val := rfl
  obtain ⟨op, nm, n, a, c, ks⟩ := t
  simp only [Tm.op] at hop
  subst hop
  have hb2 : Below w.heap.size w ((w.alloc (.cells #[.int .i64 19, .string nm, .int .i64 n, .slice a ks.length c] 24)).alloc (.cells #[.int .i64 0, .string ⟨#[]⟩, .int .i64 0, .slice none 0 0] 24)) := bal (bal (Below.refl _ _) _) _
  have TT : ((w.alloc (.cells #[.int .i64 19, .string nm, .int .i64 n, .slice a ks.length c] 24)).alloc (.cells #[.int .i64 0, .string ⟨#[]⟩, .int .i64 0, .slice none 0 0] 24)).cell? ⟨w.heap.size, 0, none⟩ = some (.int .i64 19) ∧ ((w.alloc (.cells #[.int .i64 19, .string nm, .int .i64 n, .slice a ks.length c] 24)).alloc (.cells #[.int .i64 0, .string ⟨#[]⟩, .int .i64 0, .slice none 0 0] 24)).cell? ⟨w.heap.size, 1, none⟩ = some (.string nm) ∧ ((w.alloc (.cells #[.int .i64 19, .string nm, .int .i64 n, .slice a ks.length c] 24)).alloc (.cells #[.int .i64 0, .string ⟨#[]⟩, .int .i64 0, .slice none 0 0] 24)).cell? ⟨w.heap.size, 2, none⟩ = some (.int .i64 n) ∧ ((w.alloc (.cells #[.int .i64 19, .string nm, .int .i64 n, .slice a ks.length c] 24)).alloc (.cells #[.int .i64 0, .string ⟨#[]⟩, .int .i64 0, .slice none 0 0] 24)).cell? ⟨w.heap.size, 3, none⟩ = some (.slice a ks.length c) := by simp [go_sem]
  have FR0 : FourV' ((w.alloc (.cells #[.int .i64 19, .string nm, .int .i64 n, .slice a ks.length c] 24)).alloc (.cells #[.int .i64 0, .string ⟨#[]⟩, .int .i64 0, .slice none 0 0] 24)) (w.heap.size + 1) (.int .i64 0) (.string ⟨#[]⟩) (.int .i64 0) (.slice none 0 0) := by simp [FourV', go_sem]
  have hX2 : w.heap.size + 1 < ((w.alloc (.cells #[.int .i64 19, .string nm, .int .i64 n, .slice a ks.length c] 24)).alloc (.cells #[.int .i64 0, .string ⟨#[]⟩, .int .i64 0, .slice none 0 0] 24)).heap.size := by simp
  generalize hW2 : ((w.alloc (.cells #[.int .i64 19, .string nm, .int .i64 n, .slice a ks.length c] 24)).alloc (.cells #[.int .i64 0, .string ⟨#[]⟩, .int .i64 0, .slice none 0 0] 24)) = W2 at *
  unfold Tm.val
  simp only [Tm.op, Tm.nm, Tm.n, Tm.a, Tm.ks, Tm.c]
  obtain ⟨u0, u1, u2, u3⟩ := TT
  have FR := mkHid FR0
  have SZ := hX2
  have BW := hb2
  clear FR0 hX2 hb2 ht hTV
  go_enter Tryd.func66, Tryd.ntmps66
  go_wp2_with fail
  (try dsimp only [List.append])
  refine wp_region_held_drew (S := fun w' => w'.cell? ⟨w.heap.size, 0, none⟩ = some (.int .i64 19) ∧ w'.cell? ⟨w.heap.size, 1, none⟩ = some (.string nm) ∧ w'.cell? ⟨w.heap.size, 2, none⟩ = some (.int .i64 n) ∧ w'.cell? ⟨w.heap.size, 3, none⟩ = some (.slice a ks.length c)) (by kernel_rfl) ⟨u0, u1, u2, u3⟩ (fun hHeld => ?_)
  replace FR := mkHid (FR.out.later (bdrew (Below.refl W2.heap.size W2)))
  replace BW := bdrew BW
  replace SZ : w.heap.size + 1 < W2.drew.heap.size := SZ
  clear hW2 u0 u1 u2 u3
  generalize W2.drew = V at *
  have P := mkHid (each_aff F0 (.node 19 nm n a c ks) V (HT.out.later BW) hlen Ck)
  have HLEN := mkHid hlen
  simp only [Tm.a, Tm.ks, Tm.c] at P
  clear hlen Ck
  refine wpAnyH_take (i := 0) (v := ?_) rfl (by kernel_rfl) (by kernel_rfl) (by kernel_rfl) (fun _ _ _ h => h) (Or.inl ⟨by kernel_rfl, ?_⟩) (by assumption) ?_
  rotate_left
  · (intro w hSw; (try dsimp only at hSw); go_simp; try with_reducible rfl)
  simp only [Act.put, List.getElem_toArray, List.getElem_cons_zero, List.setIfInBounds_toArray, List.set_cons_zero, List.set_cons_succ]
  refine wpAnyH_take (i := 1) (v := ?_) rfl (by kernel_rfl) (by kernel_rfl) (by kernel_rfl) (fun _ _ _ h => h) (Or.inl ⟨by kernel_rfl, ?_⟩) (by assumption) ?_
  rotate_left
  · (intro w hSw; (try dsimp only at hSw); go_simp; try with_reducible rfl)
  simp only [Act.put, List.getElem_toArray, List.getElem_cons_succ, List.getElem_cons_zero, List.setIfInBounds_toArray, List.set_cons_zero, List.set_cons_succ]
  refine wpAnyH_take (i := 2) (v := ?_) rfl (by kernel_rfl) (by kernel_rfl) (by kernel_rfl) (fun _ _ _ h => h) (Or.inl ⟨by kernel_rfl, ?_⟩) (by assumption) ?_
  rotate_left
  · (intro w hSw; (try dsimp only at hSw); go_simp; try with_reducible rfl)
  simp only [Act.put, List.getElem_toArray, List.getElem_cons_succ, List.getElem_cons_zero, List.setIfInBounds_toArray, List.set_cons_zero, List.set_cons_succ]
  refine wpAnyH_take (i := 3) (v := ?_) rfl (by kernel_rfl) (by kernel_rfl) (by kernel_rfl) (fun _ _ _ h => h) (Or.inl ⟨by kernel_rfl, ?_⟩) (by assumption) ?_
  rotate_left
  · (intro w hSw; (try dsimp only at hSw); go_simp; try with_reducible rfl)
  simp only [Act.put, List.getElem_toArray, List.getElem_cons_succ, List.getElem_cons_zero, List.setIfInBounds_toArray, List.set_cons_zero, List.set_cons_succ]
  refine wpAnyH_ready (rs := [4]) (by kernel_rfl) (by simp) ?_
  refine AllReadyH.cons rfl (fun K hK => ?_) AllReadyH.nil
  go_simp
  go_wp2_with (go_at_call 91; ((with_reducible refine (P.out).mono ?_)); rintro e w3 ⟨l, R0, rfl, hl, hf, hti, hR1, hR2, haw, hb3⟩)
  refine hK.out _ _ (keep4 (by assumption) hb3) (fun hHeld => ?_)
  clear hK
  have BW1 := bon BW hb3
  have SZ1 : w.heap.size + 1 < w3.heap.size := Nat.lt_of_lt_of_le SZ hb3.size
  have FR1 := mkHid (FR.out.later hb3)
  have HALL := mkHid (And.intro hl (And.intro hf (And.intro hti (And.intro hR1 (And.intro hR2 haw)))))
  clear hl hf hti hR1 hR2 haw P
  refine wpAnyH_ready (rs := [5]) (by kernel_rfl) (by simp) ?_
  refine AllReadyH.cons rfl (fun K hK => ?_) AllReadyH.nil
  go_simp
  go_wp2_with (go_at_call 90; ((with_reducible refine (of_any _ _ _ _ _).mono ?_)); rintro e w4 ⟨rfl, hb4⟩)
  refine hK.out _ _ (keep4 (by assumption) hb4) (fun hHeld => ?_)
  clear hK
  have BW2 := bon BW1 hb4
  have SZ2 : w.heap.size + 1 < w4.heap.size := Nat.lt_of_lt_of_le SZ1 hb4.size
  have FR2 := mkHid (FR1.out.later hb4)
  obtain ⟨m0, m1, m2, m3, f0, f1, f2, f3⟩ := FR2.out
  refine wpAnyH_ready (rs := [6]) (by kernel_rfl) (by simp) ?_
  refine AllReadyH.cons rfl (fun K hK => ?_) AllReadyH.nil
  go_simp
  have BS : But (w.heap.size + 1) w4 ((((w4.setCell ⟨w.heap.size + 1, 0, none⟩ (.int .i64 19)).setCell ⟨w.heap.size + 1, 1, none⟩ (.string ⟨#[]⟩)).setCell ⟨w.heap.size + 1, 2, none⟩ (.int .i64 0)).setCell ⟨w.heap.size + 1, 3, none⟩ (.slice (some ⟨R0, 0, none⟩) ks.length ks.length)) := ((((But.refl _ _).set (p := ⟨w.heap.size + 1, 0, none⟩) (.inl rfl) _).set (p := ⟨w.heap.size + 1, 1, none⟩) (.inl rfl) _).set (p := ⟨w.heap.size + 1, 2, none⟩) (.inl rfl) _).set (p := ⟨w.heap.size + 1, 3, none⟩) (.inl rfl) _
  have HN0 : Hid (w.heap.size ≠ w.heap.size + 1) := Nat.ne_of_lt (Nat.lt_succ_self _)
  refine hK.out _ _ (keep4B (by assumption) BS HN0.out HN0.out HN0.out HN0.out) (fun hHeld => ?_)
  clear hK hHeld
  refine wpAnyH_done (by kernel_rfl) ?_ _
  go_wp2
  obtain ⟨hl, hf, hti, hR1, hR2, haw⟩ := HALL.out
  have HLL : Hid (l.length = ks.length) := by show l.length = ks.length; have := congrArg List.length hl; simpa using this
  have MR := Mk.row (op := 19) HT.out SZ (by decide) HLEN.out hl hf hti hR1 hR2 haw hb4
  have FI := Mk.fin (F := F) MR BW2 (by rw [HFT.out, er_eq]; exact congrArg (mkT 19) hl)
  simp only [Tm.val, Tm.op, Tm.nm, Tm.n, Tm.a, Tm.ks, Tm.c, HLL.out] at FI
  exact bodyPost_ret (v := .agg #[.int .i64 19, .string ⟨#[]⟩, .int .i64 0, .slice (some ⟨R0, 0, none⟩) ks.length ks.length]) (by simp [results, Tryd.results66, go_sem, m0, m1, m2, m3]) rfl FI
set_option maxRecDepth 100000 in
set_option maxHeartbeats 4000000 in
theorem aff20 (F : Tm → Tm) (t : Tm) (hop : t.op = 20) {F0 : Tm → Tm} (hlen : t.ks.length ≤ 2000) (Ck : ∀ k ∈ t.ks, ∀ w' : World, TIn w' w'.heap.size k → Calls Tryd.prog 66 #[k.val] w' (BecP F0 k w')) (hF : F t = mkT 20 (t.ks.map F0)) (w : World) (ht : TIn w w.heap.size t) : Calls Tryd.prog 66 #[t.val] w (BecP F t w) := by
  have HT := mkHid ht
  have HFT := mkHid hF
  clear hF
  have hTV : t.val = t.val := rfl
  obtain ⟨op, nm, n, a, c, ks⟩ := t
  simp only [Tm.op] at hop
  subst hop
  have hb2 : Below w.heap.size w ((w.alloc (.cells #[.int .i64 20, .string nm, .int .i64 n, .slice a ks.length c] 24)).alloc (.cells #[.int .i64 0, .string ⟨#[]⟩, .int .i64 0, .slice none 0 0] 24)) := bal (bal (Below.refl _ _) _) _
  have TT : ((w.alloc (.cells #[.int .i64 20, .string nm, .int .i64 n, .slice a ks.length c] 24)).alloc (.cells #[.int .i64 0, .string ⟨#[]⟩, .int .i64 0, .slice none 0 0] 24)).cell? ⟨w.heap.size, 0, none⟩ = some (.int .i64 20) ∧ ((w.alloc (.cells #[.int .i64 20, .string nm, .int .i64 n, .slice a ks.length c] 24)).alloc (.cells #[.int .i64 0, .string ⟨#[]⟩, .int .i64 0, .slice none 0 0] 24)).cell? ⟨w.heap.size, 1, none⟩ = some (.string nm) ∧ ((w.alloc (.cells #[.int .i64 20, .string nm, .int .i64 n, .slice a ks.length c] 24)).alloc (.cells #[.int .i64 0, .string ⟨#[]⟩, .int .i64 0, .slice none 0 0] 24)).cell? ⟨w.heap.size, 2, none⟩ = some (.int .i64 n) ∧ ((w.alloc (.cells #[.int .i64 20, .string nm, .int .i64 n, .slice a ks.length c] 24)).alloc (.cells #[.int .i64 0, .string ⟨#[]⟩, .int .i64 0, .slice none 0 0] 24)).cell? ⟨w.heap.size, 3, none⟩ = some (.slice a ks.length c) := by simp [go_sem]
  have FR0 : FourV' ((w.alloc (.cells #[.int .i64 20, .string nm, .int .i64 n, .slice a ks.length c] 24)).alloc (.cells #[.int .i64 0, .string ⟨#[]⟩, .int .i64 0, .slice none 0 0] 24)) (w.heap.size + 1) (.int .i64 0) (.string ⟨#[]⟩) (.int .i64 0) (.slice none 0 0) := by simp [FourV', go_sem]
  have hX2 : w.heap.size + 1 < ((w.alloc (.cells #[.int .i64 20, .string nm, .int .i64 n, .slice a ks.length c] 24)).alloc (.cells #[.int .i64 0, .string ⟨#[]⟩, .int .i64 0, .slice none 0 0] 24)).heap.size := by simp
  generalize hW2 : ((w.alloc (.cells #[.int .i64 20, .string nm, .int .i64 n, .slice a ks.length c] 24)).alloc (.cells #[.int .i64 0, .string ⟨#[]⟩, .int .i64 0, .slice none 0 0] 24)) = W2 at *
  unfold Tm.val
  simp only [Tm.op, Tm.nm, Tm.n, Tm.a, Tm.ks, Tm.c]
  obtain ⟨u0, u1, u2, u3⟩ := TT
  have FR := mkHid FR0
  have SZ := hX2
  have BW := hb2
  clear FR0 hX2 hb2 ht hTV
  go_enter Tryd.func66, Tryd.ntmps66
  go_wp2_with fail
  (try dsimp only [List.append])
  refine wp_region_held_drew (S := fun w' => w'.cell? ⟨w.heap.size, 0, none⟩ = some (.int .i64 20) ∧ w'.cell? ⟨w.heap.size, 1, none⟩ = some (.string nm) ∧ w'.cell? ⟨w.heap.size, 2, none⟩ = some (.int .i64 n) ∧ w'.cell? ⟨w.heap.size, 3, none⟩ = some (.slice a ks.length c)) (by kernel_rfl) ⟨u0, u1, u2, u3⟩ (fun hHeld => ?_)
  replace FR := mkHid (FR.out.later (bdrew (Below.refl W2.heap.size W2)))
  replace BW := bdrew BW
  replace SZ : w.heap.size + 1 < W2.drew.heap.size := SZ
  clear hW2 u0 u1 u2 u3
  generalize W2.drew = V at *
  have P := mkHid (each_aff F0 (.node 20 nm n a c ks) V (HT.out.later BW) hlen Ck)
  have HLEN := mkHid hlen
  simp only [Tm.a, Tm.ks, Tm.c] at P
  clear hlen Ck
  refine wpAnyH_take (i := 0) (v := ?_) rfl (by kernel_rfl) (by kernel_rfl) (by kernel_rfl) (fun _ _ _ h => h) (Or.inl ⟨by kernel_rfl, ?_⟩) (by assumption) ?_
  rotate_left
  · (intro w hSw; (try dsimp only at hSw); go_simp; try with_reducible rfl)
  simp only [Act.put, List.getElem_toArray, List.getElem_cons_zero, List.setIfInBounds_toArray, List.set_cons_zero, List.set_cons_succ]
  refine wpAnyH_take (i := 1) (v := ?_) rfl (by kernel_rfl) (by kernel_rfl) (by kernel_rfl) (fun _ _ _ h => h) (Or.inl ⟨by kernel_rfl, ?_⟩) (by assumption) ?_
  rotate_left
  · (intro w hSw; (try dsimp only at hSw); go_simp; try with_reducible rfl)
  simp only [Act.put, List.getElem_toArray, List.getElem_cons_succ, List.getElem_cons_zero, List.setIfInBounds_toArray, List.set_cons_zero, List.set_cons_succ]
  refine wpAnyH_take (i := 2) (v := ?_) rfl (by kernel_rfl) (by kernel_rfl) (by kernel_rfl) (fun _ _ _ h => h) (Or.inl ⟨by kernel_rfl, ?_⟩) (by assumption) ?_
  rotate_left
  · (intro w hSw; (try dsimp only at hSw); go_simp; try with_reducible rfl)
  simp only [Act.put, List.getElem_toArray, List.getElem_cons_succ, List.getElem_cons_zero, List.setIfInBounds_toArray, List.set_cons_zero, List.set_cons_succ]
  refine wpAnyH_take (i := 3) (v := ?_) rfl (by kernel_rfl) (by kernel_rfl) (by kernel_rfl) (fun _ _ _ h => h) (Or.inl ⟨by kernel_rfl, ?_⟩) (by assumption) ?_
  rotate_left
  · (intro w hSw; (try dsimp only at hSw); go_simp; try with_reducible rfl)
  simp only [Act.put, List.getElem_toArray, List.getElem_cons_succ, List.getElem_cons_zero, List.setIfInBounds_toArray, List.set_cons_zero, List.set_cons_succ]
  refine wpAnyH_ready (rs := [4]) (by kernel_rfl) (by simp) ?_
  refine AllReadyH.cons rfl (fun K hK => ?_) AllReadyH.nil
  go_simp
  go_wp2_with (go_at_call 91; ((with_reducible refine (P.out).mono ?_)); rintro e w3 ⟨l, R0, rfl, hl, hf, hti, hR1, hR2, haw, hb3⟩)
  refine hK.out _ _ (keep4 (by assumption) hb3) (fun hHeld => ?_)
  clear hK
  have BW1 := bon BW hb3
  have SZ1 : w.heap.size + 1 < w3.heap.size := Nat.lt_of_lt_of_le SZ hb3.size
  have FR1 := mkHid (FR.out.later hb3)
  have HALL := mkHid (And.intro hl (And.intro hf (And.intro hti (And.intro hR1 (And.intro hR2 haw)))))
  clear hl hf hti hR1 hR2 haw P
  refine wpAnyH_ready (rs := [5]) (by kernel_rfl) (by simp) ?_
  refine AllReadyH.cons rfl (fun K hK => ?_) AllReadyH.nil
  go_simp
  go_wp2_with (go_at_call 90; ((with_reducible refine (of_any _ _ _ _ _).mono ?_)); rintro e w4 ⟨rfl, hb4⟩)
  refine hK.out _ _ (keep4 (by assumption) hb4) (fun hHeld => ?_)
  clear hK
  have BW2 := bon BW1 hb4
  have SZ2 : w.heap.size + 1 < w4.heap.size := Nat.lt_of_lt_of_le SZ1 hb4.size
  have FR2 := mkHid (FR1.out.later hb4)
  obtain ⟨m0, m1, m2, m3, f0, f1, f2, f3⟩ := FR2.out
  refine wpAnyH_ready (rs := [6]) (by kernel_rfl) (by simp) ?_
  refine AllReadyH.cons rfl (fun K hK => ?_) AllReadyH.nil
  go_simp
  have BS : But (w.heap.size + 1) w4 ((((w4.setCell ⟨w.heap.size + 1, 0, none⟩ (.int .i64 20)).setCell ⟨w.heap.size + 1, 1, none⟩ (.string ⟨#[]⟩)).setCell ⟨w.heap.size + 1, 2, none⟩ (.int .i64 0)).setCell ⟨w.heap.size + 1, 3, none⟩ (.slice (some ⟨R0, 0, none⟩) ks.length ks.length)) := ((((But.refl _ _).set (p := ⟨w.heap.size + 1, 0, none⟩) (.inl rfl) _).set (p := ⟨w.heap.size + 1, 1, none⟩) (.inl rfl) _).set (p := ⟨w.heap.size + 1, 2, none⟩) (.inl rfl) _).set (p := ⟨w.heap.size + 1, 3, none⟩) (.inl rfl) _
  have HN0 : Hid (w.heap.size ≠ w.heap.size + 1) := Nat.ne_of_lt (Nat.lt_succ_self _)
  refine hK.out _ _ (keep4B (by assumption) BS HN0.out HN0.out HN0.out HN0.out) (fun hHeld => ?_)
  clear hK hHeld
  refine wpAnyH_done (by kernel_rfl) ?_ _
  go_wp2
  obtain ⟨hl, hf, hti, hR1, hR2, haw⟩ := HALL.out
  have HLL : Hid (l.length = ks.length) := by show l.length = ks.length; have := congrArg List.length hl; simpa using this
  have MR := Mk.row (op := 20) HT.out SZ (by decide) HLEN.out hl hf hti hR1 hR2 haw hb4
  have FI := Mk.fin (F := F) MR BW2 (by rw [HFT.out, er_eq]; exact congrArg (mkT 20) hl)
  simp only [Tm.val, Tm.op, Tm.nm, Tm.n, Tm.a, Tm.ks, Tm.c, HLL.out] at FI
  exact bodyPost_ret (v := .agg #[.int .i64 20, .string ⟨#[]⟩, .int .i64 0, .slice (some ⟨R0, 0, none⟩) ks.length ks.length]) (by simp [results, Tryd.results66, go_sem, m0, m1, m2, m3]) rfl FI
set_option maxRecDepth 100000 in
set_option maxHeartbeats 4000000 in
theorem den19 (F : Tm → Tm) (t : Tm) (hop : t.op = 19) {F0 : Tm → Tm} (hlen : t.ks.length ≤ 2000) (Ck : ∀ k ∈ t.ks, ∀ w' : World, TIn w' w'.heap.size k → Calls Tryd.prog 89 #[k.val] w' (BecP F0 k w')) (hF : F t = mkT 20 (t.ks.map F0)) (w : World) (ht : TIn w w.heap.size t) : Calls Tryd.prog 89 #[t.val] w (BecP F t w) := by
  have HT := mkHid ht
  have HFT := mkHid hF
  clear hF
  have hTV : t.val = t.val := rfl
  obtain ⟨op, nm, n, a, c, ks⟩ := t
  simp only [Tm.op] at hop
  subst hop
  have hb2 : Below w.heap.size w ((w.alloc (.cells #[.int .i64 19, .string nm, .int .i64 n, .slice a ks.length c] 24)).alloc (.cells #[.int .i64 0, .string ⟨#[]⟩, .int .i64 0, .slice none 0 0] 24)) := bal (bal (Below.refl _ _) _) _
  have TT : ((w.alloc (.cells #[.int .i64 19, .string nm, .int .i64 n, .slice a ks.length c] 24)).alloc (.cells #[.int .i64 0, .string ⟨#[]⟩, .int .i64 0, .slice none 0 0] 24)).cell? ⟨w.heap.size, 0, none⟩ = some (.int .i64 19) ∧ ((w.alloc (.cells #[.int .i64 19, .string nm, .int .i64 n, .slice a ks.length c] 24)).alloc (.cells #[.int .i64 0, .string ⟨#[]⟩, .int .i64 0, .slice none 0 0] 24)).cell? ⟨w.heap.size, 1, none⟩ = some (.string nm) ∧ ((w.alloc (.cells #[.int .i64 19, .string nm, .int .i64 n, .slice a ks.length c] 24)).alloc (.cells #[.int .i64 0, .string ⟨#[]⟩, .int .i64 0, .slice none 0 0] 24)).cell? ⟨w.heap.size, 2, none⟩ = some (.int .i64 n) ∧ ((w.alloc (.cells #[.int .i64 19, .string nm, .int .i64 n, .slice a ks.length c] 24)).alloc (.cells #[.int .i64 0, .string ⟨#[]⟩, .int .i64 0, .slice none 0 0] 24)).cell? ⟨w.heap.size, 3, none⟩ = some (.slice a ks.length c) := by simp [go_sem]
  have FR0 : FourV' ((w.alloc (.cells #[.int .i64 19, .string nm, .int .i64 n, .slice a ks.length c] 24)).alloc (.cells #[.int .i64 0, .string ⟨#[]⟩, .int .i64 0, .slice none 0 0] 24)) (w.heap.size + 1) (.int .i64 0) (.string ⟨#[]⟩) (.int .i64 0) (.slice none 0 0) := by simp [FourV', go_sem]
  have hX2 : w.heap.size + 1 < ((w.alloc (.cells #[.int .i64 19, .string nm, .int .i64 n, .slice a ks.length c] 24)).alloc (.cells #[.int .i64 0, .string ⟨#[]⟩, .int .i64 0, .slice none 0 0] 24)).heap.size := by simp
  generalize hW2 : ((w.alloc (.cells #[.int .i64 19, .string nm, .int .i64 n, .slice a ks.length c] 24)).alloc (.cells #[.int .i64 0, .string ⟨#[]⟩, .int .i64 0, .slice none 0 0] 24)) = W2 at *
  unfold Tm.val
  simp only [Tm.op, Tm.nm, Tm.n, Tm.a, Tm.ks, Tm.c]
  obtain ⟨u0, u1, u2, u3⟩ := TT
  have FR := mkHid FR0
  have SZ := hX2
  have BW := hb2
  clear FR0 hX2 hb2 ht hTV
  obtain ⟨m0, m1, m2, m3, f0, f1, f2, f3⟩ := FR.out
  have P := mkHid (each_den F0 (.node 19 nm n a c ks) W2 (HT.out.later BW) hlen Ck)
  have HLEN := mkHid hlen
  simp only [Tm.a, Tm.ks, Tm.c] at P
  clear hlen Ck
  go_enter Tryd.func89, Tryd.ntmps89
  go_wp2_with fail
  ((with_reducible refine P.out.mono ?_)); rintro e w3 ⟨l, R0, rfl, hl, hf, hti, hR1, hR2, haw, hb3⟩
  have HALL := mkHid (And.intro hl (And.intro hf (And.intro hti (And.intro hR1 (And.intro hR2 haw)))))
  clear hl hf hti hR1 hR2 haw P u0 u1 u2 u3 hW2
  go_wp2_with fail
  ((with_reducible refine (of_any _ _ _ _ _).mono ?_)); rintro e w4 ⟨rfl, hb4⟩
  clear m0 m1 m2 m3 f0 f1 f2 f3
  obtain ⟨m0, m1, m2, m3, f0, f1, f2, f3⟩ := FR.out.later (bon hb3 hb4)
  go_wp2
  obtain ⟨hl, hf, hti, hR1, hR2, haw⟩ := HALL.out
  have HLL : Hid (l.length = ks.length) := by show l.length = ks.length; have := congrArg List.length hl; simpa using this
  have MR := Mk.row (op := 20) HT.out SZ (by decide) HLEN.out hl hf hti hR1 hR2 haw hb4
  have FI := Mk.fin (F := F) MR (bon (bon BW hb3) hb4) (by rw [HFT.out, er_eq]; exact congrArg (mkT 20) hl)
  simp only [Tm.val, Tm.op, Tm.nm, Tm.n, Tm.a, Tm.ks, Tm.c, HLL.out] at FI
  exact bodyPost_ret (v := .agg #[.int .i64 20, .string ⟨#[]⟩, .int .i64 0, .slice (some ⟨R0, 0, none⟩) ks.length ks.length]) (by simp [results, Tryd.results89, go_sem, m0, m1, m2, m3]) rfl FI
set_option maxRecDepth 100000 in
set_option maxHeartbeats 4000000 in
theorem den20 (F : Tm → Tm) (t : Tm) (hop : t.op = 20) {F0 : Tm → Tm} (hlen : t.ks.length ≤ 2000) (Ck : ∀ k ∈ t.ks, ∀ w' : World, TIn w' w'.heap.size k → Calls Tryd.prog 89 #[k.val] w' (BecP F0 k w')) (hF : F t = mkT 19 (t.ks.map F0)) (w : World) (ht : TIn w w.heap.size t) : Calls Tryd.prog 89 #[t.val] w (BecP F t w) := by
  have HT := mkHid ht
  have HFT := mkHid hF
  clear hF
  have hTV : t.val = t.val := rfl
  obtain ⟨op, nm, n, a, c, ks⟩ := t
  simp only [Tm.op] at hop
  subst hop
  have hb2 : Below w.heap.size w ((w.alloc (.cells #[.int .i64 20, .string nm, .int .i64 n, .slice a ks.length c] 24)).alloc (.cells #[.int .i64 0, .string ⟨#[]⟩, .int .i64 0, .slice none 0 0] 24)) := bal (bal (Below.refl _ _) _) _
  have TT : ((w.alloc (.cells #[.int .i64 20, .string nm, .int .i64 n, .slice a ks.length c] 24)).alloc (.cells #[.int .i64 0, .string ⟨#[]⟩, .int .i64 0, .slice none 0 0] 24)).cell? ⟨w.heap.size, 0, none⟩ = some (.int .i64 20) ∧ ((w.alloc (.cells #[.int .i64 20, .string nm, .int .i64 n, .slice a ks.length c] 24)).alloc (.cells #[.int .i64 0, .string ⟨#[]⟩, .int .i64 0, .slice none 0 0] 24)).cell? ⟨w.heap.size, 1, none⟩ = some (.string nm) ∧ ((w.alloc (.cells #[.int .i64 20, .string nm, .int .i64 n, .slice a ks.length c] 24)).alloc (.cells #[.int .i64 0, .string ⟨#[]⟩, .int .i64 0, .slice none 0 0] 24)).cell? ⟨w.heap.size, 2, none⟩ = some (.int .i64 n) ∧ ((w.alloc (.cells #[.int .i64 20, .string nm, .int .i64 n, .slice a ks.length c] 24)).alloc (.cells #[.int .i64 0, .string ⟨#[]⟩, .int .i64 0, .slice none 0 0] 24)).cell? ⟨w.heap.size, 3, none⟩ = some (.slice a ks.length c) := by simp [go_sem]
  have FR0 : FourV' ((w.alloc (.cells #[.int .i64 20, .string nm, .int .i64 n, .slice a ks.length c] 24)).alloc (.cells #[.int .i64 0, .string ⟨#[]⟩, .int .i64 0, .slice none 0 0] 24)) (w.heap.size + 1) (.int .i64 0) (.string ⟨#[]⟩) (.int .i64 0) (.slice none 0 0) := by simp [FourV', go_sem]
  have hX2 : w.heap.size + 1 < ((w.alloc (.cells #[.int .i64 20, .string nm, .int .i64 n, .slice a ks.length c] 24)).alloc (.cells #[.int .i64 0, .string ⟨#[]⟩, .int .i64 0, .slice none 0 0] 24)).heap.size := by simp
  generalize hW2 : ((w.alloc (.cells #[.int .i64 20, .string nm, .int .i64 n, .slice a ks.length c] 24)).alloc (.cells #[.int .i64 0, .string ⟨#[]⟩, .int .i64 0, .slice none 0 0] 24)) = W2 at *
  unfold Tm.val
  simp only [Tm.op, Tm.nm, Tm.n, Tm.a, Tm.ks, Tm.c]
  obtain ⟨u0, u1, u2, u3⟩ := TT
  have FR := mkHid FR0
  have SZ := hX2
  have BW := hb2
  clear FR0 hX2 hb2 ht hTV
  obtain ⟨m0, m1, m2, m3, f0, f1, f2, f3⟩ := FR.out
  have P := mkHid (each_den F0 (.node 20 nm n a c ks) W2 (HT.out.later BW) hlen Ck)
  have HLEN := mkHid hlen
  simp only [Tm.a, Tm.ks, Tm.c] at P
  clear hlen Ck
  go_enter Tryd.func89, Tryd.ntmps89
  go_wp2_with fail
  ((with_reducible refine P.out.mono ?_)); rintro e w3 ⟨l, R0, rfl, hl, hf, hti, hR1, hR2, haw, hb3⟩
  have HALL := mkHid (And.intro hl (And.intro hf (And.intro hti (And.intro hR1 (And.intro hR2 haw)))))
  clear hl hf hti hR1 hR2 haw P u0 u1 u2 u3 hW2
  go_wp2_with fail
  ((with_reducible refine (of_any _ _ _ _ _).mono ?_)); rintro e w4 ⟨rfl, hb4⟩
  clear m0 m1 m2 m3 f0 f1 f2 f3
  obtain ⟨m0, m1, m2, m3, f0, f1, f2, f3⟩ := FR.out.later (bon hb3 hb4)
  go_wp2
  obtain ⟨hl, hf, hti, hR1, hR2, haw⟩ := HALL.out
  have HLL : Hid (l.length = ks.length) := by show l.length = ks.length; have := congrArg List.length hl; simpa using this
  have MR := Mk.row (op := 19) HT.out SZ (by decide) HLEN.out hl hf hti hR1 hR2 haw hb4
  have FI := Mk.fin (F := F) MR (bon (bon BW hb3) hb4) (by rw [HFT.out, er_eq]; exact congrArg (mkT 19) hl)
  simp only [Tm.val, Tm.op, Tm.nm, Tm.n, Tm.a, Tm.ks, Tm.c, HLL.out] at FI
  exact bodyPost_ret (v := .agg #[.int .i64 19, .string ⟨#[]⟩, .int .i64 0, .slice (some ⟨R0, 0, none⟩) ks.length ks.length]) (by simp [results, Tryd.results89, go_sem, m0, m1, m2, m3]) rfl FI
set_option maxRecDepth 100000 in
set_option maxHeartbeats 4000000 in
theorem den15 (F : Tm → Tm) (t : Tm) (hop : t.op = 15) {F0 : Tm → Tm} (Ct : ∀ w' : World, TIn w' w'.heap.size t → Calls Tryd.prog 66 #[t.val] w' (BecP F0 t w')) (hF : F t = mkT 18 [F0 t]) (w : World) (ht : TIn w w.heap.size t) : Calls Tryd.prog 89 #[t.val] w (BecP F t w) := by
  have HT := mkHid ht
  have HFT := mkHid hF
  clear hF
  have hTV : t.val = t.val := rfl
  obtain ⟨op, nm, n, a, c, ks⟩ := t
  simp only [Tm.op] at hop
  subst hop
  have hb2 : Below w.heap.size w ((w.alloc (.cells #[.int .i64 15, .string nm, .int .i64 n, .slice a ks.length c] 24)).alloc (.cells #[.int .i64 0, .string ⟨#[]⟩, .int .i64 0, .slice none 0 0] 24)) := bal (bal (Below.refl _ _) _) _
  have TT : ((w.alloc (.cells #[.int .i64 15, .string nm, .int .i64 n, .slice a ks.length c] 24)).alloc (.cells #[.int .i64 0, .string ⟨#[]⟩, .int .i64 0, .slice none 0 0] 24)).cell? ⟨w.heap.size, 0, none⟩ = some (.int .i64 15) ∧ ((w.alloc (.cells #[.int .i64 15, .string nm, .int .i64 n, .slice a ks.length c] 24)).alloc (.cells #[.int .i64 0, .string ⟨#[]⟩, .int .i64 0, .slice none 0 0] 24)).cell? ⟨w.heap.size, 1, none⟩ = some (.string nm) ∧ ((w.alloc (.cells #[.int .i64 15, .string nm, .int .i64 n, .slice a ks.length c] 24)).alloc (.cells #[.int .i64 0, .string ⟨#[]⟩, .int .i64 0, .slice none 0 0] 24)).cell? ⟨w.heap.size, 2, none⟩ = some (.int .i64 n) ∧ ((w.alloc (.cells #[.int .i64 15, .string nm, .int .i64 n, .slice a ks.length c] 24)).alloc (.cells #[.int .i64 0, .string ⟨#[]⟩, .int .i64 0, .slice none 0 0] 24)).cell? ⟨w.heap.size, 3, none⟩ = some (.slice a ks.length c) := by simp [go_sem]
  have FR0 : FourV' ((w.alloc (.cells #[.int .i64 15, .string nm, .int .i64 n, .slice a ks.length c] 24)).alloc (.cells #[.int .i64 0, .string ⟨#[]⟩, .int .i64 0, .slice none 0 0] 24)) (w.heap.size + 1) (.int .i64 0) (.string ⟨#[]⟩) (.int .i64 0) (.slice none 0 0) := by simp [FourV', go_sem]
  have hX2 : w.heap.size + 1 < ((w.alloc (.cells #[.int .i64 15, .string nm, .int .i64 n, .slice a ks.length c] 24)).alloc (.cells #[.int .i64 0, .string ⟨#[]⟩, .int .i64 0, .slice none 0 0] 24)).heap.size := by simp
  generalize hW2 : ((w.alloc (.cells #[.int .i64 15, .string nm, .int .i64 n, .slice a ks.length c] 24)).alloc (.cells #[.int .i64 0, .string ⟨#[]⟩, .int .i64 0, .slice none 0 0] 24)) = W2 at *
  unfold Tm.val
  simp only [Tm.op, Tm.nm, Tm.n, Tm.a, Tm.ks, Tm.c]
  obtain ⟨u0, u1, u2, u3⟩ := TT
  have FR := mkHid FR0
  have SZ := hX2
  have BW := hb2
  clear FR0 hX2 hb2 ht hTV
  obtain ⟨m0, m1, m2, m3, f0, f1, f2, f3⟩ := FR.out
  have P := mkHid (Ct W2 (HT.out.later BW))
  simp only [Tm.val, Tm.op, Tm.nm, Tm.n, Tm.a, Tm.ks, Tm.c] at P
  clear Ct
  go_enter Tryd.func89, Tryd.ntmps89
  go_wp2_with fail
  ((with_reducible refine P.out.mono ?_)); rintro e w3 ⟨z, rfl, ze, zt, zw, hb3⟩
  have HZ := mkHid (Mk.call (Mk.self HT.out BW) SZ zt zw)
  clear u0 u1 u2 u3 hW2 zt zw P
  have b4 := bel_alloc w3 (.cells #[.int .i64 z.op, .string z.nm, .int .i64 z.n, .slice z.a z.ks.length z.c] 24)
  have HF4 := mkHid (build1 w3 z)
  unfold Tm.val
  generalize hW4 : w3.alloc (.cells #[.int .i64 z.op, .string z.nm, .int .i64 z.n, .slice z.a z.ks.length z.c] 24) = W4 at *
  go_wp2_with fail
  ((with_reducible refine (of_any _ _ _ _ _).mono ?_)); rintro e w5 ⟨rfl, hb5⟩
  clear m0 m1 m2 m3 f0 f1 f2 f3
  obtain ⟨m0, m1, m2, m3, f0, f1, f2, f3⟩ := FR.out.later (bon (bon hb3 b4) hb5)
  have HM := mkHid (Mk.one (op := 18) (HZ.out.later (bon b4 hb5)) (HF4.out.later hb5) (Nat.lt_of_lt_of_le SZ hb3.size) (by decide))
  clear hW4 HF4
  go_wp2
  refine bodyPost_ret (v := .agg #[.int .i64 18, .string ⟨#[]⟩, .int .i64 0, .slice (some ⟨w3.heap.size, 0, none⟩) 1 1]) (by simp [results, Tryd.results89, go_sem, m0, m1, m2, m3]) rfl (Mk.fin (x := q1 18 w3.heap.size z) (HM.out) (bon (bon (bon BW hb3) b4) hb5) ?_)
  rw [HFT.out, q1_er, ze]
set_option maxRecDepth 100000 in
set_option maxHeartbeats 4000000 in
theorem den22 (F : Tm → Tm) (t : Tm) (hop : t.op = 22) {F0 : Tm → Tm} (Ct : ∀ w' : World, TIn w' w'.heap.size t → Calls Tryd.prog 66 #[t.val] w' (BecP F0 t w')) (hF : F t = mkT 18 [F0 t]) (w : World) (ht : TIn w w.heap.size t) : Calls Tryd.prog 89 #[t.val] w (BecP F t w) := by
  have HT := mkHid ht
  have HFT := mkHid hF
  clear hF
  have hTV : t.val = t.val := rfl
  obtain ⟨op, nm, n, a, c, ks⟩ := t
  simp only [Tm.op] at hop
  subst hop
  have hb2 : Below w.heap.size w ((w.alloc (.cells #[.int .i64 22, .string nm, .int .i64 n, .slice a ks.length c] 24)).alloc (.cells #[.int .i64 0, .string ⟨#[]⟩, .int .i64 0, .slice none 0 0] 24)) := bal (bal (Below.refl _ _) _) _
  have TT : ((w.alloc (.cells #[.int .i64 22, .string nm, .int .i64 n, .slice a ks.length c] 24)).alloc (.cells #[.int .i64 0, .string ⟨#[]⟩, .int .i64 0, .slice none 0 0] 24)).cell? ⟨w.heap.size, 0, none⟩ = some (.int .i64 22) ∧ ((w.alloc (.cells #[.int .i64 22, .string nm, .int .i64 n, .slice a ks.length c] 24)).alloc (.cells #[.int .i64 0, .string ⟨#[]⟩, .int .i64 0, .slice none 0 0] 24)).cell? ⟨w.heap.size, 1, none⟩ = some (.string nm) ∧ ((w.alloc (.cells #[.int .i64 22, .string nm, .int .i64 n, .slice a ks.length c] 24)).alloc (.cells #[.int .i64 0, .string ⟨#[]⟩, .int .i64 0, .slice none 0 0] 24)).cell? ⟨w.heap.size, 2, none⟩ = some (.int .i64 n) ∧ ((w.alloc (.cells #[.int .i64 22, .string nm, .int .i64 n, .slice a ks.length c] 24)).alloc (.cells #[.int .i64 0, .string ⟨#[]⟩, .int .i64 0, .slice none 0 0] 24)).cell? ⟨w.heap.size, 3, none⟩ = some (.slice a ks.length c) := by simp [go_sem]
  have FR0 : FourV' ((w.alloc (.cells #[.int .i64 22, .string nm, .int .i64 n, .slice a ks.length c] 24)).alloc (.cells #[.int .i64 0, .string ⟨#[]⟩, .int .i64 0, .slice none 0 0] 24)) (w.heap.size + 1) (.int .i64 0) (.string ⟨#[]⟩) (.int .i64 0) (.slice none 0 0) := by simp [FourV', go_sem]
  have hX2 : w.heap.size + 1 < ((w.alloc (.cells #[.int .i64 22, .string nm, .int .i64 n, .slice a ks.length c] 24)).alloc (.cells #[.int .i64 0, .string ⟨#[]⟩, .int .i64 0, .slice none 0 0] 24)).heap.size := by simp
  generalize hW2 : ((w.alloc (.cells #[.int .i64 22, .string nm, .int .i64 n, .slice a ks.length c] 24)).alloc (.cells #[.int .i64 0, .string ⟨#[]⟩, .int .i64 0, .slice none 0 0] 24)) = W2 at *
  unfold Tm.val
  simp only [Tm.op, Tm.nm, Tm.n, Tm.a, Tm.ks, Tm.c]
  obtain ⟨u0, u1, u2, u3⟩ := TT
  have FR := mkHid FR0
  have SZ := hX2
  have BW := hb2
  clear FR0 hX2 hb2 ht hTV
  obtain ⟨m0, m1, m2, m3, f0, f1, f2, f3⟩ := FR.out
  have P := mkHid (Ct W2 (HT.out.later BW))
  simp only [Tm.val, Tm.op, Tm.nm, Tm.n, Tm.a, Tm.ks, Tm.c] at P
  clear Ct
  go_enter Tryd.func89, Tryd.ntmps89
  go_wp2_with fail
  ((with_reducible refine P.out.mono ?_)); rintro e w3 ⟨z, rfl, ze, zt, zw, hb3⟩
  have HZ := mkHid (Mk.call (Mk.self HT.out BW) SZ zt zw)
  clear u0 u1 u2 u3 hW2 zt zw P
  have b4 := bel_alloc w3 (.cells #[.int .i64 z.op, .string z.nm, .int .i64 z.n, .slice z.a z.ks.length z.c] 24)
  have HF4 := mkHid (build1 w3 z)
  unfold Tm.val
  generalize hW4 : w3.alloc (.cells #[.int .i64 z.op, .string z.nm, .int .i64 z.n, .slice z.a z.ks.length z.c] 24) = W4 at *
  go_wp2_with fail
  ((with_reducible refine (of_any _ _ _ _ _).mono ?_)); rintro e w5 ⟨rfl, hb5⟩
  clear m0 m1 m2 m3 f0 f1 f2 f3
  obtain ⟨m0, m1, m2, m3, f0, f1, f2, f3⟩ := FR.out.later (bon (bon hb3 b4) hb5)
  have HM := mkHid (Mk.one (op := 18) (HZ.out.later (bon b4 hb5)) (HF4.out.later hb5) (Nat.lt_of_lt_of_le SZ hb3.size) (by decide))
  clear hW4 HF4
  go_wp2
  refine bodyPost_ret (v := .agg #[.int .i64 18, .string ⟨#[]⟩, .int .i64 0, .slice (some ⟨w3.heap.size, 0, none⟩) 1 1]) (by simp [results, Tryd.results89, go_sem, m0, m1, m2, m3]) rfl (Mk.fin (x := q1 18 w3.heap.size z) (HM.out) (bon (bon (bon BW hb3) b4) hb5) ?_)
  rw [HFT.out, q1_er, ze]
set_option maxRecDepth 100000 in
set_option maxHeartbeats 4000000 in
theorem den25 (F : Tm → Tm) (t : Tm) (hop : t.op = 25) {F0 : Tm → Tm} (Ct : ∀ w' : World, TIn w' w'.heap.size t → Calls Tryd.prog 66 #[t.val] w' (BecP F0 t w')) (hF : F t = mkT 18 [F0 t]) (w : World) (ht : TIn w w.heap.size t) : Calls Tryd.prog 89 #[t.val] w (BecP F t w) := by
  have HT := mkHid ht
  have HFT := mkHid hF
  clear hF
  have hTV : t.val = t.val := rfl
  obtain ⟨op, nm, n, a, c, ks⟩ := t
  simp only [Tm.op] at hop
  subst hop
  have hb2 : Below w.heap.size w ((w.alloc (.cells #[.int .i64 25, .string nm, .int .i64 n, .slice a ks.length c] 24)).alloc (.cells #[.int .i64 0, .string ⟨#[]⟩, .int .i64 0, .slice none 0 0] 24)) := bal (bal (Below.refl _ _) _) _
  have TT : ((w.alloc (.cells #[.int .i64 25, .string nm, .int .i64 n, .slice a ks.length c] 24)).alloc (.cells #[.int .i64 0, .string ⟨#[]⟩, .int .i64 0, .slice none 0 0] 24)).cell? ⟨w.heap.size, 0, none⟩ = some (.int .i64 25) ∧ ((w.alloc (.cells #[.int .i64 25, .string nm, .int .i64 n, .slice a ks.length c] 24)).alloc (.cells #[.int .i64 0, .string ⟨#[]⟩, .int .i64 0, .slice none 0 0] 24)).cell? ⟨w.heap.size, 1, none⟩ = some (.string nm) ∧ ((w.alloc (.cells #[.int .i64 25, .string nm, .int .i64 n, .slice a ks.length c] 24)).alloc (.cells #[.int .i64 0, .string ⟨#[]⟩, .int .i64 0, .slice none 0 0] 24)).cell? ⟨w.heap.size, 2, none⟩ = some (.int .i64 n) ∧ ((w.alloc (.cells #[.int .i64 25, .string nm, .int .i64 n, .slice a ks.length c] 24)).alloc (.cells #[.int .i64 0, .string ⟨#[]⟩, .int .i64 0, .slice none 0 0] 24)).cell? ⟨w.heap.size, 3, none⟩ = some (.slice a ks.length c) := by simp [go_sem]
  have FR0 : FourV' ((w.alloc (.cells #[.int .i64 25, .string nm, .int .i64 n, .slice a ks.length c] 24)).alloc (.cells #[.int .i64 0, .string ⟨#[]⟩, .int .i64 0, .slice none 0 0] 24)) (w.heap.size + 1) (.int .i64 0) (.string ⟨#[]⟩) (.int .i64 0) (.slice none 0 0) := by simp [FourV', go_sem]
  have hX2 : w.heap.size + 1 < ((w.alloc (.cells #[.int .i64 25, .string nm, .int .i64 n, .slice a ks.length c] 24)).alloc (.cells #[.int .i64 0, .string ⟨#[]⟩, .int .i64 0, .slice none 0 0] 24)).heap.size := by simp
  generalize hW2 : ((w.alloc (.cells #[.int .i64 25, .string nm, .int .i64 n, .slice a ks.length c] 24)).alloc (.cells #[.int .i64 0, .string ⟨#[]⟩, .int .i64 0, .slice none 0 0] 24)) = W2 at *
  unfold Tm.val
  simp only [Tm.op, Tm.nm, Tm.n, Tm.a, Tm.ks, Tm.c]
  obtain ⟨u0, u1, u2, u3⟩ := TT
  have FR := mkHid FR0
  have SZ := hX2
  have BW := hb2
  clear FR0 hX2 hb2 ht hTV
  obtain ⟨m0, m1, m2, m3, f0, f1, f2, f3⟩ := FR.out
  have P := mkHid (Ct W2 (HT.out.later BW))
  simp only [Tm.val, Tm.op, Tm.nm, Tm.n, Tm.a, Tm.ks, Tm.c] at P
  clear Ct
  go_enter Tryd.func89, Tryd.ntmps89
  go_wp2_with fail
  ((with_reducible refine P.out.mono ?_)); rintro e w3 ⟨z, rfl, ze, zt, zw, hb3⟩
  have HZ := mkHid (Mk.call (Mk.self HT.out BW) SZ zt zw)
  clear u0 u1 u2 u3 hW2 zt zw P
  have b4 := bel_alloc w3 (.cells #[.int .i64 z.op, .string z.nm, .int .i64 z.n, .slice z.a z.ks.length z.c] 24)
  have HF4 := mkHid (build1 w3 z)
  unfold Tm.val
  generalize hW4 : w3.alloc (.cells #[.int .i64 z.op, .string z.nm, .int .i64 z.n, .slice z.a z.ks.length z.c] 24) = W4 at *
  go_wp2_with fail
  ((with_reducible refine (of_any _ _ _ _ _).mono ?_)); rintro e w5 ⟨rfl, hb5⟩
  clear m0 m1 m2 m3 f0 f1 f2 f3
  obtain ⟨m0, m1, m2, m3, f0, f1, f2, f3⟩ := FR.out.later (bon (bon hb3 b4) hb5)
  have HM := mkHid (Mk.one (op := 18) (HZ.out.later (bon b4 hb5)) (HF4.out.later hb5) (Nat.lt_of_lt_of_le SZ hb3.size) (by decide))
  clear hW4 HF4
  go_wp2
  refine bodyPost_ret (v := .agg #[.int .i64 18, .string ⟨#[]⟩, .int .i64 0, .slice (some ⟨w3.heap.size, 0, none⟩) 1 1]) (by simp [results, Tryd.results89, go_sem, m0, m1, m2, m3]) rfl (Mk.fin (x := q1 18 w3.heap.size z) (HM.out) (bon (bon (bon BW hb3) b4) hb5) ?_)
  rw [HFT.out, q1_er, ze]
set_option maxRecDepth 100000 in
set_option maxHeartbeats 4000000 in
theorem den26 (F : Tm → Tm) (t : Tm) (hop : t.op = 26) {F0 : Tm → Tm} (Ct : ∀ w' : World, TIn w' w'.heap.size t → Calls Tryd.prog 66 #[t.val] w' (BecP F0 t w')) (hF : F t = mkT 18 [F0 t]) (w : World) (ht : TIn w w.heap.size t) : Calls Tryd.prog 89 #[t.val] w (BecP F t w) := by
  have HT := mkHid ht
  have HFT := mkHid hF
  clear hF
  have hTV : t.val = t.val := rfl
  obtain ⟨op, nm, n, a, c, ks⟩ := t
  simp only [Tm.op] at hop
  subst hop
  have hb2 : Below w.heap.size w ((w.alloc (.cells #[.int .i64 26, .string nm, .int .i64 n, .slice a ks.length c] 24)).alloc (.cells #[.int .i64 0, .string ⟨#[]⟩, .int .i64 0, .slice none 0 0] 24)) := bal (bal (Below.refl _ _) _) _
  have TT : ((w.alloc (.cells #[.int .i64 26, .string nm, .int .i64 n, .slice a ks.length c] 24)).alloc (.cells #[.int .i64 0, .string ⟨#[]⟩, .int .i64 0, .slice none 0 0] 24)).cell? ⟨w.heap.size, 0, none⟩ = some (.int .i64 26) ∧ ((w.alloc (.cells #[.int .i64 26, .string nm, .int .i64 n, .slice a ks.length c] 24)).alloc (.cells #[.int .i64 0, .string ⟨#[]⟩, .int .i64 0, .slice none 0 0] 24)).cell? ⟨w.heap.size, 1, none⟩ = some (.string nm) ∧ ((w.alloc (.cells #[.int .i64 26, .string nm, .int .i64 n, .slice a ks.length c] 24)).alloc (.cells #[.int .i64 0, .string ⟨#[]⟩, .int .i64 0, .slice none 0 0] 24)).cell? ⟨w.heap.size, 2, none⟩ = some (.int .i64 n) ∧ ((w.alloc (.cells #[.int .i64 26, .string nm, .int .i64 n, .slice a ks.length c] 24)).alloc (.cells #[.int .i64 0, .string ⟨#[]⟩, .int .i64 0, .slice none 0 0] 24)).cell? ⟨w.heap.size, 3, none⟩ = some (.slice a ks.length c) := by simp [go_sem]
  have FR0 : FourV' ((w.alloc (.cells #[.int .i64 26, .string nm, .int .i64 n, .slice a ks.length c] 24)).alloc (.cells #[.int .i64 0, .string ⟨#[]⟩, .int .i64 0, .slice none 0 0] 24)) (w.heap.size + 1) (.int .i64 0) (.string ⟨#[]⟩) (.int .i64 0) (.slice none 0 0) := by simp [FourV', go_sem]
  have hX2 : w.heap.size + 1 < ((w.alloc (.cells #[.int .i64 26, .string nm, .int .i64 n, .slice a ks.length c] 24)).alloc (.cells #[.int .i64 0, .string ⟨#[]⟩, .int .i64 0, .slice none 0 0] 24)).heap.size := by simp
  generalize hW2 : ((w.alloc (.cells #[.int .i64 26, .string nm, .int .i64 n, .slice a ks.length c] 24)).alloc (.cells #[.int .i64 0, .string ⟨#[]⟩, .int .i64 0, .slice none 0 0] 24)) = W2 at *
  unfold Tm.val
  simp only [Tm.op, Tm.nm, Tm.n, Tm.a, Tm.ks, Tm.c]
  obtain ⟨u0, u1, u2, u3⟩ := TT
  have FR := mkHid FR0
  have SZ := hX2
  have BW := hb2
  clear FR0 hX2 hb2 ht hTV
  obtain ⟨m0, m1, m2, m3, f0, f1, f2, f3⟩ := FR.out
  have P := mkHid (Ct W2 (HT.out.later BW))
  simp only [Tm.val, Tm.op, Tm.nm, Tm.n, Tm.a, Tm.ks, Tm.c] at P
  clear Ct
  go_enter Tryd.func89, Tryd.ntmps89
  go_wp2_with fail
  ((with_reducible refine P.out.mono ?_)); rintro e w3 ⟨z, rfl, ze, zt, zw, hb3⟩
  have HZ := mkHid (Mk.call (Mk.self HT.out BW) SZ zt zw)
  clear u0 u1 u2 u3 hW2 zt zw P
  have b4 := bel_alloc w3 (.cells #[.int .i64 z.op, .string z.nm, .int .i64 z.n, .slice z.a z.ks.length z.c] 24)
  have HF4 := mkHid (build1 w3 z)
  unfold Tm.val
  generalize hW4 : w3.alloc (.cells #[.int .i64 z.op, .string z.nm, .int .i64 z.n, .slice z.a z.ks.length z.c] 24) = W4 at *
  go_wp2_with fail
  ((with_reducible refine (of_any _ _ _ _ _).mono ?_)); rintro e w5 ⟨rfl, hb5⟩
  clear m0 m1 m2 m3 f0 f1 f2 f3
  obtain ⟨m0, m1, m2, m3, f0, f1, f2, f3⟩ := FR.out.later (bon (bon hb3 b4) hb5)
  have HM := mkHid (Mk.one (op := 18) (HZ.out.later (bon b4 hb5)) (HF4.out.later hb5) (Nat.lt_of_lt_of_le SZ hb3.size) (by decide))
  clear hW4 HF4
  go_wp2
  refine bodyPost_ret (v := .agg #[.int .i64 18, .string ⟨#[]⟩, .int .i64 0, .slice (some ⟨w3.heap.size, 0, none⟩) 1 1]) (by simp [results, Tryd.results89, go_sem, m0, m1, m2, m3]) rfl (Mk.fin (x := q1 18 w3.heap.size z) (HM.out) (bon (bon (bon BW hb3) b4) hb5) ?_)
  rw [HFT.out, q1_er, ze]
set_option maxRecDepth 100000 in
set_option maxHeartbeats 4000000 in
theorem den28 (F : Tm → Tm) (t : Tm) (hop : t.op = 28) {F0 : Tm → Tm} (Ct : ∀ w' : World, TIn w' w'.heap.size t → Calls Tryd.prog 66 #[t.val] w' (BecP F0 t w')) (hF : F t = mkT 18 [F0 t]) (w : World) (ht : TIn w w.heap.size t) : Calls Tryd.prog 89 #[t.val] w (BecP F t w) := by
  have HT := mkHid ht
  have HFT := mkHid hF
  clear hF
  have hTV : t.val = t.val := rfl
  obtain ⟨op, nm, n, a, c, ks⟩ := t
  simp only [Tm.op] at hop
  subst hop
  have hb2 : Below w.heap.size w ((w.alloc (.cells #[.int .i64 28, .string nm, .int .i64 n, .slice a ks.length c] 24)).alloc (.cells #[.int .i64 0, .string ⟨#[]⟩, .int .i64 0, .slice none 0 0] 24)) := bal (bal (Below.refl _ _) _) _
  have TT : ((w.alloc (.cells #[.int .i64 28, .string nm, .int .i64 n, .slice a ks.length c] 24)).alloc (.cells #[.int .i64 0, .string ⟨#[]⟩, .int .i64 0, .slice none 0 0] 24)).cell? ⟨w.heap.size, 0, none⟩ = some (.int .i64 28) ∧ ((w.alloc (.cells #[.int .i64 28, .string nm, .int .i64 n, .slice a ks.length c] 24)).alloc (.cells #[.int .i64 0, .string ⟨#[]⟩, .int .i64 0, .slice none 0 0] 24)).cell? ⟨w.heap.size, 1, none⟩ = some (.string nm) ∧ ((w.alloc (.cells #[.int .i64 28, .string nm, .int .i64 n, .slice a ks.length c] 24)).alloc (.cells #[.int .i64 0, .string ⟨#[]⟩, .int .i64 0, .slice none 0 0] 24)).cell? ⟨w.heap.size, 2, none⟩ = some (.int .i64 n) ∧ ((w.alloc (.cells #[.int .i64 28, .string nm, .int .i64 n, .slice a ks.length c] 24)).alloc (.cells #[.int .i64 0, .string ⟨#[]⟩, .int .i64 0, .slice none 0 0] 24)).cell? ⟨w.heap.size, 3, none⟩ = some (.slice a ks.length c) := by simp [go_sem]
  have FR0 : FourV' ((w.alloc (.cells #[.int .i64 28, .string nm, .int .i64 n, .slice a ks.length c] 24)).alloc (.cells #[.int .i64 0, .string ⟨#[]⟩, .int .i64 0, .slice none 0 0] 24)) (w.heap.size + 1) (.int .i64 0) (.string ⟨#[]⟩) (.int .i64 0) (.slice none 0 0) := by simp [FourV', go_sem]
  have hX2 : w.heap.size + 1 < ((w.alloc (.cells #[.int .i64 28, .string nm, .int .i64 n, .slice a ks.length c] 24)).alloc (.cells #[.int .i64 0, .string ⟨#[]⟩, .int .i64 0, .slice none 0 0] 24)).heap.size := by simp
  generalize hW2 : ((w.alloc (.cells #[.int .i64 28, .string nm, .int .i64 n, .slice a ks.length c] 24)).alloc (.cells #[.int .i64 0, .string ⟨#[]⟩, .int .i64 0, .slice none 0 0] 24)) = W2 at *
  unfold Tm.val
  simp only [Tm.op, Tm.nm, Tm.n, Tm.a, Tm.ks, Tm.c]
  obtain ⟨u0, u1, u2, u3⟩ := TT
  have FR := mkHid FR0
  have SZ := hX2
  have BW := hb2
  clear FR0 hX2 hb2 ht hTV
  obtain ⟨m0, m1, m2, m3, f0, f1, f2, f3⟩ := FR.out
  have P := mkHid (Ct W2 (HT.out.later BW))
  simp only [Tm.val, Tm.op, Tm.nm, Tm.n, Tm.a, Tm.ks, Tm.c] at P
  clear Ct
  go_enter Tryd.func89, Tryd.ntmps89
  go_wp2_with fail
  ((with_reducible refine P.out.mono ?_)); rintro e w3 ⟨z, rfl, ze, zt, zw, hb3⟩
  have HZ := mkHid (Mk.call (Mk.self HT.out BW) SZ zt zw)
  clear u0 u1 u2 u3 hW2 zt zw P
  have b4 := bel_alloc w3 (.cells #[.int .i64 z.op, .string z.nm, .int .i64 z.n, .slice z.a z.ks.length z.c] 24)
  have HF4 := mkHid (build1 w3 z)
  unfold Tm.val
  generalize hW4 : w3.alloc (.cells #[.int .i64 z.op, .string z.nm, .int .i64 z.n, .slice z.a z.ks.length z.c] 24) = W4 at *
  go_wp2_with fail
  ((with_reducible refine (of_any _ _ _ _ _).mono ?_)); rintro e w5 ⟨rfl, hb5⟩
  clear m0 m1 m2 m3 f0 f1 f2 f3
  obtain ⟨m0, m1, m2, m3, f0, f1, f2, f3⟩ := FR.out.later (bon (bon hb3 b4) hb5)
  have HM := mkHid (Mk.one (op := 18) (HZ.out.later (bon b4 hb5)) (HF4.out.later hb5) (Nat.lt_of_lt_of_le SZ hb3.size) (by decide))
  clear hW4 HF4
  go_wp2
  refine bodyPost_ret (v := .agg #[.int .i64 18, .string ⟨#[]⟩, .int .i64 0, .slice (some ⟨w3.heap.size, 0, none⟩) 1 1]) (by simp [results, Tryd.results89, go_sem, m0, m1, m2, m3]) rfl (Mk.fin (x := q1 18 w3.heap.size z) (HM.out) (bon (bon (bon BW hb3) b4) hb5) ?_)
  rw [HFT.out, q1_er, ze]
set_option maxRecDepth 100000 in
set_option maxHeartbeats 4000000 in
theorem den24 (F : Tm → Tm) (t : Tm) (hop : t.op = 24) {F0 : Tm → Tm} (Ct : ∀ w' : World, TIn w' w'.heap.size t → Calls Tryd.prog 66 #[t.val] w' (BecP F0 t w')) {F1 : Tm → Tm} (Cx : ∀ x : Tm, x.er = F0 t → ∀ w' : World, TIn w' w'.heap.size x → Calls Tryd.prog 89 #[x.val] w' (BecP F1 x w')) (hF : ∀ x : Tm, x.er = F0 t → F1 x = F t) (w : World) (ht : TIn w w.heap.size t) : Calls Tryd.prog 89 #[t.val] w (BecP F t w) := by
  have HT := mkHid ht
  have HFT := mkHid hF
  clear hF
  have hTV : t.val = t.val := rfl
  obtain ⟨op, nm, n, a, c, ks⟩ := t
  simp only [Tm.op] at hop
  subst hop
  have hb2 : Below w.heap.size w ((w.alloc (.cells #[.int .i64 24, .string nm, .int .i64 n, .slice a ks.length c] 24)).alloc (.cells #[.int .i64 0, .string ⟨#[]⟩, .int .i64 0, .slice none 0 0] 24)) := bal (bal (Below.refl _ _) _) _
  have TT : ((w.alloc (.cells #[.int .i64 24, .string nm, .int .i64 n, .slice a ks.length c] 24)).alloc (.cells #[.int .i64 0, .string ⟨#[]⟩, .int .i64 0, .slice none 0 0] 24)).cell? ⟨w.heap.size, 0, none⟩ = some (.int .i64 24) ∧ ((w.alloc (.cells #[.int .i64 24, .string nm, .int .i64 n, .slice a ks.length c] 24)).alloc (.cells #[.int .i64 0, .string ⟨#[]⟩, .int .i64 0, .slice none 0 0] 24)).cell? ⟨w.heap.size, 1, none⟩ = some (.string nm) ∧ ((w.alloc (.cells #[.int .i64 24, .string nm, .int .i64 n, .slice a ks.length c] 24)).alloc (.cells #[.int .i64 0, .string ⟨#[]⟩, .int .i64 0, .slice none 0 0] 24)).cell? ⟨w.heap.size, 2, none⟩ = some (.int .i64 n) ∧ ((w.alloc (.cells #[.int .i64 24, .string nm, .int .i64 n, .slice a ks.length c] 24)).alloc (.cells #[.int .i64 0, .string ⟨#[]⟩, .int .i64 0, .slice none 0 0] 24)).cell? ⟨w.heap.size, 3, none⟩ = some (.slice a ks.length c) := by simp [go_sem]
  have FR0 : FourV' ((w.alloc (.cells #[.int .i64 24, .string nm, .int .i64 n, .slice a ks.length c] 24)).alloc (.cells #[.int .i64 0, .string ⟨#[]⟩, .int .i64 0, .slice none 0 0] 24)) (w.heap.size + 1) (.int .i64 0) (.string ⟨#[]⟩) (.int .i64 0) (.slice none 0 0) := by simp [FourV', go_sem]
  have hX2 : w.heap.size + 1 < ((w.alloc (.cells #[.int .i64 24, .string nm, .int .i64 n, .slice a ks.length c] 24)).alloc (.cells #[.int .i64 0, .string ⟨#[]⟩, .int .i64 0, .slice none 0 0] 24)).heap.size := by simp
  generalize hW2 : ((w.alloc (.cells #[.int .i64 24, .string nm, .int .i64 n, .slice a ks.length c] 24)).alloc (.cells #[.int .i64 0, .string ⟨#[]⟩, .int .i64 0, .slice none 0 0] 24)) = W2 at *
  unfold Tm.val
  simp only [Tm.op, Tm.nm, Tm.n, Tm.a, Tm.ks, Tm.c]
  obtain ⟨u0, u1, u2, u3⟩ := TT
  have FR := mkHid FR0
  have SZ := hX2
  have BW := hb2
  clear FR0 hX2 hb2 ht hTV
  obtain ⟨m0, m1, m2, m3, f0, f1, f2, f3⟩ := FR.out
  have P := mkHid (Ct W2 (HT.out.later BW))
  simp only [Tm.val, Tm.op, Tm.nm, Tm.n, Tm.a, Tm.ks, Tm.c] at P
  have HCX := mkHid Cx
  clear Ct Cx
  go_enter Tryd.func89, Tryd.ntmps89
  go_wp2_with fail
  ((with_reducible refine P.out.mono ?_)); rintro e w3 ⟨z, rfl, ze, zt, zw, hb3⟩
  have HZ := mkHid (Mk.call (Mk.self HT.out BW) SZ zt zw)
  have P2 := mkHid (HCX.out z ze w3 zt)
  clear u0 u1 u2 u3 hW2 zt zw P
  unfold Tm.val at P2
  unfold Tm.val
  go_wp2_with fail
  ((with_reducible refine P2.out.mono ?_)); rintro e w5 ⟨y, rfl, ye, yt, yw, hb5⟩
  clear m0 m1 m2 m3 f0 f1 f2 f3
  obtain ⟨m0, m1, m2, m3, f0, f1, f2, f3⟩ := FR.out.later (bon hb3 hb5)
  have HY := mkHid (Mk.call HZ.out (Nat.lt_of_lt_of_le SZ hb3.size) yt yw)
  clear P2 yt yw HZ HCX
  unfold Tm.val
  go_wp2
  refine bodyPost_ret (v := .agg #[.int .i64 y.op, .string y.nm, .int .i64 y.n, .slice y.a y.ks.length y.c]) (by simp [results, Tryd.results89, go_sem, m0, m1, m2, m3]) rfl (Mk.fin (x := y) (HY.out) (bon (bon BW hb3) hb5) ?_)
  rw [ye, HFT.out z ze]
set_option maxRecDepth 100000 in
set_option maxHeartbeats 4000000 in
theorem den27 (F : Tm → Tm) (t : Tm) (hop : t.op = 27) {F0 : Tm → Tm} (Ct : ∀ w' : World, TIn w' w'.heap.size t → Calls Tryd.prog 66 #[t.val] w' (BecP F0 t w')) {F1 : Tm → Tm} (Cx : ∀ x : Tm, x.er = F0 t → ∀ w' : World, TIn w' w'.heap.size x → Calls Tryd.prog 89 #[x.val] w' (BecP F1 x w')) (hF : ∀ x : Tm, x.er = F0 t → F1 x = F t) (w : World) (ht : TIn w w.heap.size t) : Calls Tryd.prog 89 #[t.val] w (BecP F t w) := by
  have HT := mkHid ht
  have HFT := mkHid hF
  clear hF
  have hTV : t.val = t.val := rfl
  obtain ⟨op, nm, n, a, c, ks⟩ := t
  simp only [Tm.op] at hop
  subst hop
  have hb2 : Below w.heap.size w ((w.alloc (.cells #[.int .i64 27, .string nm, .int .i64 n, .slice a ks.length c] 24)).alloc (.cells #[.int .i64 0, .string ⟨#[]⟩, .int .i64 0, .slice none 0 0] 24)) := bal (bal (Below.refl _ _) _) _
  have TT : ((w.alloc (.cells #[.int .i64 27, .string nm, .int .i64 n, .slice a ks.length c] 24)).alloc (.cells #[.int .i64 0, .string ⟨#[]⟩, .int .i64 0, .slice none 0 0] 24)).cell? ⟨w.heap.size, 0, none⟩ = some (.int .i64 27) ∧ ((w.alloc (.cells #[.int .i64 27, .string nm, .int .i64 n, .slice a ks.length c] 24)).alloc (.cells #[.int .i64 0, .string ⟨#[]⟩, .int .i64 0, .slice none 0 0] 24)).cell? ⟨w.heap.size, 1, none⟩ = some (.string nm) ∧ ((w.alloc (.cells #[.int .i64 27, .string nm, .int .i64 n, .slice a ks.length c] 24)).alloc (.cells #[.int .i64 0, .string ⟨#[]⟩, .int .i64 0, .slice none 0 0] 24)).cell? ⟨w.heap.size, 2, none⟩ = some (.int .i64 n) ∧ ((w.alloc (.cells #[.int .i64 27, .string nm, .int .i64 n, .slice a ks.length c] 24)).alloc (.cells #[.int .i64 0, .string ⟨#[]⟩, .int .i64 0, .slice none 0 0] 24)).cell? ⟨w.heap.size, 3, none⟩ = some (.slice a ks.length c) := by simp [go_sem]
  have FR0 : FourV' ((w.alloc (.cells #[.int .i64 27, .string nm, .int .i64 n, .slice a ks.length c] 24)).alloc (.cells #[.int .i64 0, .string ⟨#[]⟩, .int .i64 0, .slice none 0 0] 24)) (w.heap.size + 1) (.int .i64 0) (.string ⟨#[]⟩) (.int .i64 0) (.slice none 0 0) := by simp [FourV', go_sem]
  have hX2 : w.heap.size + 1 < ((w.alloc (.cells #[.int .i64 27, .string nm, .int .i64 n, .slice a ks.length c] 24)).alloc (.cells #[.int .i64 0, .string ⟨#[]⟩, .int .i64 0, .slice none 0 0] 24)).heap.size := by simp
  generalize hW2 : ((w.alloc (.cells #[.int .i64 27, .string nm, .int .i64 n, .slice a ks.length c] 24)).alloc (.cells #[.int .i64 0, .string ⟨#[]⟩, .int .i64 0, .slice none 0 0] 24)) = W2 at *
  unfold Tm.val
  simp only [Tm.op, Tm.nm, Tm.n, Tm.a, Tm.ks, Tm.c]
  obtain ⟨u0, u1, u2, u3⟩ := TT
  have FR := mkHid FR0
  have SZ := hX2
  have BW := hb2
  clear FR0 hX2 hb2 ht hTV
  obtain ⟨m0, m1, m2, m3, f0, f1, f2, f3⟩ := FR.out
  have P := mkHid (Ct W2 (HT.out.later BW))
  simp only [Tm.val, Tm.op, Tm.nm, Tm.n, Tm.a, Tm.ks, Tm.c] at P
  have HCX := mkHid Cx
  clear Ct Cx
  go_enter Tryd.func89, Tryd.ntmps89
  go_wp2_with fail
  ((with_reducible refine P.out.mono ?_)); rintro e w3 ⟨z, rfl, ze, zt, zw, hb3⟩
  have HZ := mkHid (Mk.call (Mk.self HT.out BW) SZ zt zw)
  have P2 := mkHid (HCX.out z ze w3 zt)
  clear u0 u1 u2 u3 hW2 zt zw P
  unfold Tm.val at P2
  unfold Tm.val
  go_wp2_with fail
  ((with_reducible refine P2.out.mono ?_)); rintro e w5 ⟨y, rfl, ye, yt, yw, hb5⟩
  clear m0 m1 m2 m3 f0 f1 f2 f3
  obtain ⟨m0, m1, m2, m3, f0, f1, f2, f3⟩ := FR.out.later (bon hb3 hb5)
  have HY := mkHid (Mk.call HZ.out (Nat.lt_of_lt_of_le SZ hb3.size) yt yw)
  clear P2 yt yw HZ HCX
  unfold Tm.val
  go_wp2
  refine bodyPost_ret (v := .agg #[.int .i64 y.op, .string y.nm, .int .i64 y.n, .slice y.a y.ks.length y.c]) (by simp [results, Tryd.results89, go_sem, m0, m1, m2, m3]) rfl (Mk.fin (x := y) (HY.out) (bon (bon BW hb3) hb5) ?_)
  rw [ye, HFT.out z ze]
end Go.Proofs.YtlobffjgkhcjbaaDoor
