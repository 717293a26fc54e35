/-
  NormTells, walked: it returns true.
-/
import Derived.Test.YtlobffjgkhcjbaaDoorNrG
namespace Go.Proofs.YtlobffjgkhcjbaaDoor
open Go.RowKit

set_option maxRecDepth 100000 in
set_option maxHeartbeats 4000000 in
theorem tells_any (t : Tm) (w : World) (ht : TIn w w.heap.size t) (hS : Shps w) : Calls Tryd.prog 8 #[t.val] w (RetBo true w) := by
  have B0 := bel_alloc w (boxT t)
  have F1 := box_four w t
  have CH := mkHid (shownN (w.alloc (boxT t)) (hS.later B0))
  have HS := mkHid (hS.later B0)
  have HT := mkHid (ht.later B0)
  have hW2 : w.alloc (.cells #[.int .i64 t.op, .string t.nm, .int .i64 t.n, .slice t.a t.ks.length t.c] 24) = w.alloc (boxT t) := rfl
  generalize w.alloc (boxT t) = W1 at *
  unfold Tm.val
  clear hS ht
  have HF := mkHid F1
  clear F1
  go_enter Tryd.func8, Tryd.ntmps8
  go_wp2_with fail
  ((with_reducible refine CH.out.mono ?_)); rintro e w2 ⟨rfl, D2⟩
  clear CH hW2
  obtain ⟨x0, x1, x2, x3⟩ := HF.out.later D2
  simp only [Nat.zero_add] at x1 x2 x3
  have C1 := mkHid (norm_any t w2 (HT.out.later D2) (HS.out.later D2))
  unfold Tm.val at C1
  go_wp2_with fail
  ((with_reducible refine C1.out.mono ?_)); rintro e w3 ⟨⟨z, rfl, zt, ze, zn⟩, hb3⟩
  clear C1 x0 x1 x2 x3
  have bW3 := bel_alloc w3 (boxT z)
  have fW3 := box_four w3 z
  have hW3 : w3.alloc (.cells #[.int .i64 z.op, .string z.nm, .int .i64 z.n, .slice z.a z.ks.length z.c] 24) = w3.alloc (boxT z) := rfl
  have Iz := mkHid (zt.later bW3)
  unfold Tm.val
  generalize w3.alloc (boxT z) = W3 at *
  have Fz := mkHid fW3
  clear fW3 zt
  have D3 := bon (bon D2 hb3) bW3
  obtain ⟨x0, x1, x2, x3⟩ := HF.out.later D3
  simp only [Nat.zero_add] at x1 x2 x3
  have C2 := mkHid (rNorm_any t W3 (HT.out.later D3))
  unfold Tm.val at C2
  go_wp2_with fail
  ((with_reducible refine C2.out.mono ?_)); rintro e w4 ⟨⟨y, rfl, yt, ye, yn⟩, hb4⟩
  clear C2 x0 x1 x2 x3 hW3
  have HE : Hid (z.er = y.er ∧ z.deep ≤ 100) := by
    show z.er = y.er ∧ z.deep ≤ 100
    by_cases hn : normE t = 0
    · exact ⟨(ze hn).trans (ye hn).symm, (norm_facts hn (ze hn)).2.1⟩
    · rw [zn hn, yn hn]
      exact ⟨rfl, by decide +kernel⟩
  clear ze zn ye yn
  have bW4 := bel_alloc w4 (boxT y)
  have fW4 := box_four w4 y
  have hW4 : w4.alloc (.cells #[.int .i64 y.op, .string y.nm, .int .i64 y.n, .slice y.a y.ks.length y.c] 24) = w4.alloc (boxT y) := rfl
  have Iy := mkHid (yt.later bW4)
  unfold Tm.val
  generalize w4.alloc (boxT y) = W4 at *
  have Fy := mkHid fW4
  clear fW4 yt
  have E4 := bon hb4 bW4
  have D4 := bon D3 E4
  have P1 := mkHid (same_er (a := z) (b := y) (w := W4.drew) ((Iz.out.later E4).later (bdrew (Below.refl _ _))) (Iy.out.later (bdrew (Below.refl _ _))) HE.out.1 HE.out.2)
  have P2 := mkHid (fun w' (hb : Below W4.heap.size W4 w') => is_any t w' (HT.out.later (bon D4 hb)) (HS.out.later (bon D4 hb)))
  have P3 := mkHid (fun w' (hb : Below W4.heap.size W4 w') => rIs_any t w' (HT.out.later (bon D4 hb)))
  unfold Tm.val at P1 P2 P3
  generalize isB t = ib at *
  generalize ((normE t : Nat) : Int) = nv at *
  obtain ⟨x0, x1, x2, x3⟩ := HF.out.later D4
  simp only [Nat.zero_add] at x1 x2 x3
  obtain ⟨z0, z1, z2, z3⟩ := Fz.out.later E4
  simp only [Nat.zero_add] at z1 z2 z3
  obtain ⟨y0, y1, y2, y3⟩ := Fy.out
  simp only [Nat.zero_add] at y1 y2 y3
  go_wp2_with fail
  (try dsimp only [List.append])
  refine wp_region_held_drew (S := fun w' => w'.cell? ⟨w.heap.size, 0, none⟩ = some (.int .i64 t.op) ∧ w'.cell? ⟨w.heap.size, 1, none⟩ = some (.string t.nm) ∧ w'.cell? ⟨w.heap.size, 2, none⟩ = some (.int .i64 t.n) ∧ w'.cell? ⟨w.heap.size, 3, none⟩ = some (.slice t.a t.ks.length t.c) ∧ w'.cell? ⟨w3.heap.size, 0, none⟩ = some (.int .i64 z.op) ∧ w'.cell? ⟨w3.heap.size, 1, none⟩ = some (.string z.nm) ∧ w'.cell? ⟨w3.heap.size, 2, none⟩ = some (.int .i64 z.n) ∧ w'.cell? ⟨w3.heap.size, 3, none⟩ = some (.slice z.a z.ks.length z.c) ∧ w'.cell? ⟨w4.heap.size, 0, none⟩ = some (.int .i64 y.op) ∧ w'.cell? ⟨w4.heap.size, 1, none⟩ = some (.string y.nm) ∧ w'.cell? ⟨w4.heap.size, 2, none⟩ = some (.int .i64 y.n) ∧ w'.cell? ⟨w4.heap.size, 3, none⟩ = some (.slice y.a y.ks.length y.c)) (by kernel_rfl) ⟨x0, x1, x2, x3, z0, z1, z2, z3, y0, y1, y2, y3⟩ (fun hHeld => ?_)
  refine wpAnyH_take (i := 0) (v := ?_) rfl (by kernel_rfl) (by kernel_rfl) (by kernel_rfl) (fun _ _ _ h => h) (Or.inl ⟨by kernel_rfl, ?_⟩) (by assumption) ?_
  rotate_left
  · (intro w hSw; (try dsimp only at hSw); go_simp; try with_reducible rfl)
  simp only [Act.put, List.getElem_toArray, List.getElem_cons_zero, List.setIfInBounds_toArray, List.set_cons_zero, List.set_cons_succ]
  refine wpAnyH_take (i := 1) (v := ?_) rfl (by kernel_rfl) (by kernel_rfl) (by kernel_rfl) (fun _ _ _ h => h) (Or.inl ⟨by kernel_rfl, ?_⟩) (by assumption) ?_
  rotate_left
  · (intro w hSw; (try dsimp only at hSw); go_simp; try with_reducible rfl)
  simp only [Act.put, List.getElem_toArray, List.getElem_cons_succ, List.getElem_cons_zero, List.setIfInBounds_toArray, List.set_cons_zero, List.set_cons_succ]
  refine wpAnyH_take (i := 2) (v := ?_) rfl (by kernel_rfl) (by kernel_rfl) (by kernel_rfl) (fun _ _ _ h => h) (Or.inl ⟨by kernel_rfl, ?_⟩) (by assumption) ?_
  rotate_left
  · (intro w hSw; (try dsimp only at hSw); go_simp; try with_reducible rfl)
  simp only [Act.put, List.getElem_toArray, List.getElem_cons_succ, List.getElem_cons_zero, List.setIfInBounds_toArray, List.set_cons_zero, List.set_cons_succ]
  refine wpAnyH_take (i := 3) (v := ?_) rfl (by kernel_rfl) (by kernel_rfl) (by kernel_rfl) (fun _ _ _ h => h) (Or.inl ⟨by kernel_rfl, ?_⟩) (by assumption) ?_
  rotate_left
  · (intro w hSw; (try dsimp only at hSw); go_simp; try with_reducible rfl)
  simp only [Act.put, List.getElem_toArray, List.getElem_cons_succ, List.getElem_cons_zero, List.setIfInBounds_toArray, List.set_cons_zero, List.set_cons_succ]
  refine wpAnyH_ready (rs := [4]) (by kernel_rfl) (by simp) ?_
  refine AllReadyH.cons rfl (fun K hK => ?_) AllReadyH.nil
  go_simp
  go_wp2_with (go_at_call 24; ((with_reducible refine P1.out.mono ?_)); rintro e w5 ⟨rfl, hb5⟩)
  refine hK.out _ _ (keep12 (by assumption) hb5) (fun hHeld => ?_)
  clear hK
  have G5 := bon (bdrew (Below.refl W4.heap.size W4)) hb5
  refine wpAnyH_take (i := 5) (v := ?_) rfl (by kernel_rfl) (by kernel_rfl) (by kernel_rfl) (fun _ _ _ h => h) (Or.inl ⟨by kernel_rfl, ?_⟩) (by assumption) ?_
  rotate_left
  · (intro w hSw; (try dsimp only at hSw); go_simp; try with_reducible rfl)
  simp only [Act.put, List.getElem_toArray, List.getElem_cons_succ, List.getElem_cons_zero, List.setIfInBounds_toArray, List.set_cons_zero, List.set_cons_succ]
  refine wpAnyH_take (i := 6) (v := ?_) rfl (by kernel_rfl) (by kernel_rfl) (by kernel_rfl) (fun _ _ _ h => h) (Or.inl ⟨by kernel_rfl, ?_⟩) (by assumption) ?_
  rotate_left
  · (intro w hSw; (try dsimp only at hSw); go_simp; try with_reducible rfl)
  simp only [Act.put, List.getElem_toArray, List.getElem_cons_succ, List.getElem_cons_zero, List.setIfInBounds_toArray, List.set_cons_zero, List.set_cons_succ]
  refine wpAnyH_take (i := 7) (v := ?_) rfl (by kernel_rfl) (by kernel_rfl) (by kernel_rfl) (fun _ _ _ h => h) (Or.inl ⟨by kernel_rfl, ?_⟩) (by assumption) ?_
  rotate_left
  · (intro w hSw; (try dsimp only at hSw); go_simp; try with_reducible rfl)
  simp only [Act.put, List.getElem_toArray, List.getElem_cons_succ, List.getElem_cons_zero, List.setIfInBounds_toArray, List.set_cons_zero, List.set_cons_succ]
  refine wpAnyH_take (i := 8) (v := ?_) rfl (by kernel_rfl) (by kernel_rfl) (by kernel_rfl) (fun _ _ _ h => h) (Or.inl ⟨by kernel_rfl, ?_⟩) (by assumption) ?_
  rotate_left
  · (intro w hSw; (try dsimp only at hSw); go_simp; try with_reducible rfl)
  simp only [Act.put, List.getElem_toArray, List.getElem_cons_succ, List.getElem_cons_zero, List.setIfInBounds_toArray, List.set_cons_zero, List.set_cons_succ]
  refine wpAnyH_take (i := 9) (v := ?_) rfl (by kernel_rfl) (by kernel_rfl) (by kernel_rfl) (fun _ _ _ h => h) (Or.inl ⟨by kernel_rfl, ?_⟩) (by assumption) ?_
  rotate_left
  · (intro w hSw; (try dsimp only at hSw); go_simp; try with_reducible rfl)
  simp only [Act.put, List.getElem_toArray, List.getElem_cons_succ, List.getElem_cons_zero, List.setIfInBounds_toArray, List.set_cons_zero, List.set_cons_succ]
  refine wpAnyH_take (i := 10) (v := ?_) rfl (by kernel_rfl) (by kernel_rfl) (by kernel_rfl) (fun _ _ _ h => h) (Or.inl ⟨by kernel_rfl, ?_⟩) (by assumption) ?_
  rotate_left
  · (intro w hSw; (try dsimp only at hSw); go_simp; try with_reducible rfl)
  simp only [Act.put, List.getElem_toArray, List.getElem_cons_succ, List.getElem_cons_zero, List.setIfInBounds_toArray, List.set_cons_zero, List.set_cons_succ]
  refine wpAnyH_take (i := 11) (v := ?_) rfl (by kernel_rfl) (by kernel_rfl) (by kernel_rfl) (fun _ _ _ h => h) (Or.inl ⟨by kernel_rfl, ?_⟩) (by assumption) ?_
  rotate_left
  · (intro w hSw; (try dsimp only at hSw); go_simp; try with_reducible rfl)
  simp only [Act.put, List.getElem_toArray, List.getElem_cons_succ, List.getElem_cons_zero, List.setIfInBounds_toArray, List.set_cons_zero, List.set_cons_succ]
  refine wpAnyH_take (i := 12) (v := ?_) rfl (by kernel_rfl) (by kernel_rfl) (by kernel_rfl) (fun _ _ _ h => h) (Or.inl ⟨by kernel_rfl, ?_⟩) (by assumption) ?_
  rotate_left
  · (intro w hSw; (try dsimp only at hSw); go_simp; try with_reducible rfl)
  simp only [Act.put, List.getElem_toArray, List.getElem_cons_succ, List.getElem_cons_zero, List.setIfInBounds_toArray, List.set_cons_zero, List.set_cons_succ]
  refine wpAnyH_take (i := 14) (v := ?_) rfl (by kernel_rfl) (by kernel_rfl) (by kernel_rfl) (fun _ _ _ h => h) (Or.inl ⟨by kernel_rfl, ?_⟩) (by assumption) ?_
  rotate_left
  · (intro w hSw; (try dsimp only at hSw); go_simp; try with_reducible rfl)
  simp only [Act.put, List.getElem_toArray, List.getElem_cons_succ, List.getElem_cons_zero, List.setIfInBounds_toArray, List.set_cons_zero, List.set_cons_succ]
  refine wpAnyH_ready (rs := [13]) (by kernel_rfl) (by simp) ?_
  refine AllReadyH.cons rfl (fun K hK => ?_) AllReadyH.nil
  go_simp
  go_wp2_with (go_at_call 38; ((with_reducible refine (P2.out w5 G5).mono ?_)); rintro e w6 ⟨rfl, hb6⟩)
  refine hK.out _ _ (keep12 (by assumption) hb6) (fun hHeld => ?_)
  clear hK
  have G6 := bon G5 hb6
  refine wpAnyH_ready (rs := [15]) (by kernel_rfl) (by simp) ?_
  refine AllReadyH.cons rfl (fun K hK => ?_) AllReadyH.nil
  go_simp
  go_wp2_with (go_at_call 39; ((with_reducible refine (P3.out w6 G6).mono ?_)); rintro e w7 ⟨rfl, hb7⟩)
  refine hK.out _ _ (keep12 (by assumption) hb7) (fun hHeld => ?_)
  clear hK
  refine wpAnyH_take (i := 16) (v := ?_) rfl (by kernel_rfl) (by kernel_rfl) (by kernel_rfl) (fun _ _ _ h => h) (Or.inl ⟨by kernel_rfl, ?_⟩) (by assumption) ?_
  rotate_left
  · (intro w hSw; (try dsimp only at hSw); go_simp; try with_reducible rfl)
  simp only [Act.put, List.getElem_toArray, List.getElem_cons_succ, List.getElem_cons_zero, List.setIfInBounds_toArray, List.set_cons_zero, List.set_cons_succ]
  refine wpAnyH_take (i := 17) (v := ?_) rfl (by kernel_rfl) (by kernel_rfl) (by kernel_rfl) (fun _ _ _ h => h) (Or.inl ⟨by kernel_rfl, ?_⟩) (by assumption) ?_
  rotate_left
  · (intro w hSw; (try dsimp only at hSw); go_simp; try with_reducible rfl)
  simp only [Act.put, List.getElem_toArray, List.getElem_cons_succ, List.getElem_cons_zero, List.setIfInBounds_toArray, List.set_cons_zero, List.set_cons_succ]
  refine wpAnyH_take (i := 18) (v := ?_) rfl (by kernel_rfl) (by kernel_rfl) (by kernel_rfl) (fun _ _ _ h => h) (Or.inl ⟨by kernel_rfl, ?_⟩) (by assumption) ?_
  rotate_left
  · (intro w hSw; (try dsimp only at hSw); go_simp; try with_reducible rfl)
  simp only [Act.put, List.getElem_toArray, List.getElem_cons_succ, List.getElem_cons_zero, List.setIfInBounds_toArray, List.set_cons_zero, List.set_cons_succ]
  refine wpAnyH_done (by kernel_rfl) ?_ _
  clear hHeld
  go_wp2
  go_ret
  exact ⟨by cases ib <;> rfl, bon B0 (bon D4 (bon G6 hb7))⟩
end Go.Proofs.YtlobffjgkhcjbaaDoor
