/-
  The contract of what the statements ask for in any case ('shown').
-/
import Derived.Test.YtkgaoafcjhjefaaNumO
namespace Go.Proofs.Ytkgaoafcjhjefaa
open Go.RowKit Go.Shelf

theorem mk_at (p q n m : Int) (c : Bool) (w : World) (h1 : fitB p = true) (h2 : fitB q = true) (e1 : vp (makeO p q) = n) (e2 : vq (makeO p q) = m) (e3 : (makeO p q).isSome = c) :
    Calls Try.prog 26 #[.int .i64 p, .int .i64 q] w fun e w' => e = .returned (.tuple #[.agg #[.int .i64 n, .int .i64 m], .bool c]) ∧ Below w.heap.size w w' := by
  have h := makeR p q w h1 h2
  rw [e1, e2, e3] at h; exact h
theorem half_third (w : World) :
    Calls Try.prog 30 #[.agg #[.int .i64 1, .int .i64 2], .agg #[.int .i64 1, .int .i64 3]] w fun e w' => e = .returned (.tuple #[.agg #[.int .i64 5, .int .i64 6], .bool true]) ∧ Below w.heap.size w w' := by
  have h := plusR (makeO 1 2) (makeO 1 3) w (fits_make _ _) (fits_make _ _)
  have e1 : vp (makeO 1 2) = 1 := by decide +kernel
  have e2 : vq (makeO 1 2) = 2 := by decide +kernel
  have e3 : vp (makeO 1 3) = 1 := by decide +kernel
  have e4 : vq (makeO 1 3) = 3 := by decide +kernel
  have e5 : vp (plusO (makeO 1 2) (makeO 1 3)) = 5 := by decide +kernel
  have e6 : vq (plusO (makeO 1 2) (makeO 1 3)) = 6 := by decide +kernel
  have e7 : (plusO (makeO 1 2) (makeO 1 3)).isSome = true := by decide +kernel
  rw [e1, e2, e3, e4, e5, e6, e7] at h; exact h
theorem half_cmp (w : World) :
    Calls Try.prog 38 #[.agg #[.int .i64 1, .int .i64 2], .agg #[.int .i64 1, .int .i64 3]] w fun e w' => e = .returned (.int .i64 1) ∧ Below w.heap.size w w' := by
  have h := cmpR (Rat.divInt 1 2) (Rat.divInt 1 3) w (by decide +kernel) (by decide +kernel)
  have e1 : (Rat.divInt 1 2).num = 1 := by decide +kernel
  have e2 : ((Rat.divInt 1 2).den : Int) = 2 := by decide +kernel
  have e3 : (Rat.divInt 1 3).num = 1 := by decide +kernel
  have e4 : ((Rat.divInt 1 3).den : Int) = 3 := by decide +kernel
  have e5 : cmpQ (Rat.divInt 1 2) (Rat.divInt 1 3) = 1 := by decide +kernel
  rw [e1, e2, e3, e4, e5] at h; exact h

set_option maxHeartbeats 4000000 in
set_option maxRecDepth 100000 in
theorem shown_any (w : World) :
    Calls Try.prog 14 #[] w fun e w' => e = .returned (.bool true) ∧ Below w.heap.size w w' := by
  have A : ∀ w, Calls Try.prog 16 #[.int .i64 4611686018427387904, .int .i64 4611686018427387904] w fun e w' => e = .returned (.tuple #[.int .i64 0, .bool false]) ∧ Below w.heap.size w w' := fun w => add_any 4611686018427387904 4611686018427387904 w (by decide) (by decide)
  have G : ∀ w, Calls Try.prog 20 #[.int .i64 (-9223372036854775808), .int .i64 0] w fun e w' => e = .returned (.tuple #[.int .i64 0, .bool false]) ∧ Below w.heap.size w w' := by
    intro w
    have h := gcd_any (-9223372036854775808) 0 w (by decide) (by decide)
    have e1 : fitB (gcdI (-9223372036854775808) 0) = false := by decide +kernel
    rw [tel_not e1, e1] at h; exact h
  have NG : ∀ w, Calls Try.prog 19 #[.int .i64 5] w fun e w' => e = .returned (.tuple #[.int .i64 (-5), .bool true]) ∧ Below w.heap.size w w' := fun w => neg_any 5 w (by decide)
  have FL : ∀ w, Calls Try.prog 40 #[.agg #[.int .i64 1, .int .i64 2]] w fun e w' => e = .returned (.int .i64 0) ∧ Below w.heap.size w w' := fun w => floorR 1 2 w (by decide) (by decide) (by decide)
  have CL : ∀ w, Calls Try.prog 41 #[.agg #[.int .i64 1, .int .i64 2]] w fun e w' => e = .returned (.int .i64 1) ∧ Below w.heap.size w w' := fun w => ceilR 1 2 w (by decide) (by decide) (by decide)
  have A' := mkHid A; have G' := mkHid G; have NG' := mkHid NG; have FL' := mkHid FL; have CL' := mkHid CL
  clear A G NG FL CL
  go_enter Try.func14, Try.ntmps14
  go_wp2_with fail
  refine (mk_at 1 2 1 2 true _ (by decide) (by decide) (by decide +kernel) (by decide +kernel) (by decide +kernel)).mono ?_; rintro e w1 ⟨rfl, hb1⟩
  go_wp2_with fail
  refine (mk_at (-2) (-6) 1 3 true _ (by decide) (by decide) (by decide +kernel) (by decide +kernel) (by decide +kernel)).mono ?_; rintro e w2 ⟨rfl, hb2⟩
  have t1 : Two w2 w1.heap.size (.int .i64 1) (.int .i64 2) := Two.later hb2 (by simp [Two, go_sem])
  obtain ⟨a0, a1, _, _⟩ := t1
  have A0 : ∀ o, (w2.alloc o).cell? ⟨w1.heap.size, 0, none⟩ = some (.int .i64 1) := fun o => cell_later (bal (Below.refl _ _) o) a0
  have A1 : ∀ o, (w2.alloc o).cell? ⟨w1.heap.size, 1, none⟩ = some (.int .i64 2) := fun o => cell_later (bal (Below.refl _ _) o) a1
  go_wp2_with fail
  refine (half_third _).mono ?_; rintro e w3 ⟨rfl, hb3⟩
  have t1 : Two w3 w1.heap.size (.int .i64 1) (.int .i64 2) := Two.later hb3 (Two.later (bal (Below.refl _ _) _) (Two.later hb2 (by simp [Two, go_sem])))
  have t2 : Two w3 w2.heap.size (.int .i64 1) (.int .i64 3) := Two.later hb3 (by simp [Two, go_sem])
  clear A0 A1 a0 a1
  go_wp2_with fail
  refine (A'.out _).mono ?_; rintro e w4 ⟨rfl, hb4⟩
  have t3 : Two w4 w3.heap.size (.int .i64 5) (.int .i64 6) := Two.later hb4 (by simp [Two, go_sem])
  replace t1 := Two.later hb4 (Two.later (bal (Below.refl _ _) _) t1)
  replace t2 := Two.later hb4 (Two.later (bal (Below.refl _ _) _) t2)
  go_wp2_with fail
  refine (mk_at 1 0 0 0 false _ (by decide) (by decide) (by decide +kernel) (by decide +kernel) (by decide +kernel)).mono ?_; rintro e w5 ⟨rfl, hb5⟩
  replace t1 := Two.later hb5 t1
  replace t2 := Two.later hb5 t2
  replace t3 := Two.later hb5 t3
  go_wp2_with fail
  refine (G'.out _).mono ?_; rintro e w6 ⟨rfl, hb6⟩
  replace t1 := Two.later hb6 (Two.later (bal (Below.refl _ _) _) t1)
  replace t2 := Two.later hb6 (Two.later (bal (Below.refl _ _) _) t2)
  replace t3 := Two.later hb6 (Two.later (bal (Below.refl _ _) _) t3)
  go_wp2_with fail
  refine (NG'.out _).mono ?_; rintro e w7 ⟨rfl, hb7⟩
  have s1 := Two.later hb7 t1
  obtain ⟨a0, a1, _, _⟩ := Two.later hb7 t1
  obtain ⟨b0, b1, _, _⟩ := Two.later hb7 t2
  obtain ⟨d0, d1, _, _⟩ := Two.later hb7 t3
  go_wp2_with fail
  refine (half_cmp _).mono ?_; rintro e w8 ⟨rfl, hb8⟩
  obtain ⟨a0, a1, _, _⟩ := Two.later hb8 s1
  go_wp2_with fail
  refine (FL'.out _).mono ?_; rintro e w9 ⟨rfl, hb9⟩
  obtain ⟨a0, a1, _, _⟩ := Two.later hb9 (Two.later hb8 s1)
  go_wp2_with fail
  refine (CL'.out _).mono ?_; rintro e w10 ⟨rfl, hb10⟩
  go_wp2_with fail
  refine (wholeR 7 _).mono ?_; rintro e w11 ⟨rfl, hb11⟩
  go_wp2
  go_ret
  exact ⟨rfl, bon (bon (bon (bon (bon (bon (bal (bon (bon (bal (bon (bal (bon (bal (bon (Below.refl _ _) hb1) _) hb2) _) hb3) _) hb4) hb5) _) hb6) hb7) hb8) hb9) hb10) hb11⟩
end Go.Proofs.Ytkgaoafcjhjefaa
