/-
  What NumFields does: it returns true, whatever the six numbers are.
-/
import Derived.Test.YtfoohgfdkmgndaaNumThree
namespace Go.Proofs.Ytfoohgfdkmgndaa
open Go.RowKit Go.Shelf

set_option maxHeartbeats 4000000 in
set_option maxRecDepth 100000 in
theorem fields_none (p q r s t u ap aq bp bq cp cq : Int) (g h : Bool) (w : World)
    (R1 : Hid (∀ w, Calls Try.prog 29 #[.int .i64 p, .int .i64 q, .int .i64 r, .int .i64 s] w fun e w' => e = .returned (.tuple #[.agg #[.int .i64 ap, .int .i64 aq], .agg #[.int .i64 bp, .int .i64 bq], .bool g]) ∧ Below w.heap.size w w'))
    (M1 : Hid (∀ w, Calls Try.prog 26 #[.int .i64 t, .int .i64 u] w fun e w' => e = .returned (.tuple #[.agg #[.int .i64 cp, .int .i64 cq], .bool h]) ∧ Below w.heap.size w w'))
    (hs : g = false ∨ (g = true ∧ h = false)) :
    Calls Try.prog 7 #[.int .i64 p, .int .i64 q, .int .i64 r, .int .i64 s, .int .i64 t, .int .i64 u] w fun e w' => e = .returned (.bool true) ∧ Below w.heap.size w w' := by
  rcases hs with rfl | ⟨rfl, rfl⟩
  all_goals
    go_enter Try.func7, Try.ntmps7
    go_wp2_with fail
    refine (shown_any _).mono ?_; rintro e w1 ⟨rfl, hb1⟩
    have z1 := hb1.size; (try simp at z1)
    go_wp2_with fail
    refine (R1.out _).mono ?_; rintro e w2 ⟨rfl, hb2⟩
    have z2 := hb2.size; (try simp at z2)
    go_wp2_with fail
    refine (M1.out _).mono ?_; rintro e w3 ⟨rfl, hb3⟩
    have z3 := hb3.size; (try simp at z3)
    have t_a : Two w3 (w2.heap.size) (.int .i64 ap) (.int .i64 aq) := Two.later hb3 (by simp [Two, go_sem])
    have t_b : Two w3 (w2.heap.size + 1) (.int .i64 bp) (.int .i64 bq) := Two.later hb3 (by simp [Two, go_sem])
    go_wp2
    go_ret
    exact ⟨rfl, (by repeat (first | exact Below.refl _ _ | (refine bset ?_ (by simp <;> omega) _) | (refine bon ?_ (by assumption)) | refine bdrew ?_ | refine bal ?_ _))⟩
set_option maxHeartbeats 4000000 in
set_option maxRecDepth 100000 in
theorem fields_core (p q r s t u ap aq bp bq cp cq xp xq zp zq lp lq mp mq np nq hp hq : Int) (one three five six seven eight : Bool) (w : World)
    (R1 : Hid (∀ w, Calls Try.prog 29 #[.int .i64 p, .int .i64 q, .int .i64 r, .int .i64 s] w fun e w' => e = .returned (.tuple #[.agg #[.int .i64 ap, .int .i64 aq], .agg #[.int .i64 bp, .int .i64 bq], .bool true]) ∧ Below w.heap.size w w'))
    (M1 : Hid (∀ w, Calls Try.prog 26 #[.int .i64 t, .int .i64 u] w fun e w' => e = .returned (.tuple #[.agg #[.int .i64 cp, .int .i64 cq], .bool true]) ∧ Below w.heap.size w w'))
    (P1 : Hid (∀ w, Calls Try.prog 30 #[.agg #[.int .i64 ap, .int .i64 aq], .agg #[.int .i64 bp, .int .i64 bq]] w fun e w' => e = .returned (.tuple #[.agg #[.int .i64 xp, .int .i64 xq], .bool one]) ∧ Below w.heap.size w w'))
    (P2 : Hid (∀ w, Calls Try.prog 30 #[.agg #[.int .i64 bp, .int .i64 bq], .agg #[.int .i64 ap, .int .i64 aq]] w fun e w' => e = .returned (.tuple #[.agg #[.int .i64 xp, .int .i64 xq], .bool one]) ∧ Below w.heap.size w w'))
    (T1 : Hid (∀ w, Calls Try.prog 32 #[.agg #[.int .i64 ap, .int .i64 aq], .agg #[.int .i64 bp, .int .i64 bq]] w fun e w' => e = .returned (.tuple #[.agg #[.int .i64 zp, .int .i64 zq], .bool three]) ∧ Below w.heap.size w w'))
    (T2 : Hid (∀ w, Calls Try.prog 32 #[.agg #[.int .i64 bp, .int .i64 bq], .agg #[.int .i64 ap, .int .i64 aq]] w fun e w' => e = .returned (.tuple #[.agg #[.int .i64 zp, .int .i64 zq], .bool three]) ∧ Below w.heap.size w w'))
    (N1 : one = true → Hid (∀ w, Calls Try.prog 31 #[.agg #[.int .i64 xp, .int .i64 xq], .agg #[.int .i64 bp, .int .i64 bq]] w fun e w' => e = .returned (.tuple #[.agg #[.int .i64 ap, .int .i64 aq], .bool true]) ∧ Below w.heap.size w w'))
    (O1 : three = true → (bp != 0) = true → Hid (∀ w, Calls Try.prog 33 #[.agg #[.int .i64 zp, .int .i64 zq], .agg #[.int .i64 bp, .int .i64 bq]] w fun e w' => e = .returned (.tuple #[.agg #[.int .i64 ap, .int .i64 aq], .bool true]) ∧ Below w.heap.size w w'))
    (T3 : Hid (∀ w, Calls Try.prog 32 #[.agg #[.int .i64 xp, .int .i64 xq], .agg #[.int .i64 cp, .int .i64 cq]] w fun e w' => e = .returned (.tuple #[.agg #[.int .i64 lp, .int .i64 lq], .bool five]) ∧ Below w.heap.size w w'))
    (T4 : Hid (∀ w, Calls Try.prog 32 #[.agg #[.int .i64 ap, .int .i64 aq], .agg #[.int .i64 cp, .int .i64 cq]] w fun e w' => e = .returned (.tuple #[.agg #[.int .i64 mp, .int .i64 mq], .bool six]) ∧ Below w.heap.size w w'))
    (T5 : Hid (∀ w, Calls Try.prog 32 #[.agg #[.int .i64 bp, .int .i64 bq], .agg #[.int .i64 cp, .int .i64 cq]] w fun e w' => e = .returned (.tuple #[.agg #[.int .i64 np, .int .i64 nq], .bool seven]) ∧ Below w.heap.size w w'))
    (P3 : Hid (∀ w, Calls Try.prog 30 #[.agg #[.int .i64 mp, .int .i64 mq], .agg #[.int .i64 np, .int .i64 nq]] w fun e w' => e = .returned (.tuple #[.agg #[.int .i64 hp, .int .i64 hq], .bool eight]) ∧ Below w.heap.size w w'))
    (ho : one = false ∨ one = true) (ht : three = false ∨ (three = true ∧ (bp != 0) = false) ∨ (three = true ∧ (bp != 0) = true))
    (hs : one = false ∨ five = false ∨ (five = true ∧ six = false) ∨ (five = true ∧ six = true ∧ seven = false) ∨ (five = true ∧ six = true ∧ seven = true ∧ eight = true ∧ hp = lp ∧ hq = lq)) :
    Calls Try.prog 7 #[.int .i64 p, .int .i64 q, .int .i64 r, .int .i64 s, .int .i64 t, .int .i64 u] w fun e w' => e = .returned (.bool true) ∧ Below w.heap.size w w' := by
  go_enter Try.func7, Try.ntmps7
  go_wp2_with fail
  refine (shown_any _).mono ?_; rintro e w1 ⟨rfl, hb1⟩
  have z1 := hb1.size; (try simp at z1)
  go_wp2_with fail
  refine (R1.out _).mono ?_; rintro e w2 ⟨rfl, hb2⟩
  have z2 := hb2.size; (try simp at z2)
  go_wp2_with fail
  refine (M1.out _).mono ?_; rintro e w3 ⟨rfl, hb3⟩
  have z3 := hb3.size; (try simp at z3)
  have t_a : Two w3 (w2.heap.size) (.int .i64 ap) (.int .i64 aq) := Two.later hb3 (by simp [Two, go_sem])
  have t_b : Two w3 (w2.heap.size + 1) (.int .i64 bp) (.int .i64 bq) := Two.later hb3 (by simp [Two, go_sem])
  have x0_a : ∀ o0, (w3.alloc o0).cell? ⟨w2.heap.size, 0, none⟩ = some (.int .i64 ap) := fun o0 => (Two.later (bal (Below.refl _ _) o0) t_a).1
  have x1_a : ∀ o0, (w3.alloc o0).cell? ⟨w2.heap.size, 1, none⟩ = some (.int .i64 aq) := fun o0 => (Two.later (bal (Below.refl _ _) o0) t_a).2.1
  have y0_a : ∀ o0, (w3.alloc o0).frozen? ⟨w2.heap.size, 0, none⟩ = false := fun o0 => (Two.later (bal (Below.refl _ _) o0) t_a).2.2.1
  have y1_a : ∀ o0, (w3.alloc o0).frozen? ⟨w2.heap.size, 1, none⟩ = false := fun o0 => (Two.later (bal (Below.refl _ _) o0) t_a).2.2.2
  have x0_b : ∀ o0, (w3.alloc o0).cell? ⟨w2.heap.size + 1, 0, none⟩ = some (.int .i64 bp) := fun o0 => (Two.later (bal (Below.refl _ _) o0) t_b).1
  have x1_b : ∀ o0, (w3.alloc o0).cell? ⟨w2.heap.size + 1, 1, none⟩ = some (.int .i64 bq) := fun o0 => (Two.later (bal (Below.refl _ _) o0) t_b).2.1
  have y0_b : ∀ o0, (w3.alloc o0).frozen? ⟨w2.heap.size + 1, 0, none⟩ = false := fun o0 => (Two.later (bal (Below.refl _ _) o0) t_b).2.2.1
  have y1_b : ∀ o0, (w3.alloc o0).frozen? ⟨w2.heap.size + 1, 1, none⟩ = false := fun o0 => (Two.later (bal (Below.refl _ _) o0) t_b).2.2.2
  go_wp2_with fail
  refine (P1.out _).mono ?_; rintro e w4 ⟨rfl, hb4⟩
  clear x0_a x1_a y0_a y1_a x0_b x1_b y0_b y1_b
  have z4 := hb4.size; (try simp at z4)
  replace t_a := Two.later hb4 (Two.later (bal (Below.refl _ _) _) t_a)
  replace t_b := Two.later hb4 (Two.later (bal (Below.refl _ _) _) t_b)
  have t_c : Two w4 (w3.heap.size) (.int .i64 cp) (.int .i64 cq) := Two.later hb4 (by simp [Two, go_sem])
  have x0_a : ∀ o0, (w4.alloc o0).cell? ⟨w2.heap.size, 0, none⟩ = some (.int .i64 ap) := fun o0 => (Two.later (bal (Below.refl _ _) o0) t_a).1
  have x1_a : ∀ o0, (w4.alloc o0).cell? ⟨w2.heap.size, 1, none⟩ = some (.int .i64 aq) := fun o0 => (Two.later (bal (Below.refl _ _) o0) t_a).2.1
  have y0_a : ∀ o0, (w4.alloc o0).frozen? ⟨w2.heap.size, 0, none⟩ = false := fun o0 => (Two.later (bal (Below.refl _ _) o0) t_a).2.2.1
  have y1_a : ∀ o0, (w4.alloc o0).frozen? ⟨w2.heap.size, 1, none⟩ = false := fun o0 => (Two.later (bal (Below.refl _ _) o0) t_a).2.2.2
  have x0_b : ∀ o0, (w4.alloc o0).cell? ⟨w2.heap.size + 1, 0, none⟩ = some (.int .i64 bp) := fun o0 => (Two.later (bal (Below.refl _ _) o0) t_b).1
  have x1_b : ∀ o0, (w4.alloc o0).cell? ⟨w2.heap.size + 1, 1, none⟩ = some (.int .i64 bq) := fun o0 => (Two.later (bal (Below.refl _ _) o0) t_b).2.1
  have y0_b : ∀ o0, (w4.alloc o0).frozen? ⟨w2.heap.size + 1, 0, none⟩ = false := fun o0 => (Two.later (bal (Below.refl _ _) o0) t_b).2.2.1
  have y1_b : ∀ o0, (w4.alloc o0).frozen? ⟨w2.heap.size + 1, 1, none⟩ = false := fun o0 => (Two.later (bal (Below.refl _ _) o0) t_b).2.2.2
  go_wp2_with fail
  refine (P2.out _).mono ?_; rintro e w5 ⟨rfl, hb5⟩
  clear x0_a x1_a y0_a y1_a x0_b x1_b y0_b y1_b
  have z5 := hb5.size; (try simp at z5)
  replace t_a := Two.later hb5 (Two.later (bal (Below.refl _ _) _) t_a)
  replace t_b := Two.later hb5 (Two.later (bal (Below.refl _ _) _) t_b)
  replace t_c := Two.later hb5 (Two.later (bal (Below.refl _ _) _) t_c)
  have t_x : Two w5 (w4.heap.size) (.int .i64 xp) (.int .i64 xq) := Two.later hb5 (by simp [Two, go_sem])
  have x0_x : ∀ o0, (w5.alloc o0).cell? ⟨w4.heap.size, 0, none⟩ = some (.int .i64 xp) := fun o0 => (Two.later (bal (Below.refl _ _) o0) t_x).1
  have x1_x : ∀ o0, (w5.alloc o0).cell? ⟨w4.heap.size, 1, none⟩ = some (.int .i64 xq) := fun o0 => (Two.later (bal (Below.refl _ _) o0) t_x).2.1
  have y0_x : ∀ o0, (w5.alloc o0).frozen? ⟨w4.heap.size, 0, none⟩ = false := fun o0 => (Two.later (bal (Below.refl _ _) o0) t_x).2.2.1
  have y1_x : ∀ o0, (w5.alloc o0).frozen? ⟨w4.heap.size, 1, none⟩ = false := fun o0 => (Two.later (bal (Below.refl _ _) o0) t_x).2.2.2
  have x0_a : ∀ o0, (w5.alloc o0).cell? ⟨w2.heap.size, 0, none⟩ = some (.int .i64 ap) := fun o0 => (Two.later (bal (Below.refl _ _) o0) t_a).1
  have x1_a : ∀ o0, (w5.alloc o0).cell? ⟨w2.heap.size, 1, none⟩ = some (.int .i64 aq) := fun o0 => (Two.later (bal (Below.refl _ _) o0) t_a).2.1
  have y0_a : ∀ o0, (w5.alloc o0).frozen? ⟨w2.heap.size, 0, none⟩ = false := fun o0 => (Two.later (bal (Below.refl _ _) o0) t_a).2.2.1
  have y1_a : ∀ o0, (w5.alloc o0).frozen? ⟨w2.heap.size, 1, none⟩ = false := fun o0 => (Two.later (bal (Below.refl _ _) o0) t_a).2.2.2
  have x0_b : ∀ o0, (w5.alloc o0).cell? ⟨w2.heap.size + 1, 0, none⟩ = some (.int .i64 bp) := fun o0 => (Two.later (bal (Below.refl _ _) o0) t_b).1
  have x1_b : ∀ o0, (w5.alloc o0).cell? ⟨w2.heap.size + 1, 1, none⟩ = some (.int .i64 bq) := fun o0 => (Two.later (bal (Below.refl _ _) o0) t_b).2.1
  have y0_b : ∀ o0, (w5.alloc o0).frozen? ⟨w2.heap.size + 1, 0, none⟩ = false := fun o0 => (Two.later (bal (Below.refl _ _) o0) t_b).2.2.1
  have y1_b : ∀ o0, (w5.alloc o0).frozen? ⟨w2.heap.size + 1, 1, none⟩ = false := fun o0 => (Two.later (bal (Below.refl _ _) o0) t_b).2.2.2
  go_wp2_with fail
  refine (T1.out _).mono ?_; rintro e w6 ⟨rfl, hb6⟩
  clear x0_x x1_x y0_x y1_x x0_a x1_a y0_a y1_a x0_b x1_b y0_b y1_b
  have z6 := hb6.size; (try simp at z6)
  replace t_a := Two.later hb6 (Two.later (bal (Below.refl _ _) _) t_a)
  replace t_b := Two.later hb6 (Two.later (bal (Below.refl _ _) _) t_b)
  replace t_c := Two.later hb6 (Two.later (bal (Below.refl _ _) _) t_c)
  replace t_x := Two.later hb6 (Two.later (bal (Below.refl _ _) _) t_x)
  have t_y : Two w6 (w5.heap.size) (.int .i64 xp) (.int .i64 xq) := Two.later hb6 (by simp [Two, go_sem])
  have x0_a : ∀ o0, (w6.alloc o0).cell? ⟨w2.heap.size, 0, none⟩ = some (.int .i64 ap) := fun o0 => (Two.later (bal (Below.refl _ _) o0) t_a).1
  have x1_a : ∀ o0, (w6.alloc o0).cell? ⟨w2.heap.size, 1, none⟩ = some (.int .i64 aq) := fun o0 => (Two.later (bal (Below.refl _ _) o0) t_a).2.1
  have y0_a : ∀ o0, (w6.alloc o0).frozen? ⟨w2.heap.size, 0, none⟩ = false := fun o0 => (Two.later (bal (Below.refl _ _) o0) t_a).2.2.1
  have y1_a : ∀ o0, (w6.alloc o0).frozen? ⟨w2.heap.size, 1, none⟩ = false := fun o0 => (Two.later (bal (Below.refl _ _) o0) t_a).2.2.2
  have x0_b : ∀ o0, (w6.alloc o0).cell? ⟨w2.heap.size + 1, 0, none⟩ = some (.int .i64 bp) := fun o0 => (Two.later (bal (Below.refl _ _) o0) t_b).1
  have x1_b : ∀ o0, (w6.alloc o0).cell? ⟨w2.heap.size + 1, 1, none⟩ = some (.int .i64 bq) := fun o0 => (Two.later (bal (Below.refl _ _) o0) t_b).2.1
  have y0_b : ∀ o0, (w6.alloc o0).frozen? ⟨w2.heap.size + 1, 0, none⟩ = false := fun o0 => (Two.later (bal (Below.refl _ _) o0) t_b).2.2.1
  have y1_b : ∀ o0, (w6.alloc o0).frozen? ⟨w2.heap.size + 1, 1, none⟩ = false := fun o0 => (Two.later (bal (Below.refl _ _) o0) t_b).2.2.2
  go_wp2_with fail
  refine (T2.out _).mono ?_; rintro e w7 ⟨rfl, hb7⟩
  clear x0_a x1_a y0_a y1_a x0_b x1_b y0_b y1_b
  have z7 := hb7.size; (try simp at z7)
  replace t_a := Two.later hb7 (Two.later (bal (Below.refl _ _) _) t_a)
  replace t_b := Two.later hb7 (Two.later (bal (Below.refl _ _) _) t_b)
  replace t_c := Two.later hb7 (Two.later (bal (Below.refl _ _) _) t_c)
  replace t_x := Two.later hb7 (Two.later (bal (Below.refl _ _) _) t_x)
  replace t_y := Two.later hb7 (Two.later (bal (Below.refl _ _) _) t_y)
  have t_z : Two w7 (w6.heap.size) (.int .i64 zp) (.int .i64 zq) := Two.later hb7 (by simp [Two, go_sem])
  have x0_z : ∀ o0, (w7.alloc o0).cell? ⟨w6.heap.size, 0, none⟩ = some (.int .i64 zp) := fun o0 => (Two.later (bal (Below.refl _ _) o0) t_z).1
  have x1_z : ∀ o0, (w7.alloc o0).cell? ⟨w6.heap.size, 1, none⟩ = some (.int .i64 zq) := fun o0 => (Two.later (bal (Below.refl _ _) o0) t_z).2.1
  have y0_z : ∀ o0, (w7.alloc o0).frozen? ⟨w6.heap.size, 0, none⟩ = false := fun o0 => (Two.later (bal (Below.refl _ _) o0) t_z).2.2.1
  have y1_z : ∀ o0, (w7.alloc o0).frozen? ⟨w6.heap.size, 1, none⟩ = false := fun o0 => (Two.later (bal (Below.refl _ _) o0) t_z).2.2.2
  have x0_a : ∀ o0, (w7.alloc o0).cell? ⟨w2.heap.size, 0, none⟩ = some (.int .i64 ap) := fun o0 => (Two.later (bal (Below.refl _ _) o0) t_a).1
  have x1_a : ∀ o0, (w7.alloc o0).cell? ⟨w2.heap.size, 1, none⟩ = some (.int .i64 aq) := fun o0 => (Two.later (bal (Below.refl _ _) o0) t_a).2.1
  have y0_a : ∀ o0, (w7.alloc o0).frozen? ⟨w2.heap.size, 0, none⟩ = false := fun o0 => (Two.later (bal (Below.refl _ _) o0) t_a).2.2.1
  have y1_a : ∀ o0, (w7.alloc o0).frozen? ⟨w2.heap.size, 1, none⟩ = false := fun o0 => (Two.later (bal (Below.refl _ _) o0) t_a).2.2.2
  have x0_b : ∀ o0, (w7.alloc o0).cell? ⟨w2.heap.size + 1, 0, none⟩ = some (.int .i64 bp) := fun o0 => (Two.later (bal (Below.refl _ _) o0) t_b).1
  have x1_b : ∀ o0, (w7.alloc o0).cell? ⟨w2.heap.size + 1, 1, none⟩ = some (.int .i64 bq) := fun o0 => (Two.later (bal (Below.refl _ _) o0) t_b).2.1
  have y0_b : ∀ o0, (w7.alloc o0).frozen? ⟨w2.heap.size + 1, 0, none⟩ = false := fun o0 => (Two.later (bal (Below.refl _ _) o0) t_b).2.2.1
  have y1_b : ∀ o0, (w7.alloc o0).frozen? ⟨w2.heap.size + 1, 1, none⟩ = false := fun o0 => (Two.later (bal (Below.refl _ _) o0) t_b).2.2.2
  have x0_x : ∀ o0, (w7.alloc o0).cell? ⟨w4.heap.size, 0, none⟩ = some (.int .i64 xp) := fun o0 => (Two.later (bal (Below.refl _ _) o0) t_x).1
  have x1_x : ∀ o0, (w7.alloc o0).cell? ⟨w4.heap.size, 1, none⟩ = some (.int .i64 xq) := fun o0 => (Two.later (bal (Below.refl _ _) o0) t_x).2.1
  have y0_x : ∀ o0, (w7.alloc o0).frozen? ⟨w4.heap.size, 0, none⟩ = false := fun o0 => (Two.later (bal (Below.refl _ _) o0) t_x).2.2.1
  have y1_x : ∀ o0, (w7.alloc o0).frozen? ⟨w4.heap.size, 1, none⟩ = false := fun o0 => (Two.later (bal (Below.refl _ _) o0) t_x).2.2.2
  have x0_c : ∀ o0, (w7.alloc o0).cell? ⟨w3.heap.size, 0, none⟩ = some (.int .i64 cp) := fun o0 => (Two.later (bal (Below.refl _ _) o0) t_c).1
  have x1_c : ∀ o0, (w7.alloc o0).cell? ⟨w3.heap.size, 1, none⟩ = some (.int .i64 cq) := fun o0 => (Two.later (bal (Below.refl _ _) o0) t_c).2.1
  have y0_c : ∀ o0, (w7.alloc o0).frozen? ⟨w3.heap.size, 0, none⟩ = false := fun o0 => (Two.later (bal (Below.refl _ _) o0) t_c).2.2.1
  have y1_c : ∀ o0, (w7.alloc o0).frozen? ⟨w3.heap.size, 1, none⟩ = false := fun o0 => (Two.later (bal (Below.refl _ _) o0) t_c).2.2.2
  rcases ho with rfl | rfl
  · clear N1
    rcases ht with rfl | ⟨rfl, hz⟩ | ⟨rfl, hz⟩
    · clear O1
      go_wp2_with fail
      refine (T3.out _).mono ?_; rintro e w8 ⟨rfl, hb8⟩
      clear x0_z x1_z y0_z y1_z x0_a x1_a y0_a y1_a x0_b x1_b y0_b y1_b x0_x x1_x y0_x y1_x x0_c x1_c y0_c y1_c
      have z8 := hb8.size; (try simp at z8)
      replace t_a := Two.later hb8 (Two.later (bal (Below.refl _ _) _) t_a)
      replace t_b := Two.later hb8 (Two.later (bal (Below.refl _ _) _) t_b)
      replace t_c := Two.later hb8 (Two.later (bal (Below.refl _ _) _) t_c)
      replace t_x := Two.later hb8 (Two.later (bal (Below.refl _ _) _) t_x)
      replace t_y := Two.later hb8 (Two.later (bal (Below.refl _ _) _) t_y)
      replace t_z := Two.later hb8 (Two.later (bal (Below.refl _ _) _) t_z)
      have t_v : Two w8 (w7.heap.size) (.int .i64 zp) (.int .i64 zq) := Two.later hb8 (by simp [Two, go_sem])
      have x0_a : ∀ o0, (w8.alloc o0).cell? ⟨w2.heap.size, 0, none⟩ = some (.int .i64 ap) := fun o0 => (Two.later (bal (Below.refl _ _) o0) t_a).1
      have x1_a : ∀ o0, (w8.alloc o0).cell? ⟨w2.heap.size, 1, none⟩ = some (.int .i64 aq) := fun o0 => (Two.later (bal (Below.refl _ _) o0) t_a).2.1
      have y0_a : ∀ o0, (w8.alloc o0).frozen? ⟨w2.heap.size, 0, none⟩ = false := fun o0 => (Two.later (bal (Below.refl _ _) o0) t_a).2.2.1
      have y1_a : ∀ o0, (w8.alloc o0).frozen? ⟨w2.heap.size, 1, none⟩ = false := fun o0 => (Two.later (bal (Below.refl _ _) o0) t_a).2.2.2
      have x0_c : ∀ o0, (w8.alloc o0).cell? ⟨w3.heap.size, 0, none⟩ = some (.int .i64 cp) := fun o0 => (Two.later (bal (Below.refl _ _) o0) t_c).1
      have x1_c : ∀ o0, (w8.alloc o0).cell? ⟨w3.heap.size, 1, none⟩ = some (.int .i64 cq) := fun o0 => (Two.later (bal (Below.refl _ _) o0) t_c).2.1
      have y0_c : ∀ o0, (w8.alloc o0).frozen? ⟨w3.heap.size, 0, none⟩ = false := fun o0 => (Two.later (bal (Below.refl _ _) o0) t_c).2.2.1
      have y1_c : ∀ o0, (w8.alloc o0).frozen? ⟨w3.heap.size, 1, none⟩ = false := fun o0 => (Two.later (bal (Below.refl _ _) o0) t_c).2.2.2
      go_wp2_with fail
      refine (T4.out _).mono ?_; rintro e w9 ⟨rfl, hb9⟩
      clear x0_a x1_a y0_a y1_a x0_c x1_c y0_c y1_c
      have z9 := hb9.size; (try simp at z9)
      replace t_a := Two.later hb9 (Two.later (bal (Below.refl _ _) _) t_a)
      replace t_b := Two.later hb9 (Two.later (bal (Below.refl _ _) _) t_b)
      replace t_c := Two.later hb9 (Two.later (bal (Below.refl _ _) _) t_c)
      replace t_x := Two.later hb9 (Two.later (bal (Below.refl _ _) _) t_x)
      replace t_y := Two.later hb9 (Two.later (bal (Below.refl _ _) _) t_y)
      replace t_z := Two.later hb9 (Two.later (bal (Below.refl _ _) _) t_z)
      replace t_v := Two.later hb9 (Two.later (bal (Below.refl _ _) _) t_v)
      have t_l : Two w9 (w8.heap.size) (.int .i64 lp) (.int .i64 lq) := Two.later hb9 (by simp [Two, go_sem])
      have x0_b : ∀ o0, (w9.alloc o0).cell? ⟨w2.heap.size + 1, 0, none⟩ = some (.int .i64 bp) := fun o0 => (Two.later (bal (Below.refl _ _) o0) t_b).1
      have x1_b : ∀ o0, (w9.alloc o0).cell? ⟨w2.heap.size + 1, 1, none⟩ = some (.int .i64 bq) := fun o0 => (Two.later (bal (Below.refl _ _) o0) t_b).2.1
      have y0_b : ∀ o0, (w9.alloc o0).frozen? ⟨w2.heap.size + 1, 0, none⟩ = false := fun o0 => (Two.later (bal (Below.refl _ _) o0) t_b).2.2.1
      have y1_b : ∀ o0, (w9.alloc o0).frozen? ⟨w2.heap.size + 1, 1, none⟩ = false := fun o0 => (Two.later (bal (Below.refl _ _) o0) t_b).2.2.2
      have x0_c : ∀ o0, (w9.alloc o0).cell? ⟨w3.heap.size, 0, none⟩ = some (.int .i64 cp) := fun o0 => (Two.later (bal (Below.refl _ _) o0) t_c).1
      have x1_c : ∀ o0, (w9.alloc o0).cell? ⟨w3.heap.size, 1, none⟩ = some (.int .i64 cq) := fun o0 => (Two.later (bal (Below.refl _ _) o0) t_c).2.1
      have y0_c : ∀ o0, (w9.alloc o0).frozen? ⟨w3.heap.size, 0, none⟩ = false := fun o0 => (Two.later (bal (Below.refl _ _) o0) t_c).2.2.1
      have y1_c : ∀ o0, (w9.alloc o0).frozen? ⟨w3.heap.size, 1, none⟩ = false := fun o0 => (Two.later (bal (Below.refl _ _) o0) t_c).2.2.2
      go_wp2_with fail
      refine (T5.out _).mono ?_; rintro e w10 ⟨rfl, hb10⟩
      clear x0_b x1_b y0_b y1_b x0_c x1_c y0_c y1_c
      have z10 := hb10.size; (try simp at z10)
      replace t_a := Two.later hb10 (Two.later (bal (Below.refl _ _) _) t_a)
      replace t_b := Two.later hb10 (Two.later (bal (Below.refl _ _) _) t_b)
      replace t_c := Two.later hb10 (Two.later (bal (Below.refl _ _) _) t_c)
      replace t_x := Two.later hb10 (Two.later (bal (Below.refl _ _) _) t_x)
      replace t_y := Two.later hb10 (Two.later (bal (Below.refl _ _) _) t_y)
      replace t_z := Two.later hb10 (Two.later (bal (Below.refl _ _) _) t_z)
      replace t_v := Two.later hb10 (Two.later (bal (Below.refl _ _) _) t_v)
      replace t_l := Two.later hb10 (Two.later (bal (Below.refl _ _) _) t_l)
      have t_m : Two w10 (w9.heap.size) (.int .i64 mp) (.int .i64 mq) := Two.later hb10 (by simp [Two, go_sem])
      have x0_m : ∀ o0, (w10.alloc o0).cell? ⟨w9.heap.size, 0, none⟩ = some (.int .i64 mp) := fun o0 => (Two.later (bal (Below.refl _ _) o0) t_m).1
      have x1_m : ∀ o0, (w10.alloc o0).cell? ⟨w9.heap.size, 1, none⟩ = some (.int .i64 mq) := fun o0 => (Two.later (bal (Below.refl _ _) o0) t_m).2.1
      have y0_m : ∀ o0, (w10.alloc o0).frozen? ⟨w9.heap.size, 0, none⟩ = false := fun o0 => (Two.later (bal (Below.refl _ _) o0) t_m).2.2.1
      have y1_m : ∀ o0, (w10.alloc o0).frozen? ⟨w9.heap.size, 1, none⟩ = false := fun o0 => (Two.later (bal (Below.refl _ _) o0) t_m).2.2.2
      go_wp2_with fail
      refine (P3.out _).mono ?_; rintro e w11 ⟨rfl, hb11⟩
      clear x0_m x1_m y0_m y1_m
      have z11 := hb11.size; (try simp at z11)
      replace t_a := Two.later hb11 (Two.later (bal (Below.refl _ _) _) t_a)
      replace t_b := Two.later hb11 (Two.later (bal (Below.refl _ _) _) t_b)
      replace t_c := Two.later hb11 (Two.later (bal (Below.refl _ _) _) t_c)
      replace t_x := Two.later hb11 (Two.later (bal (Below.refl _ _) _) t_x)
      replace t_y := Two.later hb11 (Two.later (bal (Below.refl _ _) _) t_y)
      replace t_z := Two.later hb11 (Two.later (bal (Below.refl _ _) _) t_z)
      replace t_v := Two.later hb11 (Two.later (bal (Below.refl _ _) _) t_v)
      replace t_l := Two.later hb11 (Two.later (bal (Below.refl _ _) _) t_l)
      replace t_m := Two.later hb11 (Two.later (bal (Below.refl _ _) _) t_m)
      have t_n : Two w11 (w10.heap.size) (.int .i64 np) (.int .i64 nq) := Two.later hb11 (by simp [Two, go_sem])
      have x0_l : ∀ o0, (w11.alloc o0).cell? ⟨w8.heap.size, 0, none⟩ = some (.int .i64 lp) := fun o0 => (Two.later (bal (Below.refl _ _) o0) t_l).1
      have x1_l : ∀ o0, (w11.alloc o0).cell? ⟨w8.heap.size, 1, none⟩ = some (.int .i64 lq) := fun o0 => (Two.later (bal (Below.refl _ _) o0) t_l).2.1
      have y0_l : ∀ o0, (w11.alloc o0).frozen? ⟨w8.heap.size, 0, none⟩ = false := fun o0 => (Two.later (bal (Below.refl _ _) o0) t_l).2.2.1
      have y1_l : ∀ o0, (w11.alloc o0).frozen? ⟨w8.heap.size, 1, none⟩ = false := fun o0 => (Two.later (bal (Below.refl _ _) o0) t_l).2.2.2
      go_wp2
      go_ret
      exact ⟨rfl, (by repeat (first | exact Below.refl _ _ | (refine bset ?_ (by simp <;> omega) _) | (refine bon ?_ (by assumption)) | refine bdrew ?_ | refine bal ?_ _))⟩
    · clear O1
      go_wp2_with fail
      refine (T3.out _).mono ?_; rintro e w8 ⟨rfl, hb8⟩
      clear x0_z x1_z y0_z y1_z x0_a x1_a y0_a y1_a x0_b x1_b y0_b y1_b x0_x x1_x y0_x y1_x x0_c x1_c y0_c y1_c
      have z8 := hb8.size; (try simp at z8)
      replace t_a := Two.later hb8 (Two.later (bal (Below.refl _ _) _) t_a)
      replace t_b := Two.later hb8 (Two.later (bal (Below.refl _ _) _) t_b)
      replace t_c := Two.later hb8 (Two.later (bal (Below.refl _ _) _) t_c)
      replace t_x := Two.later hb8 (Two.later (bal (Below.refl _ _) _) t_x)
      replace t_y := Two.later hb8 (Two.later (bal (Below.refl _ _) _) t_y)
      replace t_z := Two.later hb8 (Two.later (bal (Below.refl _ _) _) t_z)
      have t_v : Two w8 (w7.heap.size) (.int .i64 zp) (.int .i64 zq) := Two.later hb8 (by simp [Two, go_sem])
      have x0_a : ∀ o0, (w8.alloc o0).cell? ⟨w2.heap.size, 0, none⟩ = some (.int .i64 ap) := fun o0 => (Two.later (bal (Below.refl _ _) o0) t_a).1
      have x1_a : ∀ o0, (w8.alloc o0).cell? ⟨w2.heap.size, 1, none⟩ = some (.int .i64 aq) := fun o0 => (Two.later (bal (Below.refl _ _) o0) t_a).2.1
      have y0_a : ∀ o0, (w8.alloc o0).frozen? ⟨w2.heap.size, 0, none⟩ = false := fun o0 => (Two.later (bal (Below.refl _ _) o0) t_a).2.2.1
      have y1_a : ∀ o0, (w8.alloc o0).frozen? ⟨w2.heap.size, 1, none⟩ = false := fun o0 => (Two.later (bal (Below.refl _ _) o0) t_a).2.2.2
      have x0_c : ∀ o0, (w8.alloc o0).cell? ⟨w3.heap.size, 0, none⟩ = some (.int .i64 cp) := fun o0 => (Two.later (bal (Below.refl _ _) o0) t_c).1
      have x1_c : ∀ o0, (w8.alloc o0).cell? ⟨w3.heap.size, 1, none⟩ = some (.int .i64 cq) := fun o0 => (Two.later (bal (Below.refl _ _) o0) t_c).2.1
      have y0_c : ∀ o0, (w8.alloc o0).frozen? ⟨w3.heap.size, 0, none⟩ = false := fun o0 => (Two.later (bal (Below.refl _ _) o0) t_c).2.2.1
      have y1_c : ∀ o0, (w8.alloc o0).frozen? ⟨w3.heap.size, 1, none⟩ = false := fun o0 => (Two.later (bal (Below.refl _ _) o0) t_c).2.2.2
      go_wp2_with fail
      refine (T4.out _).mono ?_; rintro e w9 ⟨rfl, hb9⟩
      clear x0_a x1_a y0_a y1_a x0_c x1_c y0_c y1_c
      have z9 := hb9.size; (try simp at z9)
      replace t_a := Two.later hb9 (Two.later (bal (Below.refl _ _) _) t_a)
      replace t_b := Two.later hb9 (Two.later (bal (Below.refl _ _) _) t_b)
      replace t_c := Two.later hb9 (Two.later (bal (Below.refl _ _) _) t_c)
      replace t_x := Two.later hb9 (Two.later (bal (Below.refl _ _) _) t_x)
      replace t_y := Two.later hb9 (Two.later (bal (Below.refl _ _) _) t_y)
      replace t_z := Two.later hb9 (Two.later (bal (Below.refl _ _) _) t_z)
      replace t_v := Two.later hb9 (Two.later (bal (Below.refl _ _) _) t_v)
      have t_l : Two w9 (w8.heap.size) (.int .i64 lp) (.int .i64 lq) := Two.later hb9 (by simp [Two, go_sem])
      have x0_b : ∀ o0, (w9.alloc o0).cell? ⟨w2.heap.size + 1, 0, none⟩ = some (.int .i64 bp) := fun o0 => (Two.later (bal (Below.refl _ _) o0) t_b).1
      have x1_b : ∀ o0, (w9.alloc o0).cell? ⟨w2.heap.size + 1, 1, none⟩ = some (.int .i64 bq) := fun o0 => (Two.later (bal (Below.refl _ _) o0) t_b).2.1
      have y0_b : ∀ o0, (w9.alloc o0).frozen? ⟨w2.heap.size + 1, 0, none⟩ = false := fun o0 => (Two.later (bal (Below.refl _ _) o0) t_b).2.2.1
      have y1_b : ∀ o0, (w9.alloc o0).frozen? ⟨w2.heap.size + 1, 1, none⟩ = false := fun o0 => (Two.later (bal (Below.refl _ _) o0) t_b).2.2.2
      have x0_c : ∀ o0, (w9.alloc o0).cell? ⟨w3.heap.size, 0, none⟩ = some (.int .i64 cp) := fun o0 => (Two.later (bal (Below.refl _ _) o0) t_c).1
      have x1_c : ∀ o0, (w9.alloc o0).cell? ⟨w3.heap.size, 1, none⟩ = some (.int .i64 cq) := fun o0 => (Two.later (bal (Below.refl _ _) o0) t_c).2.1
      have y0_c : ∀ o0, (w9.alloc o0).frozen? ⟨w3.heap.size, 0, none⟩ = false := fun o0 => (Two.later (bal (Below.refl _ _) o0) t_c).2.2.1
      have y1_c : ∀ o0, (w9.alloc o0).frozen? ⟨w3.heap.size, 1, none⟩ = false := fun o0 => (Two.later (bal (Below.refl _ _) o0) t_c).2.2.2
      go_wp2_with fail
      refine (T5.out _).mono ?_; rintro e w10 ⟨rfl, hb10⟩
      clear x0_b x1_b y0_b y1_b x0_c x1_c y0_c y1_c
      have z10 := hb10.size; (try simp at z10)
      replace t_a := Two.later hb10 (Two.later (bal (Below.refl _ _) _) t_a)
      replace t_b := Two.later hb10 (Two.later (bal (Below.refl _ _) _) t_b)
      replace t_c := Two.later hb10 (Two.later (bal (Below.refl _ _) _) t_c)
      replace t_x := Two.later hb10 (Two.later (bal (Below.refl _ _) _) t_x)
      replace t_y := Two.later hb10 (Two.later (bal (Below.refl _ _) _) t_y)
      replace t_z := Two.later hb10 (Two.later (bal (Below.refl _ _) _) t_z)
      replace t_v := Two.later hb10 (Two.later (bal (Below.refl _ _) _) t_v)
      replace t_l := Two.later hb10 (Two.later (bal (Below.refl _ _) _) t_l)
      have t_m : Two w10 (w9.heap.size) (.int .i64 mp) (.int .i64 mq) := Two.later hb10 (by simp [Two, go_sem])
      have x0_m : ∀ o0, (w10.alloc o0).cell? ⟨w9.heap.size, 0, none⟩ = some (.int .i64 mp) := fun o0 => (Two.later (bal (Below.refl _ _) o0) t_m).1
      have x1_m : ∀ o0, (w10.alloc o0).cell? ⟨w9.heap.size, 1, none⟩ = some (.int .i64 mq) := fun o0 => (Two.later (bal (Below.refl _ _) o0) t_m).2.1
      have y0_m : ∀ o0, (w10.alloc o0).frozen? ⟨w9.heap.size, 0, none⟩ = false := fun o0 => (Two.later (bal (Below.refl _ _) o0) t_m).2.2.1
      have y1_m : ∀ o0, (w10.alloc o0).frozen? ⟨w9.heap.size, 1, none⟩ = false := fun o0 => (Two.later (bal (Below.refl _ _) o0) t_m).2.2.2
      go_wp2_with fail
      refine (P3.out _).mono ?_; rintro e w11 ⟨rfl, hb11⟩
      clear x0_m x1_m y0_m y1_m
      have z11 := hb11.size; (try simp at z11)
      replace t_a := Two.later hb11 (Two.later (bal (Below.refl _ _) _) t_a)
      replace t_b := Two.later hb11 (Two.later (bal (Below.refl _ _) _) t_b)
      replace t_c := Two.later hb11 (Two.later (bal (Below.refl _ _) _) t_c)
      replace t_x := Two.later hb11 (Two.later (bal (Below.refl _ _) _) t_x)
      replace t_y := Two.later hb11 (Two.later (bal (Below.refl _ _) _) t_y)
      replace t_z := Two.later hb11 (Two.later (bal (Below.refl _ _) _) t_z)
      replace t_v := Two.later hb11 (Two.later (bal (Below.refl _ _) _) t_v)
      replace t_l := Two.later hb11 (Two.later (bal (Below.refl _ _) _) t_l)
      replace t_m := Two.later hb11 (Two.later (bal (Below.refl _ _) _) t_m)
      have t_n : Two w11 (w10.heap.size) (.int .i64 np) (.int .i64 nq) := Two.later hb11 (by simp [Two, go_sem])
      have x0_l : ∀ o0, (w11.alloc o0).cell? ⟨w8.heap.size, 0, none⟩ = some (.int .i64 lp) := fun o0 => (Two.later (bal (Below.refl _ _) o0) t_l).1
      have x1_l : ∀ o0, (w11.alloc o0).cell? ⟨w8.heap.size, 1, none⟩ = some (.int .i64 lq) := fun o0 => (Two.later (bal (Below.refl _ _) o0) t_l).2.1
      have y0_l : ∀ o0, (w11.alloc o0).frozen? ⟨w8.heap.size, 0, none⟩ = false := fun o0 => (Two.later (bal (Below.refl _ _) o0) t_l).2.2.1
      have y1_l : ∀ o0, (w11.alloc o0).frozen? ⟨w8.heap.size, 1, none⟩ = false := fun o0 => (Two.later (bal (Below.refl _ _) o0) t_l).2.2.2
      go_wp2
      go_ret
      exact ⟨rfl, (by repeat (first | exact Below.refl _ _ | (refine bset ?_ (by simp <;> omega) _) | (refine bon ?_ (by assumption)) | refine bdrew ?_ | refine bal ?_ _))⟩
    · have O2 := O1 rfl hz; clear O1
      go_wp2_with fail
      refine (O2.out _).mono ?_; rintro e w8 ⟨rfl, hb8⟩
      clear x0_z x1_z y0_z y1_z x0_a x1_a y0_a y1_a x0_b x1_b y0_b y1_b x0_x x1_x y0_x y1_x x0_c x1_c y0_c y1_c
      have z8 := hb8.size; (try simp at z8)
      replace t_a := Two.later hb8 (Two.later (bal (Below.refl _ _) _) t_a)
      replace t_b := Two.later hb8 (Two.later (bal (Below.refl _ _) _) t_b)
      replace t_c := Two.later hb8 (Two.later (bal (Below.refl _ _) _) t_c)
      replace t_x := Two.later hb8 (Two.later (bal (Below.refl _ _) _) t_x)
      replace t_y := Two.later hb8 (Two.later (bal (Below.refl _ _) _) t_y)
      replace t_z := Two.later hb8 (Two.later (bal (Below.refl _ _) _) t_z)
      have t_v : Two w8 (w7.heap.size) (.int .i64 zp) (.int .i64 zq) := Two.later hb8 (by simp [Two, go_sem])
      have x0_a : ∀ o0, (w8.alloc o0).cell? ⟨w2.heap.size, 0, none⟩ = some (.int .i64 ap) := fun o0 => (Two.later (bal (Below.refl _ _) o0) t_a).1
      have x1_a : ∀ o0, (w8.alloc o0).cell? ⟨w2.heap.size, 1, none⟩ = some (.int .i64 aq) := fun o0 => (Two.later (bal (Below.refl _ _) o0) t_a).2.1
      have y0_a : ∀ o0, (w8.alloc o0).frozen? ⟨w2.heap.size, 0, none⟩ = false := fun o0 => (Two.later (bal (Below.refl _ _) o0) t_a).2.2.1
      have y1_a : ∀ o0, (w8.alloc o0).frozen? ⟨w2.heap.size, 1, none⟩ = false := fun o0 => (Two.later (bal (Below.refl _ _) o0) t_a).2.2.2
      have x0_x : ∀ o0, (w8.alloc o0).cell? ⟨w4.heap.size, 0, none⟩ = some (.int .i64 xp) := fun o0 => (Two.later (bal (Below.refl _ _) o0) t_x).1
      have x1_x : ∀ o0, (w8.alloc o0).cell? ⟨w4.heap.size, 1, none⟩ = some (.int .i64 xq) := fun o0 => (Two.later (bal (Below.refl _ _) o0) t_x).2.1
      have y0_x : ∀ o0, (w8.alloc o0).frozen? ⟨w4.heap.size, 0, none⟩ = false := fun o0 => (Two.later (bal (Below.refl _ _) o0) t_x).2.2.1
      have y1_x : ∀ o0, (w8.alloc o0).frozen? ⟨w4.heap.size, 1, none⟩ = false := fun o0 => (Two.later (bal (Below.refl _ _) o0) t_x).2.2.2
      have x0_c : ∀ o0, (w8.alloc o0).cell? ⟨w3.heap.size, 0, none⟩ = some (.int .i64 cp) := fun o0 => (Two.later (bal (Below.refl _ _) o0) t_c).1
      have x1_c : ∀ o0, (w8.alloc o0).cell? ⟨w3.heap.size, 1, none⟩ = some (.int .i64 cq) := fun o0 => (Two.later (bal (Below.refl _ _) o0) t_c).2.1
      have y0_c : ∀ o0, (w8.alloc o0).frozen? ⟨w3.heap.size, 0, none⟩ = false := fun o0 => (Two.later (bal (Below.refl _ _) o0) t_c).2.2.1
      have y1_c : ∀ o0, (w8.alloc o0).frozen? ⟨w3.heap.size, 1, none⟩ = false := fun o0 => (Two.later (bal (Below.refl _ _) o0) t_c).2.2.2
      go_wp2_with fail
      refine (T3.out _).mono ?_; rintro e w9 ⟨rfl, hb9⟩
      clear x0_a x1_a y0_a y1_a x0_x x1_x y0_x y1_x x0_c x1_c y0_c y1_c
      have z9 := hb9.size; (try simp at z9)
      replace t_a := Two.later hb9 (Two.later (bal (Below.refl _ _) _) t_a)
      replace t_b := Two.later hb9 (Two.later (bal (Below.refl _ _) _) t_b)
      replace t_c := Two.later hb9 (Two.later (bal (Below.refl _ _) _) t_c)
      replace t_x := Two.later hb9 (Two.later (bal (Below.refl _ _) _) t_x)
      replace t_y := Two.later hb9 (Two.later (bal (Below.refl _ _) _) t_y)
      replace t_z := Two.later hb9 (Two.later (bal (Below.refl _ _) _) t_z)
      replace t_v := Two.later hb9 (Two.later (bal (Below.refl _ _) _) t_v)
      have t_j : Two w9 (w8.heap.size) (.int .i64 ap) (.int .i64 aq) := Two.later hb9 (by simp [Two, go_sem])
      have x0_a : ∀ o0, (w9.alloc o0).cell? ⟨w2.heap.size, 0, none⟩ = some (.int .i64 ap) := fun o0 => (Two.later (bal (Below.refl _ _) o0) t_a).1
      have x1_a : ∀ o0, (w9.alloc o0).cell? ⟨w2.heap.size, 1, none⟩ = some (.int .i64 aq) := fun o0 => (Two.later (bal (Below.refl _ _) o0) t_a).2.1
      have y0_a : ∀ o0, (w9.alloc o0).frozen? ⟨w2.heap.size, 0, none⟩ = false := fun o0 => (Two.later (bal (Below.refl _ _) o0) t_a).2.2.1
      have y1_a : ∀ o0, (w9.alloc o0).frozen? ⟨w2.heap.size, 1, none⟩ = false := fun o0 => (Two.later (bal (Below.refl _ _) o0) t_a).2.2.2
      have x0_c : ∀ o0, (w9.alloc o0).cell? ⟨w3.heap.size, 0, none⟩ = some (.int .i64 cp) := fun o0 => (Two.later (bal (Below.refl _ _) o0) t_c).1
      have x1_c : ∀ o0, (w9.alloc o0).cell? ⟨w3.heap.size, 1, none⟩ = some (.int .i64 cq) := fun o0 => (Two.later (bal (Below.refl _ _) o0) t_c).2.1
      have y0_c : ∀ o0, (w9.alloc o0).frozen? ⟨w3.heap.size, 0, none⟩ = false := fun o0 => (Two.later (bal (Below.refl _ _) o0) t_c).2.2.1
      have y1_c : ∀ o0, (w9.alloc o0).frozen? ⟨w3.heap.size, 1, none⟩ = false := fun o0 => (Two.later (bal (Below.refl _ _) o0) t_c).2.2.2
      go_wp2_with fail
      refine (T4.out _).mono ?_; rintro e w10 ⟨rfl, hb10⟩
      clear x0_a x1_a y0_a y1_a x0_c x1_c y0_c y1_c
      have z10 := hb10.size; (try simp at z10)
      replace t_a := Two.later hb10 (Two.later (bal (Below.refl _ _) _) t_a)
      replace t_b := Two.later hb10 (Two.later (bal (Below.refl _ _) _) t_b)
      replace t_c := Two.later hb10 (Two.later (bal (Below.refl _ _) _) t_c)
      replace t_x := Two.later hb10 (Two.later (bal (Below.refl _ _) _) t_x)
      replace t_y := Two.later hb10 (Two.later (bal (Below.refl _ _) _) t_y)
      replace t_z := Two.later hb10 (Two.later (bal (Below.refl _ _) _) t_z)
      replace t_v := Two.later hb10 (Two.later (bal (Below.refl _ _) _) t_v)
      replace t_j := Two.later hb10 (Two.later (bal (Below.refl _ _) _) t_j)
      have t_l : Two w10 (w9.heap.size) (.int .i64 lp) (.int .i64 lq) := Two.later hb10 (by simp [Two, go_sem])
      have x0_b : ∀ o0, (w10.alloc o0).cell? ⟨w2.heap.size + 1, 0, none⟩ = some (.int .i64 bp) := fun o0 => (Two.later (bal (Below.refl _ _) o0) t_b).1
      have x1_b : ∀ o0, (w10.alloc o0).cell? ⟨w2.heap.size + 1, 1, none⟩ = some (.int .i64 bq) := fun o0 => (Two.later (bal (Below.refl _ _) o0) t_b).2.1
      have y0_b : ∀ o0, (w10.alloc o0).frozen? ⟨w2.heap.size + 1, 0, none⟩ = false := fun o0 => (Two.later (bal (Below.refl _ _) o0) t_b).2.2.1
      have y1_b : ∀ o0, (w10.alloc o0).frozen? ⟨w2.heap.size + 1, 1, none⟩ = false := fun o0 => (Two.later (bal (Below.refl _ _) o0) t_b).2.2.2
      have x0_c : ∀ o0, (w10.alloc o0).cell? ⟨w3.heap.size, 0, none⟩ = some (.int .i64 cp) := fun o0 => (Two.later (bal (Below.refl _ _) o0) t_c).1
      have x1_c : ∀ o0, (w10.alloc o0).cell? ⟨w3.heap.size, 1, none⟩ = some (.int .i64 cq) := fun o0 => (Two.later (bal (Below.refl _ _) o0) t_c).2.1
      have y0_c : ∀ o0, (w10.alloc o0).frozen? ⟨w3.heap.size, 0, none⟩ = false := fun o0 => (Two.later (bal (Below.refl _ _) o0) t_c).2.2.1
      have y1_c : ∀ o0, (w10.alloc o0).frozen? ⟨w3.heap.size, 1, none⟩ = false := fun o0 => (Two.later (bal (Below.refl _ _) o0) t_c).2.2.2
      go_wp2_with fail
      refine (T5.out _).mono ?_; rintro e w11 ⟨rfl, hb11⟩
      clear x0_b x1_b y0_b y1_b x0_c x1_c y0_c y1_c
      have z11 := hb11.size; (try simp at z11)
      replace t_a := Two.later hb11 (Two.later (bal (Below.refl _ _) _) t_a)
      replace t_b := Two.later hb11 (Two.later (bal (Below.refl _ _) _) t_b)
      replace t_c := Two.later hb11 (Two.later (bal (Below.refl _ _) _) t_c)
      replace t_x := Two.later hb11 (Two.later (bal (Below.refl _ _) _) t_x)
      replace t_y := Two.later hb11 (Two.later (bal (Below.refl _ _) _) t_y)
      replace t_z := Two.later hb11 (Two.later (bal (Below.refl _ _) _) t_z)
      replace t_v := Two.later hb11 (Two.later (bal (Below.refl _ _) _) t_v)
      replace t_j := Two.later hb11 (Two.later (bal (Below.refl _ _) _) t_j)
      replace t_l := Two.later hb11 (Two.later (bal (Below.refl _ _) _) t_l)
      have t_m : Two w11 (w10.heap.size) (.int .i64 mp) (.int .i64 mq) := Two.later hb11 (by simp [Two, go_sem])
      have x0_m : ∀ o0, (w11.alloc o0).cell? ⟨w10.heap.size, 0, none⟩ = some (.int .i64 mp) := fun o0 => (Two.later (bal (Below.refl _ _) o0) t_m).1
      have x1_m : ∀ o0, (w11.alloc o0).cell? ⟨w10.heap.size, 1, none⟩ = some (.int .i64 mq) := fun o0 => (Two.later (bal (Below.refl _ _) o0) t_m).2.1
      have y0_m : ∀ o0, (w11.alloc o0).frozen? ⟨w10.heap.size, 0, none⟩ = false := fun o0 => (Two.later (bal (Below.refl _ _) o0) t_m).2.2.1
      have y1_m : ∀ o0, (w11.alloc o0).frozen? ⟨w10.heap.size, 1, none⟩ = false := fun o0 => (Two.later (bal (Below.refl _ _) o0) t_m).2.2.2
      go_wp2_with fail
      refine (P3.out _).mono ?_; rintro e w12 ⟨rfl, hb12⟩
      clear x0_m x1_m y0_m y1_m
      have z12 := hb12.size; (try simp at z12)
      replace t_a := Two.later hb12 (Two.later (bal (Below.refl _ _) _) t_a)
      replace t_b := Two.later hb12 (Two.later (bal (Below.refl _ _) _) t_b)
      replace t_c := Two.later hb12 (Two.later (bal (Below.refl _ _) _) t_c)
      replace t_x := Two.later hb12 (Two.later (bal (Below.refl _ _) _) t_x)
      replace t_y := Two.later hb12 (Two.later (bal (Below.refl _ _) _) t_y)
      replace t_z := Two.later hb12 (Two.later (bal (Below.refl _ _) _) t_z)
      replace t_v := Two.later hb12 (Two.later (bal (Below.refl _ _) _) t_v)
      replace t_j := Two.later hb12 (Two.later (bal (Below.refl _ _) _) t_j)
      replace t_l := Two.later hb12 (Two.later (bal (Below.refl _ _) _) t_l)
      replace t_m := Two.later hb12 (Two.later (bal (Below.refl _ _) _) t_m)
      have t_n : Two w12 (w11.heap.size) (.int .i64 np) (.int .i64 nq) := Two.later hb12 (by simp [Two, go_sem])
      have x0_l : ∀ o0, (w12.alloc o0).cell? ⟨w9.heap.size, 0, none⟩ = some (.int .i64 lp) := fun o0 => (Two.later (bal (Below.refl _ _) o0) t_l).1
      have x1_l : ∀ o0, (w12.alloc o0).cell? ⟨w9.heap.size, 1, none⟩ = some (.int .i64 lq) := fun o0 => (Two.later (bal (Below.refl _ _) o0) t_l).2.1
      have y0_l : ∀ o0, (w12.alloc o0).frozen? ⟨w9.heap.size, 0, none⟩ = false := fun o0 => (Two.later (bal (Below.refl _ _) o0) t_l).2.2.1
      have y1_l : ∀ o0, (w12.alloc o0).frozen? ⟨w9.heap.size, 1, none⟩ = false := fun o0 => (Two.later (bal (Below.refl _ _) o0) t_l).2.2.2
      go_wp2
      go_ret
      exact ⟨rfl, (by repeat (first | exact Below.refl _ _ | (refine bset ?_ (by simp <;> omega) _) | (refine bon ?_ (by assumption)) | refine bdrew ?_ | refine bal ?_ _))⟩
  · have N2 := N1 rfl; clear N1
    go_wp2_with fail
    refine (N2.out _).mono ?_; rintro e w8 ⟨rfl, hb8⟩
    clear x0_z x1_z y0_z y1_z x0_a x1_a y0_a y1_a x0_b x1_b y0_b y1_b x0_x x1_x y0_x y1_x x0_c x1_c y0_c y1_c
    have z8 := hb8.size; (try simp at z8)
    replace t_a := Two.later hb8 (Two.later (bal (Below.refl _ _) _) t_a)
    replace t_b := Two.later hb8 (Two.later (bal (Below.refl _ _) _) t_b)
    replace t_c := Two.later hb8 (Two.later (bal (Below.refl _ _) _) t_c)
    replace t_x := Two.later hb8 (Two.later (bal (Below.refl _ _) _) t_x)
    replace t_y := Two.later hb8 (Two.later (bal (Below.refl _ _) _) t_y)
    replace t_z := Two.later hb8 (Two.later (bal (Below.refl _ _) _) t_z)
    have t_v : Two w8 (w7.heap.size) (.int .i64 zp) (.int .i64 zq) := Two.later hb8 (by simp [Two, go_sem])
    have x0_a : ∀ o0, (w8.alloc o0).cell? ⟨w2.heap.size, 0, none⟩ = some (.int .i64 ap) := fun o0 => (Two.later (bal (Below.refl _ _) o0) t_a).1
    have x1_a : ∀ o0, (w8.alloc o0).cell? ⟨w2.heap.size, 1, none⟩ = some (.int .i64 aq) := fun o0 => (Two.later (bal (Below.refl _ _) o0) t_a).2.1
    have y0_a : ∀ o0, (w8.alloc o0).frozen? ⟨w2.heap.size, 0, none⟩ = false := fun o0 => (Two.later (bal (Below.refl _ _) o0) t_a).2.2.1
    have y1_a : ∀ o0, (w8.alloc o0).frozen? ⟨w2.heap.size, 1, none⟩ = false := fun o0 => (Two.later (bal (Below.refl _ _) o0) t_a).2.2.2
    have x0_b : ∀ o0, (w8.alloc o0).cell? ⟨w2.heap.size + 1, 0, none⟩ = some (.int .i64 bp) := fun o0 => (Two.later (bal (Below.refl _ _) o0) t_b).1
    have x1_b : ∀ o0, (w8.alloc o0).cell? ⟨w2.heap.size + 1, 1, none⟩ = some (.int .i64 bq) := fun o0 => (Two.later (bal (Below.refl _ _) o0) t_b).2.1
    have y0_b : ∀ o0, (w8.alloc o0).frozen? ⟨w2.heap.size + 1, 0, none⟩ = false := fun o0 => (Two.later (bal (Below.refl _ _) o0) t_b).2.2.1
    have y1_b : ∀ o0, (w8.alloc o0).frozen? ⟨w2.heap.size + 1, 1, none⟩ = false := fun o0 => (Two.later (bal (Below.refl _ _) o0) t_b).2.2.2
    have x0_z : ∀ o0, (w8.alloc o0).cell? ⟨w6.heap.size, 0, none⟩ = some (.int .i64 zp) := fun o0 => (Two.later (bal (Below.refl _ _) o0) t_z).1
    have x1_z : ∀ o0, (w8.alloc o0).cell? ⟨w6.heap.size, 1, none⟩ = some (.int .i64 zq) := fun o0 => (Two.later (bal (Below.refl _ _) o0) t_z).2.1
    have y0_z : ∀ o0, (w8.alloc o0).frozen? ⟨w6.heap.size, 0, none⟩ = false := fun o0 => (Two.later (bal (Below.refl _ _) o0) t_z).2.2.1
    have y1_z : ∀ o0, (w8.alloc o0).frozen? ⟨w6.heap.size, 1, none⟩ = false := fun o0 => (Two.later (bal (Below.refl _ _) o0) t_z).2.2.2
    have x0_x : ∀ o0, (w8.alloc o0).cell? ⟨w4.heap.size, 0, none⟩ = some (.int .i64 xp) := fun o0 => (Two.later (bal (Below.refl _ _) o0) t_x).1
    have x1_x : ∀ o0, (w8.alloc o0).cell? ⟨w4.heap.size, 1, none⟩ = some (.int .i64 xq) := fun o0 => (Two.later (bal (Below.refl _ _) o0) t_x).2.1
    have y0_x : ∀ o0, (w8.alloc o0).frozen? ⟨w4.heap.size, 0, none⟩ = false := fun o0 => (Two.later (bal (Below.refl _ _) o0) t_x).2.2.1
    have y1_x : ∀ o0, (w8.alloc o0).frozen? ⟨w4.heap.size, 1, none⟩ = false := fun o0 => (Two.later (bal (Below.refl _ _) o0) t_x).2.2.2
    have x0_c : ∀ o0, (w8.alloc o0).cell? ⟨w3.heap.size, 0, none⟩ = some (.int .i64 cp) := fun o0 => (Two.later (bal (Below.refl _ _) o0) t_c).1
    have x1_c : ∀ o0, (w8.alloc o0).cell? ⟨w3.heap.size, 1, none⟩ = some (.int .i64 cq) := fun o0 => (Two.later (bal (Below.refl _ _) o0) t_c).2.1
    have y0_c : ∀ o0, (w8.alloc o0).frozen? ⟨w3.heap.size, 0, none⟩ = false := fun o0 => (Two.later (bal (Below.refl _ _) o0) t_c).2.2.1
    have y1_c : ∀ o0, (w8.alloc o0).frozen? ⟨w3.heap.size, 1, none⟩ = false := fun o0 => (Two.later (bal (Below.refl _ _) o0) t_c).2.2.2
    rcases ht with rfl | ⟨rfl, hz⟩ | ⟨rfl, hz⟩
    · clear O1
      go_wp2_with fail
      refine (T3.out _).mono ?_; rintro e w9 ⟨rfl, hb9⟩
      clear x0_a x1_a y0_a y1_a x0_b x1_b y0_b y1_b x0_z x1_z y0_z y1_z x0_x x1_x y0_x y1_x x0_c x1_c y0_c y1_c
      have z9 := hb9.size; (try simp at z9)
      replace t_a := Two.later hb9 (Two.later (bal (Below.refl _ _) _) t_a)
      replace t_b := Two.later hb9 (Two.later (bal (Below.refl _ _) _) t_b)
      replace t_c := Two.later hb9 (Two.later (bal (Below.refl _ _) _) t_c)
      replace t_x := Two.later hb9 (Two.later (bal (Below.refl _ _) _) t_x)
      replace t_y := Two.later hb9 (Two.later (bal (Below.refl _ _) _) t_y)
      replace t_z := Two.later hb9 (Two.later (bal (Below.refl _ _) _) t_z)
      replace t_v := Two.later hb9 (Two.later (bal (Below.refl _ _) _) t_v)
      have t_k : Two w9 (w8.heap.size) (.int .i64 ap) (.int .i64 aq) := Two.later hb9 (by simp [Two, go_sem])
      have x0_a : ∀ o0, (w9.alloc o0).cell? ⟨w2.heap.size, 0, none⟩ = some (.int .i64 ap) := fun o0 => (Two.later (bal (Below.refl _ _) o0) t_a).1
      have x1_a : ∀ o0, (w9.alloc o0).cell? ⟨w2.heap.size, 1, none⟩ = some (.int .i64 aq) := fun o0 => (Two.later (bal (Below.refl _ _) o0) t_a).2.1
      have y0_a : ∀ o0, (w9.alloc o0).frozen? ⟨w2.heap.size, 0, none⟩ = false := fun o0 => (Two.later (bal (Below.refl _ _) o0) t_a).2.2.1
      have y1_a : ∀ o0, (w9.alloc o0).frozen? ⟨w2.heap.size, 1, none⟩ = false := fun o0 => (Two.later (bal (Below.refl _ _) o0) t_a).2.2.2
      have x0_c : ∀ o0, (w9.alloc o0).cell? ⟨w3.heap.size, 0, none⟩ = some (.int .i64 cp) := fun o0 => (Two.later (bal (Below.refl _ _) o0) t_c).1
      have x1_c : ∀ o0, (w9.alloc o0).cell? ⟨w3.heap.size, 1, none⟩ = some (.int .i64 cq) := fun o0 => (Two.later (bal (Below.refl _ _) o0) t_c).2.1
      have y0_c : ∀ o0, (w9.alloc o0).frozen? ⟨w3.heap.size, 0, none⟩ = false := fun o0 => (Two.later (bal (Below.refl _ _) o0) t_c).2.2.1
      have y1_c : ∀ o0, (w9.alloc o0).frozen? ⟨w3.heap.size, 1, none⟩ = false := fun o0 => (Two.later (bal (Below.refl _ _) o0) t_c).2.2.2
      go_wp2_with fail
      refine (T4.out _).mono ?_; rintro e w10 ⟨rfl, hb10⟩
      clear x0_a x1_a y0_a y1_a x0_c x1_c y0_c y1_c
      have z10 := hb10.size; (try simp at z10)
      replace t_a := Two.later hb10 (Two.later (bal (Below.refl _ _) _) t_a)
      replace t_b := Two.later hb10 (Two.later (bal (Below.refl _ _) _) t_b)
      replace t_c := Two.later hb10 (Two.later (bal (Below.refl _ _) _) t_c)
      replace t_x := Two.later hb10 (Two.later (bal (Below.refl _ _) _) t_x)
      replace t_y := Two.later hb10 (Two.later (bal (Below.refl _ _) _) t_y)
      replace t_z := Two.later hb10 (Two.later (bal (Below.refl _ _) _) t_z)
      replace t_v := Two.later hb10 (Two.later (bal (Below.refl _ _) _) t_v)
      replace t_k := Two.later hb10 (Two.later (bal (Below.refl _ _) _) t_k)
      have t_l : Two w10 (w9.heap.size) (.int .i64 lp) (.int .i64 lq) := Two.later hb10 (by simp [Two, go_sem])
      have x0_b : ∀ o0, (w10.alloc o0).cell? ⟨w2.heap.size + 1, 0, none⟩ = some (.int .i64 bp) := fun o0 => (Two.later (bal (Below.refl _ _) o0) t_b).1
      have x1_b : ∀ o0, (w10.alloc o0).cell? ⟨w2.heap.size + 1, 1, none⟩ = some (.int .i64 bq) := fun o0 => (Two.later (bal (Below.refl _ _) o0) t_b).2.1
      have y0_b : ∀ o0, (w10.alloc o0).frozen? ⟨w2.heap.size + 1, 0, none⟩ = false := fun o0 => (Two.later (bal (Below.refl _ _) o0) t_b).2.2.1
      have y1_b : ∀ o0, (w10.alloc o0).frozen? ⟨w2.heap.size + 1, 1, none⟩ = false := fun o0 => (Two.later (bal (Below.refl _ _) o0) t_b).2.2.2
      have x0_c : ∀ o0, (w10.alloc o0).cell? ⟨w3.heap.size, 0, none⟩ = some (.int .i64 cp) := fun o0 => (Two.later (bal (Below.refl _ _) o0) t_c).1
      have x1_c : ∀ o0, (w10.alloc o0).cell? ⟨w3.heap.size, 1, none⟩ = some (.int .i64 cq) := fun o0 => (Two.later (bal (Below.refl _ _) o0) t_c).2.1
      have y0_c : ∀ o0, (w10.alloc o0).frozen? ⟨w3.heap.size, 0, none⟩ = false := fun o0 => (Two.later (bal (Below.refl _ _) o0) t_c).2.2.1
      have y1_c : ∀ o0, (w10.alloc o0).frozen? ⟨w3.heap.size, 1, none⟩ = false := fun o0 => (Two.later (bal (Below.refl _ _) o0) t_c).2.2.2
      go_wp2_with fail
      refine (T5.out _).mono ?_; rintro e w11 ⟨rfl, hb11⟩
      clear x0_b x1_b y0_b y1_b x0_c x1_c y0_c y1_c
      have z11 := hb11.size; (try simp at z11)
      replace t_a := Two.later hb11 (Two.later (bal (Below.refl _ _) _) t_a)
      replace t_b := Two.later hb11 (Two.later (bal (Below.refl _ _) _) t_b)
      replace t_c := Two.later hb11 (Two.later (bal (Below.refl _ _) _) t_c)
      replace t_x := Two.later hb11 (Two.later (bal (Below.refl _ _) _) t_x)
      replace t_y := Two.later hb11 (Two.later (bal (Below.refl _ _) _) t_y)
      replace t_z := Two.later hb11 (Two.later (bal (Below.refl _ _) _) t_z)
      replace t_v := Two.later hb11 (Two.later (bal (Below.refl _ _) _) t_v)
      replace t_k := Two.later hb11 (Two.later (bal (Below.refl _ _) _) t_k)
      replace t_l := Two.later hb11 (Two.later (bal (Below.refl _ _) _) t_l)
      have t_m : Two w11 (w10.heap.size) (.int .i64 mp) (.int .i64 mq) := Two.later hb11 (by simp [Two, go_sem])
      have x0_m : ∀ o0, (w11.alloc o0).cell? ⟨w10.heap.size, 0, none⟩ = some (.int .i64 mp) := fun o0 => (Two.later (bal (Below.refl _ _) o0) t_m).1
      have x1_m : ∀ o0, (w11.alloc o0).cell? ⟨w10.heap.size, 1, none⟩ = some (.int .i64 mq) := fun o0 => (Two.later (bal (Below.refl _ _) o0) t_m).2.1
      have y0_m : ∀ o0, (w11.alloc o0).frozen? ⟨w10.heap.size, 0, none⟩ = false := fun o0 => (Two.later (bal (Below.refl _ _) o0) t_m).2.2.1
      have y1_m : ∀ o0, (w11.alloc o0).frozen? ⟨w10.heap.size, 1, none⟩ = false := fun o0 => (Two.later (bal (Below.refl _ _) o0) t_m).2.2.2
      go_wp2_with fail
      refine (P3.out _).mono ?_; rintro e w12 ⟨rfl, hb12⟩
      clear x0_m x1_m y0_m y1_m
      have z12 := hb12.size; (try simp at z12)
      replace t_a := Two.later hb12 (Two.later (bal (Below.refl _ _) _) t_a)
      replace t_b := Two.later hb12 (Two.later (bal (Below.refl _ _) _) t_b)
      replace t_c := Two.later hb12 (Two.later (bal (Below.refl _ _) _) t_c)
      replace t_x := Two.later hb12 (Two.later (bal (Below.refl _ _) _) t_x)
      replace t_y := Two.later hb12 (Two.later (bal (Below.refl _ _) _) t_y)
      replace t_z := Two.later hb12 (Two.later (bal (Below.refl _ _) _) t_z)
      replace t_v := Two.later hb12 (Two.later (bal (Below.refl _ _) _) t_v)
      replace t_k := Two.later hb12 (Two.later (bal (Below.refl _ _) _) t_k)
      replace t_l := Two.later hb12 (Two.later (bal (Below.refl _ _) _) t_l)
      replace t_m := Two.later hb12 (Two.later (bal (Below.refl _ _) _) t_m)
      have t_n : Two w12 (w11.heap.size) (.int .i64 np) (.int .i64 nq) := Two.later hb12 (by simp [Two, go_sem])
      have x0_l : ∀ o0, (w12.alloc o0).cell? ⟨w9.heap.size, 0, none⟩ = some (.int .i64 lp) := fun o0 => (Two.later (bal (Below.refl _ _) o0) t_l).1
      have x1_l : ∀ o0, (w12.alloc o0).cell? ⟨w9.heap.size, 1, none⟩ = some (.int .i64 lq) := fun o0 => (Two.later (bal (Below.refl _ _) o0) t_l).2.1
      have y0_l : ∀ o0, (w12.alloc o0).frozen? ⟨w9.heap.size, 0, none⟩ = false := fun o0 => (Two.later (bal (Below.refl _ _) o0) t_l).2.2.1
      have y1_l : ∀ o0, (w12.alloc o0).frozen? ⟨w9.heap.size, 1, none⟩ = false := fun o0 => (Two.later (bal (Below.refl _ _) o0) t_l).2.2.2
      rcases hs with hs | rfl | ⟨rfl, rfl⟩ | ⟨rfl, rfl, rfl⟩ | ⟨rfl, rfl, rfl, rfl, rfl, rfl⟩
      · cases hs
      all_goals (
        go_wp2
        go_ret
        exact ⟨rfl, (by repeat (first | exact Below.refl _ _ | (refine bset ?_ (by simp <;> omega) _) | (refine bon ?_ (by assumption)) | refine bdrew ?_ | refine bal ?_ _))⟩)
    · clear O1
      go_wp2_with fail
      refine (T3.out _).mono ?_; rintro e w9 ⟨rfl, hb9⟩
      clear x0_a x1_a y0_a y1_a x0_b x1_b y0_b y1_b x0_z x1_z y0_z y1_z x0_x x1_x y0_x y1_x x0_c x1_c y0_c y1_c
      have z9 := hb9.size; (try simp at z9)
      replace t_a := Two.later hb9 (Two.later (bal (Below.refl _ _) _) t_a)
      replace t_b := Two.later hb9 (Two.later (bal (Below.refl _ _) _) t_b)
      replace t_c := Two.later hb9 (Two.later (bal (Below.refl _ _) _) t_c)
      replace t_x := Two.later hb9 (Two.later (bal (Below.refl _ _) _) t_x)
      replace t_y := Two.later hb9 (Two.later (bal (Below.refl _ _) _) t_y)
      replace t_z := Two.later hb9 (Two.later (bal (Below.refl _ _) _) t_z)
      replace t_v := Two.later hb9 (Two.later (bal (Below.refl _ _) _) t_v)
      have t_k : Two w9 (w8.heap.size) (.int .i64 ap) (.int .i64 aq) := Two.later hb9 (by simp [Two, go_sem])
      have x0_a : ∀ o0, (w9.alloc o0).cell? ⟨w2.heap.size, 0, none⟩ = some (.int .i64 ap) := fun o0 => (Two.later (bal (Below.refl _ _) o0) t_a).1
      have x1_a : ∀ o0, (w9.alloc o0).cell? ⟨w2.heap.size, 1, none⟩ = some (.int .i64 aq) := fun o0 => (Two.later (bal (Below.refl _ _) o0) t_a).2.1
      have y0_a : ∀ o0, (w9.alloc o0).frozen? ⟨w2.heap.size, 0, none⟩ = false := fun o0 => (Two.later (bal (Below.refl _ _) o0) t_a).2.2.1
      have y1_a : ∀ o0, (w9.alloc o0).frozen? ⟨w2.heap.size, 1, none⟩ = false := fun o0 => (Two.later (bal (Below.refl _ _) o0) t_a).2.2.2
      have x0_c : ∀ o0, (w9.alloc o0).cell? ⟨w3.heap.size, 0, none⟩ = some (.int .i64 cp) := fun o0 => (Two.later (bal (Below.refl _ _) o0) t_c).1
      have x1_c : ∀ o0, (w9.alloc o0).cell? ⟨w3.heap.size, 1, none⟩ = some (.int .i64 cq) := fun o0 => (Two.later (bal (Below.refl _ _) o0) t_c).2.1
      have y0_c : ∀ o0, (w9.alloc o0).frozen? ⟨w3.heap.size, 0, none⟩ = false := fun o0 => (Two.later (bal (Below.refl _ _) o0) t_c).2.2.1
      have y1_c : ∀ o0, (w9.alloc o0).frozen? ⟨w3.heap.size, 1, none⟩ = false := fun o0 => (Two.later (bal (Below.refl _ _) o0) t_c).2.2.2
      go_wp2_with fail
      refine (T4.out _).mono ?_; rintro e w10 ⟨rfl, hb10⟩
      clear x0_a x1_a y0_a y1_a x0_c x1_c y0_c y1_c
      have z10 := hb10.size; (try simp at z10)
      replace t_a := Two.later hb10 (Two.later (bal (Below.refl _ _) _) t_a)
      replace t_b := Two.later hb10 (Two.later (bal (Below.refl _ _) _) t_b)
      replace t_c := Two.later hb10 (Two.later (bal (Below.refl _ _) _) t_c)
      replace t_x := Two.later hb10 (Two.later (bal (Below.refl _ _) _) t_x)
      replace t_y := Two.later hb10 (Two.later (bal (Below.refl _ _) _) t_y)
      replace t_z := Two.later hb10 (Two.later (bal (Below.refl _ _) _) t_z)
      replace t_v := Two.later hb10 (Two.later (bal (Below.refl _ _) _) t_v)
      replace t_k := Two.later hb10 (Two.later (bal (Below.refl _ _) _) t_k)
      have t_l : Two w10 (w9.heap.size) (.int .i64 lp) (.int .i64 lq) := Two.later hb10 (by simp [Two, go_sem])
      have x0_b : ∀ o0, (w10.alloc o0).cell? ⟨w2.heap.size + 1, 0, none⟩ = some (.int .i64 bp) := fun o0 => (Two.later (bal (Below.refl _ _) o0) t_b).1
      have x1_b : ∀ o0, (w10.alloc o0).cell? ⟨w2.heap.size + 1, 1, none⟩ = some (.int .i64 bq) := fun o0 => (Two.later (bal (Below.refl _ _) o0) t_b).2.1
      have y0_b : ∀ o0, (w10.alloc o0).frozen? ⟨w2.heap.size + 1, 0, none⟩ = false := fun o0 => (Two.later (bal (Below.refl _ _) o0) t_b).2.2.1
      have y1_b : ∀ o0, (w10.alloc o0).frozen? ⟨w2.heap.size + 1, 1, none⟩ = false := fun o0 => (Two.later (bal (Below.refl _ _) o0) t_b).2.2.2
      have x0_c : ∀ o0, (w10.alloc o0).cell? ⟨w3.heap.size, 0, none⟩ = some (.int .i64 cp) := fun o0 => (Two.later (bal (Below.refl _ _) o0) t_c).1
      have x1_c : ∀ o0, (w10.alloc o0).cell? ⟨w3.heap.size, 1, none⟩ = some (.int .i64 cq) := fun o0 => (Two.later (bal (Below.refl _ _) o0) t_c).2.1
      have y0_c : ∀ o0, (w10.alloc o0).frozen? ⟨w3.heap.size, 0, none⟩ = false := fun o0 => (Two.later (bal (Below.refl _ _) o0) t_c).2.2.1
      have y1_c : ∀ o0, (w10.alloc o0).frozen? ⟨w3.heap.size, 1, none⟩ = false := fun o0 => (Two.later (bal (Below.refl _ _) o0) t_c).2.2.2
      go_wp2_with fail
      refine (T5.out _).mono ?_; rintro e w11 ⟨rfl, hb11⟩
      clear x0_b x1_b y0_b y1_b x0_c x1_c y0_c y1_c
      have z11 := hb11.size; (try simp at z11)
      replace t_a := Two.later hb11 (Two.later (bal (Below.refl _ _) _) t_a)
      replace t_b := Two.later hb11 (Two.later (bal (Below.refl _ _) _) t_b)
      replace t_c := Two.later hb11 (Two.later (bal (Below.refl _ _) _) t_c)
      replace t_x := Two.later hb11 (Two.later (bal (Below.refl _ _) _) t_x)
      replace t_y := Two.later hb11 (Two.later (bal (Below.refl _ _) _) t_y)
      replace t_z := Two.later hb11 (Two.later (bal (Below.refl _ _) _) t_z)
      replace t_v := Two.later hb11 (Two.later (bal (Below.refl _ _) _) t_v)
      replace t_k := Two.later hb11 (Two.later (bal (Below.refl _ _) _) t_k)
      replace t_l := Two.later hb11 (Two.later (bal (Below.refl _ _) _) t_l)
      have t_m : Two w11 (w10.heap.size) (.int .i64 mp) (.int .i64 mq) := Two.later hb11 (by simp [Two, go_sem])
      have x0_m : ∀ o0, (w11.alloc o0).cell? ⟨w10.heap.size, 0, none⟩ = some (.int .i64 mp) := fun o0 => (Two.later (bal (Below.refl _ _) o0) t_m).1
      have x1_m : ∀ o0, (w11.alloc o0).cell? ⟨w10.heap.size, 1, none⟩ = some (.int .i64 mq) := fun o0 => (Two.later (bal (Below.refl _ _) o0) t_m).2.1
      have y0_m : ∀ o0, (w11.alloc o0).frozen? ⟨w10.heap.size, 0, none⟩ = false := fun o0 => (Two.later (bal (Below.refl _ _) o0) t_m).2.2.1
      have y1_m : ∀ o0, (w11.alloc o0).frozen? ⟨w10.heap.size, 1, none⟩ = false := fun o0 => (Two.later (bal (Below.refl _ _) o0) t_m).2.2.2
      go_wp2_with fail
      refine (P3.out _).mono ?_; rintro e w12 ⟨rfl, hb12⟩
      clear x0_m x1_m y0_m y1_m
      have z12 := hb12.size; (try simp at z12)
      replace t_a := Two.later hb12 (Two.later (bal (Below.refl _ _) _) t_a)
      replace t_b := Two.later hb12 (Two.later (bal (Below.refl _ _) _) t_b)
      replace t_c := Two.later hb12 (Two.later (bal (Below.refl _ _) _) t_c)
      replace t_x := Two.later hb12 (Two.later (bal (Below.refl _ _) _) t_x)
      replace t_y := Two.later hb12 (Two.later (bal (Below.refl _ _) _) t_y)
      replace t_z := Two.later hb12 (Two.later (bal (Below.refl _ _) _) t_z)
      replace t_v := Two.later hb12 (Two.later (bal (Below.refl _ _) _) t_v)
      replace t_k := Two.later hb12 (Two.later (bal (Below.refl _ _) _) t_k)
      replace t_l := Two.later hb12 (Two.later (bal (Below.refl _ _) _) t_l)
      replace t_m := Two.later hb12 (Two.later (bal (Below.refl _ _) _) t_m)
      have t_n : Two w12 (w11.heap.size) (.int .i64 np) (.int .i64 nq) := Two.later hb12 (by simp [Two, go_sem])
      have x0_l : ∀ o0, (w12.alloc o0).cell? ⟨w9.heap.size, 0, none⟩ = some (.int .i64 lp) := fun o0 => (Two.later (bal (Below.refl _ _) o0) t_l).1
      have x1_l : ∀ o0, (w12.alloc o0).cell? ⟨w9.heap.size, 1, none⟩ = some (.int .i64 lq) := fun o0 => (Two.later (bal (Below.refl _ _) o0) t_l).2.1
      have y0_l : ∀ o0, (w12.alloc o0).frozen? ⟨w9.heap.size, 0, none⟩ = false := fun o0 => (Two.later (bal (Below.refl _ _) o0) t_l).2.2.1
      have y1_l : ∀ o0, (w12.alloc o0).frozen? ⟨w9.heap.size, 1, none⟩ = false := fun o0 => (Two.later (bal (Below.refl _ _) o0) t_l).2.2.2
      rcases hs with hs | rfl | ⟨rfl, rfl⟩ | ⟨rfl, rfl, rfl⟩ | ⟨rfl, rfl, rfl, rfl, rfl, rfl⟩
      · cases hs
      all_goals (
        go_wp2
        go_ret
        exact ⟨rfl, (by repeat (first | exact Below.refl _ _ | (refine bset ?_ (by simp <;> omega) _) | (refine bon ?_ (by assumption)) | refine bdrew ?_ | refine bal ?_ _))⟩)
    · have O2 := O1 rfl hz; clear O1
      go_wp2_with fail
      refine (O2.out _).mono ?_; rintro e w9 ⟨rfl, hb9⟩
      clear x0_a x1_a y0_a y1_a x0_b x1_b y0_b y1_b x0_z x1_z y0_z y1_z x0_x x1_x y0_x y1_x x0_c x1_c y0_c y1_c
      have z9 := hb9.size; (try simp at z9)
      replace t_a := Two.later hb9 (Two.later (bal (Below.refl _ _) _) t_a)
      replace t_b := Two.later hb9 (Two.later (bal (Below.refl _ _) _) t_b)
      replace t_c := Two.later hb9 (Two.later (bal (Below.refl _ _) _) t_c)
      replace t_x := Two.later hb9 (Two.later (bal (Below.refl _ _) _) t_x)
      replace t_y := Two.later hb9 (Two.later (bal (Below.refl _ _) _) t_y)
      replace t_z := Two.later hb9 (Two.later (bal (Below.refl _ _) _) t_z)
      replace t_v := Two.later hb9 (Two.later (bal (Below.refl _ _) _) t_v)
      have t_k : Two w9 (w8.heap.size) (.int .i64 ap) (.int .i64 aq) := Two.later hb9 (by simp [Two, go_sem])
      have x0_a : ∀ o0, (w9.alloc o0).cell? ⟨w2.heap.size, 0, none⟩ = some (.int .i64 ap) := fun o0 => (Two.later (bal (Below.refl _ _) o0) t_a).1
      have x1_a : ∀ o0, (w9.alloc o0).cell? ⟨w2.heap.size, 1, none⟩ = some (.int .i64 aq) := fun o0 => (Two.later (bal (Below.refl _ _) o0) t_a).2.1
      have y0_a : ∀ o0, (w9.alloc o0).frozen? ⟨w2.heap.size, 0, none⟩ = false := fun o0 => (Two.later (bal (Below.refl _ _) o0) t_a).2.2.1
      have y1_a : ∀ o0, (w9.alloc o0).frozen? ⟨w2.heap.size, 1, none⟩ = false := fun o0 => (Two.later (bal (Below.refl _ _) o0) t_a).2.2.2
      have x0_x : ∀ o0, (w9.alloc o0).cell? ⟨w4.heap.size, 0, none⟩ = some (.int .i64 xp) := fun o0 => (Two.later (bal (Below.refl _ _) o0) t_x).1
      have x1_x : ∀ o0, (w9.alloc o0).cell? ⟨w4.heap.size, 1, none⟩ = some (.int .i64 xq) := fun o0 => (Two.later (bal (Below.refl _ _) o0) t_x).2.1
      have y0_x : ∀ o0, (w9.alloc o0).frozen? ⟨w4.heap.size, 0, none⟩ = false := fun o0 => (Two.later (bal (Below.refl _ _) o0) t_x).2.2.1
      have y1_x : ∀ o0, (w9.alloc o0).frozen? ⟨w4.heap.size, 1, none⟩ = false := fun o0 => (Two.later (bal (Below.refl _ _) o0) t_x).2.2.2
      have x0_c : ∀ o0, (w9.alloc o0).cell? ⟨w3.heap.size, 0, none⟩ = some (.int .i64 cp) := fun o0 => (Two.later (bal (Below.refl _ _) o0) t_c).1
      have x1_c : ∀ o0, (w9.alloc o0).cell? ⟨w3.heap.size, 1, none⟩ = some (.int .i64 cq) := fun o0 => (Two.later (bal (Below.refl _ _) o0) t_c).2.1
      have y0_c : ∀ o0, (w9.alloc o0).frozen? ⟨w3.heap.size, 0, none⟩ = false := fun o0 => (Two.later (bal (Below.refl _ _) o0) t_c).2.2.1
      have y1_c : ∀ o0, (w9.alloc o0).frozen? ⟨w3.heap.size, 1, none⟩ = false := fun o0 => (Two.later (bal (Below.refl _ _) o0) t_c).2.2.2
      go_wp2_with fail
      refine (T3.out _).mono ?_; rintro e w10 ⟨rfl, hb10⟩
      clear x0_a x1_a y0_a y1_a x0_x x1_x y0_x y1_x x0_c x1_c y0_c y1_c
      have z10 := hb10.size; (try simp at z10)
      replace t_a := Two.later hb10 (Two.later (bal (Below.refl _ _) _) t_a)
      replace t_b := Two.later hb10 (Two.later (bal (Below.refl _ _) _) t_b)
      replace t_c := Two.later hb10 (Two.later (bal (Below.refl _ _) _) t_c)
      replace t_x := Two.later hb10 (Two.later (bal (Below.refl _ _) _) t_x)
      replace t_y := Two.later hb10 (Two.later (bal (Below.refl _ _) _) t_y)
      replace t_z := Two.later hb10 (Two.later (bal (Below.refl _ _) _) t_z)
      replace t_v := Two.later hb10 (Two.later (bal (Below.refl _ _) _) t_v)
      replace t_k := Two.later hb10 (Two.later (bal (Below.refl _ _) _) t_k)
      have t_j : Two w10 (w9.heap.size) (.int .i64 ap) (.int .i64 aq) := Two.later hb10 (by simp [Two, go_sem])
      have x0_a : ∀ o0, (w10.alloc o0).cell? ⟨w2.heap.size, 0, none⟩ = some (.int .i64 ap) := fun o0 => (Two.later (bal (Below.refl _ _) o0) t_a).1
      have x1_a : ∀ o0, (w10.alloc o0).cell? ⟨w2.heap.size, 1, none⟩ = some (.int .i64 aq) := fun o0 => (Two.later (bal (Below.refl _ _) o0) t_a).2.1
      have y0_a : ∀ o0, (w10.alloc o0).frozen? ⟨w2.heap.size, 0, none⟩ = false := fun o0 => (Two.later (bal (Below.refl _ _) o0) t_a).2.2.1
      have y1_a : ∀ o0, (w10.alloc o0).frozen? ⟨w2.heap.size, 1, none⟩ = false := fun o0 => (Two.later (bal (Below.refl _ _) o0) t_a).2.2.2
      have x0_c : ∀ o0, (w10.alloc o0).cell? ⟨w3.heap.size, 0, none⟩ = some (.int .i64 cp) := fun o0 => (Two.later (bal (Below.refl _ _) o0) t_c).1
      have x1_c : ∀ o0, (w10.alloc o0).cell? ⟨w3.heap.size, 1, none⟩ = some (.int .i64 cq) := fun o0 => (Two.later (bal (Below.refl _ _) o0) t_c).2.1
      have y0_c : ∀ o0, (w10.alloc o0).frozen? ⟨w3.heap.size, 0, none⟩ = false := fun o0 => (Two.later (bal (Below.refl _ _) o0) t_c).2.2.1
      have y1_c : ∀ o0, (w10.alloc o0).frozen? ⟨w3.heap.size, 1, none⟩ = false := fun o0 => (Two.later (bal (Below.refl _ _) o0) t_c).2.2.2
      go_wp2_with fail
      refine (T4.out _).mono ?_; rintro e w11 ⟨rfl, hb11⟩
      clear x0_a x1_a y0_a y1_a x0_c x1_c y0_c y1_c
      have z11 := hb11.size; (try simp at z11)
      replace t_a := Two.later hb11 (Two.later (bal (Below.refl _ _) _) t_a)
      replace t_b := Two.later hb11 (Two.later (bal (Below.refl _ _) _) t_b)
      replace t_c := Two.later hb11 (Two.later (bal (Below.refl _ _) _) t_c)
      replace t_x := Two.later hb11 (Two.later (bal (Below.refl _ _) _) t_x)
      replace t_y := Two.later hb11 (Two.later (bal (Below.refl _ _) _) t_y)
      replace t_z := Two.later hb11 (Two.later (bal (Below.refl _ _) _) t_z)
      replace t_v := Two.later hb11 (Two.later (bal (Below.refl _ _) _) t_v)
      replace t_k := Two.later hb11 (Two.later (bal (Below.refl _ _) _) t_k)
      replace t_j := Two.later hb11 (Two.later (bal (Below.refl _ _) _) t_j)
      have t_l : Two w11 (w10.heap.size) (.int .i64 lp) (.int .i64 lq) := Two.later hb11 (by simp [Two, go_sem])
      have x0_b : ∀ o0, (w11.alloc o0).cell? ⟨w2.heap.size + 1, 0, none⟩ = some (.int .i64 bp) := fun o0 => (Two.later (bal (Below.refl _ _) o0) t_b).1
      have x1_b : ∀ o0, (w11.alloc o0).cell? ⟨w2.heap.size + 1, 1, none⟩ = some (.int .i64 bq) := fun o0 => (Two.later (bal (Below.refl _ _) o0) t_b).2.1
      have y0_b : ∀ o0, (w11.alloc o0).frozen? ⟨w2.heap.size + 1, 0, none⟩ = false := fun o0 => (Two.later (bal (Below.refl _ _) o0) t_b).2.2.1
      have y1_b : ∀ o0, (w11.alloc o0).frozen? ⟨w2.heap.size + 1, 1, none⟩ = false := fun o0 => (Two.later (bal (Below.refl _ _) o0) t_b).2.2.2
      have x0_c : ∀ o0, (w11.alloc o0).cell? ⟨w3.heap.size, 0, none⟩ = some (.int .i64 cp) := fun o0 => (Two.later (bal (Below.refl _ _) o0) t_c).1
      have x1_c : ∀ o0, (w11.alloc o0).cell? ⟨w3.heap.size, 1, none⟩ = some (.int .i64 cq) := fun o0 => (Two.later (bal (Below.refl _ _) o0) t_c).2.1
      have y0_c : ∀ o0, (w11.alloc o0).frozen? ⟨w3.heap.size, 0, none⟩ = false := fun o0 => (Two.later (bal (Below.refl _ _) o0) t_c).2.2.1
      have y1_c : ∀ o0, (w11.alloc o0).frozen? ⟨w3.heap.size, 1, none⟩ = false := fun o0 => (Two.later (bal (Below.refl _ _) o0) t_c).2.2.2
      go_wp2_with fail
      refine (T5.out _).mono ?_; rintro e w12 ⟨rfl, hb12⟩
      clear x0_b x1_b y0_b y1_b x0_c x1_c y0_c y1_c
      have z12 := hb12.size; (try simp at z12)
      replace t_a := Two.later hb12 (Two.later (bal (Below.refl _ _) _) t_a)
      replace t_b := Two.later hb12 (Two.later (bal (Below.refl _ _) _) t_b)
      replace t_c := Two.later hb12 (Two.later (bal (Below.refl _ _) _) t_c)
      replace t_x := Two.later hb12 (Two.later (bal (Below.refl _ _) _) t_x)
      replace t_y := Two.later hb12 (Two.later (bal (Below.refl _ _) _) t_y)
      replace t_z := Two.later hb12 (Two.later (bal (Below.refl _ _) _) t_z)
      replace t_v := Two.later hb12 (Two.later (bal (Below.refl _ _) _) t_v)
      replace t_k := Two.later hb12 (Two.later (bal (Below.refl _ _) _) t_k)
      replace t_j := Two.later hb12 (Two.later (bal (Below.refl _ _) _) t_j)
      replace t_l := Two.later hb12 (Two.later (bal (Below.refl _ _) _) t_l)
      have t_m : Two w12 (w11.heap.size) (.int .i64 mp) (.int .i64 mq) := Two.later hb12 (by simp [Two, go_sem])
      have x0_m : ∀ o0, (w12.alloc o0).cell? ⟨w11.heap.size, 0, none⟩ = some (.int .i64 mp) := fun o0 => (Two.later (bal (Below.refl _ _) o0) t_m).1
      have x1_m : ∀ o0, (w12.alloc o0).cell? ⟨w11.heap.size, 1, none⟩ = some (.int .i64 mq) := fun o0 => (Two.later (bal (Below.refl _ _) o0) t_m).2.1
      have y0_m : ∀ o0, (w12.alloc o0).frozen? ⟨w11.heap.size, 0, none⟩ = false := fun o0 => (Two.later (bal (Below.refl _ _) o0) t_m).2.2.1
      have y1_m : ∀ o0, (w12.alloc o0).frozen? ⟨w11.heap.size, 1, none⟩ = false := fun o0 => (Two.later (bal (Below.refl _ _) o0) t_m).2.2.2
      go_wp2_with fail
      refine (P3.out _).mono ?_; rintro e w13 ⟨rfl, hb13⟩
      clear x0_m x1_m y0_m y1_m
      have z13 := hb13.size; (try simp at z13)
      replace t_a := Two.later hb13 (Two.later (bal (Below.refl _ _) _) t_a)
      replace t_b := Two.later hb13 (Two.later (bal (Below.refl _ _) _) t_b)
      replace t_c := Two.later hb13 (Two.later (bal (Below.refl _ _) _) t_c)
      replace t_x := Two.later hb13 (Two.later (bal (Below.refl _ _) _) t_x)
      replace t_y := Two.later hb13 (Two.later (bal (Below.refl _ _) _) t_y)
      replace t_z := Two.later hb13 (Two.later (bal (Below.refl _ _) _) t_z)
      replace t_v := Two.later hb13 (Two.later (bal (Below.refl _ _) _) t_v)
      replace t_k := Two.later hb13 (Two.later (bal (Below.refl _ _) _) t_k)
      replace t_j := Two.later hb13 (Two.later (bal (Below.refl _ _) _) t_j)
      replace t_l := Two.later hb13 (Two.later (bal (Below.refl _ _) _) t_l)
      replace t_m := Two.later hb13 (Two.later (bal (Below.refl _ _) _) t_m)
      have t_n : Two w13 (w12.heap.size) (.int .i64 np) (.int .i64 nq) := Two.later hb13 (by simp [Two, go_sem])
      have x0_l : ∀ o0, (w13.alloc o0).cell? ⟨w10.heap.size, 0, none⟩ = some (.int .i64 lp) := fun o0 => (Two.later (bal (Below.refl _ _) o0) t_l).1
      have x1_l : ∀ o0, (w13.alloc o0).cell? ⟨w10.heap.size, 1, none⟩ = some (.int .i64 lq) := fun o0 => (Two.later (bal (Below.refl _ _) o0) t_l).2.1
      have y0_l : ∀ o0, (w13.alloc o0).frozen? ⟨w10.heap.size, 0, none⟩ = false := fun o0 => (Two.later (bal (Below.refl _ _) o0) t_l).2.2.1
      have y1_l : ∀ o0, (w13.alloc o0).frozen? ⟨w10.heap.size, 1, none⟩ = false := fun o0 => (Two.later (bal (Below.refl _ _) o0) t_l).2.2.2
      rcases hs with hs | rfl | ⟨rfl, rfl⟩ | ⟨rfl, rfl, rfl⟩ | ⟨rfl, rfl, rfl, rfl, rfl, rfl⟩
      · cases hs
      all_goals (
        go_wp2
        go_ret
        exact ⟨rfl, (by repeat (first | exact Below.refl _ _ | (refine bset ?_ (by simp <;> omega) _) | (refine bon ?_ (by assumption)) | refine bdrew ?_ | refine bal ?_ _))⟩)

theorem told_isSome {r : Rat} (h : (told r).isSome = true) : told r = some r := by
  rcases told_cases r with k | k
  · rw [k] at h; cases h
  · exact k
theorem told_notSome (r : Rat) : (told r).isSome = false ∨ told r = some r := by
  rcases told_cases r with k | k
  · exact Or.inl (by rw [k]; rfl)
  · exact Or.inr k
theorem plus_comm' (a b : Rat) : plusO (some b) (some a) = plusO (some a) (some b) := by
  show told (b + a) = told (a + b); rw [Rat.add_comm]
theorem times_comm' (a b : Rat) : timesO (some b) (some a) = timesO (some a) (some b) := by
  show told (b * a) = told (a * b); rw [Rat.mul_comm]
theorem fields_law (p q r s t u : Int) (w : World) (hp : fitB p = true) (hq : fitB q = true) (hr : fitB r = true) (hs : fitB s = true) (ht : fitB t = true) (hu : fitB u = true) :
    Calls Try.prog 7 #[.int .i64 p, .int .i64 q, .int .i64 r, .int .i64 s, .int .i64 t, .int .i64 u] w fun e w' => e = .returned (.bool true) ∧ Below w.heap.size w w' := by
  have R1 := fun w => ratsR p q r s w hp hq hr hs
  have M1 := fun w => makeR t u w ht hu
  have f1 := fits_make p q
  have f2 := fits_make r s
  have f3 := fits_make t u
  generalize makeO p q = o1 at *
  generalize makeO r s = o2 at *
  generalize makeO t u = o3 at *
  match o1, o2, o3 with
  | none, _, _ => exact fields_none p q r s t u _ _ _ _ _ _ _ _ w R1 M1 (Or.inl rfl)
  | some _, none, _ => exact fields_none p q r s t u _ _ _ _ _ _ _ _ w R1 M1 (Or.inl rfl)
  | some _, some _, none => exact fields_none p q r s t u _ _ _ _ _ _ _ _ w R1 M1 (Or.inr ⟨rfl, rfl⟩)
  | some a, some b, some c =>
    have P2 := fun w => plusR (some b) (some a) w f2 f1
    rw [plus_comm'] at P2
    have T2 := fun w => timesR (some b) (some a) w f2 f1
    rw [times_comm'] at T2
    have ra := f1 a rfl
    refine fields_core p q r s t u a.num a.den b.num b.den c.num c.den _ _ _ _ _ _ _ _ _ _ _ _ _ _ _ _ _ _ w R1 M1
      (fun w => plusR (some a) (some b) w f1 f2) P2 (fun w => timesR (some a) (some b) w f1 f2) T2 ?_ ?_
      (fun w => timesR (plusO (some a) (some b)) (some c) w (fits_plus _ _) f3) (fun w => timesR (some a) (some c) w f1 f3) (fun w => timesR (some b) (some c) w f2 f3)
      (fun w => plusR (timesO (some a) (some c)) (timesO (some b) (some c)) w (fits_times _ _) (fits_times _ _)) ?_ ?_ ?_
    · intro h w
      have e := minusR (plusO (some a) (some b)) (some b) w (fits_plus _ _) f2
      have k : minusO (plusO (some a) (some b)) (some b) = some a := by
        show minusO (told (a + b)) (some b) = some a
        rw [told_isSome h]
        show told (a + b - b) = some a
        rw [show a + b - b = a by grind, told_some ra]
      rw [k] at e; exact e
    · intro h hz w
      have e := overR (timesO (some a) (some b)) (some b) w (fits_times _ _) f2
      have hb : ¬ b = 0 := by
        intro h0; rw [h0] at hz; exact absurd hz (by decide)
      have k : overO (timesO (some a) (some b)) (some b) = some a := by
        show overO (told (a * b)) (some b) = some a
        rw [told_isSome h]
        show (if b = 0 then none else told (a * b / b)) = some a
        rw [if_neg hb, show a * b / b = a by grind, told_some ra]
      rw [k] at e; exact e
    · cases (plusO (some a) (some b)).isSome
      · exact Or.inl rfl
      · exact Or.inr rfl
    · cases (timesO (some a) (some b)).isSome
      · exact Or.inl rfl
      · cases (b.num != 0)
        · exact Or.inr (Or.inl ⟨rfl, rfl⟩)
        · exact Or.inr (Or.inr ⟨rfl, rfl⟩)
    · rcases told_notSome (a + b) with h1 | h1
      · exact Or.inl h1
      · have e1 : plusO (some a) (some b) = some (a + b) := h1
        rw [e1]
        rcases told_notSome ((a + b) * c) with h2 | h2
        · exact Or.inr (Or.inl h2)
        · have e2 : timesO (some (a + b)) (some c) = some ((a + b) * c) := h2
          rw [e2]
          rcases told_notSome (a * c) with h3 | h3
          · exact Or.inr (Or.inr (Or.inl ⟨rfl, h3⟩))
          · have e3 : timesO (some a) (some c) = some (a * c) := h3
            rw [e3]
            rcases told_notSome (b * c) with h4 | h4
            · exact Or.inr (Or.inr (Or.inr (Or.inl ⟨rfl, rfl, h4⟩)))
            · have e4 : timesO (some b) (some c) = some (b * c) := h4
              rw [e4]
              have e5 : plusO (some (a * c)) (some (b * c)) = some ((a + b) * c) := by
                show told (a * c + b * c) = _
                rw [← Rat.add_mul]; exact h2
              rw [e5]
              exact Or.inr (Or.inr (Or.inr (Or.inr ⟨rfl, rfl, rfl, rfl, rfl, rfl⟩)))
end Go.Proofs.Ytfoohgfdkmgndaa
